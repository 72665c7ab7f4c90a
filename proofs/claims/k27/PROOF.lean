import PyProof.Rows.All
import Wide.All
import OpenK.AllK
import Wide.FinOn
import Lean
import PyProof.EqAt
import PyProof.EqKinds
import PyProof.TupleCall
import PyProof.Rows.EqDataRows
import PyProof.DictList
import PyProof.FactsAll.dict_1
import PyProof.FactsAll.subtypes_4
import KE.KTryMore
import PyProof.WalksEnum
import PyProof.EnumMake
import PyProof.ListStr
import PyProof.TupleOfStr
import PyProof.Dict
import PyProof.ToksMono
import PyProof.StrCalls6
import PyProof.StrWalks
import PyProof.ConsumeWalk
import PyProof.CallStr
import PyProof.MeetsStr
import KE.KIntText
import PyProof.StrCalls2
import PyProof.StrOps2
import KE.KSortTup
import PyProof.WalksMore
import PyProof.TupleIter
import PyProof.SliceList
import PyProof.ListRange
import KE.KRevIter
import PyProof.StrLawsIn
import PyProof.Rows.StrCut
import PyProof.ZipIter
import PyProof.ListNew
import PyProof.StrLaws
import KE.KDictSum
import PyProof.DictTruth
import PyProof.ReprRoads
import KE.KDictOf
import PyProof.AttrMissHeap
import PyProof.AttrMissSeq
import PyProof.DictFindH
import PySem.Challenge.RW_inkloom_k27_whole_foreign_amid_deeds
set_option Elab.async false
set_option linter.all false
set_option maxRecDepth 100000
set_option compiler.extract_closed false
noncomputable section
theorem ap{p:Prop}(h:p:=by lia):p:=h
inductive vK{a':Type}(p:a'->Prop):Prop|i(a:a')(_:p a)
theorem eT:(∃a,p a)->vK p|⟨a1,h⟩=>⟨a1,h⟩
inductive qX2{a' b':Type}(p:a'->b'->Prop):Prop|i(a:a')(b:b')(_:p a b)
theorem XU:(∃a b,p a b)->qX2 p|⟨a1,b1,h⟩=>⟨a1,b1,h⟩
inductive GK{a' b' c':Type}(p:a'->b'->c'->Prop):Prop|i(a:a')(b:b')(c:c')(_:p a b c)
theorem XM:(∃a b c,p a b c)->GK p|⟨a1,b1,c1,h⟩=>⟨a1,b1,c1,h⟩
inductive Pg{a' b' c' d':Type}(p:a'->b'->c'->d'->Prop):Prop|i(a:a')(b:b')(c:c')(d:d')(_:p a b c d)
theorem ZO:(∃a b c d,p a b c d)->Pg p|⟨a1,b1,c1,d1,h⟩=>⟨a1,b1,c1,d1,h⟩
inductive qX5{a' b' c' d' e':Type}(p:a'->b'->c'->d'->e'->Prop):Prop|i(a:a')(b:b')(c:c')(d:d')(e:e')(_:p a b c d e)
theorem Yj:(∃a b c d e,p a b c d e)->qX5 p|⟨a1,b1,c1,d1,e1,h⟩=>⟨a1,b1,c1,d1,e1,h⟩
inductive Jb{a' b' c' d' e' f' g':Type}(p:a'->b'->c'->d'->e'->f'->g'->Prop):Prop|i(a:a')(b:b')(c:c')(d:d')(e:e')(f:f')(g:g')(_:p a b c d e f g)
theorem X9:(∃a b c d e f g,p a b c d e f g)->Jb p|⟨a1,b1,c1,d1,e1,f1,g1,h⟩=>⟨a1,b1,c1,d1,e1,f1,g1,h⟩
inductive H_{a' b' c' d' e' f' g' h' i':Type}(p:a'->b'->c'->d'->e'->f'->g'->h'->i'->Prop):Prop|i(a:a')(b:b')(c:c')(d:d')(e:e')(f:f')(g:g')(h:h')(i:i')(_:p a b c d e f g h i)
theorem uJ:(∃a b c d e f g h i,p a b c d e f g h i)->H_ p|⟨a1,b1,c1,d1,e1,f1,g1,h1,i1,h⟩=>⟨a1,b1,c1,d1,e1,f1,g1,h1,i1,h⟩
inductive tD(a b c:Prop):Prop|i(_:a)(_:b)(_:c)
theorem Xb:a/\b/\c->tD a b c|⟨a1,b1,c1⟩=>⟨a1,b1,c1⟩
inductive BJ(a b c d:Prop):Prop|i(_:a)(_:b)(_:c)(_:d)
theorem Xn:a/\b/\c/\d->BJ a b c d|⟨a1,b1,c1,d1⟩=>⟨a1,b1,c1,d1⟩
inductive AB(a b c d e:Prop):Prop|i(_:a)(_:b)(_:c)(_:d)(_:e)
theorem ZE:a/\b/\c/\d/\e->AB a b c d e|⟨a1,b1,c1,d1,e1⟩=>⟨a1,b1,c1,d1,e1⟩
inductive xE(a b c d e f:Prop):Prop|i(_:a)(_:b)(_:c)(_:d)(_:e)(_:f)
theorem Yk:a/\b/\c/\d/\e/\f->xE a b c d e f|⟨a1,b1,c1,d1,e1,f1⟩=>⟨a1,b1,c1,d1,e1,f1⟩
inductive Dz(a b c d e f g:Prop):Prop|i(_:a)(_:b)(_:c)(_:d)(_:e)(_:f)(_:g)
theorem ZV:a/\b/\c/\d/\e/\f/\g->Dz a b c d e f g|⟨a1,b1,c1,d1,e1,f1,g1⟩=>⟨a1,b1,c1,d1,e1,f1,g1⟩
inductive qA8(a b c d e f g h:Prop):Prop|i(_:a)(_:b)(_:c)(_:d)(_:e)(_:f)(_:g)(_:h)
theorem WR:a/\b/\c/\d/\e/\f/\g/\h->qA8 a b c d e f g h|⟨a1,b1,c1,d1,e1,f1,g1,h1⟩=>⟨a1,b1,c1,d1,e1,f1,g1,h1⟩
inductive qA9(a b c d e f g h i:Prop):Prop|i(_:a)(_:b)(_:c)(_:d)(_:e)(_:f)(_:g)(_:h)(_:i)
theorem qa9:a/\b/\c/\d/\e/\f/\g/\h/\i->qA9 a b c d e f g h i|⟨a1,b1,c1,d1,e1,f1,g1,h1,i1⟩=>⟨a1,b1,c1,d1,e1,f1,g1,h1,i1⟩
inductive Gz(a b c d e f g h i j:Prop):Prop|i(_:a)(_:b)(_:c)(_:d)(_:e)(_:f)(_:g)(_:h)(_:i)(_:j)
theorem apC:a/\b/\c/\d/\e/\f/\g/\h/\i/\j->Gz a b c d e f g h i j|⟨a1,b1,c1,d1,e1,f1,g1,h1,i1,j1⟩=>⟨a1,b1,c1,d1,e1,f1,g1,h1,i1,j1⟩
inductive amJ(a b c d e f g h i j k:Prop):Prop|i(_:a)(_:b)(_:c)(_:d)(_:e)(_:f)(_:g)(_:h)(_:i)(_:j)(_:k)
theorem GI:a/\b/\c/\d/\e/\f/\g/\h/\i/\j/\k->amJ a b c d e f g h i j k|⟨a1,b1,c1,d1,e1,f1,g1,h1,i1,j1,k1⟩=>⟨a1,b1,c1,d1,e1,f1,g1,h1,i1,j1,k1⟩
inductive vI{a' b' c' d' e' f':Type}(p:a'->b'->c'->d'->e'->f'->Prop):Prop|i(a:a')(b:b')(c:c')(d:d')(e:e')(f:f')(_:p a b c d e f)
inductive acA{a' b' c' d' e' f' g' h' i' j':Type}(p:a'->b'->c'->d'->e'->f'->g'->h'->i'->j'->Prop):Prop|i(a:a')(b:b')(c:c')(d:d')(e:e')(f:f')(g:g')(h:h')(i:i')(j:j')(_:p a b c d e f g h i j)
namespace Internal
theorem aJ{p:Prop}(h:p:=by simp):p:=h
theorem bc{p:Prop}(h:p:=by decide):p:=h
theorem bd{p:Prop}(h:p:=by simp;lia):p:=h
def GT:=@PySem.wpAny_bind
def Id:=@if_pos
def Ix:=@if_neg
def IN:=@congrArg
def IO:=@PySem.wpAny_pure
def IR:=@PySem.Heap.lt_size
def KB:=@PySem.Paired.length
def KF:=@Ne.symm
def KK:=@PySem.Heap.get?_push_of_some
def KM:=@decide_eq_true_eq
def No:=@Iff.rfl
def NE:=@PySem.wpAny_holding
def On:=@PySem.Heap.get?_push_size
def Op:=@PySem.wpAny_mono
def Os:=@or_false
def Pi:=@PySem.mem_of_lookup
def Ps:=@PySem.Heap.get?_update_other
def PP:=@PySem.wpAny_field
def P3:=@PySem.call_meets
def Re:=@of_decide_eq_true
def Rs:=@PyProof.Rows.callWith_type1
def Sc:=@PySem.wpAny_Call_Name_kw
def SB:=@PySem.Heap.get?_update_self
def SL:=@PySem.F.plainAttrs_list
def ST:=@PySem.wpAny_truthy_bool
def SZ:=@PySem.wpAny_passesOwn
def Tk:=@PySem.Heap.size_push
def Tl:=@if_false
def Tm:=@PySem.Paired.snoc
def TD:=@exists_congr
def Uf:=@PySem.wpAny_specialOf
def UF:=@PySem.wpAny_standAt
def UV:=@PySem.codeAny_mono
def Wp:=@PySem.wpAny_typeOf
def WF:=@PySem.wpAny_newObj_type
def WP:=@PySem.typeIs_str
def XL:=@PySem.tupleKind_room_in1
def XV:=@PySem.SeqAt.canLay_of_shaped
def YC:=@PySem.F.plainAttrs_str
def Y4:=@beq_iff_eq
def ZB:=@PySem.wpAny_seqItems
def Yg:=@PySem.wpAny_updateSeq
def cB:=@PySem.plainId_quiet
def sU:=@PySem.lookup_relabel_local
def AI:=@PySem.wpAny_ite_split
def YZ:=@PySem.F.slot_zip_next
def WU:=@PySem.codeAny_builtin
def YV:=@decide_eq_decide
def x8:=@PySem.Heap.get?_none_of_le
def u1:=@PySem.wpAny_pyIter_list
def v3:=@PySem.Calls.spliced_nil
def u9:=@PySem.Calls.spliced_cons
def xD:=@PySem.wpAny_callSpecial?_slot
def wD:=@PyProof.Rows.subscriptTail_builtinR
def wH:=@PySem.F.slot_list_append
def tX:=@Option.isSome_map
def t6:=@PySem.wpAny_nextOf_list_item
def xN:=@PySem.Around.under_plainId
def x9:=@PySem.F.plain_extend_loop
def Dx:=@PyProof.Rows.slot_tuple_getitem
abbrev DL:=PySem.Addr
abbrev Ev:=PySem.Shared
abbrev EQ:=PySem.Value
abbrev Fa:=PySem.Program
abbrev Fk:=PySem.World
abbrev Fr:=PySem.Stmt
abbrev FS:=PySem.Heap
abbrev Gc:=PySem.Around
abbrev Go:=Bool
abbrev GE:=PySem.FuncData
abbrev GM:=String
section
open PySem PySem.Spec PyProof.Rows
abbrev ac:=List (Option Nat)
abbrev am:=List Nat
abbrev bi:=List Str
abbrev cr:=EQ->Ev->Prop
abbrev cy:=List (DL×Obj)
abbrev db:=List DL
abbrev ga:=List EQ
abbrev ge:=Str->Option EQ
abbrev lc:=Array EQ
abbrev on:=List Expr
abbrev sK:=List (Str×DL)
abbrev tz:=Option Int
abbrev ut:=List (Str×Nat)
abbrev wP:=Option DL
abbrev wS:=List (Str×NameKind)
abbrev xz:=Option Nat
abbrev zO:=List Env
abbrev AC:=List Int
abbrev AT:=Option EQ
abbrev BT:=Unit->Ev->Prop
abbrev Ch:=List (Str×EQ)
end
theorem nT{A:α->Prop}{B:α->Prop}(a:α)(h:A a)(k:B a):∃a,A a/\B a:=⟨a,h,k⟩
theorem nW{A:α->Prop}{B:α->Prop}{C:α->Prop}(a:α)(h:A a)(k:B a)(p:C a):∃a,A a/\B a/\C a:=⟨a,h,k,p⟩
theorem oT{A:α->β->γ->δ->Prop}{B:α->β->γ->δ->Prop}{C:α->β->γ->δ->Prop}{D:α->β->γ->δ->Prop}{E:α->β->γ->δ->Prop}(a:α)(b:β)(c:γ)(d:δ)(h:A a b c d)(k:B a b c d)(p:C a b c d)(q:D a b c d)(r:E a b c d):∃a,∃b,∃c,∃d,A a b c d/\B a b c d/\C a b c d/\D a b c d/\E a b c d:=⟨a,b,c,d,h,k,p,q,r⟩
theorem oW{A:α->β->Prop}{B:α->β->Prop}{C:α->β->Prop}(a:α)(b:β)(h:A a b)(k:B a b)(p:C a b):∃a,∃b,A a b/\B a b/\C a b:=⟨a,b,h,k,p⟩
theorem oZ{A:α->β->Prop}{B:α->β->Prop}{C:α->β->Prop}{D:α->β->Prop}(a:α)(b:β)(h:A a b)(k:B a b)(p:C a b)(q:D a b):∃a,∃b,A a b/\B a b/\C a b/\D a b:=⟨a,b,h,k,p,q⟩
theorem o3{A:α->Prop}(a:α)(h:A a):∃a,A a:=⟨a,h⟩
theorem o4{A:α->β->Prop}{B:α->β->Prop}{C:α->β->Prop}{D:α->β->Prop}{E:α->β->Prop}(a:α)(b:β)(h:A a b)(k:B a b)(p:C a b)(q:D a b)(r:E a b):∃a,∃b,A a b/\B a b/\C a b/\D a b/\E a b:=⟨a,b,h,k,p,q,r⟩
theorem pE{A:α->β->γ->δ->Prop}{B:α->β->γ->δ->Prop}{C:α->β->γ->δ->Prop}{D:α->β->γ->δ->Prop}{E:α->β->γ->δ->Prop}{F:α->β->γ->δ->Prop}(a:α)(b:β)(c:γ)(d:δ)(h:A a b c d)(k:B a b c d)(p:C a b c d)(q:D a b c d)(r:E a b c d)(s:F a b c d):∃a,∃b,∃c,∃d,A a b c d/\B a b c d/\C a b c d/\D a b c d/\E a b c d/\F a b c d:=⟨a,b,c,d,h,k,p,q,r,s⟩
theorem pG{A:α->β->γ->Prop}{B:α->β->γ->Prop}{C:α->β->γ->Prop}{D:α->β->γ->Prop}{E:α->β->γ->Prop}(a:α)(b:β)(c:γ)(h:A a b c)(k:B a b c)(p:C a b c)(q:D a b c)(r:E a b c):∃a,∃b,∃c,A a b c/\B a b c/\C a b c/\D a b c/\E a b c:=⟨a,b,c,h,k,p,q,r⟩
theorem pI{A:α->β->Prop}{B:α->β->Prop}(a:α)(b:β)(h:A a b)(k:B a b):∃a,∃b,A a b/\B a b:=⟨a,b,h,k⟩
theorem pL{A:α->Prop}{B:α->β->γ->δ->ε->ζ->Prop}{C:α->β->γ->δ->ε->ζ->Prop}{D:α->β->γ->δ->ε->ζ->Prop}{E:α->β->γ->δ->ε->ζ->Prop}{F:α->β->γ->δ->ε->ζ->Prop}{G:α->β->γ->δ->ε->ζ->η->Prop}{H:α->β->γ->δ->ε->ζ->η->θ->ι->κ->μ->ν->Prop}{I:α->β->γ->δ->ε->ζ->η->θ->ι->κ->μ->ν->Prop}{J:α->β->γ->δ->ε->ζ->η->θ->ι->κ->μ->ν->Prop}{K:α->β->γ->δ->ε->ζ->η->θ->ι->κ->μ->ν->Prop}{L:α->β->γ->δ->ε->ζ->η->θ->ι->κ->μ->ν->Prop}{M:α->β->γ->δ->ε->ζ->η->θ->ι->κ->μ->ν->Prop}(a:α)(h:A a)(b:β)(c:γ)(d:δ)(e:ε)(f:ζ)(k:B a b c d e f)(p:C a b c d e f)(q:D a b c d e f)(r:E a b c d e f)(s:F a b c d e f)(g:η)(t:G a b c d e f g)(i:θ)(j:ι)(l:κ)(m:μ)(n:ν)(u:H a b c d e f g i j l m n)(v:I a b c d e f g i j l m n)(w:J a b c d e f g i j l m n)(x:K a b c d e f g i j l m n)(y:L a b c d e f g i j l m n)(z:M a b c d e f g i j l m n):∃a,A a/\∃b,∃c,∃d,∃e,∃f,B a b c d e f/\C a b c d e f/\D a b c d e f/\E a b c d e f/\F a b c d e f/\∃g,G a b c d e f g/\∃i,∃j,∃l,∃m,∃n,H a b c d e f g i j l m n/\I a b c d e f g i j l m n/\J a b c d e f g i j l m n/\K a b c d e f g i j l m n/\L a b c d e f g i j l m n/\M a b c d e f g i j l m n:=⟨a,h,b,c,d,e,f,k,p,q,r,s,g,t,i,j,l,m,n,u,v,w,x,y,z⟩
theorem pT{A:α->Prop}{B:α->β->Prop}{C:α->β->Prop}(a:α)(h:A a)(b:β)(k:B a b)(p:C a b):∃a,A a/\∃b,B a b/\C a b:=⟨a,h,b,k,p⟩
theorem pX{A:α->β->Prop}{B:α->β->Prop}{C:α->β->Prop}{D:α->β->γ->δ->Prop}{E:α->β->γ->δ->ε->ζ->Prop}{F:α->β->γ->δ->ε->ζ->Prop}{G:α->β->γ->δ->ε->ζ->Prop}(a:α)(b:β)(h:A a b)(k:B a b)(p:C a b)(c:γ)(d:δ)(q:D a b c d)(e:ε)(f:ζ)(r:E a b c d e f)(s:F a b c d e f)(t:G a b c d e f):∃a,∃b,A a b/\B a b/\C a b/\∃c,∃d,D a b c d/\∃e,∃f,E a b c d e f/\F a b c d e f/\G a b c d e f:=⟨a,b,h,k,p,c,d,q,e,f,r,s,t⟩
theorem p3{A:α->β->γ->δ->ε->Prop}{B:α->β->γ->δ->ε->Prop}{C:α->β->γ->δ->ε->Prop}{D:α->β->γ->δ->ε->Prop}{E:α->β->γ->δ->ε->Prop}{F:α->β->γ->δ->ε->Prop}(a:α)(b:β)(c:γ)(d:δ)(e:ε)(h:A a b c d e)(k:B a b c d e)(p:C a b c d e)(q:D a b c d e)(r:E a b c d e)(s:F a b c d e):∃a,∃b,∃c,∃d,∃e,A a b c d e/\B a b c d e/\C a b c d e/\D a b c d e/\E a b c d e/\F a b c d e:=⟨a,b,c,d,e,h,k,p,q,r,s⟩
theorem p4{A:α->β->γ->δ->Prop}{B:α->β->γ->δ->Prop}{C:α->β->γ->δ->Prop}{D:α->β->γ->δ->Prop}(a:α)(b:β)(c:γ)(d:δ)(h:A a b c d)(k:B a b c d)(p:C a b c d)(q:D a b c d):∃a,∃b,∃c,∃d,A a b c d/\B a b c d/\C a b c d/\D a b c d:=⟨a,b,c,d,h,k,p,q⟩
theorem qB{A:α->Prop}{B:α->β->Prop}{C:α->β->Prop}{D:α->β->Prop}(a:α)(h:A a)(b:β)(k:B a b)(p:C a b)(q:D a b):∃a,A a/\∃b,B a b/\C a b/\D a b:=⟨a,h,b,k,p,q⟩
theorem qC{A:α->β->γ->δ->ε->ζ->η->θ->Prop}(a:α)(b:β)(c:γ)(d:δ)(e:ε)(f:ζ)(g:η)(i:θ)(h:A a b c d e f g i):∃a,∃b,∃c,∃d,∃e,∃f,∃g,∃i,A a b c d e f g i:=⟨a,b,c,d,e,f,g,i,h⟩
theorem qH{B:α->Prop}{C:α->Prop}(h:A)(a:α)(k:B a)(p:C a):A/\∃a,B a/\C a:=⟨h,a,k,p⟩
theorem qU{A:α->Prop}{B:α->Prop}{C:α->Prop}{D:α->Prop}(a:α)(h:A a)(k:B a)(p:C a)(q:D a):∃a,A a/\B a/\C a/\D a:=⟨a,h,k,p,q⟩
theorem q9{A:α->β->γ->Prop}{B:α->β->γ->Prop}{C:α->β->γ->Prop}{D:α->β->γ->Prop}(a:α)(b:β)(c:γ)(h:A a b c)(k:B a b c)(p:C a b c)(q:D a b c):∃a,∃b,∃c,A a b c/\B a b c/\C a b c/\D a b c:=⟨a,b,c,h,k,p,q⟩
theorem rP{A:α->Prop}{B:α->Prop}{C:α->β->Prop}{D:α->β->Prop}(a:α)(h:A a)(k:B a)(b:β)(p:C a b)(q:D a b):∃a,A a/\B a/\∃b,C a b/\D a b:=⟨a,h,k,b,p,q⟩
theorem rR{A:α->β->γ->Prop}{B:α->β->γ->Prop}{C:α->β->γ->Prop}{D:α->β->γ->Prop}{E:α->β->γ->Prop}{F:α->β->γ->Prop}{G:α->β->γ->Prop}(a:α)(b:β)(c:γ)(h:A a b c)(k:B a b c)(p:C a b c)(q:D a b c)(r:E a b c)(s:F a b c)(t:G a b c):∃a,∃b,∃c,A a b c/\B a b c/\C a b c/\D a b c/\E a b c/\F a b c/\G a b c:=⟨a,b,c,h,k,p,q,r,s,t⟩
theorem rS{B:α->β->Prop}{C:α->β->Prop}(h:A)(a:α)(b:β)(k:B a b)(p:C a b):A/\∃a,∃b,B a b/\C a b:=⟨h,a,b,k,p⟩
theorem rZ{A:α->Prop}{B:α->Prop}{C:α->Prop}{D:α->Prop}{E:α->Prop}(a:α)(h:A a)(k:B a)(p:C a)(q:D a)(r:E a):∃a,A a/\B a/\C a/\D a/\E a:=⟨a,h,k,p,q,r⟩
theorem sJ{A:α->β->γ->δ->ε->Prop}{B:α->β->γ->δ->ε->Prop}{C:α->β->γ->δ->ε->Prop}{D:α->β->γ->δ->ε->Prop}{E:α->β->γ->δ->ε->Prop}(a:α)(b:β)(c:γ)(d:δ)(e:ε)(h:A a b c d e)(k:B a b c d e)(p:C a b c d e)(q:D a b c d e)(r:E a b c d e):∃a,∃b,∃c,∃d,∃e,A a b c d e/\B a b c d e/\C a b c d e/\D a b c d e/\E a b c d e:=⟨a,b,c,d,e,h,k,p,q,r⟩
theorem sP{A:α->Prop}{B:α->β->γ->δ->ε->Prop}{C:α->β->γ->δ->ε->Prop}{D:α->β->γ->δ->ε->Prop}{E:α->β->γ->δ->ε->Prop}{F:α->β->γ->δ->ε->Prop}{G:α->β->γ->δ->ε->Prop}(a:α)(h:A a)(b:β)(c:γ)(d:δ)(e:ε)(k:B a b c d e)(p:C a b c d e)(q:D a b c d e)(r:E a b c d e)(s:F a b c d e)(t:G a b c d e):∃a,A a/\∃b,∃c,∃d,∃e,B a b c d e/\C a b c d e/\D a b c d e/\E a b c d e/\F a b c d e/\G a b c d e:=⟨a,h,b,c,d,e,k,p,q,r,s,t⟩
theorem O{b:Sort u}{a:b}:a=a:=rfl
theorem fq{p:Prop}(a:p:=by first|exact .inl O|exact .inr O|assumption)(b:p:=by decide)(c:p:=by rfl)(d:p:=by intro Y;rfl)(e:p:=by kernel_rfl)(f:p:=by decide+kernel)(g:p:=by exact IX):p:=a
def bw:=fq._auto_1
def cu:=fq._auto_2
def dh:=fq._auto_3
def dr:=fq._auto_4
def ee:=fq._auto_5
def fe:=fq._auto_6
def fj:=fq._auto_7
theorem I_:0≤PySem.sizeLine:=by decide
theorem eE:1≤PySem.sizeLine:=by decide
theorem eF:2≤PySem.sizeLine:=by decide
theorem CM:3≤PySem.sizeLine:=by decide
theorem adV:6≤PySem.sizeLine:=by decide
open PySem.W (Frag callWith_K cellsFrom_some emptyDict exmOne handedIn hasDictIn hideAll hideAll_get instObj kia_one kitOne kitx_dict kitx_list lookIn makesIn methodObj mroIn nsIn of_hideAll plainGet plainGet_of plainOver specialIn takerIn takesIn)
theorem Z2[Decidable p](h:p):decide p=true:=by lia
theorem VH[Decidable p](h: ¬p):decide p=false:=by lia
theorem W0{c:Type}{a b:List c}:(a++b).length=a.length+b.length:=by simp
theorem VL(n:Nat):n≤n:=Nat.le_refl n
theorem Ww(n:Nat):0≤n:=Nat.zero_le n
def xW:=@List.mem_cons
def XN:=@List.length_map
def Yd:=@List.mem_singleton
def X0:=@List.mem_append
def Y3:=@List.append_nil
def ZW:=@List.getElem?_map
def VD:=@List.append_assoc
def Wq:=@List.getElem?_eq_some_iff
def Z3:=@List.map_append
def Yc:=@List.mem_map
def Xm:=@List.size_toArray
def Wv:=@List.mem_of_getElem?
def Zu:=@Bool.and_eq_true
def d_:=@List.length_cons
def Zz:=@List.not_mem_nil
def WV:=@Option.some.inj
def ZH:=@Nat.ne_of_lt
def Za:=@List.mem_append_right
def YY:=@Nat.lt_of_lt_of_le
def Wu:=@List.mem_append_left
def yl:=@List.mem_cons_of_mem
def Y1:=@List.mem_cons_self
def Xd:=@List.getElem?_eq_getElem
def Ye:=@List.length_take
def XG:=@List.getElem?_append_left
def wO:=@Nat.le_trans
def AP:=@List.map_cons
def ZK:=@List.mem_filter
def X8:=@Bool.false_ne_true
def Y8:=@List.nodup_cons
def Z0:=@List.length_drop
def VE:=@List.getElem?_set_ne
def XB:=@List.take_of_length_le
def XD:=@Nat.lt_irrefl
def WK:=@List.getD_eq_getElem?_getD
def ZF:=@List.mem_map_of_mem
def CR:=@List.reverse_cons
def Ya:=@Nat.ne_of_gt
def Wo:=@List.length_eq_zero_iff
def Zv:=@List.take_append_drop
def Xo:=@List.getElem?_cons_succ
def WM:=@List.mem_iff_getElem?
def gS:=@List.length_set
def Wt:=@List.getElem?_append_right
def ZP:=@Bool.false_xor
def WC:=@List.reverse_append
def m3:=@Int.toNat_natCast
def ZS:=@List.length_singleton
def VO:=@List.length_nil
def ZX:=@Option.map_eq_some_iff
def WI:=@Bool.true_xor
def YG:=@List.getElem?_set
def Yt:=@List.mem_range
def WQ:=@List.nodup_nil
def Wg:=@Nat.sub_self
def Yb:=@List.length_reverse
def nA:=@List.find?_cons
def XE:=@List.map_map
def X4:=@List.reverse_reverse
def Wx:=@List.mem_reverse
def hY:=@List.cons_append
def jK:=@Bool.false_eq_true
def j9:=@Nat.le_add_right
def ZN:=@Int.le_refl
def YQ:=@List.take_add_one
def YM:=@List.filter_append
def Y0:=@List.nodup_append
def WL:=@List.getElem?_eq_none
def YT:=@List.filter_cons_of_neg
def iX:=@List.filter_cons_of_pos
def VG:=@List.mem_filterMap
def zbt:=@List.map_nil
def Yh:=@List.any_cons
def X3:=@List.nil_append
def WZ:=@Option.map_some
def YW:=@List.lookup_cons
def Wd:=@List.length_range
def Z6:=@List.mem_of_mem_drop
def Nb:=@List.cons.inj
def Z1:=@List.filter_congr
def V_:=@List.map_set
def Zx:=@Nat.le_of_lt
def Xf:=@Nat.lt_trans
def Xg:=@List.take_length
def cV:=@List.drop_eq_getElem_cons
def ZJ:=@Bool.not_eq_true'
def jL:=@List.length_filter_le
def Xh:=@List.drop_left
def Wl:=@Int.natCast_add
def Xv:=@List.filterMap_map
def YO:=@Bool.or_false
def ZD:=@List.all_cons
def YF:=@List.foldl_cons
def Yw:=@List.all_eq_true
def Yo:=@Array.getElem?_eq_getElem
def XW:=@List.drop_zero
def Hd:=@Int.emod_lt_of_pos
def VF:=@Nat.zero_add
def Xi:=@List.map_congr_left
def zbV:=@Bool.eq_iff_iff
def VN:=@Nat.le_of_eq
def Yq:=@Nat.lt_succ_self
def Yr:=@Nat.le_succ
def B9:=@List.replicate_succ
def GJ:=@List.flatten_cons
def VP:=@Nat.le_of_succ_le
def Xk:=@Int.emod_nonneg
def Xy:=@List.foldl_append
def y0:=@List.sum_cons
def XT:=@List.take_left
def XC:=@List.take_nil
def lA:=@List.mem_of_mem_take
def XI:=@List.pairwise_append
def Wj:=@List.filter_eq_nil_iff
def W_:=@List.getElem?_range
def Ws:=@List.filter_eq_self
def zX:=@List.filterMap_cons
def G2:=@Array.length_toList
def tA:=@List.lookup_append
def ER:=@Nat.lt_succ_of_lt
def vn:=@List.drop_length
def sV:=@List.drop_of_length_le
def x4:=@List.eq_nil_of_length_eq_zero
def Xw:=@List.ext_getElem?
def YL:=@List.range_succ
def u_:=@List.getElem?_set_self
def zH:=@List.length_dropLast
def Wn:=@Nat.lt_of_le_of_lt
def yA:=@Array.eq_empty_of_size_eq_zero
def zcz:=@List.getLast?_append
def vC:=@List.mem_of_mem_tail
def I0:=@List.filterMap_cons_some
def xV:=@List.dropLast_concat
def zS:=@List.getElem?_zip_eq_some
def y1:=@List.mem_or_eq_of_mem_set
def yH:=@Nat.mul_le_mul_left
def XA:=@Nat.le_add_left
def WY:=@Nat.pos_of_ne_zero
def Zw:=@Nat.le_of_not_lt
def hB:=@Nat.le_succ_of_le
def h_:=@Nat.add_le_add_right
def VI:=@Int.natCast_nonneg
def WT:=@Nat.le_antisymm
def Xe:=@Nat.le_of_lt_succ
def YB:=@Nat.le_add_right_of_le
def X5:=@Nat.succ_le_of_lt
def Y2:=@Nat.lt_of_le_of_ne
def Wr:=@Nat.succ_pos
def WG:=@Nat.lt_of_not_le
def Xr:=@Nat.sub_le
def XH:=@Nat.not_lt_zero
def Zq:=@Nat.not_lt_of_le
def zI:=@Nat.add_comm
def Eo:=@Int.ne_of_gt
def uU:=@Nat.le_add_left_of_le
def CV:=@Int.lt_irrefl
def BU:=@Int.lt_of_lt_of_le
def BV:=@Int.le_of_not_gt
def Er:=@Nat.add_lt_add_right
def Dy:=@Nat.add_le_add
def FB:=@Nat.lt_of_succ_le
open PySem PySem.Spec
section
open PyProof.Rows
abbrev We:=Sum Int Str
abbrev Db:=List We
abbrev wE:=List (We×EQ)
abbrev ww:=List (Db×DL×EQ)
noncomputable def ux:We->EQ->Go
 |.inl k,v=>Value.isInt k v
 |.inr x,v=>Value.isStrOf x v
noncomputable def ahM(w:Fk):We->Int
 |.inl k=>hashInt k
 |.inr x=>hashStr w x
theorem oC:∀{k:We}{v:EQ},ux k v=true->(∃i t,k=Sum.inl i/\v=Value.int i t)\/(∃x t,k=Sum.inr x/\v=Value.str x t)
 |.inl i,v,h=>by
  obtain⟨t,e⟩:=Value.isInt_shape h;exact .inl ⟨i,t,O,e⟩
 |.inr x,v,h=>by
  obtain⟨t,e⟩:=Value.isStrOf_shape h;exact .inr ⟨x,t,O,e⟩
theorem aoR(i:Int)(t:Tok):ux (.inl i) (.int i t)=true:=by simp[ux,Value.isInt]
theorem anY(x:Str)(t:Tok):ux (.inr x) (.str x t)=true:=by simp[ux,Value.isStrOf]
theorem afG(a b:Int):decide ((Sum.inl a:We)=Sum.inl b)=(a==b):=by lia
theorem alL(a b:Str):decide ((Sum.inr a:We)=Sum.inr b)=decide (a=b):=by lia
theorem VJ(a:Int)(b:Str):decide ((Sum.inl a:We)=Sum.inr b)=false:=O
theorem acF(a:Str)(b:Int):decide ((Sum.inr a:We)=Sum.inl b)=false:=O
def c9(p:Fa)(w:Fk):PySem.KeyKind p w We where
 is:=ux
 hash:=ahM w
 inj:=λv a b l f=>by
  rcases oC l with⟨i,t,rfl,rfl⟩|⟨x,t,rfl,rfl⟩
  ·rcases oC f with⟨j,u,rfl,e⟩|⟨y,u,rfl,e⟩
   ·injection e with c _;rw[c]
   ·exact nomatch e
  ·rcases oC f with⟨j,u,rfl,e⟩|⟨y,u,rfl,e⟩
   ·exact nomatch e
   ·injection e with c _;rw[c]
 byValue:=λk v h=>by
  rcases oC h with⟨i,t,rfl,rfl⟩|⟨x,t,rfl,rfl⟩ <;>rfl
 pyHash:=λd h=>by
  rcases oC d with⟨i,t,rfl,rfl⟩|⟨x,t,rfl,rfl⟩
  ·exact wpAny_pyHash_int h
  ·exact wpAny_pyHash_str h
 eqBool:=λg d h=>by
  rcases oC g with⟨i,t,rfl,rfl⟩|⟨x,t,rfl,rfl⟩
  ·rcases oC d with⟨j,u,rfl,rfl⟩|⟨y,u,rfl,rfl⟩
   ·rw[afG] at h;exact wpAny_eqBool_int h
   ·rw[VJ] at h;exact SeqAt.EqAt.int_str i t y u _ _ _ _ h
  ·rcases oC d with⟨j,u,rfl,rfl⟩|⟨y,u,rfl,rfl⟩
   ·rw[acF] at h;exact SeqAt.EqAt.str_int x t j u _ _ _ _ h
   ·rw[alL] at h;exact wpAny_eqBool_str h
 «strs»:=λk x t v h=>by
  rcases oC h with⟨i,u,rfl,e⟩|⟨y,u,rfl,e⟩
  ·exact nomatch e
  ·injection e with c _
   subst c;cases v<;>rfl
theorem apN(p:Fa)(w:Fk)(i:Int)(t:Tok):(c9 p w).is (.inl i) (.int i t)=true:=aoR i t
theorem zj(p:Fa)(w:Fk)(x:Str)(t:Tok):(c9 p w).is (.inr x) (.str x t)=true:=anY x t
inductive V where
 |a|b (b:Go)|i (i:Int)|s (x:Str)|h (b:Array UInt8)|qd (b:UInt64)|r (a:DL)|t (n:GM)
 deriving DecidableEq
abbrev Cl:=List (V×V)
abbrev v0:=Option V
abbrev jp:=List (Str×V)
abbrev io:=List (Db×V)
abbrev ii:=List (We×V)
abbrev ci:=List V
def mL:V->EQ->Prop
 |.a,u=>u=Value.none
 |.b b,u=>u=Value.bool b
 |.i i,u=>∃t,u=Value.int i t
 |.s x,u=>∃t,u=Value.str x t
 |.h b,u=>∃t,u=Value.bytes b t
 |.qd b,u=>∃t,u=Value.float b t
 |.r a,u=>u=Value.ref a
 |.t n,u=>u=Value.type n
abbrev ZT:ci->ga->Prop:=Paired mL
theorem ZT.length{u:ga}(r:ZT x u):x.length=u.length:=KB r
theorem ZT.get:∀{s:ci}{a:ga}{i:Nat}{x:V},ZT s a->s[i]?=some x->∃u,a[i]?=some u/\mL x u:=by
 intro Y Y i x h;induction h generalizing i with
 |nil=>intro e;simp at e
 |cons r Y b=>
  intro e;cases i with
  |zero=>simp at e;subst e;exact⟨_,O,r⟩
  |succ i=>
   obtain⟨u,d,c⟩:=b (by simpa using e);exact⟨u,by simpa using d,c⟩
theorem ZT.set(r:mL x u):∀{xs:ci}{s:ga}(i:Nat),ZT xs s->ZT (xs.set i x) (s.set i u)
 |_,_,_,.nil=>.nil
 |_,_,0,.cons _ t=>.cons r t
 |_,_,i+1,.cons q t=>.cons q (ZT.set r i t)
theorem ZT.append:∀{x y:ci}{u w:ga},ZT x u->ZT y w->ZT (x++y) (u++w):=by
 intro Y Y Y Y h s;induction h with
 |nil=>exact s
 |cons r Y i=>exact .cons r i
theorem ZT.take:∀{x:ci}{u:ga}(n:Nat),ZT x u->ZT (x.take n) (u.take n)
 |_,_,0,_=>.nil
 |_,_,_+1,.nil=>.nil
 |_,_,n+1,.cons r t=>.cons r (ZT.take n t)
theorem ZT.drop:∀{x:ci}{u:ga}(n:Nat),ZT x u->ZT (x.drop n) (u.drop n)
 |_,_,0,r=>r
 |_,_,_+1,.nil=>.nil
 |_,_,n+1,.cons _ t=>ZT.drop n t
def iE:v0->AT->Prop
 |some v,some u=>mL v u
 |none,none=>True
 |_,_=>False
def KV{a:Type}:List (a×V)->List (a×EQ)->Prop:=Paired fun(p:a×V)(q:a×EQ)=>p.1=q.1/\mL p.2 q.2
noncomputable def kV:We->V
 |.inl i=>.i i
 |.inr x=>.s x
inductive HO where
 |l (a:ci)
 |t (a:ci)
 |d (N:ii)|T (N:io)
 |s (S:Int->Go)(n:Nat)
 |i (C r:DL)(b:jp)
 |o (x:DL)
 |xd (b:jp)
 |m (f x:DL)
 |gf (j k:Int)
 |c (o:Obj)(u:HO)
 |M (p:lc)
 |e (g:FS->Prop)
abbrev pi:=DL->HO->Prop
abbrev Hp:=DL->Option HO
abbrev wl:=Go->Hp->Prop
noncomputable def upd(H:Hp)(a:DL)(o:HO):Hp:=λb=>if b=a then some o else H b
theorem aj:upd H a o a=some o:=by unfold upd;rw[Id O]
theorem ay(h:b≠a):upd H a o b=H b:=by unfold upd;rw[Ix h]
theorem zk:upd (upd H a o) a u=upd H a u:=by
 funext b;unfold upd;split<;>rfl
theorem cA{H:Hp}(h:H a=some o)(c:H b=some u)(d:o≠u):a≠b:=by lia
theorem aQ{H:Hp}(h:H a=some o)(c:H b=none):a≠b:=by lia
section
variable(P:Fa)(w:Fk)
def cT(H:Hp)(h:FS)(a:DL):HO->Prop
 |.l b=>b.length<=sizeLine/\∃(j:ga)(n:Nat),ZT b j/\h.get? a=some {cls:=.type "list",data:=.seq j.toArray n}
 |.t b=>b.length<=sizeLine/\∃j:ga,ZT b j/\IsTup h a j.toArray
 |.d N=>N.length<=sizeLine/\(a==sysModules)=false/\∃y,KV N y/\h.DictOf (c9 P w) a y
 |.T N=>N.length<=sizeLine/\(a==sysModules)=false/\∃b:ww,
   Paired (fun(p:Db×V)(q:Db×DL×EQ)=>p.1=q.1/\H q.2.1=some (.t<|p.1.map kV)/\mL p.2 q.2.2) N b/\
   ∃o D I,h.get? a=some o/\o.ExactDict/\o.data=.dict D I/\D.toList=b.map (entryOfKey<|tupleKind<|c9 P w)/\(b.map (·.1)).Nodup
 |.s S n=>h.SetOf (intKind P w) a S n
 |.i C k g=>H k=some (.o a)/\g.length<=1000/\k≠a/\h.get? a=some (instObj C k)/\
   ∃A,h.Ns1 k A/\(∀f,iE (g.lookup f)<|A f)/\PySem.Within A (g.map (·.1))
 |.o _=>∃o,h.get? a=some o
 |.xd g=>∃A,h.Ns1 a A/\∀f,iE (g.lookup f) (A f)
 |.gf F G=>∃t u v,h.get? a=some {cls:=.type "range",data:=.fields #[.int F t,.int G u,.int 1 v]}
 |.c o u=>h.get? a=some o/\cT H h a u
 |.M E=>h.get? a=some {cls:=.none,data:=.fields E}
 |.m f x=>h.get? a=some (methodObj (.ref f)<|.ref x)
 |.e r=>r h/\(∃o,h.get? a=some o)/\∀B z:FS,r B->(∀o,B.get? a=some o->z.get? a=some o)->r z
def cN(H:Hp)(h:FS):Prop:= ∀a o,H a=some o->cT P w H h a o
end
section
variable{P:Fa}{w:Fk}{H j:Hp}{h g:FS}{a:DL}{o:HO}
theorem cT.lt(x:cT P w H h a o):a<h.objs.size:=by
 cases o with
 |l b=>obtain⟨Y,Y,Y,Y,e⟩:=x;exact IR e
 |t b=>obtain⟨Y,Y,Y,p⟩:=x;exact p.lt
 |d N=>obtain⟨Y,Y,Y,Y,o,Y,Y,e,Y⟩:=x;exact IR e
 |T N=>obtain⟨Y,Y,Y,Y,o,Y,Y,e,Y⟩:=x;exact IR e
 |s S n=>obtain⟨o,Y,Y,Y,e,Y⟩:=ZO x;exact IR e
 |i C z g=>obtain⟨Y,Y,Y,e,Y⟩:=ZE x;exact IR e
 |o y=>obtain⟨Y,e⟩:=x;exact IR e
 |xd g=>obtain⟨Y,⟨Y,Y,Y,e,Y⟩,Y⟩:=x;exact IR e
 |gf r v=>obtain⟨Y,Y,Y,e⟩:=x;exact IR e
 |c q u=>obtain⟨e,Y⟩:=x;exact IR e
 |M k=>exact IR (show h.get? a=some _ from x)
 |m f y=>exact IR (show h.get? a=some _ from x)
 |e j=>obtain⟨Y,⟨Y,e⟩,Y⟩:=x;exact IR e
theorem Paired.CO:∀{c:List e}{l:List d},Paired F c l->(∀a b,F a b->G a b)->Paired G c l:=by
 intro Y Y h f;induction h with
 |nil=>exact .nil
 |cons r Y i=>exact .cons (f _ _ r) i
theorem cT.oE(x:cT P w H h a o)(k:∀b u,(b=a\/H b=some (.o a))->h.get? b=some u->g.get? b=some u)(R:∀b,H b=some (.o a)->j b=some (.o a))(Q:∀b E,H b=some (.t E)->j b=some (.t E)):cT P w j g a o:=by
 induction o with
 |l E=>obtain⟨z,I,n,r,e⟩:=x;exact⟨z,I,n,r,k _ _ (.inl O) e⟩
 |t E=>obtain⟨z,I,r,A,e,c⟩:=x;exact⟨z,I,r,A,k _ _ (.inl O) e,c⟩
 |d W=>obtain⟨z,y,K,r,A,B,D,e,c⟩:=x;exact⟨z,y,K,r,A,B,D,k _ _ (.inl O) e,c⟩
 |T W=>
  obtain⟨z,y,E,r,A,B,D,e,c⟩:=x;exact⟨z,y,E,Paired.CO r λp q z=>⟨z.1,Q _ _ z.2.1,z.2.2⟩,A,B,D,k _ _ (.inl O) e,c⟩
 |s S n=>obtain⟨A,B,D,t,e,c⟩:=ZO x;exact⟨A,B,D,t,k _ _ (.inl O) e,c⟩
 |i C dx U=>
  obtain⟨d,z,L,e,G,⟨F,B,D,V,c⟩,r⟩:=x;exact⟨R _ d,z,L,k _ _ (.inl O) e,G,⟨F,B,D,k _ _ (.inr d) V,c⟩,r⟩
 |o y=>obtain⟨A,e⟩:=x;exact⟨A,k _ _ (.inl O) e⟩
 |xd U=>obtain⟨G,⟨F,B,D,e,c⟩,r⟩:=x;exact⟨G,⟨F,B,D,k _ _ (.inl O) e,c⟩,r⟩
 |gf Z hi=>obtain⟨t,u,v,e⟩:=x;exact⟨t,u,v,k _ _ (.inl O) e⟩
 |c A u N=>obtain⟨e,q⟩:=x;exact⟨k _ _ (.inl O) e,N q⟩
 |M Y=>
  have e:=x;exact k a _ (.inl O) e
 |m f y=>
  have e:=x;exact k a _ (.inl O) e
 |e X=>obtain⟨p,⟨o,e⟩,J⟩:=x;exact⟨J _ _ p λo q=>k _ _ (.inl O) q,⟨o,k _ _ (.inl O) e⟩,J⟩
theorem cN.lt(x:cN P w H h)(e:H a=some o):a<h.objs.size:=(x a o e).lt
theorem cN.fresh(x:cN P w H h)(e:h.objs.size<=a):H a=none:=by
 cases q:H a with
 |none=>rfl
 |some u=>exact absurd (YY (x.lt q) e) (XD _)
theorem cN.kept(x:cN P w H h)(k:∀b u,h.get? b=some u->g.get? b=some u):cN P w H g:=λa o e=>
 (x a o e).oE (λb u Y q=>k b u q) (λY q=>q) λY Y q=>q
theorem cN.laid(x:cN P w H h)(k:∀b u,h.get? b=some u->g.get? b=some u)(p:h.objs.size<=a)(n:cT P w (upd H a o) g a o):cN P w (upd H a o) g:=λb u e=>by
 have d:=x.fresh p;by_cases f:b=a;subst f;rw[aj] at e;cases e;exact n;rw[ay f] at e;exact(x b u e).oE (λc v Y q=>k c v q) (λc q=>by rw[ay<|aQ q d];exact q) λc s q=>by rw[ay<|aQ q d];exact q
end
noncomputable def Rd(H:Hp)(a:DL)(u:HO):Prop:=H a=some u\/∃o,H a=some (.c o u)
theorem Rd.ok(r:Rd H a u)(x:cN P w H h):cT P w H h a u:=by
 rcases r with r|⟨o,r⟩
 exact x a u r;obtain⟨Y,q⟩:=x a _ r;exact q
def wq:Option HO->Prop
 |some (.l _)=>True
 |some (.d _)=>True
 |some (.T _)=>True
 |some (.s _ _)=>True
 |some (.i _ _ _)=>True
 |some (.e _)=>True
 |_=>False
section
variable{P:Fa}{w:Fk}{H:Hp}{h a:FS}{x e:DL}{d:HO}
theorem cN.write(A:cN P w H h)(m:wq (H x))(l:e=x\/H e=some (.o x))(k:∀b u,b≠e->h.get? b=some u->a.get? b=some u)(p:∃u,a.get? e=some u)(n:cT P w (upd H x d) a x d):cN P w (upd H x d) a:=λb u q=>by
 have J:∀c y,H c=some (.o y)->c≠x:=λc y r z=>by subst z;rw[r] at m;exact m
 have V:∀c s,H c=some (.t s)->c≠x:=λc s r z=>by subst z;rw[r] at m;exact m
 by_cases g:b=x;subst g;rw[aj] at q;cases q;exact n;rw[ay g] at q;by_cases i:b=e;have j:H b=some (.o x):=by
  rcases l with z|z
  cases g (i.trans z);rw[i];exact z
 rw[q] at j;cases j;obtain⟨v,B⟩:=p;exact⟨v,ap⟩;refine(A b u q).oE (λc v f r=>k c v ?_ r) (λc r=>by rw[ay<|J c b r];exact r) λc s r=>by rw[ay<|V c s r];exact r
 rcases f with rfl|f
 exact i;rintro rfl;rcases l with z|z
 exact J c b f z;rw[f] at z;cases z;exact g O
end
structure Un(fs ex:db)(H H':Hp)(h h':FS):Prop where
 keep:∀b o,h.get? b=some o->H b=none->b∉fs->b∉ex->h'.get? b=some o
 slot:∀b o,h.get? b=some o->H b=none->b∈fs->b∉ex->∃sl,h'.get? b=some {o with slots:=sl}
 free:∀b o,h.get? b=some o->H b=none->b∉ex->H' b=none
 there:∀b o,h.get? b=some o->b∉ex->∃o',h'.get? b=some o'
 bB:∀b xs,H b=some (.t xs)->H' b=some (.t xs)
 jC:∀b o u,H b=some (.c o u)->H' b=some (.c o u)
 j5:∀b ps,H b=some (.M ps)->∃more,H' b=some (.M<|ps++more)
section
variable{d fs' f CQ:db}{H H1 H2:Hp}{h g h2 c:FS}{a x e:DL}{o:HO}
theorem Un.any(u:Un d f H H1 h g){b:DL}{o:Obj}(q:h.get? b=some o)(n:H b=none)(x:b∉f):∃s,g.get? b=some {o with slots:=s}:=by
 by_cases a:b∈d;exact u.slot b o q n a x;exact⟨o.slots,u.keep b o q n a x⟩
theorem Un.kept(k:∀b u,h.get? b=some u->c.get? b=some u):Un d f H H h c:=
 ⟨λb o q Y Y Y=>k b o q,λb o q Y Y Y=>⟨o.slots,k b o q⟩,λY Y Y n Y=>n,λb o q Y=>⟨o,k b o q⟩,λY Y q=>q,λY Y Y q=>q,λY p q=>⟨#[],by rw[q];simp⟩⟩
theorem Un.refl:Un d f H H h h:=Un.kept λY Y q=>q
theorem Un.laid(k:∀b u,h.get? b=some u->c.get? b=some u)(p:h.objs.size<=a)(e:H a=none):Un d f H (upd H a o) h c where
 keep:=λb u q Y Y Y=>k b u q
 slot:=λb u q Y Y Y=>⟨u.slots,k b u q⟩
 free:=λb u q n Y=>by rw[ay<|ZH<|YY (IR q) p];exact n
 there:=λb u q Y=>⟨u,k b u q⟩
 bB:=λb x q=>by rw[ay<|aQ q e];exact q
 jC:=λb u x q=>by rw[ay<|aQ q e];exact q
 j5:=λb s q=>⟨#[],by rw[ay<|aQ q e,q];simp⟩
theorem Un.write(a:wq (H x))(l:e=x\/H e=some (.o x))(k:∀b u,b≠e->h.get? b=some u->c.get? b=some u)(j:∃u,c.get? e=some u):Un d f H (upd H x o) h c:=by
 have g:∀b,H b=none->b≠x:=λb n z=>by subst z;rw[n] at a;exact a
 have i:∀b,H b=none->b≠e:=λb n z=>by
  subst z;rcases l with r|r
  exact g b n r;rw[n] at r;cases r
 have m:∀b u,H b=some u-> ¬wq (some u)->b≠x:=λb u q t z=>by lia
 refine⟨λb u q n Y Y=>k b u (i b n) q,λb u q n Y Y=>⟨u.slots,k b u (i b n) q⟩,λb u q n Y=>by rw[ay (g b n)];exact n,λb u q Y=>?_,
  λb s q=>by rw[ay (m b _ q λz=>z)];exact q,λb u s q=>by rw[ay (m b _ q λz=>z)];exact q,λb p q=>⟨#[],by rw[ay (m b _ q λz=>z),q];simp⟩⟩
 by_cases P:b=e;subst P;exact j;exact⟨u,k b u P q⟩
end
noncomputable def bP(h:FS)(H:Hp):db:=(List.range h.objs.size).filter λa=>(H a).isSome
def oF(h:FS)(H:Hp):FS:=hideAll h (bP h H)
theorem aiA(h:FS)(H:Hp):(oF h H).objs.size=h.objs.size:=PySem.W.hideAll_size _ _
theorem anZ{H:Hp}(e:h.get? b=some o)(n:H b=none):(oF h H).get? b=some o:=
 hideAll_get _ e λm=>by
  have q:=(ZK.mp m).2;rw[n] at q;simp at q
theorem amD{b:DL}(e:(oF h H).get? b=some o):h.get? b=some o/\H b=none:=by
 have a:=of_hideAll (bP h H) e;refine⟨a,?_⟩;cases q:H b with
 |none=>rfl
 |some x=>
  have m:b∈bP h H:=ZK.mpr ⟨Yt.mpr<|IR a,by simp[q]⟩;have z:(oF h H).get? b=none:=PySem.W.hideAll_none (bP h H) m;rw[z] at e;cases e
structure Mod(K:Frag)(mg:ge)(base:FS):Prop where
 wt:K.In base
 glob:base.Ns mainGlobals mg
 blt:∃mb,base.Ns builtinsNs mb/\∀x:Str,x≠"__name__"->mb x=bootBuiltins x
 nolimit:base.NoLimit
structure Cx where
 prog:Fa
 w:Fk
 K:Frag
 mg:Str->AT
 base:FS
 A:Gc
 N:bi
 S:Ev
 H:Hp
 env:Env
 r:zO
 stack:zO
 ex:db
 fn:Str->Go
 calm:Go
 n:cy
 xe:EQ->Ev->Prop
noncomputable def bX(l:zO):db:=l.filterMap (·.frame)
abbrev Cx.fs(X:Cx):db:=bX X.r
def zm(s:Scope)(x:Str):Prop:=s.names.lookup x=some .local\/s.names.lookup x=some .cell\/s.names.lookup x=some .free
def YN(s:Scope)(x:Str):Prop:=s.names.lookup x=some .local\/s.names.lookup x=some .cell
def aqH(e:Env)(h:FS)(m:ge)(x:Str)(u:EQ):Prop:=
 (e.kindOf x=some .local/\m x=some u)\/((e.kindOf x=some .cell\/e.kindOf x=some .free)/\∃c,e.cells.lookup x=some c/\h.IsCell c (some u))
structure Cx.Ok(X:Cx):Prop where
 mod:Mod X.K X.mg X.base
 kind:X.env.scope.kind=.function
 glob:X.env.globals=mainGlobals
 blt:X.env.builtins=builtinsNs
 above:X.S.heap.objs.size<=X.env.locals
 inj:∀x y c,X.env.cells.lookup x=some c->X.env.cells.lookup y=some c->x=y
 has:∀x,(X.env.kindOf x=some .cell\/X.env.kindOf x=some .free)->∃c,X.env.cells.lookup x=some c
 CS:∀x c,X.fn x=true->X.env.cells.lookup x=some c->X.S.heap.objs.size<=c
 hd:X.calm=true->X.A.handled=none
 frames:X.A.frames=some X.stack
 wu:X.stack=X.r\/(X.stack=X.env::X.r/\X.env.frame=some X.env.locals)
 VQ:∀b∈X.ex,b≠X.env.locals/\∀x c,X.env.cells.lookup x=some c->c≠b
 bs:∀b o,X.base.get? b=some o->X.S.heap.get? b=some o/\X.H b=none
 uA:X.base.objs.size<=X.S.heap.objs.size
 CT:∀b o,X.base.get? b=some o->b∉X.ex
 CU:∀b∈X.ex,b∉X.fs
 m4:X.S.heap.FunFrames X.base X.r
 wx:∀b∈X.fs,X.H b=none
structure Ut(X:Cx)(E':cy)(σ:List v0)(H:Hp)(s:Ev):Prop where
 ok:X.Ok
 os:s.os=X.S.os
 E:AllBare s.gens
 base:Un X.fs X.ex X.H H X.S.heap s.heap
 G:∃m,s.heap.Ns X.env.locals m/\∀(i:Nat)(x:Str)(v:V),X.N[i]?=some x->σ[i]?=some (some v)->zm X.env.scope x->∃u,mL v u/\aqH X.env s.heap m x u
 cell:∀x c,X.env.cells.lookup x=some c->∃v,s.heap.IsCell c v
 free:H X.env.locals=none
 oG:∀x c,X.env.cells.lookup x=some c->H c=none
 pin:∀p∈X.n++E',s.heap.get? p.1=some p.2/\H p.1=none/\p.1≠X.env.locals/\p.1∉X.fs/\∀v,p.2.data≠ .cell v
 az:cN X.prog X.w H s.heap
 len:σ.length=X.N.length
section
variable{X:Cx}{f:cy}{g:List v0}{H B:Hp}{s:Ev}{w:FS}
theorem Cx.Ok.VR(k:X.Ok){b:DL}(e:X.base.get? b=some o):b∉X.fs:=λh=>by
 have:=(k.m4.mem h).1;rw[e] at this;cases this
theorem Ut.bs(I:Ut X f g H s):∀b o,X.base.get? b=some o->s.heap.get? b=some o/\H b=none:=λb o e=>
 ⟨I.base.keep b o (I.ok.bs b o e).1 (I.ok.bs b o e).2 (I.ok.VR e)<|I.ok.CT b o e,I.base.free b o (I.ok.bs b o e).1 (I.ok.bs b o e).2<|I.ok.CT b o e⟩
theorem Ut.bk(I:Ut X f g H s):∀b o,X.base.get? b=some o->s.heap.get? b=some o:=λb o e=>(I.bs b o e).1
theorem Ut.mod(I:Ut X f g H s):Mod X.K X.mg X.base:=I.ok.mod
theorem Ut.dY(I:Ut X f g H s):X.K.In s.heap:=I.ok.mod.wt.keeps I.bk
theorem Ut.lt(I:Ut X f g H s):X.env.locals<s.heap.objs.size:=let ⟨_,h,_⟩:=I.G;h.lt
theorem Ut.sz(I:Ut X f g H s):X.S.heap.objs.size<=s.heap.objs.size:=wO I.ok.above (Zx I.lt)
theorem Ut.Jc(I:Ut X f g H s){a:DL}(h:s.heap.objs.size<=a):a∉X.fs:=λc=>by
 obtain⟨Y,o,b,Y⟩:=I.ok.m4.mem c;cases XD _ (YY (IR b)<|wO I.sz h)
theorem Ut.rQ(I:Ut X f g H s):∀x c,X.env.cells.lookup x=some c->c≠X.env.locals:=λx c e z=>by
 obtain⟨v,o,h,d⟩:=I.cell x c e;obtain⟨m,⟨b,i,p,a,r,Y⟩,Y⟩:=I.G;rw[z,a] at h;cases h;rw[r] at d;cases d
theorem Ut.m4(I:Ut X f g H s):s.heap.FunFrames X.base X.r:=by
 have d:∀(l:zO),(∀b∈bX l,b∈X.fs)->X.S.heap.FunFrames X.base l->s.heap.FunFrames X.base l:=by
  intro l;induction l with
  |nil=>intro Y Y;trivial
  |cons v r j=>
   intro i p;obtain⟨q,⟨L,o,h,n,m,t⟩,k⟩:=p;have c:=i L (by unfold bX;rw[zX,h];exact Y1);obtain⟨u,e⟩:=I.base.slot L o m (I.ok.wx L c) c λz=>I.ok.CU L z c;exact⟨q,oZ L _ h n e t,j (λb a=>i b (by unfold bX;rw[zX,h];exact yl _ a)) k⟩
 exact d X.r (λY a=>a) I.ok.m4
theorem Ut.stack(I:Ut X f g H s):s.heap.FunFrames X.base X.stack:=by
 rcases I.ok.wu with e|⟨e,a⟩
 rw[e];exact I.m4;rw[e];obtain⟨m,h,Y⟩:=I.G;refine .cons (by rw[I.ok.kind];decide) a h ?_ I.m4;exact x8<|wO I.ok.uA I.ok.above
theorem Ut.zo(I:Ut X f g H s):∀b∈bX X.stack,b∈X.env.locals::X.fs:=λb h=>by
 rcases I.ok.wu with e|⟨e,a⟩
 rw[e] at h;exact yl _ h;rw[e] at h;unfold bX at h;rw[zX,a] at h;exact h
theorem Ut.zp(I:Ut X f g H s):∀b∈bX X.stack,H b=none:=λb h=>by
 rcases xW.mp (I.zo b h) with e|h
 rw[e];exact I.free;obtain⟨Y,o,a,Y⟩:=I.ok.m4.mem h;exact I.base.free b o a (I.ok.wx b h) λz=>I.ok.CU b z h
theorem Ut.step{ch:db}(I:Ut X f g H s)(Q:∀b∈ch,(b∈X.ex\/X.S.heap.objs.size<=b)/\b≠X.env.locals/\(∀x c,X.env.cells.lookup x=some c->c≠b)/\∀p∈X.n++f,p.1≠b)(j:∀b o,b≠X.env.locals->b∉X.fs->b∉ch->s.heap.get? b=some o->H b=none->w.get? b=some o)(C:∀b o,b≠X.env.locals->b∈X.fs->b∉ch->s.heap.get? b=some o->H b=none->∃U,w.get? b=some {o with slots:=U})(a:∀b o,b∉ch->s.heap.get? b=some o->H b=none->B b=none)(D:∀b o,b∉ch->s.heap.get? b=some o->∃L,w.get? b=some L)(bB:∀b A,H b=some (.t A)->B b=some (.t A))(jC:∀b o u,H b=some (.c o u)->B b=some (.c o u))(j5:∀b T,H b=some (.M T)->∃N,B b=some (.M<|T++N))(ns:∀m,s.heap.Ns X.env.locals m->w.Ns X.env.locals m)(az:cN X.prog X.w B w)(hg:AllBare g'):
  Ut X f g B {s with heap:=w,gens:=g',drawn:=d',toks:=t'}:=by
 have Je:∀b o,X.S.heap.get? b=some o->b≠X.env.locals:=λb o e=>ZH (YY (IR e) I.ok.above);have R:∀b o,X.S.heap.get? b=some o->b∉X.ex->b∉ch:=λb o e h E=>by
  rcases (Q b E).1 with z|z
  exact h z;cases XD _ (YY (IR e) z)
 have K:∀x c,X.env.cells.lookup x=some c->∀v,s.heap.IsCell c v->w.IsCell c v:=λx c e v ⟨o,F,V⟩=>by
  have J:=λz=>(Q c z).2.2.1 x c e O;by_cases hc:c∈X.fs;obtain⟨U,q⟩:=C c o (I.rQ x c e) hc J F (I.oG x c e);exact nT _ q V;exact nT o (j c o (I.rQ x c e) hc J F<|I.oG x c e) V
 refine⟨I.ok,I.os,hg,⟨λb o e n E h=>?_,λb o e n E h=>?_,λb o e n h=>?_,λb o e h=>?_,λb A e=>bB b A<|I.base.bB b A e,λb o A e=>jC b o A<|I.base.jC b o A e,λb T e=>?_⟩,?_,λx c e=>?_,?_,λx c e=>?_,λp Z=>?_,az,I.len⟩;exact j b o (Je b o e) E (R b o e h) (I.base.keep b o e n E h) (I.base.free b o e n h);obtain⟨U,y⟩:=I.base.slot b o e n E h;obtain⟨VS,P⟩:=C b _ (Je b o e) E (R b o e h) y (I.base.free b o e n h);exact o3 VS P;obtain⟨L,y⟩:=I.base.there b o e h;exact a b L (R b o e h) y<|I.base.free b o e n h;obtain⟨L,y⟩:=I.base.there b o e h;exact D b L (R b o e h) y;obtain⟨m1,y⟩:=I.base.j5 b T e;obtain⟨m2,P⟩:=j5 b _ y;exact o3 (m1++m2) (by rw[P,Array.append_assoc]);obtain⟨m,hn,hl⟩:=I.G;refine nT m (ns m hn) (λi x v y P e3=>?_);obtain⟨u,r,l⟩:=hl i x v y P e3;refine nT u r ?_;rcases l with l|⟨k,c,e,z⟩
 exact .inl l;exact .inr (qH k c e (K x c e _ z));obtain⟨v,z⟩:=I.cell x c e;exact o3 v (K x c e v z);obtain⟨m,⟨o,_,_,F,_⟩,_⟩:=I.G;exact a _ o (λz=>(Q _ z).2.1 O) F I.free;obtain⟨v,o,F,V⟩:=I.cell x c e;exact a c o (λz=>(Q c z).2.2.1 x c e O) F<|I.oG x c e;obtain⟨e,n,Y,W,d⟩:=ZE (I.pin p Z);have J:=λz=>(Q p.1 z).2.2.2 p Z O;exact⟨j p.1 p.2 Y W J e n,a p.1 p.2 J e n,Y,W,d⟩
theorem Ut.un(I:Ut X f g H s)(u:Un X.fs [] H B s.heap w)(k:cN X.prog X.w B w):Ut X f g B {s with heap:=w,toks:=t}:=by
 obtain⟨m,⟨o,v,x,a,r⟩,Y⟩:=id I.G;obtain⟨l,L⟩:=u.any a I.free aJ;exact I.step (ch:=[]) (λY z=>nomatch z) (λb o Y h Y e n=>u.keep b o e n h ap) (λb o Y h Y e n=>u.slot b o e n h aJ) (λb o Y e n=>u.free b o e n ap) (λb o Y e=>u.there b o e ap) u.bB u.jC u.j5 (λq i=>by
  obtain⟨p,j,C,c,d⟩:=i;rw[a] at c;cases c;exact⟨_,j,C,L,d⟩) k I.E
theorem Ut.call(I:Ut X f g H s)(u:Un (bX X.stack) j H B s.heap w)(D:cN X.prog X.w B w)(q:AllBare y)(i:∀b∈j,(b∈X.ex\/X.S.heap.objs.size<=b)/\b≠X.env.locals/\(∀x c,X.env.cells.lookup x=some c->c≠b)/\∀p∈X.n++f,p.1≠b):
  Ut X f g B {s with heap:=w,gens:=y,drawn:=A,toks:=t}:=by
 obtain⟨m,⟨o,K,M,a,r⟩,Y⟩:=id I.G;obtain⟨E,L⟩:=u.any a I.free λz=>(i _ z).2.1 O;exact I.step i (λb o L v h e n=>u.keep b o e n (λz=>(xW.mp (I.zo b z)).elim L v) h) (λb o Y Y h e n=>u.any e n h) (λb o h e n=>u.free b o e n h) (λb o h e=>u.there b o e h) u.bB u.jC u.j5 (λJ l=>by
  obtain⟨F,C,V,d,k⟩:=l;rw[a] at d;cases d;exact⟨_,C,V,L,k⟩) D q
theorem Ut.turned{i:DL}(I:Ut X f g H s)(k:∀b o,b≠i->s.heap.get? b=some o->w.get? b=some o)(F:H i=none)(L:i≠X.env.locals)(y:i∈X.ex\/X.S.heap.objs.size<=i)(t:∀x c,X.env.cells.lookup x=some c->c≠i)(l:∀p∈X.n++f,p.1≠i):Ut X f g H {s with heap:=w,toks:=C}:=by
 have J:∀b u,H b=some u->b≠i:=λb u e z=>by lia
 refine I.step (ch:=[i]) (λb j=>?_) (λb o Y Y h e Y=>k b o (λz=>h (by simp[z])) e) (λb o Y Y h e Y=>⟨o.slots,k b o (λz=>h (by simp[z])) e⟩) (λY Y Y Y n=>n)
  (λb o h e=>⟨o,k b o (λz=>h (by simp[z])) e⟩) (λY Y e=>e) (λY Y Y e=>e) (λb D e=>⟨#[],by rw[e];simp⟩) (λm d=>?_) (λb u e=>?_) I.E
 have e:=by simpa using j
 subst e;exact⟨y,L,t,l⟩;obtain⟨o,A,B,a,r⟩:=d;exact⟨o,A,B,k _ o (KF L) a,r⟩;refine(I.az b u e).oE (λc v h q=>k c v ?_ q) (λY q=>q) λY Y q=>q;rcases h with z|z
 rw[z];exact J b u e;exact J c _ z
theorem Ut.tok(I:Ut X f g H s)(t:Nat):Ut X f g H {s with toks:=t}:=I.un Un.refl I.az
theorem Ut.kept(I:Ut X f g H s)(k:∀b u,s.heap.get? b=some u->w.get? b=some u):Ut X f g H {s with heap:=w,toks:=t'}:=I.un (Un.kept k) (I.az.kept k)
theorem Ut.laid{a:DL}(I:Ut X f g H s)(k:∀b u,s.heap.get? b=some u->w.get? b=some u)(h:s.heap.objs.size<=a)(n:cT X.prog X.w (upd H a o) w a o):
  Ut X f g (upd H a o) {s with heap:=w,toks:=t'}:=I.un (Un.laid k h<|I.az.fresh h) (I.az.laid k h n)
theorem Ut.write(I:Ut X f g H s)(m:wq (H x))(h:e=x\/H e=some (.o x))(k:∀b u,b≠e->s.heap.get? b=some u->w.get? b=some u)(z:∃u,w.get? e=some u)(n:cT X.prog X.w (upd H x o) w x o):Ut X f g (upd H x o) {s with heap:=w,toks:=t}:=I.un (Un.write m h k z) (I.az.write m h k z n)
theorem Ut.uB(I:Ut X f g H s)(h:∀p∈pins',s.heap.get? p.1=some p.2/\H p.1=none/\p.1≠X.env.locals/\p.1∉X.fs/\∀v,p.2.data≠ .cell v):Ut X pins' g H s:=
 ⟨I.ok,I.os,I.E,I.base,I.G,I.cell,I.free,I.oG,λp a=>(X0.mp a).elim (λz=>I.pin p<|Wu _ z)<|h p,I.az,I.len⟩
theorem Jg{N:bi}(h:N.Nodup){j:Nat}(a:N[i]?=some x)(b:N[j]?=some x):i=j:=by
 obtain⟨f,c⟩:=Wq.mp a;obtain⟨d,e⟩:=Wq.mp b;exact(List.getElem_inj h).mp<|c.trans e.symm
theorem Jh{A:Gc}{E:cr}{Q:BT}(I:Ut X f g H s)(hN:X.N.Nodup)(P:X.N[i]?=some x)(D:YN X.env.scope x)(r:mL v u)(h:∀Z,Ut X f (g.set i<|some v) H Z->(∃a,Heap.SameBut a s.heap Z.heap/\(a=X.env.locals\/X.env.cells.lookup x=some a))->Q () Z)(hf:autoParam (X.fn x=true\/X.env.scope.names.lookup x=some .local) bw):wpAny M A (storeName X.env x u) Q E s:=by
 obtain⟨m,hn,hl⟩:=id I.G;have VT:(X.env.scope.kind==.class ||(X.env.scope.kind==.module && X.env.locals !=X.env.globals))=false:=I.ok.kind▸O;have Ji:i<g.length:=by rw[I.len];exact(Wq.mp P).1
 have rQ:=I.rQ;have t:∀{a:DL}{w:FS},(∃o,s.heap.get? a=some o/\H a=none)->Heap.SameBut a s.heap w->cN X.prog X.w H w:=λ{a w} ha l b ob e=>by
  obtain⟨_,_,uC⟩:=ha;refine(I.az b ob e).oE (λc R C q=>(l.2 c ?_).trans q) (λ_ q=>q) λ_ _ q=>q;rintro rfl;rcases C with rfl|C
  rw[uC] at e;cases e;rw[uC] at C;cases C
 rcases D with J|J
 refine wpAny_storeName_local J hn (λw VU l=>?_) VT;obtain⟨oL,_,_,VW,_⟩:=id hn;refine h _ ⟨I.ok,I.os,I.E,⟨λb o e n L D=>?_,λb o e n L D=>?_,I.base.free,λb o e D=>?_,I.base.bB,I.base.jC,I.base.j5⟩,nT _ VU (λj y U B F e3=>?_),λy c e=>?_,I.free,I.oG,λp hp=>?_,t (nT oL VW I.free) l,by simpa using I.len⟩ (nT _ l (.inl O));exact(l.2 b<|ZH<|YY (IR e) I.ok.above).trans (I.base.keep b o e n L D);obtain⟨Y,B⟩:=I.base.slot b o e n L D;exact o3 Y ((l.2 b<|ZH<|YY (IR e) I.ok.above).trans B);obtain⟨o',B⟩:=I.base.there b o e D;exact o3 o' ((l.2 b<|ZH<|YY (IR e) I.ok.above).trans B);by_cases K:j=i;subst K;rw[P] at B;cases B;rw[u_ Ji] at F;cases F;exact nT u r (.inl ⟨J,ap⟩);rw[VE<|KF K] at F;obtain⟨W,r',q⟩:=hl j y U B F e3;refine nT W r' ?_;rcases q with⟨k,e⟩|⟨k,c,e,z⟩
 refine .inl ⟨k,?_⟩;have:y≠x:=λe=>K (Jg hN B<|e ▸ P);simp[this,e];exact .inr (qH k c e (z.sameBut l<|rQ y c e));obtain⟨R,z⟩:=I.cell y c e;exact o3 R (z.sameBut l<|rQ y c e);obtain⟨e,n,S,nf,d⟩:=I.pin p hp;exact⟨(l.2 p.1 S).trans e,n,S,nf,d⟩;have CW:X.fn x=true:=by
  rcases hf with z|z
  exact z;rw[z] at J;cases J
 obtain⟨c,C⟩:=I.ok.has x (.inl J);obtain⟨R,z⟩:=I.cell x c C;refine wpAny_storeName_cell I.ok.kind J C z<|λw fS l=>?_;obtain⟨oc,Jj,VX⟩:=id z;refine h {s with heap:=w} ⟨I.ok,I.os,I.E,⟨λb o e n L D=>?_,λb o e n L D=>?_,I.base.free,λb o e D=>?_,I.base.bB,I.base.jC,I.base.j5⟩,nT m (hn.sameBut l<|KF<|rQ x c C) (λj y U B F e3=>?_),λy T e=>?_,I.free,I.oG,λp hp=>?_,t (nT oc Jj (I.oG x c C)) l,by simpa using I.len⟩ (nT c l (.inr C));exact(l.2 b<|ZH<|YY (IR e)<|I.ok.CS x c CW C).trans (I.base.keep b o e n L D);obtain⟨Y,B⟩:=I.base.slot b o e n L D;exact o3 Y ((l.2 b<|ZH<|YY (IR e)<|I.ok.CS x c CW C).trans B);obtain⟨o',B⟩:=I.base.there b o e D;exact o3 o' ((l.2 b<|ZH<|YY (IR e)<|I.ok.CS x c CW C).trans B);by_cases K:j=i;subst K;rw[P] at B;cases B;rw[u_ Ji] at F;cases F;exact nT u r (.inr (qH (.inl J) c C fS));rw[VE<|KF K] at F;obtain⟨W,r',q⟩:=hl j y U B F e3;refine nT W r' ?_;rcases q with q|⟨k,T,e,z'⟩
 exact .inl q;refine .inr (qH k T e (z'.sameBut l ?_));rintro rfl;exact K<|Jg hN B<|I.ok.inj _ _ _ e C ▸ P;by_cases zr:T=c;subst zr;exact o3 _ fS;obtain⟨w2,z2⟩:=I.cell y T e;exact o3 w2 (z2.sameBut l zr);obtain⟨e,n,S,nf,d⟩:=I.pin p hp;refine⟨(l.2 p.1 ?_).trans e,n,S,nf,d⟩;intro q;exact d R ap
theorem Jk{A:Gc}{E:cr}{Q:BT}(I:Ut X f g H s)(e:X.N.Nodup)(c:X.N[i]?=some x)(b:YN X.env.scope x)(r:mL v u)(h:∀a,Ut X f (g.set i<|some v) H a->Q () a)(d:autoParam (X.fn x=true\/X.env.scope.names.lookup x=some .local) bw):wpAny M A (storeName X.env x u) Q E s:=
 Jh I e c b r (λa j Y=>h a j) d
theorem Ut.VY(I:Ut X f g H s)(o:a.os=s.os)(u:Un (bX X.stack) h H B s.heap a.heap)(z:cN X.prog X.w B a.heap)(d:AllBare a.gens)(e:∀b∈h,(b∈X.ex\/X.S.heap.objs.size<=b)/\b≠X.env.locals/\(∀x c,X.env.cells.lookup x=some c->c≠b)/\∀p∈X.n++f,p.1≠b):Ut X f g B a:=by
 obtain⟨w,j,k,t,i⟩:=a;subst o;exact I.call u z d e
end
abbrev XK:=EQ->wP->Hp->Prop
abbrev St:=List v0
abbrev Do:=St->Hp->Prop
abbrev VK:=V->Hp->Prop
abbrev TE:=St->Hp->VK->Prop
abbrev TT:=St->Hp->(wl)->Prop
abbrev TA:=St->Hp->(ci->Hp->Prop)->Prop
structure ET where
 nx:St->Hp->Prop
 r:VK
 bk:St->Hp->Prop:=λ_ _=>False
 c:St->Hp->Prop:=λ_ _=>False
abbrev TS:=ET->St->Hp->Prop
inductive EP(X:Cx)(E:cy)(a:St)(Q:VK)(u:EQ)(s:Ev):Prop|i(v H)(_:Ut X E a H s)(_:mL v u)(_:Q v H)
inductive TP(X:Cx)(E:cy)(a:St)(Q:wl)(b:Go)(s:Ev):Prop|i(H)(_:Ut X E a H s)(_:Q b H)
inductive akG(X:Cx)(E:cy)(a:St)(Q:ci->Hp->Prop)(u:ga)(s:Ev):Prop|i(v H)(_:Ut X E a H s)(_:ZT v u)(_:Q v H)
def SP(X:Cx)(E:cy)(D:ET)(f:Flow)(s:Ev):Prop:=
 match f with
 |.next=>∃a H,Ut X E a H s/\D.nx a H
 |.brk=>∃a H,Ut X E a H s/\D.bk a H
 |.cont=>∃a H,Ut X E a H s/\D.c a H
 |.ret u=>∃v a H,Ut X E a H s/\mL v u/\D.r v H
def PE(X:Cx)(e:Expr)(t:TE):Prop:=
 ∀(E:cy)(s:Ev)(a:St)(H:Hp)(Q:VK),Ut X E a H s->t a H Q->wpAny (model X.prog X.w) X.A (eval e X.env) (EP X E a Q) X.xe s
def PT(X:Cx)(e:Expr)(t:TT):Prop:=
 ∀(E:cy)(s:Ev)(a:St)(H:Hp)(Q:wl),Ut X E a H s->t a H Q->wpAny (model X.prog X.w) X.A (isTrue e X.env<|eval e X.env) (TP X E a Q) X.xe s
def PW(X:Cx)(e:Expr)(t:TT):Prop:=
 ∀(a:Sem EQ)(E:cy)(s:Ev)(b:St)(H:Hp)(Q:wl),Ut X E b H s->t b H Q->wpAny (model X.prog X.w) X.A (isTrue e X.env a) (TP X E b Q) X.xe s
theorem PW.pt(h:PW X e t):PT X e t:=h _
def PA(X:Cx)(e:on)(t:TA):Prop:=
 ∀(p:Pos)(E:cy)(s:Ev)(a:St)(H:Hp)(Q:ci->Hp->Prop),Ut X E a H s->t a H Q->wpAny (model X.prog X.w) X.A (spliced<|backTo p<|starEach e X.env) (akG X E a Q) X.xe s
def PS(X:Cx)(b:Fr)(t:TS):Prop:=
 ∀(E:cy)(s:Ev)(a:St)(H:Hp)(D:ET),Ut X E a H s->t D a H->wpAny (model X.prog X.w) X.A (exec b X.env) (SP X E D) X.xe s
def gF(X:Cx)(b:List Fr)(t:TS):Prop:=
 ∀(E:cy)(s:Ev)(a:St)(H:Hp)(D:ET),Ut X E a H s->t D a H->wpAny (model X.prog X.w) X.A (execs b X.env) (SP X E D) X.xe s
theorem aA{Q b:c->Ev->Prop}{A:Gc}{E:cr}{s:Ev}(h:wpAny M A t Q E s)(d:∀a s,Q a s->b a s):wpAny M A t b E s:=Op h d λY Y x=>x
section
variable{X:Cx}
def CY(i:Nat):TE:=λa H Q=>∃v,a[i]?=some (some v)/\Q v H
def tC(v:V):TE:=λ_ H Q=>Q v H
theorem alR(t:X.N[i]?=some x)(j:zm X.env.scope x)(d:autoParam ((x==("__debug__":Str))=false) cu)(g:autoParam ((x==("__classdict__":Str))=false) cu):PE X (.Name x p) (CY i):=by
 intro E s b H Q I h;obtain⟨v,e,h⟩:=h;obtain⟨m,n,q⟩:=I.G;obtain⟨u,r,l⟩:=q i x v t e j;have f:EP X E b Q u s:=⟨v,H,I,r,h⟩;rcases l with⟨k,o⟩|⟨k,c,a,J⟩
 exact wpAny_Name (wpAny_loadName_local I.ok.kind k n o f) d;rcases k with k|k
 exact wpAny_Name (wpAny_loadName_cell I.ok.kind k a J f) d;exact wpAny_Name (wpAny_loadName_free I.ok.kind k a J f g) d
theorem ahD:PE X (.Constant (.int i) j p) (tC<|.i i):=λY Y Y H Y I h=>wpAny_Constant_int ⟨.i i,H,I.tok _,⟨_,O⟩,h⟩
theorem acW:PE X (.Constant (.bool b) j p) (tC<|.b b):=λY Y Y H Y I h=>Constant_bool ⟨.b b,H,I,O,h⟩
theorem aqO:PE X (.Constant .none j p) (tC .a):=λY Y Y H Y I h=>Constant_none ⟨.a,H,I,O,h⟩
theorem V3:PE X (.Constant (.str x) j p) (tC<|.s x):=λY Y Y H Y I h=>Calls.Constant_str ⟨.s x,H,I.tok _,⟨_,O⟩,h⟩
def Gl(X:Cx)(x:Str):Prop:=X.env.kindOf x=some .globalImplicit
theorem CZ{a:St}{Q:cr}(I:Ut X b a H s)(g:Gl X x)(m:X.mg x=some u)(h:Q u s)(d:autoParam ((x==("__debug__":Str))=false) cu):wpAny (model X.prog X.w) X.A (eval (.Name x p) X.env) Q E s:=
 Calls.Name_function_global I.ok.kind g (Calls.loadGlobal_global (I.ok.glob▸I.mod.glob.keeps I.bk) m h) d
theorem m6{E:cr}{a:St}{u:EQ}{Q:cr}(I:Ut X e a H s)(g:Gl X x)(m:X.mg x=none)(v:bootBuiltins x=some u)(h:Q u s)(n:autoParam (x≠"__name__") cu)(d:autoParam ((x==("__debug__":Str))=false) cu):wpAny (model X.prog X.w) X.A (eval (.Name x p) X.env) Q E s:=by
 obtain⟨f,c,b⟩:=I.mod.blt;exact Calls.Name_function_global I.ok.kind g (Calls.loadGlobal_builtin (I.ok.glob▸I.mod.glob.keeps I.bk) m (I.ok.blt▸c.keeps I.bk) ((b x n).trans v) h) d
theorem Jm(g:Gl X x)(m:X.mg x=some u)(r:mL v u)(d:autoParam ((x==("__debug__":Str))=false) cu):PE X (.Name x p) (tC v):=
 λY Y Y H Y I h=>CZ I g m ⟨v,H,I,r,h⟩ d
theorem V4{u:EQ}(g:Gl X x)(m:X.mg x=none)(a:bootBuiltins x=some u)(r:mL v u)(n:autoParam (x≠"__name__") cu)(d:autoParam ((x==("__debug__":Str))=false) cu):PE X (.Name x p) (tC v):=
 λY Y Y H Y I h=>m6 I g m a ⟨v,H,I,r,h⟩ n d
variable{a b:Expr}{g i:TE}{f:Pos}
def PC(X:Cx)(o:CmpOp)(a b:Expr)(t:TE):Prop:=
 ∀(E:cy)(s:Ev)(d:St)(H:Hp)(Q:VK),Ut X E d H s->t d H Q->
  wpAny (model X.prog X.w) X.A (eval a X.env) (λv W=>wpAny (model X.prog X.w) X.A (eval b X.env) (λu c=>wpAny (model X.prog X.w) X.A (compareOp o v u) (EP X E d Q) X.xe c) X.xe W) X.xe s
def tB(t:TE):TT:=λa H Q=>t a H λx d=>∃c,x=.b c/\Q c d
theorem aoE(h:PC X o a b t)(d:behindInMarks o b=false:=by first|exact Wa _ bc bc|rfl):PE X (.Compare a [o] [b] f) t:=λE s c H Q I w=>wpAny_Compare1 (h E s c H Q I w) d
theorem Jn(h:PC X o a b t)(e:behindInMarks o b=false:=by first|exact Wa _ bc bc|rfl):PT X (.Compare a [o] [b] f) (tB t):=by
 intro E s g H Q I w;refine wpAny_isTrue_Compare1 (aA (h E s g H _ I w) λv p e=>aA e λu n j=>aA j λc m ⟨x,l,k,r,i⟩=>?_) e;obtain⟨d,rfl,q⟩:=i;cases r;exact ST ⟨l,k,q⟩
variable{j l:TT}{k:on}
def Jo(t u:TT):TT:=λa H Q=>t a H λc b=>if c=true then u a b Q else Q false b
def Jp(t u:TT):TT:=λa H Q=>t a H λc b=>if c=true then Q true b else u a b Q
def Jq(t:TT):TT:=λa H Q=>t a H λc b=>Q (!c) b
theorem apQ(ha:PT X a j):PW X (.BoolOp .And [a] f) j:=by
 intro wh E' s σ H Q I h;refine isTrue_and<|aA (ha E' s σ H Q I h) λc s1 e=>?_;cases c with
 |true=>exact isTrue_and_nil e
 |false=>exact e
theorem ahJ(ha:PT X a j):PW X (.BoolOp .Or [a] f) j:=by
 intro wh E' s σ H Q I h;refine isTrue_or<|aA (ha E' s σ H Q I h) λc s1 e=>?_;cases c with
 |false=>exact isTrue_or_nil e
 |true=>exact e
theorem anO(ha:PT X a j)(hb:PW X (.BoolOp .And (b::k) f) l):PW X (.BoolOp .And (a::b::k) f) (Jo j l):=by
 intro wh E' s σ H Q I h;refine isTrue_and<|aA (ha E' s σ H _ I h) λc s1 ⟨H1,I1,q1⟩=>?_;cases c with
 |true=>exact hb wh E' s1 σ H1 Q I1 q1
 |false=>exact⟨H1,I1,q1⟩
theorem aiQ(ha:PT X a j)(hb:PW X (.BoolOp .Or (b::k) f) l):PW X (.BoolOp .Or (a::b::k) f) (Jp j l):=by
 intro wh E' s σ H Q I h;refine isTrue_or<|aA (ha E' s σ H _ I h) λc s1 ⟨H1,I1,q1⟩=>?_;cases c with
 |true=>exact⟨H1,I1,q1⟩
 |false=>exact hb wh E' s1 σ H1 Q I1 q1
theorem Wb(e:PT X a j):PT X (.UnaryOp .Not a f) (Jq j):=by
 intro E s d H Q I h;exact isTrue_not (aA (e E s d H (λc g=>Q (!c) g) I h) λ_ _⟨a,b,c⟩=>⟨a,b,c⟩)
def Jr(g i:TE):TE:=λa H Q=>g a H λx d=>∃c,x=.b c/\if c=true then i a d Q else Q (.b false) d
def Wc(g i:TE):TE:=λa H Q=>g a H λx d=>∃c,x=.b c/\if c=true then Q (.b true) d else i a d Q
theorem aoM(h:PE X a t):PE X (.BoolOp o [a] f) t:=λE s b H Q I w=>BoolOp_one (h E s b H Q I w)
theorem adW(n:PE X a g)(m:PE X (.BoolOp .And (b::k) f) i):PE X (.BoolOp .And (a::b::k) f) (Jr g i):=by
 intro E s d H Q I h;refine BoolOp_and<|aA (n E s d H _ I h) λv l ⟨x,j,e,r,q⟩=>?_;obtain⟨c,rfl,q⟩:=q;cases r;refine ST ?_;cases c with
 |true=>exact m E l d j Q e q
 |false=>exact⟨.b false,j,e,O,q⟩
def Js(t:TT)(g i:TE):TE:=λa H Q=>t a H λc b=>if c=true then g a b Q else i a b Q
theorem Wf(n:PT X c j)(p:PE X a g)(o:PE X b i):PE X (.IfExp c a b f) (Js j g i):=by
 intro E s e H Q I h;refine wpAny_IfExp<|aA (n E s e H _ I h) λd k ⟨m,l,q⟩=>?_;cases d with
 |true=>exact p E k e m Q l q
 |false=>exact o E k e m Q l q
end
def ah(K:Frag)(H:Hp)(a:DL)(x:ci):Prop:=
 Rd H a (.l x)\/
  ∃(o:Obj)(g:lc)(n:Nat),K.lookup a=some o/\o.cls=.type "list"/\o.dict=none/\o.data=.seq g n/\g.size<=sizeLine/\ZT x g.toList
def aB(K:Frag)(H:Hp)(a:DL)(x:ci):Prop:=
 Rd H a (.t x)\/
  ∃(o:Obj)(g:lc)(n:Nat),K.lookup a=some o/\o.cls=.type "tuple"/\o.data=.seq g n/\g.size<=sizeLine/\ZT x g.toList
noncomputable def anF:EQ->v0
 |.none=>some .a
 |.bool b=>some (.b b)
 |.int i _=>some (.i i)
 |.str x _=>some (.s x)
 |.bytes b _=>some (.h b)
 |.float b _=>some (.qd b)
 |.ref a=>some (.r a)
 |.type n=>some (.t n)
 |_=>none
theorem mL.abs(r:mL x u):anF u=some x:=by
 cases x with
 |a=>cases r;rfl
 |b Y=>cases r;rfl
 |i Y=>obtain⟨t,rfl⟩:=r;rfl
 |s Y=>obtain⟨t,rfl⟩:=r;rfl
 |h Y=>obtain⟨t,rfl⟩:=r;rfl
 |qd Y=>obtain⟨t,rfl⟩:=r;rfl
 |r Y=>cases r;rfl
 |t Y=>cases r;rfl
theorem mL.inj{u:EQ}(r:mL x u)(q:mL y u):x=y:=WV (r.abs.symm.trans q.abs)
theorem ZT.inj:∀{x y:ci}{u:ga},ZT x u->ZT y u->x=y:=by
 intro x y u h;induction h generalizing y with
 |nil=>intro k;cases k;rfl
 |cons r Y i=>
  intro k;cases k with
  |cons a t=>rw[r.inj a,i t]
section
variable{X:Cx}{c:cy}{f:St}{H:Hp}{s:Ev}{a:DL}{b g:ci}
theorem ah.of{K:Frag}(h:H a=some (.l b)):ah K H a b:=.inl (.inl h)
theorem aB.of{K:Frag}(h:H a=some (.t b)):aB K H a b:=.inl (.inl h)
theorem Ut.list(I:Ut X c f H s)(h:ah X.K H a b):∃g:ga,ZT b g/\PlainL s.heap a g.toArray/\b.length<=sizeLine:=by
 rcases h with h|⟨o,g,n,k,j,i,d,l,r⟩
 obtain⟨z,g,n,r,e⟩:=h.ok I.az;exact nW g r (oZ _ n e O O O) z;refine nW g.toList r (oZ o n (I.dY a o k) j i (by simpa using d)) ?_;have e:=r.length;simp at e;exact wO (VN e) l
theorem Ut.tuple(I:Ut X c f H s)(h:aB X.K H a b):∃g:ga,ZT b g/\IsTup s.heap a g.toArray/\b.length<=sizeLine:=by
 rcases h with h|⟨o,g,n,k,i,d,j,r⟩
 obtain⟨z,g,r,p⟩:=h.ok I.az;exact nW g r p z;refine nW g.toList r (nW o (I.dY a o k) i ⟨n,by simpa using d⟩) ?_;have e:=r.length;simp at e;exact wO (VN e) j
theorem Ut.C0(I:Ut X c f H s)(h:ah X.K H a b)(l:ah X.K H a g):b=g:=by
 obtain⟨m,r,⟨o,n,e,Y,Y,d⟩,Y⟩:=I.list h;obtain⟨i,k,⟨p,q,j,Y,Y,t⟩,Y⟩:=I.list l;rw[e] at j;cases j;have:m=i:=by lia
 subst this;exact r.inj k
end
section
variable{X:Cx}{j:Fr}{k:List Fr}{t u:TS}{e:Expr}{g:TE}{i:Pos}
def C1:TS:=λD a H=>D.nx a H
def Jt(t u:TS):TS:=λD a H=>t {D with nx:=u D} a H
theorem aeO:gF X [] C1:=λY Y a H Y I h=>wpAny_execs_nil ⟨a,H,I,h⟩
theorem aqC(e:PS X j t)(d:gF X k u):gF X (j::k) (Jt t u):=by
 intro E s b H D I h;refine wpAny_execs_cons<|aA (e E s b H {D with nx:=u D} I h) λf c q=>?_;cases f with
 |next=>
  obtain⟨a,i,g,q⟩:=q;exact d E c a i D g q
 |ret v=>exact q
 |brk=>exact q
 |cont=>exact q
def aoS:TS:=λD a H=>D.bk a H
def Ju:TS:=λD a H=>D.c a H
theorem Wm:PS X (.Continue i) Ju:=λY Y a H Y I h=>wpAny_Continue ⟨a,H,I,h⟩
theorem Ut.quiet{a:St}(I:Ut X E' a H s):interactive X.env=false:=by simp[interactive,I.ok.kind]
def Jv(g:TE):TS:=λD a H=>g a H λ_ b=>D.nx a b
theorem alF(c:PE X e g)(b:autoParam (swapsWith e none i.line X.env=pure false) dh):PS X (.Expr e i) (Jv g):=by
 intro E s a H D I h;exact wpAny_Expr_any (aA (c E s a H _ I h) λv j ⟨x,f,d,r,q⟩=>⟨a,f,d,q⟩) I.quiet b
def Jx(g:TE):TS:=λD a H=>g a H D.r
theorem alQ(b:PE X e g):PS X (.Return (some e) i) (Jx g):=by
 intro E s a H D I h;exact wpAny_Return_some<|aA (b E s a H _ I h) λv f ⟨x,d,c,r,q⟩=>⟨x,a,d,c,r,q⟩
def adX:TS:=λD _ H=>D.r .a H
def Jy(c:TT)(t u:TS):TS:=λD a H=>c a H λb d=>if b=true then t D a d else u D a d
theorem aoP(l:PT X c f)(n:gF X a t)(m:gF X b u):PS X (.If c a b i) (Jy f t u):=by
 intro E s e H D I h;refine wpAny_If<|aA (l E s e H _ I h) λd g ⟨k,j,q⟩=>?_;cases d with
 |true=>exact n E g e k D j q
 |false=>exact m E g e k D j q
def apZ:TS:=λ_ _ _=>False
end
abbrev TG:=V->St->Hp->(Do)->Prop
abbrev m7:=ci->St->Hp->(Do)->Prop
def PG(X:Cx)(a:Expr)(t:TG):Prop:=
 ∀(E:cy)(s:Ev)(c:St)(H:Hp)(v:V)(u:EQ)(Q:Do),Ut X E c H s->mL v u->t v c H Q->
  wpAny (model X.prog X.w) X.A (assign a X.env u) (λ_ e=>∃b d,Ut X E b d e/\Q b d) X.xe s
def uD(X:Cx)(d:on)(t:m7):Prop:=
 ∀(E:cy)(s:Ev)(b:St)(H:Hp)(v:ci)(u:ga)(Q:Do),Ut X E b H s->ZT v u->t v b H Q->
  wpAny (model X.prog X.w) X.A (assignInOrder ((assignEach d X.env).map (·.2)) u) (λ_ e=>∃a c,Ut X E a c e/\Q a c) X.xe s
abbrev C2:=V->V->V->Hp->(Hp->Prop)->Prop
def Jz(X:Cx)(t:C2):Prop:=
 ∀(E:cy)(s:Ev)(a:St)(H:Hp)(o i v:V)(b c u:EQ)(Q:Hp->Prop),Ut X E a H s->mL o b->mL i c->mL v u->t o i v H Q->
  wpAny (model X.prog X.w) X.A (setItem b c u) (λ_ e=>∃d,Ut X E a d e/\Q d) X.xe s
section
variable{X:Cx}{d:Pos}
def gG(i:Nat):TG:=λv a H Q=>Q (a.set i<|some v) H
theorem zu(c:X.N.Nodup)(b:X.N[i]?=some x)(a:YN X.env.scope x)(f:autoParam (X.fn x=true\/X.env.scope.names.lookup x=some .local) bw):PG X (.Name x d) (gG i):=by
 intro E s g H v u Q I r h;exact wpAny_assign_Name<|Jk I c b a r (λj e=>⟨_,H,e,h⟩) f
def C3:m7:=λv a H Q=>v=[]/\Q a H
def zv(t:TG)(u:m7):m7:=λs b H Q=>∃v r,s=v::r/\t v b H λa c=>u r a c Q
theorem JA:uD X [] C3:=by
 intro E s a H v u Q I r h;obtain⟨e,h⟩:=h;subst e;cases r;exact assignInOrder_nil ⟨a,H,I,h⟩
theorem C4(j:PG X e t)(i:uD X a u)(g:autoParam ((assignEach (e::a) X.env).map (·.2)=assign e X.env::(assignEach a X.env).map (·.2)) dh):uD X (e::a) (zv t u):=by
 intro E s c H n p Q I r h;obtain⟨v,o,k,h⟩:=h;subst k;cases r with
 |cons r f=>
  rw[g];exact assignInOrder_cons<|aA (j E s c H _ _ _ I r h) λ_ d ⟨b,m,l,q⟩=>i E d b m _ _ Q l f q
def JB(K:Frag)(n:Nat)(t:m7):TG:=λv b H Q=>∃a x,v=.r a/\aB K H a x/\x.length=n/\t x b H Q
theorem JD(p:X.calm=true)(h:uD X c t)(l:autoParam ((assignEach c X.env).length=n) dh)(B:autoParam ((assignEach c X.env).findIdx? (·.1)=none) dh):PG X (.Tuple c k d) (JB X.K n t):=by
 intro E s f H v u Q I r w;obtain⟨a,x,y,q,m,w⟩:=w;subst y;cases r;obtain⟨C,g,j,z⟩:=I.tuple q;refine assign_Tuple_tuple (I.ok.hd p) j (by simp[l,<-m,g.length]) B λA i=>?_;exact h E _ f H x _ Q (I.kept λb o e=>i b o (ZH<|IR e) e) ap w
def JF(b c:TE)(t:C2):TG:=λv a H Q=>b a H λo f=>c a f λi e=>t o i v e λd=>Q a d
theorem amL(w:PE X o e)(z:PE X i f)(p:Jz X t)(K:autoParam (∀v,assign (.Subscript o i d) X.env v=(do
   let a <-holding [v] (eval o X.env)
   let b <-holding [v,a] (eval i X.env)
   standAt d
   holding [v,a,b] (setItem a b v)
   release [v,a,b] [])) dr):PG X (.Subscript o i d) (JF e f t):=by
 intro E s c H v u Q I r h;exact GT<|NE<|aA (w E s c H _ I h) λa j ⟨x,G,C,l,n⟩=>GT<|NE<|aA (z E j c G _ C n) λb g ⟨y,F,B,k,m⟩=>GT<|UF<|GT<|NE<|aA (p E g c F x y v a b u _ B l k r m) λ_ J ⟨D,A,q⟩=>wpAny_release ⟨c,D,A,q⟩
def m9(t:TE)(g:TG):TS:=λD a H=>t a H λx b=>g x a b D.nx
theorem agL(k:PE X e b)(j:PG X t g)(i:autoParam (swapsWithSole [t] e d.line X.env=pure false) dh)(w:autoParam (swappedStores [t] e X.env=pure none) dh)(l:autoParam ((assignEach [t] X.env).map (·.2)=[assign t X.env]) dh):PS X (.Assign [t] e d) (m9 b g):=by
 intro E s a H D I h;refine wpAny_Assign_stores (aA (k E s a H _ I h) λv c ⟨x,n,m,r,f⟩=>?_) i w;rw[l];exact aA (j E c a n x v _ m r f) λY o q=>q
theorem aeN(k:X.N.Nodup)(f:X.N[i]?=some x)(b:YN X.env.scope x)(j:PE X e t)(c:autoParam (swapsWith e (some<|.Name x p) d.line X.env=pure false) dh)(g:autoParam (X.fn x=true\/X.env.scope.names.lookup x=some .local) bw):
  PS X (.Assign [.Name x p] e d) (m9 t<|gG i):=by
 intro E s a H D I h;exact wpAny_Assign_Name (aA (j E s a H _ I h) λv u ⟨y,n,m,r,q⟩=>Jk m k f b r (λo l=>pI _ n l q) g) c
def JG(c:TT)(t:TS):TS:=λD a H=>∃W:Nat->St->Hp->Prop,(∃m,W m a H)/\∀m a H,W m a H->
 c a H λb f=>if b=true then ∃N:St->Hp->Prop,(∀d g,N d g->∃e,e<m/\W e d g)/\t {D with nx:=N,c:=N,bk:=D.nx} a f else D.nx a f
theorem acY(x:PassesOwn (model X.prog X.w) X.A X.env X.xe)(S:PT X c r)(T:gF X y u):PS X (.While c y [] d) (JG r u):=by
 intro E s J H D I h;obtain⟨W,⟨R,L⟩,t⟩:=h;refine wpAny_While<|codeAny_whileLoop (λn Q=>∃g G,Ut X E g G Q/\W n g G) ?_ R (pI J H I L);rintro n P zq;obtain⟨e,F,U,K⟩:=XU zq;refine SZ x<|aA (S E P e F _ U<|t n e F K) λb M ⟨C,B,j⟩=>?_;cases b with
 |true=>
  obtain⟨N,z,j⟩:=j;refine SZ x<|aA (T E M e C _ B j) λf V q=>?_;cases f with
  |next=>
   obtain⟨a,i,p,l⟩:=q;obtain⟨m,o,k⟩:=z a i l;exact nT m o ⟨a,i,p,k⟩
  |cont=>
   obtain⟨a,i,p,l⟩:=q;obtain⟨m,o,k⟩:=z a i l;exact nT m o ⟨a,i,p,k⟩
  |brk=>exact q
  |ret v=>exact q
 |false=>
  exact wpAny_execs_nil (pI e C B j)
end
structure It where
 go:Nat->Hp->Prop
 gQ:Nat->Hp->V->Hp->Prop
 stop:Nat->Hp->Prop
def kS(X:Cx)(E:cy)(H:Hp)(b:DL):Prop:=
 H b=none/\b≠X.env.locals/\b∉X.fs/\(b∈X.ex\/X.S.heap.objs.size<=b)/\(∀x c,X.env.cells.lookup x=some c->c≠b)/\∀p∈X.n++E,p.1≠b
theorem Ut.C5{E:cy}{a:St}{b:DL}(I:Ut X E a H s)(h:s.heap.objs.size<=b)(n:H' b=none):kS X E H' b:=by
 refine⟨n,Ya<|YY I.lt h,I.Jc h,.inr<|wO I.sz h,λx c e z=>?_,λp d z=>?_⟩;obtain⟨v,q⟩:=I.cell x c e;cases XD _ (YY q.lt ap);cases XD _ (YY (IR (I.pin p d).1) ap)
structure sW(P:Fa)(w:Fk)(K:Frag)(tg:Expr)(J:It)(fp:db)(it:DL)(tn:Nat->FS->Prop):Prop where
 mem:it∈fp
 obj:∀i h,tn i h->∀b∈fp,∃o,h.get? b=some o/\∀v,o.data≠ .cell v
 keep:∀i h h',tn i h->(∀b∈fp,∀o,h.get? b=some o->h'.get? b=some o)->tn i h'
 item:∀(X:Cx),X.prog=P->X.w=w->X.K=K->X.calm=true->∀(i:Nat)(E':cy)(s:Ev)(σ:St)(H:Hp)(E:cr),Ut X E' σ H s->(∀b∈fp,kS X E' H b)->tn i s.heap->J.go i H->
  wpAny (model P w) X.A (pyNext (.ref it)) (λr s1=>∃u,r=some u/\
   wpAny (model P w) X.A (letOwnedTupleGo tg (.ref it) u) (λ_ s2=>∃x H',Ut X E' σ H' s2/\mL x u/\J.gQ i H x H'/\tn (i+1) s2.heap/\∀b∈fp,H' b=none) E s1) E s
 done:∀(X:Cx),X.prog=P->X.w=w->X.K=K->X.calm=true->∀(i:Nat)(E':cy)(s:Ev)(σ:St)(H:Hp)(E:cr),Ut X E' σ H s->(∀b∈fp,kS X E' H b)->tn i s.heap->J.stop i H->
  wpAny (model P w) X.A (pyNext<|.ref it) (λr s1=>r=none/\Ut X E' σ H s1) E s
 self:∀(A:Gc)(i:Nat)(s:Ev)(Q:cr)(E:cr),tn i s.heap->Q (.ref it) s->wpAny (model P w) A (pyIter<|.ref it) Q E s
abbrev TI:=St->Hp->(It->Hp->Prop)->Prop
def JH(X:Cx)(E:cy)(a:St)(g:Expr)(R:It->Hp->Prop)(r:EQ)(s:Ev):Prop:=
 ∃(i:DL)(f:db)(t:Nat->FS->Prop)(J:It)(H:Hp),r=.ref i/\Ut X E a H s/\sW X.prog X.w X.K g J f i t/\t 0 s.heap/\(∀b∈f,kS X E H b)/\R J H
def PI(X:Cx)(t i:Expr)(b:TI):Prop:=
 ∀(E:cy)(s:Ev)(a:St)(H:Hp)(R:It->Hp->Prop),Ut X E a H s->b a H R->
  wpAny (model X.prog X.w) X.A (eval i X.env) (λv c=>wpAny (model X.prog X.w) X.A (pyIter v) (JH X E a t R) X.xe c) X.xe s
theorem JI{A:Gc}{E:cr}{i:DL}{u:EQ}{n:GM}{v:lc}{Q:BT}(a:s.heap.get? i=some o)(c:o.cls=.type n)(d:o.data=.fields v)(b:["enumerate","zip","dict_itemiterator","dict_reverseitemiterator","odict_iterator","itertools.zip_longest","itertools.pairwise"].contains n=false)(h:Q () s):wpAny M A (letOwnedTupleGo t (.ref i) u) Q E s:=by
  cases t<;>first
    |exact IO h
    | (cases u<;>first
        |exact IO h
        | (refine GT (wpAny_load a ?_)
           rw[c,d];show wpAny M A (if (["enumerate","zip","dict_itemiterator","dict_reverseitemiterator","odict_iterator","itertools.zip_longest","itertools.pairwise"].contains n && v[0]?==some (rawInt _))=true then _ else _) Q E s;rw[Ix ap];exact IO h))
def eZ(K:Frag)(a:DL):It:=
 ⟨λi H=>∃s x,ah K H a s/\s[i]?=some x,λi H x b=>b=H/\∀s,ah K H a s->s[i]?=some x,λi H=>∃s,ah K H a s/\s.length<=i⟩
def anA(K:Frag)(a:DL):It:=
 ⟨λi H=>∃s x,aB K H a s/\s[i]?=some x,λi H x b=>b=H/\∀s,aB K H a s->s[i]?=some x,λi H=>∃s,aB K H a s/\s.length<=i⟩
noncomputable def gH(l:Int)(n:Nat):It:=⟨λi _=>i<n,λi H x a=>a=H/\x=.i (l+i),λi _=>n<=i⟩
theorem alK{K:Frag}(a g:DL):sW P w K Q (eZ K a) [g] g (λi h=>h.IsListIter g a i) where
 mem:=by simp
 obj:=λi h t b f=>by
  have e:=by simpa using f
  subst e;obtain⟨o,e,c,d⟩:=t;exact nT o e (λv z=>by lia)
 keep:=λi h L t k=>t.at λo e=>k g aJ o e
 item:=by
  intro X y m A J i E' s M H E I j t n;subst y m A;obtain⟨N,x,q,l⟩:=n;obtain⟨ag,r,p,U⟩:=I.list q;obtain⟨u,W,T⟩:=r.get l;obtain⟨G,F,Y,D,C,B⟩:=Yk (j g aJ);refine wpAny_pyNext_list_item t p.isList (by simpa using W) λL R S=>?_;obtain⟨o,e,c,d⟩:=id R;exact nT u O (JI e c d (O) (o4 x H (I.turned (λb o f e=>(S.2 b f).trans e) G F D C B) T ⟨O,λys V=>by rw[I.C0 V q];exact l⟩ R (λb f=>(j b f).1)))
 done:=by
  intro X y m A J i E' s M H E I j t n;subst y m A;obtain⟨N,q,l⟩:=n;obtain⟨ag,r,p,U⟩:=I.list q;obtain⟨G,F,Y,D,C,B⟩:=Yk (j g aJ);have hl:=r.length;exact wpAny_pyNext_list_end (I.ok.hd J) t p.isList bd λL Z=>⟨O,I.turned (λb o f e=>Z b o f e) G F D C B⟩
 self:=λ_ _ _ _ _ t h=>wpAny_pyIter_listiter t h
theorem WA{K:Frag}(c:DL)(l:Int)(n:Nat):sW P w K G (gH l n) [c] c (λi h=>IsRangeIter h c (l+(i:Nat)*1) ((n:Int) - (i:Nat)) 1) where
 mem:=by simp
 obj:=λi h a b d=>by
  have e:=by simpa using d
  subst e;exact nT _ a (λv z=>by
   cases z)
 keep:=λi h m a k=>k c aJ _ a
 item:=by
  intro X B A C j i D s y H E I f a g;subst B A C;obtain⟨x,u,M,r,q,p⟩:=Yk (f c aJ);refine (Walks.range (I.ok.hd j) c l 1 n).item i s _ _ g a λv m F L R J=>?_;obtain⟨t,rfl⟩:=L;have Q:Ut X D y H {s with heap:=m,toks:=F}:=I.turned (λb o d e=>J b o (by simpa using d) e) x u r q p;refine nT _ O (JI R O O (O) (o4 (.i<|l+i) H Q ⟨t,?_⟩ ⟨O,O⟩ R (λb d=>(f b d).1)));rw[Int.mul_one]
 done:=by
  intro X B A C j i D s y H E I f a g;obtain⟨x,u,M,r,q,p⟩:=f c aJ;exact wpAny_pyNext_range_end (I.ok.hd j) a (by have:n<=i:=g;lia) λm N=>⟨O,I.turned (λb o d e=>N b o d e) x u r q p⟩
 self:=λY Y Y Y Y a h=>wpAny_pyIter_rangeiter a h
section
variable{X:Cx}{c:Expr}
def C6(K:Frag)(t:TE):TI:=λc H R=>t c H λx b=>∃a,x=.r a/\(∃s,ah K b a s)/\R (eZ K a) b
def amB(K:Frag)(t:TE):TI:=λc H R=>t c H λx b=>∃a,x=.r a/\(∃s,aB K b a s)/\R (anA K a) b
theorem amK(k:PE X l t):PI X c l (C6 X.K t):=by
 intro E s g H R I h;refine aA (k E s g H _ I h) λv f ⟨x,n,d,r,i⟩=>?_;obtain⟨a,e,⟨u,j⟩,q⟩:=i;subst e;cases r;obtain⟨y,w,p,z⟩:=d.list j;refine u1 p.isList (p3 f.heap.objs.size [f.heap.objs.size] _ _ n O (d.kept λb o e=>KK _ e) (alK a _) (nW _ (On _ O) O O) (λb m=>?_) q);have e:=by simpa using m
 subst e;exact d.C5 (VL _)<|d.az.fresh<|VL _
theorem JJ{a:St}{E:cr}(I:Ut X f a H s)(n: -(2 ^ 62)<=l)(m:l<2 ^ 62)(j: -(2 ^ 62)<=h)(i:h<2 ^ 62)(q:R (gH l (h - l).toNat) H):wpAny (model X.prog X.w) X.A (pyIter<|.ref s.heap.objs.size) (JH X f a c R) E {s with heap:=s.heap.push {cls:=.type "range",data:=.fields #[.int l t,.int h u,.int 1 v]},toks:=k}:=by
 refine wpAny_pyIter_range (IsRange.new ..) (small_one n m j i) ?_;have d:Ut X f a H {s with heap:=s.heap.push {cls:=.type "range",data:=.fields #[.int l t,.int h u,.int 1 v]},toks:=k}:=I.kept λb o e=>KK _ e;refine⟨(s.heap.push {cls:=.type "range",data:=.fields #[.int l t,.int h u,.int 1 v]}).objs.size,[(s.heap.push {cls:=.type "range",data:=.fields #[.int l t,.int h u,.int 1 v]}).objs.size],_,_,H,O,
  d.kept λb o e=>KK _ e,WA _ l (h - l).toNat,?_,λb g=>?_,q⟩
 have r:l+((0:Nat):Int)*1=l:=by lia
 have p:(((h - l).toNat:Nat):Int) - ((0:Nat):Int)=Builtin.Range.rangeSize l h 1:=by rw[rangeSize_one];split<;>omega
 rw[r,p];exact On _ O;have e:b=(s.heap.push {cls:=.type "range",data:=.fields #[.int l t,.int h u,.int 1 v]}).objs.size:=by simpa using g
 subst e;exact d.C5 (VL _)<|d.az.fresh<|VL _
def JK(t:TA):TI:=λa H R=>t a H λv b=>∃j:Int,v=[.i j]/\ -(2 ^ 62)<=j/\j<2 ^ 62/\R (gH 0 j.toNat) b
def JL(t:TA):TI:=λa H R=>t a H λv b=>∃i j:Int,v=[.i i,.i j]/\(-(2 ^ 62)<=i/\i<2 ^ 62/\ -(2 ^ 62)<=j/\j<2 ^ 62)/\R (gH i (j - i).toNat) b
theorem WE(o:Gl X "range")(n:X.mg "range"=none)(u:PA X [a] f)(m:autoParam (starEach [a] X.env=[(false,eval a X.env)]) dh):PI X c (.Call (.Name "range" p) [a] [] b) (JK f):=by
 intro E s g H R I h;refine Call_<|m6 I o n boot_range<|Rs (aA (u b E s g H _ I h) λx y ⟨w,z,v,k,d⟩=>?_) m O;obtain⟨j,e,d,l,q⟩:=d;subst e;cases k with
 |cons r i=>
  cases i;obtain⟨t,rfl⟩:=r;exact call_range_1<|JJ v ap ap d l ap
theorem apL(y:Gl X "range")(x:X.mg "range"=none)(z:PA X [a,b] k)(G:autoParam (starEach [a,b] X.env=[(false,eval a X.env),(false,eval b X.env)]) dh)(w:autoParam (starEach [b] X.env=[(false,eval b X.env)]) dh):
  PI X c (.Call (.Name "range" p) [a,b] [] d) (JL k):=by
 intro E s l H R I h;refine Call_<|m6 I y x boot_range<|Rs (aA (z d E s l H _ I h) λC F ⟨B,J,A,m,g⟩=>?_) ap (w▸O);obtain⟨i,j,e,⟨g,v,u,o⟩,q⟩:=g;subst e;cases m with
 |cons r f=>
  cases f with
  |cons n f=>
   cases f;obtain⟨t,rfl⟩:=r;obtain⟨D,rfl⟩:=n;exact call_range_2<|JJ A g v u o q
def zw(w:TI)(g:TG)(t:TS):TS:=λD a H=>w a H λJ j=>∃W:Nat->Nat->St->Hp->Prop,(∃m,W 0 m a j)/\∀i m a H,W i m a H->
 (J.stop i H/\D.nx a H)\/(J.go i H/\∃N:St->Hp->Prop,(∀b d,N b d->∃f,f<m/\W (i+1) f b d)/\∀x d,J.gQ i H x d->g x a d λe h=>t {D with nx:=N,c:=N,bk:=D.nx} e h)
noncomputable def uE(f:db)(h:FS):cy:=f.filterMap λb=>(h.get? b).map λo=>(b,o)
theorem zx(a:b∈f)(e:h.get? b=some o):(b,o)∈uE f h:=VG.mpr ⟨b,a,e▸O⟩
theorem anN(a:p∈uE f h):p.1∈f/\h.get? p.1=some p.2:=by
 obtain⟨b,c,e⟩:=VG.mp a;cases q:h.get? b with
 |none=>rw[q] at e;cases e
 |some o=>
  rw[q] at e;have d:=WV e;subst d;exact⟨c,q⟩
theorem Ut.pinned{a:St}{f:db}(I:Ut X E' a H s)(j:∀b∈f,kS X E' H b)(i:∀b∈f,∃o,s.heap.get? b=some o/\∀v,o.data≠ .cell v):Ut X (E'++uE f s.heap) a H s:=
 I.uB λp g=>(X0.mp g).elim (λz=>I.pin p<|Za _ z) λz=>by
  obtain⟨h,e⟩:=anN z;obtain⟨m,l,k,Y⟩:=Xn (j p.1 h);obtain⟨o,c,d⟩:=i p.1 h;rw[e] at c;cases c;exact⟨e,m,l,k,d⟩
theorem Ut.C7{a:St}(I:Ut X (E'++l) a H s):Ut X E' a H s:=I.uB λp h=>I.pin p (Za _<|Wu _ h)
theorem JM(M:PassesOwn (model X.prog X.w) X.A X.env X.xe)(hc:X.calm=true)(hi:PI X c B wi)(hg:PG X c g)(l:gF X C tb)(hs:∀x,foldedSetIterable B X.env x=pure x:=by intro _;rfl):PS X (.For c B C [] Y) (zw wi g tb):=by
 intro E s σ H D I h;refine wpAny_For (aA (hi E s σ H _ I h) λv s1 h1=>aA h1 λrS s2 h2=>?_) hs;obtain⟨it,P,tn,J,H2,e,I2,T,wB,f2,W,⟨m0,w0⟩,F⟩:=h2;subst e;have U:∀{y:Hp},(∀b∈P,y b=none)->∀b∈P,kS X E y b:=λhn b l=>⟨hn b l,(f2 b l).2⟩;refine codeAny_forLoop_any (λn s'=>∃i k y,Ut X E k y s'/\tn i s'.heap/\(∀b∈P,y b=none)/\W i n k y) ?_ m0 (q9 0 σ H2 I2 wB (λb l=>(f2 b l).1) w0);rintro n s3 zq;obtain⟨i,j,Q,zq⟩:=XM zq;obtain⟨I3,JN,JO,w3⟩:=Xn zq;rcases F i n j Q w3 with⟨G,qn⟩|⟨go,N,hN,K⟩
 refine SZ M (aA (T.done X O O O hc i E s3 j Q X.xe I3 (U JO) JN G) λr s4 ⟨Z,I4⟩=>?_);subst Z;exact wpAny_execs_nil (pI j Q I4 qn);refine SZ M (aA (T.item X O O O hc i E s3 j Q X.xe I3 (U JO) JN go) λr s4 ⟨u,Z,h4⟩=>?_);subst Z;refine SZ M<|aA h4 λ_ s5 ⟨x,H5,I5,r5,y5,V,C8⟩=>SZ M<|aA (hg _ s5 j H5 x u _ (I5.pinned (U C8) (T.obj _ _ V)) r5<|K x H5 y5) λ_ s6 ⟨R,H6,I6,q6⟩=>SZ M<|aA (l _ s6 R H6 _ I6 q6) λf S z=>?_;have p:∀{a:St}{t:Hp},Ut X (E++uE P s5.heap) a t S->N a t->∃m,m<n/\∃i k y,Ut X E k y S/\tn i S.heap/\(∀b∈P,y b=none)/\W i m k y:=λ{a t} q L=>by
  obtain⟨m',hm,w7⟩:=hN a t L;refine nT m' hm ⟨i+1,a,t,q.C7,T.keep _ _ _ V λb l o e=>(q.pin (b,o)<|Za _<|Za _<|zx l e).1,λb l=>?_,w7⟩;obtain⟨o,e,d⟩:=T.obj _ _ V b l;exact(q.pin (b,o)<|Za _<|Za _<|zx l e).2.1
 cases f with
 |next=>obtain⟨a,t,q,L⟩:=z;exact p q L
 |cont=>obtain⟨a,t,q,L⟩:=z;exact p q L
 |brk=>obtain⟨a,t,q,z⟩:=z;exact pI a t q.C7 z
 |ret v=>obtain⟨x7,a,t,zq⟩:=XM z;obtain⟨q,r7,z⟩:=Xb zq;exact o3 x7 ⟨a,t,q.C7,r7,z⟩
end
theorem kT{K:Frag}{g:TG}{t:TS}{D:ET}(P:Nat->St->Hp->Prop)(u:P 0 b H)(n:∀i b H,i<=xs.length->P i b H->ah K H a xs)(s:∀i x b H,xs[i]?=some x->P i b H->g x b H λd j=>t {D with nx:=P (i+1),c:=P (i+1),bk:=D.nx} d j)(r:∀b H,P xs.length b H->D.nx b H):
  ∃W:Nat->Nat->St->Hp->Prop,(∃m,W 0 m b H)/\∀i m b H,W i m b H->
   ((eZ K a).stop i H/\D.nx b H)\/((eZ K a).go i H/\∃N:St->Hp->Prop,(∀f h,N f h->∃k,k<m/\W (i+1) k f h)/\∀x h,(eZ K a).gQ i H x h->g x b h λd j=>t {D with nx:=N,c:=N,bk:=D.nx} d j):=by
 refine nT (λi m b H=>m=xs.length - i/\i<=xs.length/\P i b H) (nW xs.length O (Ww _) u) ?_;rintro i m b H ⟨rfl,o,p⟩;have q:=n i b H o p;by_cases v:i<xs.length;refine .inr (qH (pI xs (xs[i]) q aJ) (P<|i+1) (λf h l=>qU (xs.length - (i+1)) ap O v l) (λx h y=>?_));obtain⟨e,y⟩:=y;subst e;exact s i x b _ (y xs q) p;have e:i=xs.length:=WT o (Zw v)
 subst e;exact .inl ⟨nT xs q (VL _),r b H p⟩
theorem C_{lo:Int}{g:TG}{t:TS}{D:ET}(P:Nat->St->Hp->Prop)(q:P 0 a H)(s:∀i a H,i<n->P i a H->g (.i<|lo+i) a H λb j=>t {D with nx:=P (i+1),c:=P (i+1),bk:=D.nx} b j)(o:∀a H,P n a H->D.nx a H):
  ∃W:Nat->Nat->St->Hp->Prop,(∃m,W 0 m a H)/\∀i m a H,W i m a H->
   ((gH lo n).stop i H/\D.nx a H)\/((gH lo n).go i H/\∃N:St->Hp->Prop,(∀d f,N d f->∃k,k<m/\W (i+1) k d f)/\∀x f,(gH lo n).gQ i H x f->g x a f λb j=>t {D with nx:=N,c:=N,bk:=D.nx} b j):=by
 refine nT (λi m a H=>m=n - i/\i<=n/\P i a H) (nW n O (Ww _) q) ?_;rintro i m a H ⟨rfl,r,p⟩;by_cases h:i<n;refine .inr (qH h (P<|i+1) (λd f l=>qU (n - (i+1)) ap O h l) (λx f y=>?_));obtain⟨e,y⟩:=y;subst e y;exact s i a _ h p;have e:i=n:=WT r (Zw h)
 subst e;exact .inl ⟨VL _,o a H p⟩
abbrev R2:=V->V->Hp->VK->Prop
def bo(X:Cx)(f:EQ->EQ->Sem EQ)(r:R2):Prop:=
 ∀(E:cy)(s:Ev)(a:St)(H:Hp)(x y:V)(v u:EQ)(Q:VK),Ut X E a H s->mL x v->mL y u->r x y H Q->
  wpAny (model X.prog X.w) X.A (f v u) (EP X E a Q) X.xe s
def zy(X:Cx)(f:EQ->Sem EQ)(r:V->Hp->VK->Prop):Prop:=
 ∀(E:cy)(s:Ev)(a:St)(H:Hp)(x:V)(v:EQ)(Q:VK),Ut X E a H s->mL x v->r x H Q->
  wpAny (model X.prog X.w) X.A (f v) (EP X E a Q) X.xe s
def dC(X:Cx)(f:EQ)(r:ci->Hp->VK->Prop):Prop:=
 ∀(E:cy)(s:Ev)(a:St)(H:Hp)(x:ci)(u:ga)(Q:VK),Ut X E a H s->ZT x u->r x H Q->
  wpAny (model X.prog X.w) X.A (call f u) (EP X E a Q) X.xe s
def anK(X:Cx)(r:V->Hp->(wl)->Prop):Prop:=
 ∀(E:cy)(s:Ev)(a:St)(H:Hp)(x:V)(v:EQ)(Q:wl),Ut X E a H s->mL x v->r x H Q->
  wpAny (model X.prog X.w) X.A (truthy v) (TP X E a Q) X.xe s
def gk(r:R2)(b t:TE):TE:=λa H Q=>b a H λx d=>t a d λy c=>r x y c Q
def JP(r:V->Hp->VK->Prop)(t:TE):TE:=λa H Q=>t a H λx b=>r x b Q
def rI(C:Int->Int->Prop)(g:Int->Int->V):R2:=λx y H Q=>∃i j,x=.i i/\y=.i j/\C i j/\Q (g i j) H
def oH(g:Int->Int->V):R2:=λx y H Q=>∃i j,x=.i i/\y=.i j/\Q (g i j) H
def rU(g:Int->V):V->Hp->VK->Prop:=λx H Q=>∃i,x=.i i/\Q (g i) H
section
variable{X:Cx}{a b c:Expr}{d e tc:TE}{k:Pos}
theorem Dc(t:PE X a d)(p:PE X b e){c:St}{R:V->V->Hp->Prop}(I:Ut X E c H s)(h:d c H λx k=>e c k λy g=>R x y g){Q:cr}{f:EQ->EQ->Sem EQ}(o:∀v u j x y g,Ut X E c g j->mL x v->mL y u->R x y g->wpAny (model X.prog X.w) X.A (f v u) Q X.xe j):
  wpAny (model X.prog X.w) X.A (eval a X.env) (λv W=>wpAny (model X.prog X.w) X.A (eval b X.env) (λu i=>wpAny (model X.prog X.w) X.A (f v u) Q X.xe i) X.xe W) X.xe s:=by
 exact aA (t E s c H _ I h) λv l ⟨x,k,B,m,n⟩=>aA (p E l c k _ B n) λu j ⟨y,g,z,r,q⟩=>o v u j x y g z m r q
theorem WJ(j:bo X (binaryOp o) r)(m:PE X a d)(l:PE X b e):PE X (.BinOp a o b k) (gk r d e):=by
 intro E s c H Q I h;exact wpAny_BinOp<|Dc m l I h λv u f x y p n i g q=>j E f c p x y v u Q n i g q
theorem akY(f:zy X (unaryOp o) r)(g:PE X a d):PE X (.UnaryOp o a k) (JP r d):=by
 intro E s b H Q I h;exact UnaryOp_<|aA (g E s b H _ I h) λv c ⟨x,j,i,e,q⟩=>f E c b j x v Q i e q
theorem zA{g:Int->Int->Int}(r:∀(i j:Int)(t u:Tok)(s:Ev)(Q:cr)(E:cr),C i j->Q (.int (g i j) s.toks) {s with toks:=s.toks+1}->wpAny (model X.prog X.w) X.A (f (.int i t)<|.int j u) Q E s):
  bo X f (rI C λi j=>.i (g i j)):=by
 intro k s e H x y v u Q I c b h;obtain⟨i,j,rfl,rfl,d,q⟩:=h;obtain⟨t,rfl⟩:=c;obtain⟨a,rfl⟩:=b;exact r i j t a s _ _ d ⟨.i<|g i j,H,I.tok _,⟨_,O⟩,q⟩
theorem JQ{g:Int->Int->Int}(r:∀(i j:Int)(t u:Tok)(s:Ev)(Q:cr)(E:cr),Q (.int (g i j) s.toks) {s with toks:=s.toks+1}->wpAny (model X.prog X.w) X.A (f (.int i t)<|.int j u) Q E s):
  bo X f (oH λi j=>.i (g i j)):=by
 intro e s d H x y v u Q I c b h;obtain⟨i,j,rfl,rfl,q⟩:=h;obtain⟨t,rfl⟩:=c;obtain⟨a,rfl⟩:=b;exact r i j t a s _ _ ⟨.i<|g i j,H,I.tok _,⟨_,O⟩,q⟩
theorem zB{g:Int->Int->Go}(r:∀(i j:Int)(t u:Tok)(s:Ev)(Q:cr)(E:cr),Q (.bool<|g i j) s->wpAny (model X.prog X.w) X.A (f (.int i t)<|.int j u) Q E s):
  bo X f (oH λi j=>.b (g i j)):=by
 intro k s e H x y v u Q I d c h;obtain⟨i,j,rfl,rfl,q⟩:=h;obtain⟨t,rfl⟩:=d;obtain⟨a,rfl⟩:=c;exact r i j t a s _ _ ⟨.b<|g i j,H,I,O,q⟩
def JR(i j:Int):Prop:=0<j/\j<1073741824
def JS(i j:Int):Prop:=0<=j/\j<=1000000/\i.natAbs<2 ^ 64
def zC(i j:Int):Prop:=(-(2 ^ 64) <i/\i<2 ^ 64)\/(-(2 ^ 64) <j/\j<2 ^ 64)
theorem zC.ok(h:zC i j):IntMulOk i j:=by
 rcases h with⟨b,a⟩|⟨b,a⟩
 exact .of_left (intBits_le_64 b a);exact .of_right (intBits_le_64 b a)
theorem anS:bo X (binaryOp .Add) (oH λi j=>.i (i+j)):=JQ λY Y Y Y Y Y Y q=>add_int q
theorem alN:bo X (binaryOp .Sub) (oH λi j=>.i (i - j)):=JQ λY Y Y Y Y Y Y q=>sub_int q
theorem WN:bo X (binaryOp .Mult) (rI zC λi j=>.i (i*j)):=zA λY Y Y Y Y Y Y h q=>mul_int q h.ok
theorem WO:bo X (binaryOp .FloorDiv) (rI JR λi j=>.i (i / j)):=zA λi j Y Y Y Y Y h q=>by
 have b:=h.1;have a:=h.2;exact floordiv_int (by omega) (by rw[Int.fdiv_eq_ediv_of_nonneg i (by omega)];exact q)<|.inl<|PyProof.noPylong_small (by omega)
theorem anR:bo X (binaryOp .Mod) (rI (λY j=>0<j) λi j=>.i (i % j)):=zA λi j Y Y Y Y Y h q=>by
 exact mod_int' (Eo h) (by rw[Int.fmod_eq_emod_of_nonneg i (by omega)];exact q)
theorem apX:bo X (binaryOp .Pow) (rI JS λi j=>.i (i ^ j.toNat)):=zA λY Y Y Y Y Y Y h q=>pow_int_small h.1 h.2.1 h.2.2 q
theorem WS{g:Int->Int}(r:∀(i:Int)(t:Tok)(s:Ev)(Q:cr)(E:cr),Q (.int (g i) s.toks) {s with toks:=s.toks+1}->wpAny (model X.prog X.w) X.A (f<|.int i t) Q E s):
  zy X f (rU λi=>.i (g i)):=by
 intro c s b H x v Q I a h;obtain⟨i,rfl,q⟩:=h;obtain⟨t,rfl⟩:=a;exact r i t s _ _ ⟨.i<|g i,H,I.tok _,⟨_,O⟩,q⟩
theorem alT:zy X (unaryOp .USub) (rU λi=>.i (-i)):=WS λY Y Y Y Y q=>neg_int q
end
noncomputable def m_:V->V->Go
 |.a,.a=>true|.a,.i _=>true|.i _,.a=>true|.a,.b _=>true|.b _,.a=>true|.a,.s _=>true|.s _,.a=>true
 |.i _,.i _=>true|.b _,.b _=>true|.s _,.s _=>true|.h _,.h _=>true
 |.i _,.s _=>true|.s _,.i _=>true|.b _,.s _=>true|.s _,.b _=>true
 |_,_=>false
def aqS:R2:=λx y H Q=>m_ x y=true/\Q (.b<|decide<|x=y) H
def afD:R2:=λx y H Q=>m_ x y=true/\Q (.b<|!decide (x=y)) H
theorem JT:decide (V.i i=V.i j)=(i==j):=by lia
theorem JU:decide (V.b i=V.b j)=(i==j):=by lia
theorem iG:decide (V.s i=V.s j)=(i==j):=by lia
theorem JV:decide (V.h i=V.h j)=(i.toList==j.toList):=by
 rw[zbV];cases i;cases j;simp
section
variable{X:Cx}{a b c:Expr}{g l o:TE}{w:Pos}
theorem cL{a:St}{c:Go}(I:Ut X E a H s)(q:Q (.b k) H)(e:k=c):EP X E a Q (.bool c) s:=by
 subst e;exact⟨.b k,H,I,O,q⟩
theorem WW:bo X (compareOp .Eq) aqS:=by
 intro E s f H x y v u Q I e r h;obtain⟨d,q⟩:=h;cases x with
 |a=>
  cases e;cases y with
  |a=>cases r;exact PySem.EqNone.eq_none_none (cL I q (O))
  |b j=>cases r;exact PySem.EqNone.eq_none_bool (cL I q (O))
  |i j=>obtain⟨c,rfl⟩:=r;exact PySem.EqNone.eq_none_int (cL I q (O))
  |s j=>obtain⟨c,rfl⟩:=r;exact PySem.EqNone.eq_none_str (cL I q (O))
  |_=>exact absurd (show false=true from d) X8
 |b i=>
  cases e;cases y with
  |a=>cases r;exact PySem.EqNone.eq_bool_none (cL I q (O))
  |b j=>cases r;exact eq_bool (cL I q JU)
  |s j=>obtain⟨c,rfl⟩:=r;exact PySem.EqMixed.eq_bool_str (cL I q aJ)
  |_=>exact absurd (show false=true from d) X8
 |i i=>
  obtain⟨t,rfl⟩:=e;cases y with
  |a=>cases r;exact PySem.EqNone.eq_int_none (cL I q (O))
  |i j=>obtain⟨c,rfl⟩:=r;exact eq_int (cL I q JT)
  |s j=>obtain⟨c,rfl⟩:=r;exact PySem.EqMixed.eq_int_str (cL I q aJ)
  |_=>exact absurd (show false=true from d) X8
 |s i=>
  obtain⟨t,rfl⟩:=e;cases y with
  |a=>cases r;exact PySem.EqNone.eq_str_none (cL I q aJ)
  |b j=>cases r;exact PySem.EqMixed.eq_str_bool (cL I q aJ)
  |i j=>obtain⟨c,rfl⟩:=r;exact PySem.EqMixed.eq_str_int (cL I q aJ)
  |s j=>obtain⟨c,rfl⟩:=r;exact eq_str (cL I q iG)
  |_=>exact absurd (show false=true from d) X8
 |h i=>
  obtain⟨t,rfl⟩:=e;cases y with
  |h j=>obtain⟨c,rfl⟩:=r;exact PySem.W.eq_bytes (cL I q JV)
  |_=>exact absurd (show false=true from d) X8
 |_=>cases y<;>exact absurd (show false=true from d) X8
theorem ahH:bo X (compareOp .NotEq) afD:=by
 intro E s f H x y v u Q I e r h;obtain⟨d,q⟩:=h;cases x with
 |a=>
  cases e;cases y with
  |a=>cases r;exact PySem.EqNone.ne_none_none (cL I q (O))
  |b j=>cases r;exact PySem.EqNone.ne_none_bool (cL I q (O))
  |i j=>obtain⟨c,rfl⟩:=r;exact PySem.EqNone.ne_none_int (cL I q (O))
  |s j=>obtain⟨c,rfl⟩:=r;exact PySem.EqNone.ne_none_str (cL I q (O))
  |_=>exact absurd (show false=true from d) X8
 |b i=>
  cases e;cases y with
  |a=>cases r;exact PySem.EqNone.ne_bool_none (cL I q (O))
  |b j=>cases r;exact ne_bool (cL I q<|IN not JU)
  |s j=>obtain⟨c,rfl⟩:=r;exact PySem.EqMixed.ne_bool_str (cL I q ap)
  |_=>exact absurd (show false=true from d) X8
 |i i=>
  obtain⟨t,rfl⟩:=e;cases y with
  |a=>cases r;exact PySem.EqNone.ne_int_none (cL I q (O))
  |i j=>obtain⟨c,rfl⟩:=r;exact ne_int (cL I q<|IN not JT)
  |s j=>obtain⟨c,rfl⟩:=r;exact PySem.EqMixed.ne_int_str (cL I q aJ)
  |_=>exact absurd (show false=true from d) X8
 |s i=>
  obtain⟨t,rfl⟩:=e;cases y with
  |a=>cases r;exact PySem.EqNone.ne_str_none (cL I q aJ)
  |b j=>cases r;exact PySem.EqMixed.ne_str_bool (cL I q aJ)
  |i j=>obtain⟨c,rfl⟩:=r;exact PySem.EqMixed.ne_str_int (cL I q aJ)
  |s j=>obtain⟨c,rfl⟩:=r;exact ne_str (cL I q<|IN not iG)
  |_=>exact absurd (show false=true from d) X8
 |h i=>
  obtain⟨t,rfl⟩:=e;cases y with
  |h j=>obtain⟨c,rfl⟩:=r;exact PySem.W.ne_bytes (cL I q<|IN not JV)
  |_=>exact absurd (show false=true from d) X8
 |_=>cases y<;>exact absurd (show false=true from d) X8
theorem ahC:bo X (compareOp .Lt) (oH λi j=>.b (decide<|i<j)):=zB λY Y Y Y Y Y Y q=>lt_int q
theorem aoI:bo X (compareOp .LtE) (oH λi j=>.b (decide<|i<=j)):=zB λY Y Y Y Y Y Y q=>le_int q
theorem acE:bo X (compareOp .Gt) (oH λi j=>.b (decide<|j<i)):=zB λY Y Y Y Y Y Y q=>gt_int q
theorem aqJ:bo X (compareOp .GtE) (oH λi j=>.b (decide<|j<=i)):=zB λY Y Y Y Y Y Y q=>ge_int q
theorem Xa:bo X (compareOp .In) (λx y H Q=>∃i j,x=.s i/\y=.s j/\Q (.b<|!(Builtin.Str.occurrences j i 0 j.length 1).isEmpty) H):=by
 intro E s c H x y v u Q I a r h;obtain⟨i,j,rfl,rfl,q⟩:=h;obtain⟨t,rfl⟩:=a;obtain⟨d,rfl⟩:=r;exact in_str<|cL I q O
theorem ahY:bo X (compareOp .Is) (λx y H Q=>y=.a/\Q (.b<|decide<|x=.a) H):=by
 intro E s d H x y v u Q I r c h;obtain⟨rfl,q⟩:=h;cases c;refine is_none_gen<|cL I q ?_;cases x<;>first
  | (cases r;rfl)
  | (obtain⟨t,rfl⟩:=r;rfl)
theorem ahA:bo X (compareOp .IsNot) (λx y H Q=>y=.a/\Q (.b<|!decide (x=.a)) H):=by
 intro E s d H x y v u Q I r c h;obtain⟨rfl,q⟩:=h;cases c;refine isnot_none_gen<|cL I q ?_;cases x<;>first
  | (cases r;rfl)
  | (obtain⟨t,rfl⟩:=r;rfl)
theorem alU:bo X (compareOp .NotIn) (λx y H Q=>∃i j,x=.s i/\y=.s j/\Q (.b<|!(!(Builtin.Str.occurrences j i 0 j.length 1).isEmpty)) H):=by
 intro E s c H x y v u Q I a r h;obtain⟨i,j,rfl,rfl,q⟩:=h;obtain⟨t,rfl⟩:=a;obtain⟨d,rfl⟩:=r;exact notIn_str<|cL I q O
theorem bo.or(h:bo X f r)(e:bo X f d):bo X f (λx y H Q=>r x y H Q\/d x y H Q):=by
 intro E s a H x y v u Q I c b q;rcases q with q|q
 exact h E s a H x y v u Q I c b q;exact e E s a H x y v u Q I c b q
theorem aeQ(i:bo X (compareOp op) r)(k:PE X a g)(j:PE X b l)(m:behindInMarks op b=false):PE X (.Compare a [op] [b] w) (gk r g l):=by
 intro E s c H Q I h;exact wpAny_Compare1 (Dc k j I h λv u d x y p n f e q=>i E d c p x y v u Q n f e q) m
def oI(t:TE):TT:=λa H Q=>t a H λx c=>∃k,x=.b k/\Q k c
theorem JW(A:bo X (compareOp op) r)(D:PE X a g)(C:PE X b l)(B:behindInMarks op b=false):PT X (.Compare a [op] [b] w) (oI<|gk r g l):=by
 intro E s d H Q I h;refine wpAny_isTrue_Compare1 (aA (D E s d H _ I h) λv i ⟨x,M,J,n,t⟩=>aA (C E i d M _ J t) λu f ⟨y,L,G,m,p⟩=>
  aA (A E f d L x y v u _ G n m p) λc N ⟨z,K,F,j,k,e,q⟩=>?_) B
 subst e;cases j;exact ST ⟨K,F,q⟩
def uF(r d:R2)(g l o:TE):TE:=λa H Q=>g a H λx h=>l a h λy f=>r x y f λz c=>∃k,z=.b k/\
 (if k=true then o a c λw e=>d y w e Q else Q (.b false) c)
theorem aoV(P:bo X (compareOp p) r)(V:bo X (compareOp Y) j)(U:PE X a g)(T:PE X b l)(S:PE X c o)(R:lastMarks [p,Y] [b,c]=false:=by with_unfolding_all rfl):PE X (.Compare a [p,Y] [b,c] w) (uF r j g l o):=by
 intro E s f H Q I h;refine Compare_chain (aA (U E s f H _ I h) λv F ⟨x,H1,I1,K,N⟩=>chain_link (aA (T E F f H1 _ I1 N) λu D ⟨y,H2,Z,i,M⟩=>
  aA (P E D f H2 x y v u _ Z K i M) λd C ⟨z,n,m,J,k,e,q⟩=>?_)) R
 subst e;cases J;refine ST ?_;cases k with
 |false=>exact ite_ff ⟨.b false,n,m,O,q⟩
 |true=>exact ite_tt (chain_last<|aA (S E C f n _ m q) λA B ⟨t,H4,W,G,L⟩=>V E B f H4 y t u A Q W i G L)
theorem apA(T:bo X (compareOp p) r)(gg:bo X (compareOp Y) j)(Z:PE X a g)(W:PE X b l)(V:PE X c o)(U:lastMarks [p,Y] [b,c]=false:=by with_unfolding_all rfl):PT X (.Compare a [p,Y] [b,c] w) (oI<|uF r j g l o):=by
 intro E s f H Q I h;refine isTrue_chain (aA (Z E s f H _ I h) λv F ⟨x,H1,I1,L,R⟩=>test_link (aA (W E F f H1 _ I1 R) λu D ⟨y,H2,I2,i,P⟩=>
  aA (T E D f H2 x y v u _ I2 L i P) λd C ⟨z,n,m,K,k,e,q⟩=>?_)) U
 subst e;cases K;refine ST ?_;cases k with
 |false=>
  obtain⟨k',e',S⟩:=q;cases e';exact ite_ff ⟨n,m,S⟩
 |true=>
  refine ite_tt<|test_last<|aA (V E C f n _ m q) λA B ⟨t,H4,I4,J,N⟩=>aA (gg E B f H4 y t u A _ I4 i J N) λd' s5 ⟨z2,H5,I5,G,k2,e2,M⟩=>?_;subst e2;cases G;exact ST ⟨H5,I5,M⟩
def JX(K:Frag)(x:V)(H:Hp)(k:Go):Prop:=
 match x with
 |.a=>k=false
 |.b b=>k=b
 |.i i=>k=(i !=0)
 |.s y=>y.length<=sizeLine/\k=((y.length:Int) !=0)
 |.h y=>y.size<=sizeLine/\k=((y.size:Int) !=0)
 |.r p=>(∃c,ah K H p c/\k= !c.isEmpty)\/(∃c,aB K H p c/\k= !c.isEmpty)\/∃N,H p=some (.d N)/\k= !N.isEmpty
 |_=>False
theorem apM(r:KV N v):(!v.isEmpty)= !N.isEmpty:=by
 cases r<;>rfl
theorem JY{a:ga}(r:ZT x a):(!a.toArray.isEmpty)= !x.isEmpty:=by
 cases r<;>simp
theorem rW:(sizeLine:Nat) <2 ^ 63:=by decide
theorem JZ:anK X (λx H Q=>∃k,JX X.K x H k/\Q k H):=by
 intro E s A H x v Q I d h;obtain⟨k,e,q⟩:=h;have C:=rW;have B:sizeLine=16777216:=sizeLine_eq;cases x with
 |a=>
  cases d;have c:k=false:=e;subst c;exact truthy_none ⟨H,I,q⟩
 |b b=>
  cases d;have c:k=b:=e;subst c;exact ST ⟨H,I,q⟩
 |i i=>
  obtain⟨t,rfl⟩:=d;have c:k=(i !=0):=e;subst c;exact PySem.P.truthy_int ⟨H,I,q⟩
 |s y=>
  obtain⟨t,rfl⟩:=d;obtain⟨o,c⟩:y.length<=sizeLine/\k=((y.length:Int) !=0):=e;subst c;exact PySem.P.truthy_str ap ⟨H,I.tok _,q⟩
 |h y=>
  obtain⟨t,rfl⟩:=d;obtain⟨o,c⟩:y.size<=sizeLine/\k=((y.size:Int) !=0):=e;subst c;exact PySem.W.truthy_bytes ap ⟨H,I.tok _,q⟩
 |r p=>
  cases d;have c:=e;rcases c with⟨j,f,c⟩|⟨j,f,c⟩|⟨N,f,c⟩
  subst c;obtain⟨u,r,l,z⟩:=I.list f;have n:=r.length;exact wpAny_truthy_list l.isList (by simp only[Xm];lia) ⟨H,I.tok _,by rw[JY r];exact q⟩;subst c;obtain⟨u,r,l,z⟩:=I.tuple f;have n:=r.length;exact truthy_tuple l (by simp only[Xm];lia) ⟨H,I.tok _,by rw[JY r];exact q⟩;subst c;obtain⟨z,S,g,r,m⟩:N.length<=sizeLine/\(p==sysModules)=false/\∃g,KV N g/\s.heap.DictOf (c9 X.prog X.w) p g:=I.az p _ f;have n:=KB r;exact wpAny_truthy_dict S m ap ⟨H,I.tok _,by rw[apM r];exact q⟩
 |_=>exact(show False from e).elim
theorem Xj:bo X (binaryOp .Add) (λx y H Q=>∃i j,x=.s i/\y=.s j/\i.length+j.length<=sizeLine/\Q (.s<|i++j) H):=by
 intro E s c H x y v u Q I b r h;obtain⟨i,j,rfl,rfl,z,q⟩:=h;obtain⟨t,rfl⟩:=b;obtain⟨a,rfl⟩:=r;exact add_str (λa k=>⟨.s<|i++j,H,I.tok _,⟨_,O⟩,q⟩) z
theorem VZ(r:ZT [x] s):∃u,s=[u]/\mL x u:=by
 cases r with
 |cons b a=>cases a;exact⟨_,O,b⟩
theorem YX(r:ZT [x,y] s):∃u w,s=[u,w]/\mL x u/\mL y w:=by
 cases r with
 |cons d c=>
  cases c with
  |cons b a=>cases a;exact⟨_,_,O,d,b⟩
theorem aqL(c:X.calm=true):dC X (.builtin "max") (λx H Q=>∃i j,x=[.i i,.i j]/\Q (.i (if j>i then j else i)) H):=by
 intro E s b H x d Q I r h;obtain⟨i,j,rfl,q⟩:=h;obtain⟨u,w,rfl,⟨t,rfl⟩,⟨f,rfl⟩⟩:=YX r;refine max_two_ints (I.ok.hd c) λg e k=>⟨_,H,I.kept k,?_,q⟩;by_cases a:j>i;rw[Id a,Id a];exact⟨_,O⟩;rw[Ix a,Ix a];exact⟨_,O⟩
theorem Xl(c:X.calm=true):dC X (.builtin "min") (λx H Q=>∃i j,x=[.i i,.i j]/\Q (.i (if j<i then j else i)) H):=by
 intro E s b H x d Q I r h;obtain⟨i,j,rfl,q⟩:=h;obtain⟨u,w,rfl,⟨t,rfl⟩,⟨f,rfl⟩⟩:=YX r;refine min_two_ints (I.ok.hd c) λg e k=>⟨_,H,I.kept k,?_,q⟩;by_cases a:j<i;rw[Id a,Id a];exact⟨_,O⟩;rw[Ix a,Ix a];exact⟨_,O⟩
theorem afF:dC X (.type "int") (λx H Q=>(∃i,x=[.i i]/\Q (.i i) H)\/∃k,x=[.b k]/\Q (.i (if k then 1 else 0)) H):=by
 intro E s c H x d Q I r h;rcases h with⟨i,rfl,q⟩|⟨k,rfl,q⟩
 obtain⟨u,rfl,t,rfl⟩:=VZ r;exact call_int_int ⟨.i i,H,I,⟨_,O⟩,q⟩;obtain⟨u,rfl,a⟩:=VZ r;cases a;exact call_int_bool ⟨.i (if k then 1 else 0),H,I.tok _,⟨_,O⟩,q⟩
def J3(K:Frag)(x:V)(H:Hp)(n:Nat):Prop:=
 match x with
 |.s y=>y.length<=sizeLine/\n=y.length
 |.h y=>y.size<=sizeLine/\n=y.size
 |.r p=>(∃a,ah K H p a/\n=a.length)\/∃a,aB K H p a/\n=a.length
 |_=>False
theorem aeH:dC X (.builtin "len") (λc H Q=>∃x n,c=[x]/\J3 X.K x H n/\Q (.i n) H):=by
 intro E s m H c o Q I r h;obtain⟨x,n,rfl,e,q⟩:=h;obtain⟨u,rfl,d⟩:=VZ r;have v:=sizeLine_eq;cases x with
 |s y=>
  obtain⟨t,rfl⟩:=d;obtain⟨j,b⟩:y.length<=sizeLine/\n=y.length:=e;subst b;exact len_str ap ⟨.i _,H,I.tok _,⟨_,O⟩,q⟩
 |h y=>
  obtain⟨t,rfl⟩:=d;obtain⟨j,b⟩:y.size<=sizeLine/\n=y.size:=e;subst b;exact PySem.W.len_bytes ap ⟨.i _,H,I.tok _,⟨_,O⟩,q⟩
 |r p=>
  cases d;have b:=e;rcases b with⟨c,g,b⟩|⟨c,g,b⟩
  subst b;obtain⟨k,f,l,z⟩:=I.list g;have a:=f.length;exact Calls.call_len_list l.isList bd ⟨.i c.length,H,I.tok _,⟨_,by simp only[Xm];rw[a]⟩,q⟩;subst b;obtain⟨k,f,l,z⟩:=I.tuple g;have a:=f.length;exact len_tuple l bd ⟨.i c.length,H,I.tok _,⟨_,by simp only[Xm];rw[a]⟩,q⟩
 |_=>exact(show False from e).elim
end
structure rX(h:FS)(x dx C:DL)(mA:ge):Prop where
 obj:h.get? x=some (instObj C dx)
 ns:h.Ns1 dx mA
 ne:dx≠x
theorem alO{h:FS}{x:DL}{m:ge}(n:h.Ns1 x m):∃d,h.get? x=some d/\∀b,lookIn b d=some (m b):=by
 obtain⟨o,s,p,zq⟩:=XM n;obtain⟨f,i,k,Y,g⟩:=ZE zq;refine⟨o,f,λb=>?_⟩;have e:=g b;unfold nsFind findBy at e;rw[<-Array.find?_toList] at e;unfold lookIn;rw[i];dsimp only;split;rename_i y q;rw[q] at e;exact IN some e;rename_i q;rw[q] at e;have a:s.toList.any (·.refKey)=false:=by
  rw[List.any_eq_false];intro y c;obtain⟨z,t,X⟩:=k y (Array.mem_toList_iff.mp c);simp[DictEntry.refKey,X]
 have j:¬s.toList.any (·.refKey)=true:=by lia
 rw[Ix j];exact IN some e
theorem rX.look(I:rX h x d C m):∃o,PySem.W.InstAt h x (instObj C d) C (some o)/\∀n,lookIn n o=some (m n):=
 let ⟨o,a,l⟩:=alO I.ns
 ⟨o,⟨I.obj,O,O,a⟩,l⟩
section
variable{e:Fa}{w:Fk}{A:Gc}{E:cr}{s:Ev}{K:Frag}{x i C f:DL}{c:ge}{a:Str}{v:EQ}
theorem XZ{Q:cr}(X:K.In s.heap)(I:rX s.heap x i C c)(g:plainGet K C a=true)(d:hasDictIn K C=true)(f:PySem.W.findIn K (.ref C) a=some none)(b:c a=some v)(z:handedIn v=true)(h:Q v {s with toks:=s.toks+1}):
  wpAny (model e w) A (getAttr (.ref x) a r) Q E s:=by
 obtain⟨o,J,l⟩:=I.look;exact PySem.W.get_value X J (plainGet_of g).1 (PySem.W.findObj_own d f O (by rw[l,b])) z h
theorem aaO{Q:EQ×ga->Ev->Prop}(X:K.In s.heap)(I:rX s.heap x i C c)(g:plainGet K C a=true)(b:PySem.W.findIn K (.ref C) a=some (some<|.ref f))(t:PySem.W.isFn K (.ref f)=true)(v:c a=none)(h:Q (.ref f,[.ref x]) s):
  wpAny (model e w) A (getMethod (.ref x) a p) Q E s:=by
 obtain⟨o,J,l⟩:=I.look;exact PySem.W.method_fn X J (plainGet_of g).1 (plainGet_of g).2 b (beq_iff_eq.mp t) (by show(lookIn a o).map (·.isSome)=some false;rw[l,v];rfl) h
theorem apS{Q:BT}(X:K.In s.heap)(I:rX s.heap x i C c)(g:PySem.W.findIn K (.ref C) "__setattr__"=some (some<|.builtin "object.__setattr__"))(p:plainOver K C=true)(t:takerIn K C a=some none)(j:hasDictIn K C=true)(f:PySem.Within c n)(z:n.length<=sizeLine)(h:∀d,rX d x i C (λy=>if y=a then some v else c y)->Heap.SameBut i s.heap d->Q () {s with heap:=d,toks:=s.toks+2}):
  wpAny (model e w) A (setAttr (.ref x) a v) Q E s:=by
 obtain⟨F,J,H⟩:=I.look;refine PySem.W.set_plain X J g<|PySem.W.osa_open X J p t λb=>?_;obtain⟨L,m,r⟩:=PySem.W.any_some j;refine GT<|IO<|GT<|GT<|wpAny_loadPart I.obj<|GT<|PySem.W.Looks.here (PySem.W.looks_clsIn X m) ?_;rw[r];refine IO<|GT<|IO<|GT (wpAny_nsSet1 I.ns λd k l=>?_);obtain⟨G,D,o,zq⟩:=XM (k.count (PySem.Within.cons a v f));obtain⟨B,q,u⟩:=Xb zq;refine GT<|wpAny_lookBehind B (q▸pastItsLine_dict (wO u (by rw[d_];exact h_ z _))) ?_;exact IO<|h _ ⟨(l.2 _<|KF I.ne).trans I.obj,k,I.ne⟩ l
theorem apB{v:ga}{k:Ch}(X:K.In s.heap)(m:makesIn K C=true)(i:PySem.W.findIn K (.ref C) "__init__"=some (some<|.ref f))(b:PySem.W.typeIn K (.ref f)=some (.type "function"))(h:codeAny (model e w) (A.under (.builtin "type.__call__" ⟨.ref C::v,k⟩)) (.call (.ref f) ⟨.ref (s.heap.objs.size+1)::v,k⟩) (PySem.W.InitBack (s.heap.objs.size+1) R)
   {s with heap:=(s.heap.push emptyDict).push (instObj C s.heap.objs.size)}):
  codeAny (model e w) A (.call (.ref C) ⟨v,k⟩) R s:=by
 obtain⟨c,g,d,t,o⟩:=s;exact PySem.W.make_core (PySem.W.makes_of X m) (PySem.W.looks_findIn X i) (λa=>PySem.W.bind_fn X a b) (.inl O) h
end
noncomputable def bY(f:Str)(v:V):jp->jp
 |[]=>[(f,v)]
 |(g,x)::r=>if g=f then (g,v)::r else (g,x)::bY f v r
theorem J4(f g:Str)(v:V):∀s:jp,(bY f v s).lookup g=if g=f then some v else s.lookup g
 |[]=>by
  show List.lookup g [(f,v)]=_;by_cases h:g=f;have b:=beq_iff_eq.mpr h;simp only[List.lookup,b,Id h];have b:=beq_eq_false_iff_ne.mpr h;simp only[List.lookup,b,Ix h]
 |(k,x)::r=>by
  rw[show bY f v ((k,x)::r)=(if k=f then (k,v)::r else (k,x)::bY f v r) from O];by_cases a:k=f;rw[Id a];by_cases h:g=k;have b:=beq_iff_eq.mpr h;simp only[List.lookup,b,Id<|h.trans a];have b:=beq_eq_false_iff_ne.mpr h;simp only[List.lookup,b,Ix (λe:g=f=>h (e.trans a.symm))];rw[Ix a];by_cases h:g=k;have b:(g==k)=true:=beq_iff_eq.mpr h;simp only[List.lookup,b,Ix (λe:g=f=>a (h.symm.trans e))];have b:=beq_eq_false_iff_ne.mpr h;simp only[List.lookup,b];exact (J4 f g v r)
theorem Dd(f:Str)(v:V):∀s:jp,f∈ (bY f v s).map (·.1)/\∀g,g∈s.map (·.1)->g∈ (bY f v s).map (·.1)
 |[]=>⟨by simp[bY],λg h=>by simp at h⟩
 |(k,x)::r=>by
  obtain⟨b,i⟩:=Dd f v r;rw[show bY f v ((k,x)::r)=(if k=f then (k,v)::r else (k,x)::bY f v r) from O];by_cases a:k=f;subst a;exact⟨aJ,λg h=>by simpa using h⟩;rw[Ix a];refine⟨?_,λg h=>?_⟩;exact yl _ b;rcases xW.mp h with e|e
  exact xW.mpr (.inl e);exact yl _ (i g e)
theorem J5(f:Str)(v:V):∀s:jp,(bY f v s).length<=s.length+1
 |[]=>by simp[bY]
 |(k,x)::r=>by
  have i:=J5 f v r;rw[show bY f v ((k,x)::r)=(if k=f then (k,v)::r else (k,x)::bY f v r) from O];by_cases h:k=f;rw[Id h,d_,d_];exact Yr _;rw[Ix h,d_,d_];exact h_ i _
theorem iE.some_of(r:iE (some v) o):∃u,o=some u/\mL v u:=by
 cases o with
 |none=>exact(show False from r).elim
 |some u=>exact⟨u,O,r⟩
theorem iE.none_of(r:iE none o):o=none:=by
 cases o with
 |none=>rfl
 |some u=>exact(show False from r).elim
theorem aqR(r:mL v u):handedIn u=true:=by
 cases v with
 |a=>cases (show u=Value.none from r);rfl
 |b b=>cases (show u=Value.bool b from r);rfl
 |i i=>obtain⟨t,e⟩:=(show ∃t,u=Value.int i t from r);cases e;rfl
 |s x=>obtain⟨t,e⟩:=(show ∃t,u=Value.str x t from r);cases e;rfl
 |h b=>obtain⟨t,e⟩:=(show ∃t,u=Value.bytes b t from r);cases e;rfl
 |qd b=>obtain⟨t,e⟩:=(show ∃t,u=Value.float b t from r);cases e;rfl
 |r a=>cases (show u=Value.ref a from r);rfl
 |t n=>cases (show u=Value.type n from r);rfl
section
variable{P:Fa}{w:Fk}{H H':Hp}{h h':FS}{a C c:DL}{b fs':jp}
theorem zE(k:cN P w H h)(e:H a=some (.i C c b)):∃m,rX h a c C m/\(∀f,iE (b.lookup f)<|m f)/\PySem.Within m (b.map (·.1))/\b.length<=1000/\H c=some (.o a):=by
 obtain⟨d,z,j,g,m,n,r,q⟩:=(show cT P w H h a (.i C c b) from k a _ e);exact⟨m,⟨g,n,j⟩,r,q,z,d⟩
end
structure gT(K:Frag)(C:DL):Prop where
 pg:plainGet K C Str.empty=true
 hd:hasDictIn K C=true
 po:plainOver K C=true
 sa:PySem.W.findIn K (.ref C) "__setattr__"=some (some<|.builtin "object.__setattr__")
theorem gT.get{K:Frag}{C:DL}(c:gT K C)(f:Str):plainGet K C f=true:=c.pg
def gI(K:Frag)(C:DL)(f:Str):Prop:=PySem.W.findIn K (.ref C) f=some none
theorem gI.Xx{K:Frag}(n:gI K C f):takerIn K C f=some none:=by
 unfold takerIn;rw[show PySem.W.findIn K (.ref C) f=some none from n];rfl
structure yX(K:Frag)(C:DL)(m:Str)(f:DL):Prop where
 at_:PySem.W.findIn K (.ref C) m=some (some<|.ref f)
 fn:PySem.W.isFn K (.ref f)=true
 kp:PySem.W.keepIn K (.ref f)=true
section
variable{X:Cx}{i:cy}{j:St}{H:Hp}{s:Ev}{a C p:DL}{d:jp}{f:Str}{v:V}{A:Gc}{E:cr}
theorem aqD{Q:cr}(I:Ut X i j H s)(e:H a=some (.i C p d))(c:gT X.K C)(n:gI X.K C f)(l:d.lookup f=some v)(h:∀u k,Ut X i j H k->mL v u->Q u k):wpAny (model X.prog X.w) A (getAttr (.ref a) f b) Q E s:=by
 obtain⟨q,zq⟩:=eT (zE I.az e);obtain⟨g,r,Y,Y,Y⟩:=ZE zq;obtain⟨u,o,m⟩:=iE.some_of (l▸r f);exact XZ I.dY g (c.get f) c.hd n o (aqR m)<|h u _ (I.tok _) m
theorem J6{f:Sem Go}{Q:EQ×ga->Ev->Prop}(I:Ut X i j H s)(e:H a=some (.i C p d))(c:gT X.K C)(k:yX X.K C m g)(l:d.lookup m=none)(h:Q (.ref g,[.ref a]) s):wpAny (model X.prog X.w) A (getMethod (.ref a) m f) Q E s:=by
 obtain⟨n,zq⟩:=eT (zE I.az e);obtain⟨b,r,Y,Y,Y⟩:=ZE zq;exact aaO I.dY b (c.get m) k.at_ k.fn (iE.none_of (l▸r m)) h
theorem aeK{Q:BT}(I:Ut X i j H s)(e:H a=some (.i C p d))(c:gT X.K C)(n:gI X.K C f)(P:d.length<1000)(D:mL y u)(h:∀t,Ut X i j (upd H a<|.i C p<|bY f y d) t->Q () t):wpAny (model X.prog X.w) A (setAttr (.ref a) f u) Q E s:=by
 obtain⟨v,k,r,m,Y,x⟩:=zE I.az e;have F:(d.map (·.1)).length<=sizeLine:=by rw[XN,sizeLine_eq];exact wO Y (XA _ _)
 refine apS I.dY k c.sa c.po n.Xx c.hd m F λM l B=>h _ ?_;have J:∃o,M.get? p=some o:=let ⟨o,_,_,N,_⟩:=l.ns;⟨o,N⟩;refine I.write (e▸True.intro) (.inr x) (λb q L z=>(B.2 b L).trans z) J (⟨by rw[ay k.ne];exact x,?_,k.ne,l.obj,_,l.ns,λg=>?_,λg G=>?_⟩);have:=J5 f y d;exact wO this (X5 P);show iE ((bY f y d).lookup g) (if g=f then some u else v g);rw[J4];by_cases q:g=f;rw[Id q,Id q];exact D;rw[Ix q,Ix q];exact r g;by_cases q:g=f;rw[q];exact(Dd f y d).1;refine(Dd f y d).2 g (m g λz=>G ?_);show(if g=f then some u else v g)=none;rw[Ix q];exact z
theorem Ut.made(I:Ut X i j H s):Ut X i j (upd (upd H s.heap.objs.size<|.o<|s.heap.objs.size+1) (s.heap.objs.size+1)<|.i C s.heap.objs.size [])
  {s with heap:=(s.heap.push emptyDict).push (instObj C s.heap.objs.size)}:=by
 have a:(s.heap.push emptyDict).get? s.heap.objs.size=some emptyDict:=On s.heap O;have f:=by
  have:=On (s.heap.push emptyDict) (o:=instObj C s.heap.objs.size) O
  rwa [Tk] at this
 have d:(s.heap.push emptyDict).Ns s.heap.objs.size (λY=>none):=q9 emptyDict (#[]) _ a O (λe c=>absurd c aJ) (λY=>O);refine (I.laid (o:=.o (s.heap.objs.size+1)) (t':=s.toks) (λb u q=>KK _ q) (VL _) (o3 _ a)).laid (λb u q=>KK _ q) (VN<|Tk _ _) ?_;have n:s.heap.objs.size≠s.heap.objs.size+1:=ZH (Yq _);refine⟨by rw[ay n,aj],Ww _,n,qH f (λY=>none) ((Heap.Ns1.of_empty d).at λo q=>KK _ q) ⟨λY=>True.intro,λy h=>absurd O h⟩⟩
theorem aeG{w:Fk}{v:Env}{a:Pos}{Q:cr}(b:attributeBase e f v (eval e v)=eval e v)(h:wpAny (model prog w) A (eval e v) (λo W=>wpAny (model prog w) A (getAttr o f true) Q E W) E s):wpAny (model prog w) A (eval (.Attribute e f a) v) Q E s:=
 Attribute_any_ h (by rw[arm_eval_Attribute,b])
end
def zF(K:Frag)(t:TE)(f:Str):TE:=λc H Q=>t c H λx b=>∃a C d s v,x=.r a/\b a=some (.i C d s)/\gT K C/\gI K C f/\s.lookup f=some v/\Q v b
def zG(K:Frag)(e t:TE)(f:Str):TS:=λD b H=>t b H λy g=>e b g λx c=>∃a C d s,x=.r a/\c a=some (.i C d s)/\gT K C/\gI K C f/\s.length<1000/\
 D.nx b (upd c a<|.i C d<|bY f y s)
section
variable{X:Cx}{o e d:Expr}{f:Str}{g i De:Pos}{b j:TE}
theorem aiP(j:PE X e b)(k:attributeBase e f X.env (eval e X.env)=eval e X.env):PE X (.Attribute e f g) (zF X.K b f):=by
 intro E s d H Q I h;refine aeG k<|aA (j E s d H _ I h) λu A ⟨x,w,t,r,a,C,D,B,v,m,o,c,n,l,q⟩=>?_;subst m;obtain rfl:u=Value.ref a:=r;exact aqD t o c n l λy z p i=>⟨v,w,p,i,q⟩
theorem J7(z:PE X o b)(t:PE X d j)(w:swapsWith d (some<|.Attribute o f i) g.line X.env=pure false):PS X (.Assign [.Attribute o f i] d g) (zG X.K b j f):=by
 intro E s e H D I h;refine plainObj_wpAny_Assign_Attribute (aA (t E s e H _ I h) λu k ⟨y,L,J,r,q⟩=>aA (z E k e L _ J q) λv N ⟨x,R,G,m,a,C,Q,P,A,B,c,n,l,p⟩=>?_) w;subst A;obtain rfl:v=Value.ref a:=m;exact aeK G B c n l r λM F=>⟨e,_,F,p⟩
end
section
variable{X:Cx}{E':cy}{σ:St}{H:Hp}{s:Ev}{A:Gc}{E:cr}{Q:cr}{c:EQ}{b:Go}
inductive kW(K:Frag)(H:Hp):V->EQ->Prop where
 |aw:kW K H .a (.type "NoneType")
 |bl (x:Go):kW K H (.b x) (.type "bool")
 |int (i:Int):kW K H (.i i) (.type "int")
 |str (x:Str):kW K H (.s x) (.type "str")
 |qd (x:UInt64):kW K H (.qd x) (.type "float")
 |lst {a:DL}{f:ci} (e:H a=some (.l f)):kW K H (.r a) (.type "list")
 |cH {a:DL}{o:Obj}{f:ci} (e:H a=some (.c o<|.l f)):kW K H (.r a) (.type "list")
 |tup {a:DL}{f:ci} (e:H a=some (.t f)):kW K H (.r a) (.type "tuple")
 |dK {a:DL}{N:ii} (e:H a=some (.d N)):kW K H (.r a) (.type "dict")
 |dT {a:DL}{N:io} (e:H a=some (.T N)):kW K H (.r a) (.type "dict")
 |ins {a C n:DL}{m:jp} (e:H a=some (.i C n m)) (A:gT K C) (w:PySem.W.findIn K (.ref C) "__class__"=some (some<|.builtin "object.__class__"))
   (u:specialIn K (.builtin "object.__class__") "__get__"=some (some<|.builtin "getset_descriptor.__get__")) (F:takesIn K (.builtin "object.__class__")=some true)
   (v:mroIn K C (.type "object")=some true):kW K H (.r a) (.ref C)
theorem oJ(I:Ut X E' σ H s)(r:mL x u)(B:kW X.K H x t)(e:kitOne X.K t c=some b)(h:∀D,Q (.bool b) {s with toks:=D}):
  wpAny (model X.prog X.w) A (call (.builtin "isinstance") [u,c]) Q E s:=by
 cases B with
 |aw=>cases (show u=Value.none from r);exact kia_one PySem.W.kitx_none I.dY True.intro e (λz=>nomatch z) h
 |bl y=>cases (show u=Value.bool y from r);exact kia_one PySem.W.kitx_bool I.dY True.intro e (λz=>nomatch z) h
 |int i=>obtain⟨t,q⟩:=(show ∃t,u=Value.int i t from r);cases q;exact kia_one PySem.W.kitx_int I.dY True.intro e (λz=>nomatch z) h
 |str y=>obtain⟨t,q⟩:=(show ∃t,u=Value.str y t from r);cases q;exact kia_one PySem.W.kitx_str I.dY True.intro e (λz=>nomatch z) h
 |qd y=>obtain⟨t,q⟩:=(show ∃t,u=Value.float y t from r);cases q;exact kia_one PySem.W.kitx_float I.dY True.intro e (λz=>nomatch z) h
 | @lst a k g=>
  cases (show u=Value.ref a from r);obtain⟨_,_,n,_,j⟩:=(show cT X.prog X.w H s.heap a (.l k) from I.az a _ g);exact kia_one kitx_list I.dY ⟨_,j,O⟩ e (λz=>nomatch z) h
 | @cH a F k g=>
  cases (show u=Value.ref a from r);obtain⟨_,_,_,n,_,j⟩:=(show cT X.prog X.w H s.heap a (.c F<|.l k) from I.az a _ g);exact kia_one kitx_list I.dY ⟨_,j,O⟩ e (λz=>nomatch z) h
 | @tup a k g=>
  cases (show u=Value.ref a from r);obtain⟨_,_,_,p⟩:=(show cT X.prog X.w H s.heap a (.t k) from I.az a _ g);obtain⟨o,j,m,_⟩:=p;exact kia_one PySem.W.kitx_tuple I.dY ⟨o,j,m⟩ e (λz=>nomatch z) h
 | @dK a N g=>
  cases (show u=Value.ref a from r);obtain⟨_,_,U,_,p⟩:=(show cT X.prog X.w H s.heap a (.d N) from I.az a _ g);obtain⟨o,P,R,j,m,_⟩:=p;exact kia_one kitx_dict I.dY ⟨o,j,m.1⟩ e (λz=>nomatch z) h
 | @dT a N g=>
  cases (show u=Value.ref a from r);obtain⟨_,_,k,_,o,P,R,j,m,_⟩:=(show cT X.prog X.w H s.heap a (.T N) from I.az a _ g);exact kia_one kitx_dict I.dY ⟨o,j,m.1⟩ e (λz=>nomatch z) h
 | @ins a C dx Z g v M G S L=>
  cases (show u=Value.ref a from r);obtain⟨Y,f,_⟩:=zE I.az g;obtain⟨V,J,_⟩:=f.look;exact kia_one (PySem.W.kitx_own (v.get _) v.hd M G S L) I.dY J e (λz=>nomatch z) h
end
structure dZ(k:Nat)(A:Gc):Prop where
 hd:A.handled=none
 dp:A.depth+3*k+5<recursionLimit
 un:A.units+16*k+200<cLine
 gd:A.guards=some []:=by rfl
theorem dZ.mono(r:dZ k A)(h:j<=k):dZ j A:=⟨r.hd,by have:=r.dp;lia,by have:=r.un;lia,r.gd⟩
theorem dZ.deeper(r:dZ (k+1) A)(e:Env):dZ k (A.deeper e):=
 ⟨r.hd,by have:=r.dp;show A.depth+1+3*k+5<_;lia,by have:=r.un;show A.units+3+16*k+200<_;lia,r.gd⟩
theorem apT{A:Gc}{C:DL}{u:ga}{k:Ch}:(A.under<|.builtin "type.__call__" ⟨.ref C::u,k⟩).depth=A.depth+1:=O
theorem agC{A:Gc}{C:DL}{u:ga}{k:Ch}:(A.under<|.builtin "type.__call__" ⟨.ref C::u,k⟩).units=A.units+1:=O
theorem dZ.make(r:dZ (k+1) A)(C:DL)(u:ga)(w:Ch):dZ k (A.under<|.builtin "type.__call__" ⟨.ref C::u,w⟩):=
 ⟨r.hd,by have:=r.dp;rw[apT];lia,by have:=r.un;rw[agC];lia,by first|exact r.gd|simp⟩
theorem dZ.depth(r:dZ k A):A.depth<recursionLimit:=by have:=r.dp;lia
theorem dZ.units(r:dZ k A):A.units+64<cLine:=by have:=r.un;lia
def kY:TA:=λ_ H Q=>Q [] H
def fB(b:TE)(t:TA):TA:=λa H Q=>b a H λx d=>t a d λs c=>Q (x::s) c
section
variable{X:Cx}{e:Expr}{a:on}{d:TE}{t:TA}{c:Pos}
theorem wC:PA X [] kY:=λY Y Y Y H Q I h=>v3 ⟨[],H,I,.nil,h⟩
theorem qe(m:PE X e d)(l:PA X a t)(k:autoParam (starEach (e::a) X.env=(false,eval e X.env)::starEach a X.env) dh):PA X (e::a) (fB d t):=by
 intro c E s b H Q I h;rw[k];exact u9<|aA (m E s b H _ I h) λu g ⟨x,v,o,i,j⟩=>aA (l c E g b v _ o j) λw y ⟨f,p,n,r,q⟩=>⟨x::f,p,n,.cons i r,q⟩
def J8(t:TA):TE:=λb H Q=>t b H λx a=>x.length<=sizeLine/\∀p,a p=none->Q (.r p) (upd a p<|.t x)
def J9(t:TA):TE:=λb H Q=>t b H λx a=>x.length<=sizeLine/\∀p,a p=none->Q (.r p) (upd a p<|.l x)
theorem anG(h:PA X a t):PE X (.Tuple a l c) (J8 t):=by
 intro E s g H Q I j;refine wpAny_Tuple_spliced<|aA (h c E s g H _ I j) λi d ⟨x,k,f,r,z,q⟩=>⟨r.length▸z,⟨.r d.heap.objs.size,upd k d.heap.objs.size<|.t x,f.laid (λb u e=>KK _ e) (VL _) ?_,O,q _ (f.az.fresh (VL _))⟩⟩;exact⟨z,i,r,⟨_,On _ O,O,_,O⟩⟩
theorem agQ(h:PA X a t):PE X (.List a c) (J9 t):=by
 intro E s g H Q I j;refine wpAny_List_spliced<|aA (h c E s g H _ I j) λi d ⟨x,k,f,r,z,q⟩=>⟨r.length▸z,⟨.r d.heap.objs.size,upd k d.heap.objs.size<|.l x,f.laid (λb u e=>KK _ e) (VL _) ?_,O,q _ (f.az.fresh (VL _))⟩⟩;exact rS z i 0 r (On _ O)
end
abbrev Sp:=ci->Hp->VK->XK->Prop
abbrev v4:=List (Str×Sp)
abbrev cZ:=zO->Hp->Ev->XK->EQ->Ev->Prop
structure qf(P:Fa)(w:Fk)(K:Frag)(mg:ge)(base:FS)(A:Gc)(outer:zO)(s:Ev)(H:Hp):Prop where
 frames:A.frames=some outer
 mod:Mod K mg base
 bs:∀b o,base.get? b=some o->s.heap.get? b=some o/\H b=none
 uA:base.objs.size<=s.heap.objs.size
 m4:s.heap.FunFrames base outer
 wx:∀b∈bX outer,H b=none
 az:cN P w H s.heap
 B:AllBare s.gens
def CE(o:zO)(P:Fa)(w:Fk)(H:Hp)(s:Ev)(Q:VK)(u:EQ)(a:Ev):Prop:=
 ∃v b,a.os=s.os/\AllBare a.gens/\Un (bX o) [] H b s.heap a.heap/\cN P w b a.heap/\mL v u/\Q v b
def alJ(C:cZ)(o:zO)(P:Fa)(w:Fk)(H:Hp)(s:Ev)(Q:VK)(E:XK)(r:Result)(a:Ev):Prop:=
 match r with
 |.ok (.ret u)=>CE o P w H s Q u a
 |.ok _=>False
 |.error e=>C o H s E e a
structure dD(P:Fa)(w:Fk)(K:Frag)(mg:ge)(base:FS)(CX:cZ)(k:Nat)(f:DL)(fd:GE)(ps:bi)(sp:Sp):Prop where
 len:∀vs H Q E,sp vs H Q E->vs.length=ps.length
 run:∀(A:Gc)(outer:zO)(s:Ev)(H:Hp)(args:Args)(us:ga)(vs:ci)(Q:VK)(E:XK),dZ k A->qf P w K mg base A outer s H->BindsTo s fd args (ps.zip us)->ZT vs us->sp vs H Q E->
  codeAny (model P w) A (.call (.ref f) args) (alJ CX outer P w H s Q E) s
theorem dD.mono{K:Frag}(F:dD P w K m b C j f d c p)(h:j<=k):
  dD P w K m b C k f d c p:=⟨F.len,λA o s H a u v Q E r=>F.run A o s H a u v Q E<|r.mono h⟩
theorem qf.make{K:Frag}(e:qf P w K m b A o s H)(C:DL)(u:ga)(k:Ch):
  qf P w K m b (A.under<|.builtin "type.__call__" ⟨.ref C::u,k⟩) o s H:=⟨by first|exact e.frames| (simpa[Around.under,Code.envs,Code.isFrame,pushEnvs] using e.frames),e.mod,e.bs,e.uA,e.m4,e.wx,e.az,e.B⟩
section
variable{X:Cx}{a:cy}{c:St}{H:Hp}{s e:Ev}
theorem Ut.J_(I:Ut X a c H s):qf X.prog X.w X.K X.mg X.base X.A X.stack s H:=
 ⟨I.ok.frames,I.ok.mod,I.bs,wO I.ok.uA I.sz,I.stack,I.zp,I.az,I.E⟩
theorem Ut.after(I:Ut X a c H s)(h:CE X.stack X.prog X.w H s Q u e):EP X a c Q u e:=by
 obtain⟨v,k,o,f,n,j,r,q⟩:=h;obtain⟨l,g,d,t,i⟩:=e;obtain rfl:i=s.os:=o;exact⟨v,k,I.call n j f<|λb z=>absurd z aJ,r,q⟩
end
def Dg(s:Sp)(i:ci)(E:XK)(t:TA):TE:=λa H Q=>t a H λv b=>s (v++i) b Q E
def rY(C:DL)(m:Str)(s:Sp)(e:ci)(E:XK)(d:TE)(t:TA):TE:=λb H Q=>d b H λx c=>∃a g f,x=.r a/\c a=some (.i C g f)/\f.lookup m=none/\
 t b c λv h=>s (x::(v++e)) h Q E
def Dh(C:DL)(p:Sp)(e:ci)(E:XK)(t:TA):TE:=λc H Q=>t c H λs b=>∀x d,b x=none->b d=none->d≠x->
 p (.r x::(s++e)) (upd (upd b d<|.o x) x<|.i C d []) (λv f=>v=.a/\Q (.r x) f) E
def Wz(K:Frag)(f:GE)(p:bi)(d:ga):Prop:=
 ∀(s:Ev)(u:ga),K.In s.heap->(u++d).length=p.length->BindsTo s f ⟨u,[]⟩ (p.zip<|u++d)
theorem Wz.all{K:Frag}{f:GE}{p:bi}(h:∀u:ga,u.length=p.length->bindArgs f ⟨u,[]⟩=pure (p.zip u)):Wz K f p []:=λs u Y l=>by
 rw[Y3] at l⊢;exact .of_eq<|h u l
def YD(C:cZ)(X:Cx)(E:XK):Prop:= ∀(c:cy)(b:St)(H:Hp)(s:Ev)(e:EQ)(a:Ev),Ut X c b H s->C X.stack H s E e a->X.xe e a
section
variable{X:Cx}{d:cZ}{k:Nat}{f C:DL}{g:GE}{i:bi}{j:Sp}{b:ci}{a:ga}{E:XK}{x m:Str}{p l apos:Pos}{e o:Expr}{c:on}{ta:TE}{t:TA}
theorem Di{l:St}{c:ga}(F:dD X.prog X.w X.K X.mg X.base d k f g i j)(p:dZ k X.A)(v:Wz X.K g i a)(t:ZT b a)(x:YD d X E)(I:Ut X n l H s)(r:ZT vs c)(h:j (vs++b) H Q E):wpAny (model X.prog X.w) X.A (call (.ref f) c) (EP X n l Q) X.xe s:=by
 have m:=r.append t;refine wpAny_call<|UV (F.run X.A X.stack s H ⟨c,[]⟩ (c++a) (vs++b) Q E p I.J_ (v s c I.dY (m.length▸F.len _ _ _ _ h)) m h) λr o q=>?_;cases r with
 |error e=>exact x n l H s e o I q
 |ok y=>
  cases y with
  |ret u=>exact I.after q
  |next=>exact False.elim q
  |brk=>exact False.elim q
  |cont=>exact False.elim q
theorem agT(F:dD X.prog X.w X.K X.mg X.base d k f g i j)(v:dZ k X.A)(B:Gl X x)(y:X.mg x=some (.ref f))(z:PySem.W.keepIn X.K (.ref f)=true)(G:Wz X.K g i a)(D:ZT b a)(u:YD d X E)(J:PA X (e::c) t)(Z:autoParam ((x==("__debug__":Str))=false) cu)(C:autoParam (starEach (e::c) X.env=(false,eval e X.env)::starEach c X.env) dh)(o:autoParam ((backTo l<|starEach c X.env).any (·.1)=false) dh):
  PE X (.Call (.Name x p) (e::c) [] l) (Dg j b E t):=by
 intro L s n H Q I h;exact Sc<|CZ I B y (callWith_K I.ok.mod.wt z (aA (J l L s n H _ I h) λN P ⟨M,R,m,r,q⟩=>⟨m.dY,Di F v G D u m r q⟩) C o) Z
structure Mk(K:Frag)(C f:DL):Prop where
 m:makesIn K C=true
 init:PySem.W.findIn K (.ref C) "__init__"=some (some<|.ref f)
 fn:PySem.W.isFn K (.ref f)=true
 kp:PySem.W.keepIn K (.ref C)=true
theorem apY{p:St}{c:ga}(M:Mk X.K C f)(F:dD X.prog X.w X.K X.mg X.base d k f g i j)(N:dZ (k+1) X.A)(S:Wz X.K g i a)(R:ZT b a)(L:YD d X E)(I:Ut X z p H s)(r:ZT q c)(h:∀x l,H x=none->H l=none->l≠x->j (.r x::(q++b)) (upd (upd H l<|.o x) x<|.i C l []) (λv Y=>v=.a/\Q (.r x) Y) E):
  wpAny (model X.prog X.w) X.A (call (.ref C) c) (EP X z p Q) X.xe s:=by
 have y:=h (s.heap.objs.size+1) s.heap.objs.size (I.az.fresh<|Yr _) (I.az.fresh<|VL _) (ZH<|Yq _);have n:=Ut.made (C:=C) I;have t:ZT (V.r (s.heap.objs.size+1)::(q++b)) (Value.ref (s.heap.objs.size+1)::(c++a)):=.cons O (r.append R);have P:=by
  have e:=t.length;rw[F.len _ _ _ _ y] at e;exact e.symm
 refine wpAny_call (apB I.dY M.m M.init (beq_iff_eq.mp M.fn) (UV (F.run _ X.stack _ _ ⟨Value.ref (s.heap.objs.size+1)::c,[]⟩ (Value.ref (s.heap.objs.size+1)::(c++a)) _ _ E (N.make C c [])
  (n.J_.make C c []) (S _ (Value.ref (s.heap.objs.size+1)::c) n.dY P) t y) λr B D=>?_))
 cases r with
 |error e=>exact L z p _ _ e B n D
 |ok T=>
  cases T with
  |ret u=>
   obtain⟨v,Z,W,G,U,J⟩:=n.after D;subst U;exact⟨G,⟨V.r<|s.heap.objs.size+1,Z,W,O,J⟩⟩
  |next=>exact False.elim D
  |brk=>exact False.elim D
  |cont=>exact False.elim D
theorem aqE(M:Mk X.K C f)(F:dD X.prog X.w X.K X.mg X.base d k f g i j)(v:dZ (k+1) X.A)(z:Gl X x)(y:X.mg x=some (.ref C))(G:Wz X.K g i a)(D:ZT b a)(u:YD d X E)(J:PA X (e::c) t)(Z:autoParam ((x==("__debug__":Str))=false) cu)(B:autoParam (starEach (e::c) X.env=(false,eval e X.env)::starEach c X.env) dh)(o:autoParam ((backTo l<|starEach c X.env).any (·.1)=false) dh):
  PE X (.Call (.Name x p) (e::c) [] l) (Dh C j b E t):=by
 intro L s n H Q I h;exact Sc<|CZ I z y (callWith_K I.ok.mod.wt M.kp (aA (J l L s n H _ I h) λP R ⟨N,S,m,r,q⟩=>⟨m.dY,apY M F v G D u m r q⟩) B o) Z
end
structure wF(N P:bi)(sc:Scope):Prop where
 kind:sc.kind=.function
 co:sc.isCoroutine=false
 gen:sc.isGenerator=false
 nd:N.Nodup
 pre:N.take P.length=P
 par:∀x∈P,sc.names.lookup x=some .local\/sc.names.lookup x=some .cell
 XJ:∀y∈sc.names,y.2≠ .free
theorem Ka:∀{b:Ch}{m:ge},(∀v,(x,v)∉b)->bindL k b m x=m x
 |[],_,_=>O
 |(n,v)::r,m,h=>by
  unfold bindL;rw[Ka λw a=>h w (yl _ a)];split;have:x≠n:=by rintro rfl;exact h v Y1
  simp[this];rfl
theorem Kb:∀{b:Ch}{m:ge},(∀v,(x,v)∉b)->bindC k b m x=m x
 |[],_,_=>O
 |(n,v)::r,m,h=>by
  unfold bindC;rw[Kb λw a=>h w (yl _ a)];split;rfl;have:x≠n:=by rintro rfl;exact h v Y1
  simp[this]
theorem Kc:∀{P:bi}{s:ga}{i:Nat}{m:ge},P.Nodup->P[i]?=some x->s[i]?=some v->k x=some .local->
  bindL k (P.zip s) m x=some v
 |[],_,_,_,_,h,_,_=>by simp at h
 |_::_,[],_,_,_,_,h,_=>by simp at h
 |p::P,w::s,0,m,n,b,a,c=>by
  simp at b a;subst b;subst a;show bindL k ((p,w)::P.zip s) m p=_;unfold bindL;rw[Ka λv d=>(Y8.mp n).1 (List.of_mem_zip d).1,Id c];simp
 |p::P,w::s,i+1,m,n,b,a,c=>by
  unfold bindL;exact Kc (Y8.mp n).2 (by simpa using b) (by simpa using a) c
theorem Kd:∀{P:bi}{s:ga}{i:Nat}{m:ge},P.Nodup->P[i]?=some x->s[i]?=some v->k x≠some .local->
  bindC k (P.zip s) m x=some v
 |[],_,_,_,_,h,_,_=>by simp at h
 |_::_,[],_,_,_,_,h,_=>by simp at h
 |p::P,w::s,0,m,n,b,a,c=>by
  simp at b a;subst b;subst a;show bindC k ((p,w)::P.zip s) m p=_;unfold bindC;rw[Kb λv d=>(Y8.mp n).1 (List.of_mem_zip d).1,Ix c];simp
 |p::P,w::s,i+1,m,n,b,a,c=>by
  unfold bindC;exact Kd (Y8.mp n).2 (by simpa using b) (by simpa using a) c
noncomputable def XF(N:bi)(v:ci):St:=v.map some++List.replicate (N.length - v.length) none
noncomputable def r9(C:cZ)(P:Fa)(w:Fk)(K:Frag)(m:ge)(b:FS)(N:bi)(q:Str)(a:Scope)(f:DL)(c:EQ)(A:Gc)(o:zO)(s:Ev)(H:Hp)(E:XK):Cx where
 prog:=P
 w:=w
 K:=K
 mg:=m
 base:=b
 A:=A.deeper (envOfC q a s.heap.objs.size f c)
 N:=N
 S:=s
 H:=H
 env:=envOfC q a s.heap.objs.size f c
 r:=o
 stack:=envOfC q a s.heap.objs.size f c::o
 ex:=[]
 calm:=true
 fn:=λ_=>true
 n:=[]
 xe:=λe d=>wpAny (model P w) (A.deeper<|envOfC q a s.heap.objs.size f c) (leaving (envOfC q a s.heap.objs.size f c) e) (λ_ l=>C o H s E e l) (λg l=>C o H s E g l) d
theorem Ke{s:Scope}(h:s.names.lookup x=some .cell):∃c,(cellsFrom n s.names []).lookup x=some c:=by
 exact Option.isSome_iff_exists.mp (cellsFrom_some s.names n [] (.inl h))
theorem ahI{K:Frag}{f:DL}{I:EQ}{Q:Ev}(S:wF N t d)(W:A.handled=none)(m:qf P w K M j A o s H)(hl:n.length=t.length)(r:ZT n L)(x:InCallC s s.heap.objs.size (bindL (envOfC l d s.heap.objs.size f I).kindOf (t.zip L) λ_=>none) (cellsFrom (s.heap.objs.size+1) d.names []) (bindC (envOfC l d s.heap.objs.size f I).kindOf (t.zip L) λ_=>none) Q):
  Ut (r9 Y P w K M j N l d f I A o s H E) [] (XF N n) H Q:=by
 have jd:t.length<=N.length:=by have:=IN List.length S.pre;rw[Ye] at this;lia
 obtain⟨G,Z,rfl,T⟩:=x.done;have J:∀b:DL,b∉ (r9 Y P w K M j N l d f I A o s H E).ex:=λb z=>absurd (show b∈ ([]:db) from z) aJ;refine⟨⟨m.mod,S.kind,O,O,VL _,λy z c G g=>?_,λy C=>?_,λy c _ h=>?_,λ_=>W,Around.frames_deeper m.frames,.inr ⟨O,O⟩,λb z=>absurd z (J b),m.bs,m.uA,λb _ _=>J b,λb z=>absurd z (J b),m.m4,m.wx⟩,
  rfl,m.B,Un.kept T,nT _ x.toInCall.ns (λi y v G g h3=>?_),λy c h=>o3 _ (x.cell y c h),m.az.fresh (VL _),λy c h=>?_,λp D=>absurd (show p∈ ([]:cy) from D) aJ,m.az.kept T,?_⟩
 exact name_of_addr x.apart (Pi G) (Pi g);rcases C with C|C
 exact Ke C;cases (S.XJ _<|Pi C) O;exact Zx (x.above y c<|Pi h);have F:i<n.length:=by
  unfold XF at g;by_cases F:i<n.length;exact F;rw[Wt (by simpa using F)] at g;rw[List.getElem?_replicate] at g;split at g<;>cases g
 have X:n[i]?=some v:=by
  unfold XF at g;rw[XG (by simpa using F),ZW] at g;cases e:n[i]? with
  |none=>rw[e] at g;cases g
  |some a=>rw[e] at g;cases g;rfl
 obtain⟨u,R,V⟩:=r.get X;have D:t[i]?=some y:=by
  rw[<-S.pre,List.getElem?_take_of_lt (YY F (VN hl))];exact G
 have U:=S.pre▸S.nd.sublist (List.take_sublist _ _);refine nT u V ?_;rcases S.par y (Wv D) with k|k
 exact .inl ⟨k,Kc U D R k⟩;obtain⟨c,e⟩:=Ke k;refine .inr (qH (.inl k) c e ?_);have q:=x.cell y c e;rw[Kd U D R (by show d.names.lookup y≠_;rw[k];decide)] at q;exact q;exact m.az.fresh (Zx<|x.above y c<|Pi h);unfold XF;show _=N.length;rw[W0,XN,List.length_replicate];lia
theorem acR{K:Frag}{f:DL}{h:List Fr}{dV kV L pm B ct oc:EQ}{an od:wP}{j6:Array AT}(lk:K.lookup f=some ⟨oc,od,.func<|PySem.W.fnOf m l p h c dV kV L pm an B ct,j6⟩)(m5:PySem.W.codeIn K B l=true)(S:wF N M c)(D:∀j H Q E,T j H Q E->j.length=M.length)(XO:∀(A:Gc)(d:zO)(s:Ev)(H:Hp)(j:ci)(Q:VK)(E:XK),dZ k (A.deeper (envOfC l c s.heap.objs.size f B))->T j H Q E->
   ∃t,gF (r9 Z P w K R g N l c f B A d s H E) h t/\t {nx:=λ_ z=>Q .a z,r:=Q} (XF N j) H):
  dD P w K R g Z (k+1) f (PySem.W.fnOf m l p h c dV kV L pm an B ct) M T:=by
 refine⟨D,λA d s H a' us j Q E Y G hb r qg=>?_⟩;have KX:=G.mod.wt.keeps λb o e=>(G.bs b o e).1;have XQ:∀y∈M.zip us,c.names.lookup y.1=some .local\/(c.names.lookup y.1=some .cell/\((cellsFrom (s.heap.objs.size+1) c.names []).lookup y.1).isSome=true):=λ⟨n,v⟩ hy=>by
  rcases S.par n (List.of_mem_zip hy).1 with q|q
  exact .inl q;exact .inr ⟨q,cellsFrom_some _ _ _<|.inl q⟩
 refine codeAny_call_function Y.depth (KX _ _ lk) O S.co S.gen O (PySem.W.codeRec_of KX m5)<|hb _ _ _ _ (wpAny_newFunctionEnv_cells S.kind XQ λb' he s1 x=>?_);subst he;refine⟨(G.mod.nolimit.keeps λb o e=>(G.bs b o e).1).keeps x.toInCall.keep,codeAny_func ?_⟩;obtain⟨t,ht,hq⟩:=XO A d s H j Q E (Y.deeper _) qg;have I:Ut (r9 Z P w K R g N l c f B A d s H E) [] (XF N j) H s1:=ahI S Y.hd G (D _ _ _ _ qg) r x;refine Op (ht [] s1 (XF N j) H _ I hq) (λfl U C=>?_) λe U C=>C;have F:∀{i:St}{z:Hp}{v:V}{u:EQ},Ut (r9 Z P w K R g N l c f B A d s H E) [] i z U->mL v u->Q v z->CE d P w H s Q u U:=
  λ{i z v u} J X q=>o4 v z J.os J.E J.base J.az ⟨X,q⟩
 cases fl with
 |ret u=>
  obtain⟨v,i,z,zq⟩:=XM C;obtain⟨J,X,q⟩:=Xb zq;exact F J X q
 |next=>
  obtain⟨i,z,J,q⟩:=C;exact F (v:=V.a) J O q
 |brk=>
  obtain⟨_,_,_,q⟩:=C;exact False.elim q
 |cont=>
  obtain⟨_,_,_,q⟩:=C;exact False.elim q
section
variable{X:Cx}{x:Str}{p b:Pos}{e:Expr}{a:on}{t:TA}{c T:GM}{r:ci->Hp->VK->Prop}
def gU(r:ci->Hp->VK->Prop)(t:TA):TE:=λa H Q=>t a H λv b=>r v b Q
theorem Kg(o:dC X (.builtin c) r)(k:Gl X x)(m:X.mg x=none)(i:bootBuiltins x=some (.builtin c))(w:PA X (e::a) t)(n:autoParam (x≠"__name__") cu)(Z:autoParam ((x==("__debug__":Str))=false) cu)(l:autoParam (starEach (e::a) X.env=(false,eval e X.env)::starEach a X.env) dh)(j:autoParam ((backTo b<|starEach a X.env).any (·.1)=false) dh):PE X (.Call (.Name x p) (e::a) [] b) (gU r t):=by
 intro E s d H Q I h;exact Sc<|m6 I k m i (PyProof.Rows.callWith_builtin1 (aA (w b E s d H _ I h) λu f ⟨v,z,y,g,q⟩=>o E f d z v u Q y g q) l j) n Z
theorem Kh(l:dC X (.type T) r)(i:Gl X x)(m:X.mg x=none)(g:bootBuiltins x=some (.type T))(o:PA X (e::a) t)(n:autoParam (x≠"__name__") cu)(Z:autoParam ((x==("__debug__":Str))=false) cu)(k:autoParam (starEach (e::a) X.env=(false,eval e X.env)::starEach a X.env) dh)(j:autoParam ((backTo b<|starEach a X.env).any (·.1)=false) dh):PE X (.Call (.Name x p) (e::a) [] b) (gU r t):=by
 intro E s c H Q I h;exact Sc<|m6 I i m g (Rs (aA (o b E s c H _ I h) λu d ⟨v,y,w,f,q⟩=>l E d c y v u Q w f q) k j) n Z
end
end
namespace HT
open PySem PyProof.Rows
section
variable{a:Fa}{w:Fk}{A:Gc}{E:cr}{s:Ev}
theorem XR{v c:ga}{Q:cr}(q:IsTup s.heap t v.toArray)(x:IsTup s.heap b c.toArray)(m:v≠ [])(B:c=[]->Q (.ref t) s)(y:c≠ []->Q (.ref s.heap.objs.size) {s with heap:=s.heap.push {cls:=.type "tuple",data:=.seq (v++c).toArray}})(z:v.length+c.length<=sizeLine):wpAny (model a w) A (binaryOp .Add (.ref t)<|.ref b) Q E s:=by
 obtain⟨⟨i,p,d,l⟩,o,u,n,r⟩:=id q;obtain⟨⟨C,K,g,D⟩,j,H,k,f⟩:=id x;subst u r H f;have e:v.toArray++c.toArray=(v++c).toArray:=by simp
 by_cases h:c=[];exact concat_meets ⟨_,o,O⟩ ⟨_,j,O⟩ noFill_tuple_add seq_tuple_add PySem.F.slot_tuple_add PySem.F.entry_tuple_add (PySem.F.args_tuple_add_2 _ _)
  (tuple_addW1 t b v.toArray c.toArray n k p K l D (by simpa using m) (by simp[h])) ⟨o,j,B h⟩
 refine concat_meets ⟨_,o,O⟩ ⟨_,j,O⟩ noFill_tuple_add seq_tuple_add PySem.F.slot_tuple_add PySem.F.entry_tuple_add (PySem.F.args_tuple_add_2 _ _)
  (tuple_addW2 t b v.toArray c.toArray n k p K l D (by simpa using m) (by simpa using h) (by exact z)) ⟨o,j,?_⟩
 rw[e];exact y h
def aV(n d:Nat):tz->Nat
 |none=>d
 |some v=>if v<0 then (v+(n:Int)).toNat else min v.toNat n
theorem Dk(n d:Nat):aV n d none=d:=O
theorem ni(n d k:Nat):aV n d (some (k:Int))=min k n:=O
theorem Dl(n d:Nat)(a:d<=n)(o:tz):aV n d o<=n:=by
 cases o with
 |none=>exact a
 |some v=>
  show(if v<0 then (v+(n:Int)).toNat else min v.toNat n)<=n;by_cases h:v<0;lia;rw[Ix h];exact Nat.min_le_right _ _
theorem Kj(v:Int)(n d:Nat):(if v<0 then max (v+(n:Int)) 0 else min v (n:Int))=((aV n d (some v):Nat):Int):=by
 show(if v<0 then max (v+(n:Int)) 0 else min v (n:Int))=(((if v<0 then (v+(n:Int)).toNat else min v.toNat n):Nat):Int);by_cases h:v<0;lia;lia
theorem XS(l h:tz)(n:Nat):Builtin.Slice.sliceAdjust l h 1 (n:Int)=(((aV n 0 l:Nat):Int),((aV n n h:Nat):Int)):=by
 refine Prod.ext ?_ ?_;cases l with
 |none=>rfl
 |some v=>exact Kj v n 0
 cases h with
 |none=>rfl
 |some v=>exact Kj v n n
theorem aqA(i j:Nat):Builtin.Slice.slicePlaces (i:Int) (j:Int) 1=j - i:=by
 unfold Builtin.Slice.slicePlaces;split<;>lia
theorem Kk{o:tz}{Q:tz->Ev->Prop}(p:IsPart v o)(h:Q o s):wpAny (model a w) A (Builtin.Slice.slicePartIndex v) Q E s:=by
 cases p with
 |none=>exact slicePart_none h
 |int i t=>exact slicePart_int h
theorem ahE{b v:EQ}{l i:tz}{Q:Int×Int×Nat->Ev->Prop}(e:s.heap.IsSliceOf c b v .none)(d:IsPart b l)(p:IsPart v i)(h:Q (((aV n 0 l:Nat):Int),1,aV n n i - aV n 0 l) s):wpAny (model a w) A (Builtin.Slice.sliceApplied (.ref c)<|pure (n:Int)) Q E s:=by
 obtain⟨o,H,K,z⟩:=id e;refine GT<|GT<|PP H z O<|GT<|PP H z O<|GT<|PP H z O<|IO (GT<|slicePart_none (GT<|Kk d<|GT<|Kk p<|GT<|IO ?_));show wpAny _ _ (match Builtin.Slice.sliceAdjust l i 1 (n:Int) with|(l,i)=>pure (l,(1:Int),Builtin.Slice.slicePlaces l i 1)) _ _ s;rw[XS l i n];show wpAny _ _ (pure (((aV n 0 l:Nat):Int),(1:Int),Builtin.Slice.slicePlaces ((aV n 0 l:Nat):Int) ((aV n n i:Nat):Int) 1)) _ _ s;rw[aqA];exact IO h
theorem aqI(s:lc)(i k:Nat):((List.range k).filterMap fun(m:Nat)=>s[((i:Int)+(m:Int)*1).toNat]?).toArray=((s.toList.drop i).take k).toArray:=by
 have e:(fun(m:Nat)=>s[((i:Int)+(m:Int)*1).toNat]?)=λm=>s[i+m]?:=by
  funext m;have:((i:Int)+(m:Int)*1).toNat=i+m:=by lia
  rw[this]
 rw[e];have:=pick_run s i k;rw[Xv] at this;have a:((λx=>s[x]?)∘λx=>i+x)=λm=>s[i+m]?:=O;rw[a] at this;rw[this]
theorem XX{i:lc}{d v:EQ}{l b:tz}{Q:cr}(c:IsTup s.heap t i)(f:s.heap.IsSliceOf e d v .none)(g:IsPart d l)(p:IsPart v b)(j:¬(aV i.size 0 l=0/\aV i.size i.size b=i.size))(h:Q (.ref s.heap.objs.size) {s with heap:=s.heap.push {cls:=.type "tuple",data:=.seq ((i.toList.drop<|aV i.size 0 l).take<|aV i.size i.size b - aV i.size 0 l).toArray}})(k:i.size<=sizeLine):wpAny (model a w) A (getItem (.ref t)<|.ref e) Q E s:=by
 have z:=by
  show((i.toList.drop<|aV i.size 0 l).take<|aV i.size i.size b - aV i.size 0 l).toArray.size<=sizeLine;rw[Xm,Ye,Z0,G2];omega
 obtain⟨o,H,K,n⟩:=id f;have Y:s.TypeIs (.ref e) "slice":=⟨o,H,K⟩;unfold getItem
 try with_reducible refine NE ?_
 refine GT<|wpAny_sequenceKey c.typeIs (O) ?_;refine GT (xD c.typeIs Dx
  (wpAny_call_entry Dx c.typeIs entry_tuple_getitem ?_ (args_tuple_getitem _ _)))
 show wpAny _ _ (Builtin.Tuple.tupleItemsOf (.ref t) >>=_) _ _ s;refine GT<|tupleItemsOf_ c (GT<|Wp Y (GT<|ahE f g p ?_));have X:¬((((aV i.size 0 l:Nat):Int)==0 && (1:Int)==1 && (aV i.size i.size b - aV i.size 0 l)==i.size)=true):=by
  intro q;rw[Zu,Zu] at q;have u:=eq_of_beq q.1.1;have r:=eq_of_beq q.2;exact j ⟨ap,ap⟩
 show wpAny _ _ (if (((aV i.size 0 l:Nat):Int)==0 && (1:Int)==1 && (aV i.size i.size b - aV i.size 0 l)==i.size)=true then _ else _) _ _ s;rw[Ix X,aqI]
 first
  |exact GT (WF (IO ⟨_,O,IO h⟩) z)
  |exact GT (m:=Builtin.Tuple.tupleExact _) (WF (GT<|IO<|IO ⟨_,O,IO h⟩) z)
  |exact GT (GT<|WF (IO<|IO ⟨_,O,IO h⟩) z)
  |exact GT (GT (m:=Builtin.Tuple.tupleExact _)<|WF (IO ⟨_,O,IO h⟩) z)
end
end HT
section
open PyProof.Rows
abbrev TO:=St->Hp->(tz->Hp->Prop)->Prop
def PO(X:Cx)(e:Option Expr)(t:TO):Prop:=
 ∀(E:cy)(s:Ev)(a:St)(H:Hp)(Q:tz->Hp->Prop),Ut X E a H s->t a H Q->
  wpAny (model X.prog X.w) X.A (evalPart e X.env) (λu c=>∃o b,Ut X E a b c/\IsPart u o/\Q o b) X.xe s
def wI:TO:=λ_ H Q=>Q none H
def r_(t:TE):TO:=λa H Q=>t a H λx b=>∃i,x=.i i/\Q (some i) b
theorem Ef:∀{u:ga},ZT (s.map V.i) u->IntsAre u s:=by
 induction s with
 |nil=>intro u r;cases r;exact .nil
 |cons n s h=>
  intro u r;cases r with
  |cons b a=>
   obtain⟨t,e⟩:=b;subst e;exact .cons n t<|h a
section
variable{X:Cx}{e:Expr}{f:TE}{c d:Option Expr}{g j:TO}{pos k:Pos}
theorem zJ:PO X none wI:=by
 intro E s a H Q I h;exact IO ⟨none,H,I,.none,h⟩
theorem zK(h:PE X e f):PO X (some e) (r_ f):=by
 intro E s a H Q I w;refine aA (h E s a H _ I w) λu g ⟨x,d,c,r,b⟩=>?_;obtain⟨i,rfl,q⟩:=b;obtain⟨t,rfl⟩:=r;exact oW (some i) d c (.int i t) q
def zL(X:Cx)(r:V->tz->tz->Hp->VK->Prop):Prop:=
 ∀(E:cy)(s:Ev)(a:St)(H:Hp)(x:V)(v l u:EQ)(c d:tz)(b:DL)(Q:VK),Ut X E a H s->mL x v->s.heap.IsSliceOf b l u .none->IsPart l c->IsPart u d->r x c d H Q->
  ∃T i,typeLookup (.type T) "__getitem__"=pure (some<|.builtin i)/\s.TypeIs v T/\wpAny (model X.prog X.w) X.A (getItem v<|.ref b) (EP X E a Q) X.xe s
def Dm(r:V->tz->tz->Hp->VK->Prop)(f:TE)(g j:TO):TE:=λa H Q=>f a H λx d=>g a d λl c=>j a c λu b=>r x l u b Q
theorem acU(G:zL X r)(L:PE X e f)(J:PO X c g)(D:PO X d j):PE X (.Subscript e (.Slice c d none k) pos) (Dm r f g j):=by
 intro E s a H Q I h;refine Subscript_<|aA (L E s a H _ I h) λv t ⟨x,V,S,w,A⟩=>wpAny_Slice<|aA (J E t a V _ S A) λn p ⟨l,U,R,C,z⟩=>aA (D E p a U _ R z) λm i ⟨u,o,P,B,y⟩=>IO ?_;have N:Ut X E a o {i with heap:=i.heap.push {cls:=.type "slice",data:=.fields #[n,m,.none]}}:=P.kept λb W q=>KK _ q;obtain⟨T,Y,zq⟩:=XU (G E {i with heap:=i.heap.push {cls:=.type "slice",data:=.fields #[n,m,.none]}} a o x v n m l u i.heap.objs.size Q N w (Heap.IsSliceOf.new ..) C B y);obtain⟨M,F,K⟩:=Xb zq;exact tail_any F M K (O)
noncomputable def c5(x:ci)(c d:tz):ci:=(x.drop<|HT.aV x.length 0 c).take (HT.aV x.length x.length d - HT.aV x.length 0 c)
theorem Dp(x:ci)(c d:tz):(c5 x c d).length<=x.length:=by
 unfold c5;rw[Ye,Z0];lia
def aiR(K:Frag):V->tz->tz->Hp->VK->Prop:=λx c d H Q=>∃a s,x=.r a/\aB K H a s/\
 ¬(HT.aV s.length 0 c=0/\HT.aV s.length s.length d=s.length)/\∀p,H p=none->Q (.r p) (upd H p<|.t<|c5 s c d)
theorem apD:zL X (aiR X.K):=by
 intro E s j H x v k u c d m Q I f i l p h;obtain⟨a,e,zq⟩:=XU h;obtain⟨rfl,g,w,q⟩:=Xn zq;cases f;obtain⟨y,r,t,z⟩:=I.tuple g;have n:=Xm▸r.length.symm;refine oW ("tuple") _ PyProof.Rows.slot_tuple_getitem.lookup t.typeIs (HT.XX t i l p ap ?_ (wO (VN n) z));rw[n];refine⟨.r s.heap.objs.size,_,I.laid (λb o q=>KK _ q) (VL _) ?_,O,q _<|I.az.fresh<|VL _⟩;exact qH (wO (Dp e c d) z) _ ((r.drop<|HT.aV e.length 0 c).take<|HT.aV e.length e.length d - HT.aV e.length 0 c) (IsTup.new _ _)
def Km(K:Frag):R2:=λx y H Q=>∃a b c s,x=.r a/\y=.r b/\aB K H a c/\aB K H b s/\c≠ []/\c.length+s.length<=sizeLine/\
 (s=[]->Q (.r a) H)/\(s≠ []->∀p,H p=none->Q (.r p) (upd H p<|.t<|c++s))
theorem ZT.Dq(r:ZT x u):u=[]↔x=[]:=by
 cases r with
 |nil=>simp
 |cons Y Y=>simp
theorem anB:bo X (binaryOp .Add) (Km X.K):=by
 intro E s o H x y v u Q I g f h;obtain⟨a,b,A,t,zq⟩:=ZO h;obtain⟨rfl,rfl,n,m,l,e,j,i⟩:=WR zq;cases g;cases f;obtain⟨D,d,p,Y⟩:=I.tuple n;obtain⟨C,c,k,Y⟩:=I.tuple m;refine HT.XR p k (λz=>l<|d.Dq.mp z) (λz=>⟨.r a,H,I,O,j<|c.Dq.mp z⟩) (λz=>?_) (by rw[<-d.length,<-c.length];exact e);refine⟨.r s.heap.objs.size,_,I.laid (λb B q=>KK _ q) (VL _) ?_,O,i (λw=>z<|c.Dq.mpr w) _<|I.az.fresh<|VL _⟩;exact⟨W0▸e,_,d.append c,IsTup.new _ _⟩
end
noncomputable def gJ(n:Nat)(i:Int):xz:=if 0<=i then (if i<n then some i.toNat else none) else if -(n:Int)<=i then some (i+n).toNat else none
def fU{a:Type}(x:List a)(i:Int):Option a:=(gJ x.length i).bind λj=>x[j]?
theorem Kn(h:gJ n i=some j):seqIndex? i n=some j/\j<n/\ -(n:Int)<=i/\i<n:=by
 unfold gJ at h;by_cases b:0<=i;rw[Id b] at h;by_cases a:i<n;rw[Id a] at h;exact⟨by rw[seqIndex_of b a,(WV h)],ap,ap,a⟩;rw[Ix a] at h;cases h;rw[Ix b] at h;by_cases a: -(n:Int)<=i;rw[Id a] at h;exact⟨by rw[seqIndex_neg ap a,(WV h)],ap,a,ap⟩;rw[Ix a] at h;cases h
theorem Dr(h:fU x i=some v):∃j,seqIndex? i x.length=some j/\x[j]?=some v/\j<x.length/\ -(x.length:Int)<=i/\i<x.length:=by
 unfold fU at h;cases e:gJ x.length i with
 |none=>rw[e] at h;cases h
 |some j=>
  rw[e] at h;obtain⟨f,d,c,b⟩:=Kn e;exact⟨j,f,h,d,c,b⟩
theorem dv{xs:List a}{j:Nat}(h:xs[j]?=some v):fU xs (j:Int)=some v:=by
 have b:=(Wq.mp h).1;have e:gJ xs.length (j:Int)=some j:=by
  unfold gJ;rw[Id (VI _),Id ap];simp
 unfold fU;rw[e];exact h
theorem uG(x:List a)(v:a):fU (x++[v]) (-1)=some v:=by
 have h:(x++[v]).length=x.length+1:=by simp
 have e:gJ (x++[v]).length (-1)=some x.length:=by
  unfold gJ;rw[Ix ap,Id ap];congr 1;lia
 unfold fU;rw[e];simp
def Ko(b:Expr):Prop:= ∀o i,subscripted b false o i=operate [o,i] (getItem o i)
def nq(X:Cx)(r:R2):Prop:=
 ∀(a e:Expr)(E:cy)(s:Ev)(b:St)(H:Hp)(x y:V)(v u:EQ)(Q:VK),Ut X E b H s->mL x v->mL y u->r x y H Q->
  subscripted e false v u=operate [v,u] (getItem v u)->wpAny (model X.prog X.w) X.A (subscriptTail a e v u) (EP X E b Q) X.xe s
def uH(X:Cx)(i:GM)(r:V->ci->Hp->VK->Prop):Prop:=
 ∀(E:cy)(s:Ev)(a:St)(H:Hp)(x:V)(b:ci)(v:EQ)(u:ga)(Q:VK),Ut X E a H s->mL x v->ZT b u->r x b H Q->
  wpAny (model X.prog X.w) X.A (call (.builtin i) (v::u)) (EP X E a Q) X.xe s
section
variable{X:Cx}{a b:Expr}{d g:TE}{pos:Pos}
theorem nq.or(h:nq X r)(i:nq X r'):nq X (λx y H Q=>r x y H Q\/r' x y H Q):=by
 intro e a E s b H x y v u Q I d c q f;rcases q with q|q
 exact h e a E s b H x y v u Q I d c q f;exact i e a E s b H x y v u Q I d c q f
theorem anE(k:nq X r)(m:PE X a d)(l:PE X b g)(j:Ko b):PE X (.Subscript a b pos) (gk r d g):=by
 intro E s c H Q I h;exact Subscript_<|Dc m l I h λv u e x y o n i f q=>k a b E e c o x y v u Q n i f q (j _ _)
def Kq(K:Frag):R2:=λx y H Q=>∃p s i v,x=.r p/\y=.i i/\ah K H p s/\fU s i=some v/\Q v H
def Kr(K:Frag):R2:=λx y H Q=>∃p s i v,x=.r p/\y=.i i/\aB K H p s/\fU s i=some v/\Q v H
def Ks:R2:=λx y H Q=>∃z i c,x=.s z/\y=.i i/\z.length<=sizeLine/\fU z.cps.toList i=some c/\Q (.s ⟨#[c]⟩) H
theorem X6:nq X (Kq X.K):=by
 intro e b L s m H x y v u Q I o n h d;obtain⟨p,M,i,z,zq⟩:=ZO h;obtain⟨rfl,rfl,A,C,q⟩:=ZE zq;cases o;obtain⟨t,rfl⟩:=n;obtain⟨J,r,l,N⟩:=I.list A;obtain⟨j,a,F,R,E,D⟩:=Dr C;obtain⟨w,k,G⟩:=r.get F;have B:=r.length;have P:=rW;have f:EP X L m Q w s:=⟨z,H,I,G,q⟩;by_cases g:0<=i;have c:=by
  rw[seqIndex_of g D] at a;exact WV a
 exact item_listR l.isList g ap (by rw[c];simpa using k) f d;have c:(i+(J.toArray.size:Int)).toNat=j:=by
  rw[seqIndex_neg ap E] at a;rw[Xm,<-B];exact WV a
 exact wD l.isList.typeIs slot_list_getitem.lookup
  (wpAny_getItem_list_neg l.isList ap (by rw[Xm] <;>lia) ap (by rw[c];simpa using k) ⟨O,f⟩) d
theorem X7:nq X (Kr X.K):=by
 intro e a E s b H x y v u Q I d c h g;obtain⟨p,C,i,z,zq⟩:=ZO h;obtain⟨rfl,rfl,k,m,q⟩:=ZE zq;cases d;obtain⟨t,rfl⟩:=c;obtain⟨M,r,l,D⟩:=I.tuple k;obtain⟨j,o,n,L,J,G⟩:=Dr m;obtain⟨w,B,A⟩:=r.get n;have F:=rW;have f:EP X E b Q w s:=⟨z,H,I,A,q⟩;exact wD l.typeIs slot_tuple_getitem.lookup
  (getItem_tuple l ap ap (by rw[Xm,<-r.length];exact o) (by simpa using B) ⟨O,f⟩) g
theorem ahX:nq X Ks:=by
 intro e a E s w H x y v u Q I d r h f;obtain⟨z,i,c,zq⟩:=XM h;obtain⟨rfl,rfl,B,g,q⟩:=ZE zq;obtain⟨t,rfl⟩:=d;obtain⟨A,rfl⟩:=r;obtain⟨j,zq⟩:=eT (Dr g);obtain⟨b,n,D,m,k⟩:=ZE zq;have l:z.cps.toList.length=z.length:=O;rw[l] at b m k;have C:=rW;exact tail_any (WP s z t) slot_str_getitem.lookup (getItem_str (by
  have p:decide (i< -(2 ^ 63:Int))=false:=VH ap;have o:decide (i≥2 ^ 63)=false:=VH ap;rw[p,o,YO]) (by rw[b];simpa using n) ⟨.s ⟨#[c]⟩,H,I.tok _,⟨_,O⟩,q⟩) f
theorem alW(a:ga)(n j:Nat)(u:EQ):Obj.mapSeq (·.setIfInBounds j u) {cls:=.type "list",data:=.seq a.toArray n}={cls:=.type "list",data:=.seq (a.set j u).toArray n}:=by
 simp[Obj.mapSeq]
theorem Ut.lst{b:St}{H:Hp}{s:Ev}{p:DL}{x:ci}(I:Ut X E' b H s)(h:H p=some (.l x)):
  ∃(a:ga)(n:Nat),ZT x a/\s.heap.get? p=some {cls:=.type "list",data:=.seq a.toArray n}/\x.length<=sizeLine:=by
 obtain⟨z,a,n,r,e⟩:=I.az p _ h;exact⟨a,n,r,e,z⟩
theorem Ut.X_{c:St}{g:ga}{a:Nat}(I:Ut X E' c H s)(h:H p=some (.l x))(o:s.heap.get? p=some {cls:=.type "list",data:=.seq g.toArray n})(d:f {cls:=.type "list",data:=.seq g.toArray n}={cls:=.type "list",data:=.seq i.toArray a})(r:ZT y i)(z:y.length<=sizeLine)(t:Nat):
  Ut X E' c (upd H p<|.l y) {s with heap:=s.heap.update p f,toks:=t}:=by
 have e:(s.heap.update p f).get? p=some {cls:=.type "list",data:=.seq i.toArray a}:=by
  rw[SB f o (by rw[d] <;>rfl),d]
 refine I.write (by rw[h];trivial) (.inl O) (λb u j q=>(Ps _ _<|KF j).trans q) ⟨_,e⟩ ?_;exact⟨z,i,a,r,e⟩
def zM:V->V->V->Hp->(Hp->Prop)->Prop:=λo i v H Q=>∃p x k j,o=.r p/\i=.i k/\H p=some (.l x)/\gJ x.length k=some j/\Q (upd H p<|.l<|x.set j v)
theorem alX:Jz X zM:=by
 intro K s C H o i v E F u Q I y z x h;obtain⟨p,D,k,j,zq⟩:=ZO h;obtain⟨rfl,rfl,d,B,q⟩:=ZE zq;cases y;obtain⟨t,rfl⟩:=z;obtain⟨m,n,r,b,A⟩:=I.lst d;obtain⟨a,J,f,e⟩:=Xn (Kn B);have l:=r.length;have G:=rW;have w:=
  I.X_ d b (alW m n j u) (r.set x j) (by rw[gS];exact A) s.toks
 by_cases g:0<=k;have c:=by
  rw[seqIndex_of g e] at a;exact WV a
 exact PySem.W.ki_setAt b g ap (by rw[Xm,<-l];exact e) (by rw[c];exact⟨_,w,q⟩);have c:(k+(m.toArray.size:Int)).toNat=j:=by
  rw[seqIndex_neg ap f] at a;rw[Xm,<-l];exact WV a
 exact PySem.W.ki_setBack b ap (by rw[Xm,<-l];exact f) ap (by rw[c];exact⟨_,w,q⟩)
theorem Ds(l a:tz)(n:Nat):(sliceBounds l a none n).1=((HT.aV n 0 l:Nat):Int)/\(sliceBounds l a none n).2.1=((HT.aV n n a:Nat):Int)/\(sliceBounds l a none n).2.2=1:=by
 refine⟨?_,?_,O⟩;cases l with
 |none=>simp[sliceBounds,HT.aV]
 |some i=>
  simp only[sliceBounds,HT.aV,Option.getD_none,show(1:Int) >0 by lia,if_true];by_cases h:i<0;simp only[h,if_true] <;>lia
  simp only[h,Tl] <;>lia
 cases a with
 |none=>simp[sliceBounds,HT.aV]
 |some i=>
  simp only[sliceBounds,HT.aV,Option.getD_none,show(1:Int) >0 by lia,if_true];by_cases h:i<0;simp only[h,if_true] <;>lia
  simp only[h,Tl] <;>lia
theorem ahK(a:ga)(l h:tz):slicePick a.toArray l h none=((a.drop<|HT.aV a.length 0 l).take<|HT.aV a.length a.length h - HT.aV a.length 0 l).toArray:=by
 obtain⟨d,c,b⟩:=Ds l h a.toArray.size;unfold slicePick;rw[d,c,b];simp only[sliceRange_one,pick_run,Xm] <;>rfl
def anJ(K:Frag):V->tz->tz->Hp->VK->Prop:=λx o h H Q=>∃a s,x=.r a/\ah K H a s/\∀p,H p=none->Q (.r p) (upd H p<|.l<|c5 s o h)
theorem aeJ:zL X (anJ X.K):=by
 intro E s j H x v k u l i m Q I d g e p h;obtain⟨a,c,rfl,f,q⟩:=h;cases d;obtain⟨w,r,t,z⟩:=I.list f;have n:=r.length;refine oW ("list") _ slot_list_getitem.lookup t.isList.typeIs (wpAny_getItem_list_slice t.isList g e p .none ap ?_ (by rw[Xm] <;>lia));rw[ahK,<-n];refine⟨.r s.heap.objs.size,_,I.laid (λb o q=>KK _ q) (VL _) ?_,O,q _<|I.az.fresh<|VL _⟩;exact rS (wO (Dp c l i) z) _ 0 ((r.drop<|HT.aV c.length 0 l).take<|HT.aV c.length c.length i - HT.aV c.length 0 l) (On _ O)
noncomputable def je:V->Go
 |.a=>true
 |.b _=>true
 |.i _=>true
 |.s _=>true
 |_=>false
noncomputable def jf:V->V->Go
 |.a,.a=>true
 |.b a,.b b=>a==b
 |.b a,.i b=>(if a then 1 else 0)==b
 |.i a,.b b=>a==(if b then 1 else 0)
 |.i a,.i b=>a==b
 |.s a,.s b=>a==b
 |_,_=>false
theorem acN{s:Ev}(d:mL y u)(r:mL x v)(e:je y=true)(f:je x=true):SeqAt.EqAt A s u v (jf y x):=by
 cases y with
 |a=>
  cases d;cases x with
  |a=>cases r;exact SeqAt.EqAt.same _
  |b b=>cases r;exact SeqAt.EqAt.none_bool b
  |i b=>obtain⟨t,rfl⟩:=r;exact SeqAt.EqAt.none_int b t
  |s b=>obtain⟨t,rfl⟩:=r;exact SeqAt.EqAt.none_str b t
  |_=>exact absurd (show false=true from f) X8
 |b a=>
  cases d;cases x with
  |a=>cases r;exact SeqAt.EqAt.bool_none a
  |b b=>cases r;exact SeqAt.EqAt.bool_bool a b
  |i b=>obtain⟨t,rfl⟩:=r;exact SeqAt.EqAt.bool_int a b t
  |s b=>obtain⟨t,rfl⟩:=r;exact SeqAt.EqAt.bool_str a b t
  |_=>exact absurd (show false=true from f) X8
 |i a=>
  obtain⟨c,rfl⟩:=d;cases x with
  |a=>cases r;exact SeqAt.EqAt.int_none a c
  |b b=>cases r;exact SeqAt.EqAt.int_bool a c b
  |i b=>obtain⟨t,rfl⟩:=r;exact SeqAt.EqAt.int_int a c b t
  |s b=>obtain⟨t,rfl⟩:=r;exact SeqAt.EqAt.int_str a c b t
  |_=>exact absurd (show false=true from f) X8
 |s a=>
  obtain⟨c,rfl⟩:=d;cases x with
  |a=>cases r;exact SeqAt.EqAt.str_none a c
  |b b=>cases r;exact SeqAt.EqAt.str_bool a c b
  |i b=>obtain⟨t,rfl⟩:=r;exact SeqAt.EqAt.str_int a c b t
  |s b=>obtain⟨t,rfl⟩:=r;exact SeqAt.EqAt.str_str a c b t
  |_=>exact absurd (show false=true from f) X8
 |_=>exact absurd (show false=true from e) X8
def gL(x:V)(u:EQ):Go:=match u with
 |.none=>jf .a x
 |.bool b=>jf (.b b) x
 |.int i _=>jf (.i i) x
 |.str z _=>jf (.s z) x
 |_=>false
theorem Dt(r:mL y u)(f:je y=true):gL x u=jf y x:=by
 cases y with
 |a=>cases r;rfl
 |b b=>cases r;rfl
 |i i=>obtain⟨t,rfl⟩:=r;rfl
 |s z=>obtain⟨t,rfl⟩:=r;rfl
 |_=>exact absurd (show false=true from f) X8
theorem zN:∀{s:ci}{u:ga},ZT s u->s.all je=true->u.any (gL x)=s.any λy=>jf y x:=by
 intro Y Y h;induction h with
 |nil=>exact λY=>O
 |cons r Y i=>
  intro f;rw[ZD,Zu] at f;rw[Yh,Yh,Dt r f.1,i f.2]
theorem wJ{s:Ev}(e:mL x v)(g:je x=true):∀{b:ci}{c:ga},ZT b c->b.all je=true->∀u∈c,SeqAt.EqAt A s u v (gL x u):=by
 intro Y Y h;induction h with
 |nil=>exact nofun
 |cons r Y i=>
  intro f d a;rw[ZD,Zu] at f;rcases xW.mp a with rfl|a
  rw[Dt r f.1];exact acN r e f.1 g;exact i f.2 d a
def fD(x:V)(s:ci):Go:=s.any λy=>jf y x
def Du(K:Frag)(n:Go):R2:=λx y H Q=>∃p s,y=.r p/\(ah K H p s\/aB K H p s)/\je x=true/\s.all je=true/\Q (.b (if n then !fD x s else fD x s)) H
theorem agU:bo X (compareOp .In) (Du X.K false):=by
 intro E s j H x y v u Q I d i h;obtain⟨p,k,zq⟩:=XU h;obtain⟨rfl,a,e,f,q⟩:=ZE zq;cases i;rcases a with a|a
 obtain⟨g,r,l,z⟩:=I.list a;refine SeqAt.in_listAt (gL x) l.isList (λw c=>wJ d e r f w (by simpa using c)) ⟨.b _,H,I,O,?_⟩;rw[show g.toArray.any (gL x)=g.any (gL x) by simp,zN r f];exact q;obtain⟨g,r,l,z⟩:=I.tuple a;refine SeqAt.in_tupleAt (gL x) l (λw c=>wJ d e r f w (by simpa using c)) ⟨.b _,H,I,O,?_⟩;rw[show g.toArray.any (gL x)=g.any (gL x) by simp,zN r f];exact q
theorem aoY:bo X (compareOp .NotIn) (Du X.K true):=by
 intro E s j H x y v u Q I d i h;obtain⟨p,k,zq⟩:=XU h;obtain⟨rfl,a,e,f,q⟩:=ZE zq;cases i;rcases a with a|a
 obtain⟨g,r,l,z⟩:=I.list a;refine SeqAt.notIn_listAt (gL x) l.isList (λw c=>wJ d e r f w (by simpa using c)) ⟨.b _,H,I,O,?_⟩;rw[show g.toArray.any (gL x)=g.any (gL x) by simp,zN r f];exact q;obtain⟨g,r,l,z⟩:=I.tuple a;refine SeqAt.notIn_tupleAt (gL x) l (λw c=>wJ d e r f w (by simpa using c)) ⟨.b _,H,I,O,?_⟩;rw[show g.toArray.any (gL x)=g.any (gL x) by simp,zN r f];exact q
theorem dC.or(h:dC X f r)(d:dC X f c):dC X f (λx H Q=>r x H Q\/c x H Q):=by
 intro E s a H x u Q I b q;rcases q with q|q
 exact h E s a H x u Q I b q;exact d E s a H x u Q I b q
theorem aqG:dC X (.type "list") (λA H Q=>∃p y,A=[.r p]/\(ah X.K H p y\/aB X.K H p y)/\∀l,H l=none->Q (.r l) (upd H l<|.l y)):=by
 intro E s C H A F Q I r h;obtain⟨p,y,rfl,f,q⟩:=h;obtain⟨u,rfl,D⟩:=VZ r;cases D;have j:∀(g:ga),ZT y g->y.length<=sizeLine->∀(a:FS)(d:Nat),(∀b B,s.heap.get? b=some B->a.get? b=some B)->
   a.get? s.heap.objs.size=some {cls:=.type "list",dict:=none,data:=.seq g.toArray d,slots:= #[]}->EP X E C Q (.ref s.heap.objs.size) {s with heap:=a}:=λg c z a d k e=>
  ⟨.r s.heap.objs.size,_,I.laid k (VL _) (show cT X.prog X.w _ a _ (.l y) from⟨z,g,d,c,e⟩),O,q _<|I.az.fresh<|VL _⟩
 rcases f with f|f
 obtain⟨g,c,m,z⟩:=I.list f;have i:=c.length;obtain⟨o,t,x,n,v⟩:=m.isList;exact call_list_seq p (.inl O) t x v (λa d k e=>j g c z a d k e) (by simp <;>lia);obtain⟨g,c,m,z⟩:=I.tuple f;have i:=c.length;obtain⟨o,t,x,n,v⟩:=m;exact call_list_seq p (.inr O) t x v (λa d k e=>j g c z a d k e) (by simp <;>lia)
def uI(K:Frag)(T:GM)(x:V)(H:Hp):Prop:=match x with
 |.s _=>T="str"
 |.i _=>T="int"
 |.r p=>(T="list"/\∃a,ah K H p a)\/(T="tuple"/\∃o,K.lookup p=some o/\o.cls=.type "tuple"/\o.dict=none)\/
   (T="dict"/\((∃N,H p=some (.d N))\/∃N,H p=some (.T N)))\/(T="set"/\∃S n,H p=some (.s S n))
 |_=>False
theorem Kt{j:St}(I:Ut X E j H s)(r:mL x v)(y:uI X.K T x H):
  s.TypeIs v T/\∀a,v=.ref a->∃g,s.heap.get? a=some g/\g.dict=none:=by
 cases x with
 |s z=>
  obtain⟨t,rfl⟩:=r;cases (show T="str" from y);exact⟨WP s z t,λY e=>nomatch e⟩
 |i i=>
  obtain⟨t,rfl⟩:=r;cases (show T="int" from y);exact⟨typeIs_int s i t,λY e=>nomatch e⟩
 |r p=>
  cases r;rcases y with⟨rfl,m,q⟩|⟨rfl,o,h,k,d⟩|⟨rfl,h⟩|⟨rfl,S,n,h⟩
  obtain⟨u,zq⟩:=eT (I.list q);obtain⟨Y,l,Y⟩:=Xb zq;refine⟨l.isList.typeIs,λa e=>?_⟩;cases e;obtain⟨o,n,e,c,d,Y⟩:=l;exact nT o e d;refine⟨nT o (I.dY p o h) k,λa e=>?_⟩;cases e;exact nT o (I.dY _ o h) d;have z:∃o,s.heap.get? p=some o/\o.ExactDict:=by
   rcases h with⟨N,h⟩|⟨N,h⟩
   obtain⟨Y,Y,Y,Y,o,Y,Y,e,b,Y⟩:=I.az p _ h;exact nT o e b;obtain⟨Y,Y,Y,Y,o,Y,Y,e,b,Y⟩:=I.az p _ h;exact nT o e b
  obtain⟨o,e,b⟩:=z;refine⟨nT o e b.1,λa f=>?_⟩;cases f;exact nT o e b.2.1;obtain⟨o,Y,Y,Y,zq⟩:=ZO (I.az p _ h);obtain⟨e,b,Y⟩:=Xb zq;refine⟨nT o e b.1,λa f=>?_⟩;cases f;exact nT o e b.2.1
 |_=>exact False.elim y
def aoF(K:Frag)(T:GM)(r:V->ci->Hp->VK->Prop)(t:TE):TE:=λb H Q=>t b H λx a=>uI K T x a/\r x [] a Q
def anQ(K:Frag)(T:GM)(r:V->ci->Hp->VK->Prop)(o:TE)(t:TA):TE:=λa H Q=>o a H λx b=>uI K T x b/\t a b λs c=>r x s c Q
variable{o e:Expr}{f:on}{k:TE}{t:TA}{j:Str}{l c:Pos}{T i:GM}{r:V->ci->Hp->VK->Prop}
theorem aiV(p:PlainAttrs T)(t:Slot T j i)(z:typeOf (.builtin i)=pure (.type "method_descriptor"))(m:uH X i r)(f:PE X o k)(w:autoParam (attributeBase o j X.env (eval o X.env)=eval o X.env) dh)(D:autoParam ((l.endLine==c.line)=true) dh):PE X (.Call (.Attribute o j l) [] [] c) (aoF X.K T r k):=by
 intro E s a H Q I h;refine wpAny_Call_method0_late w D<|aA (f E s a H _ I h) λv e ⟨x,u,d,b,y,q⟩=>?_;obtain⟨n,g⟩:=Kt d b y;exact o4 T i p t z n ⟨g,Calls.callWith_builtin O<|PySem.evalArgs_none<|m E e a u x [] v [] Q d b .nil q⟩
theorem ahF(B:PlainAttrs T)(a:Slot T j i)(V:typeOf (.builtin i)=pure (.type "method_descriptor"))(F:uH X i r)(D:PE X o k)(G:PA X (e::f) t)(U:autoParam (attributeBase o j X.env (eval o X.env)=eval o X.env) dh)(M:autoParam (((backTo c (starEach (e::f) X.env)).all (λx=> !x.1) && (backToKw c (keywordEach [] X.env)).all (λx=>x.1.isSome)
   && decide ((e::f).length+([]:List Keyword).length+(if ([]:List Keyword).isEmpty then 0 else 1) <30))=true) dh)(S:autoParam ((l.endLine==c.line)=true) dh)(C:autoParam (starEach (e::f) X.env=(false,eval e X.env)::starEach f X.env) dh)(Y:autoParam ((backTo c<|starEach f X.env).any (·.1)=false) dh):
  PE X (.Call (.Attribute o j l) (e::f) [] c) (anQ X.K T r k t):=by
 intro E s b H Q I h;refine wpAny_Call_method_late U M S O<|aA (D E s b H _ I h) λv p ⟨x,R,g,d,y,z⟩=>?_;obtain⟨L,J⟩:=Kt g d y;refine o4 T i B a V L ⟨J,?_⟩;have A:=G c E p b R _ g z;rw[C] at A⊢;refine Calls.callWith_builtin (by show(false ||(backTo c<|starEach f X.env).any (·.1))=false;rw[Y] <;>rfl)<|Calls.evalArgs_plain ?_;exact aA A λu n ⟨m,P,N,q,w⟩=>F E n b P x m v u Q N d q w
end
theorem ZT.one:∀{x:V}{s:ga},ZT [x] s->∃u,s=[u]/\mL x u:=by
 intro Y Y h;cases h with
 |cons r k=>cases k;exact⟨_,O,r⟩
theorem ZT.zero:∀{u:ga},ZT [] u->u=[]
 |_,.nil=>O
theorem ZT.dropLast(h:ZT x u):ZT x.dropLast u.dropLast:=by
 induction h with
 |nil=>exact .nil
 |cons r t i=>
  cases t with
  |nil=>exact .nil
  |cons q a=>exact .cons r i
theorem ZT.rep(h:ZT x u):∀k:Nat,ZT (List.replicate k x).flatten (List.replicate k u).flatten
 | 0=>.nil
 |k+1=>by
  exact ZT.append h<|ZT.rep h k
theorem aiO{c:Type}(l:List c):l.eraseIdx (l.length - 1)=l.dropLast:=by
 induction l with
 |nil=>rfl
 |cons a r i=>
  cases r with
  |nil=>rfl
  |cons b r=>
   have e:(a::b::r).length - 1=((b::r).length - 1)+1:=by
    have d:(a::b::r).length=r.length+2:=O;have h:(b::r).length=r.length+1:=O;lia
   rw[e,List.eraseIdx_cons_succ,i]
   all_goals rfl
theorem G8(a:ga):∀(k:Nat)(Z:ga),
  List.foldl (λb x=>b++x) Z.toArray (List.replicate k a.toArray)=(Z++(List.replicate k a).flatten).toArray
 | 0,Z=>by simp
 |k+1,Z=>by
  have e:Z.toArray++a.toArray=(Z++a).toArray:=by simp
  have c:(Z++a)++(List.replicate k a).flatten=Z++(List.replicate (k+1) a).flatten:=by
   rw[B9,GJ,VD]
  rw[<-c,<-G8 a k (Z++a),<-e,B9,YF]
section
variable{X:Cx}{a:cy}{c:St}{H:Hp}{s:Ev}{l b:DL}{g d zs:ci}
theorem Ut.zP{b:ga}{f:lc->lc}(I:Ut X a c H s)(o:H l=some (.l g))(e:s.heap.get? l=some {cls:=.type "list",data:=.seq b.toArray n})(k:f b.toArray=i.toArray)(v:ZT d i)(h:d.length<=sizeLine):
  Ut X a c (upd H l<|.l d) {s with heap:=s.heap.update l (Obj.mapSeq f),toks:=t}:=by
 have q:=PySem.IsL.update e f;rw[k] at q;refine I.write (o▸trivial) (.inl O) (λp u m j=>(Ps s.heap (Obj.mapSeq f)<|KF m).trans j) ⟨_,q⟩ ?_;exact⟨h,i,_,v,q⟩
theorem Ut.Ku(I:Ut X a c H s)(v:ZT d ag)(h:d.length<=sizeLine):
  Ut X a c (upd H s.heap.objs.size<|.l d) {s with heap:=s.heap.push {cls:=.type "list",data:=.seq ag.toArray},toks:=t}:=
 I.laid (λY Y q=>KK _ q) (VL _) ⟨h,ag,0,v,On _ O⟩
theorem Ut.fresh(I:Ut X a c H s):H s.heap.objs.size=none:=I.az.fresh (VL _)
theorem Ut.qi(I:Ut X a c H s)(h:H l=some (.l g)):g.length<=sizeLine/\∃(b:ga)(n:Nat),ZT g b/\g.length=b.length/\s.heap.get? l=some {cls:=.type "list",data:=.seq b.toArray n}:=by
 obtain⟨z,b,n,r,e⟩:=I.az l _ h;exact⟨z,b,n,r,r.length,e⟩
theorem Kv(h:n<=sizeLine):Builtin.List.listTooLong n=false:=by
 exact VH (Zq h)
end
section
variable{X:Cx}
def apE:V->ci->Hp->VK->Prop:=λx v H Q=>∃l s y,x=.r l/\v=[y]/\H l=some (.l s)/\s.length<sizeLine/\Q .a (upd H l<|.l<|s++[y])
theorem Yp:uH X "list.append" apE:=by
 intro E s i H x k v m Q I c d h;obtain⟨l,j,y,rfl,rfl,b,o,q⟩:=h;cases c;obtain⟨u,rfl,f⟩:=d.one;obtain⟨z,g,n,r,p,e⟩:=I.qi b;refine P3 wH ⟨_,e,O⟩ F.entry_list_append (F.args_list_append_2 _ _) (PySem.list_append l g.toArray n u (by rw[Xm];lia)) ⟨e,?_⟩;refine⟨.a,_,I.zP b e aJ (r.append<|.cons f .nil) ?_,O,q⟩;rw[W0,ZS];exact X5 o
def alV:V->ci->Hp->VK->Prop:=λx v H Q=>∃l b s z,x=.r l/\v=[.r b]/\H l=some (.l s)/\H b=some (.l z)/\s.length+z.length<=sizeLine/\Q .a (upd H l<|.l<|s++z)
theorem amA:uH X "list.extend" alV:=by
 intro L s t H x C v E Q I f i h;obtain⟨l,b,A,w,zq⟩:=ZO h;obtain⟨rfl,rfl,d,B,G,q⟩:=Yk zq;cases f;obtain⟨u,rfl,j⟩:=i.one;cases j;obtain⟨z,g,n,r,J,e⟩:=I.qi d;obtain⟨y,m,o,k,K,p⟩:=I.qi B;have c:g.toArray.size+m.toArray.size<=sizeLine:=by rw[Xm,Xm];lia
 have D:¬(!g.toArray.isEmpty && Builtin.List.listTooLong (g.toArray.size+m.toArray.size))=true:=by
  rw[Kv c,Bool.and_false];exact X8
 refine P3 F.slot_list_extend ⟨_,e,O⟩ F.entry_list_extend (F.args_list_extend_2 _ _)
  (AutoSeq1.list_extend_list_list_0 l g.toArray n b m.toArray o D (wO (j9 _ _) c) (hB c)) ⟨e,p,?_⟩
 refine⟨.a,_,I.zP d e aJ (r.append k) ?_,O,q⟩;rw[W0];exact G
def Ys:V->ci->Hp->VK->Prop:=λx v H Q=>∃l s y,x=.r l/\v=[]/\H l=some (.l s)/\s[s.length - 1]?=some y/\Q y (upd H l<|.l s.dropLast)
theorem anC:uH X "list.pop" Ys:=by
 intro E s k H x o v p Q I c d h;obtain⟨l,m,y,zq⟩:=XM h;obtain⟨rfl,rfl,b,g,q⟩:=ZE zq;cases c;have D:=d.zero;subst D;obtain⟨z,a,n,r,j,e⟩:=I.qi b;obtain⟨u,i,f⟩:=r.get g;have Z:=by
  show a.toArray[a.length - 1]?=some u;rw[<-Array.getElem?_toList,<-j];exact i
 refine P3 F.slot_list_pop ⟨_,e,O⟩ F.entry_list_pop (F.args_list_pop_1 _) (MeetsSeq.list_pop_last l a.toArray n u Z (by rw[Xm];lia)) ⟨e,?_⟩;refine⟨y,_,I.zP b e ?_ r.dropLast ?_,f,q⟩;rw[Xm,List.eraseIdxIfInBounds_toArray,aiO];rw[zH];exact wO (Xr _ _) z
def Yu:V->ci->Hp->VK->Prop:=λx v H Q=>∃l s,x=.r l/\v=[]/\H l=some (.l s)/\Q .a (upd H l<|.l [])
theorem amC:uH X "list.clear" Yu:=by
 intro E s f H x j v u Q I c d h;obtain⟨l,i,rfl,rfl,b,q⟩:=h;cases c;have D:=d.zero;subst D;obtain⟨z,g,n,r,k,e⟩:=I.qi b;refine P3 F.slot_list_clear ⟨_,e,O⟩ F.entry_list_clear (F.args_list_clear_1 _) (AutoSeq1.list_clear_list_0 l g.toArray n (by rw[Xm];lia)) ⟨e,?_⟩;exact⟨.a,_,I.zP b e O .nil<|Ww _,O,q⟩
def Kw:R2:=λx y H Q=>∃l b s z,x=.r l/\y=.r b/\H l=some (.l s)/\H b=some (.l z)/\s.length+z.length<=sizeLine/\∀p,H p=none->Q (.r p) (upd H p<|.l<|s++z)
theorem apJ:bo X (binaryOp .Add) Kw:=by
 intro E s m H x y v u Q I d c h;obtain⟨l,b,t,o,zq⟩:=ZO h;obtain⟨rfl,rfl,i,B,A,q⟩:=Yk zq;cases d;cases c;obtain⟨z,a,n,r,C,e⟩:=I.qi i;obtain⟨p,g,w,f,D,k⟩:=I.qi B;refine PySem.P.add_list e k ?_ (by rw[Xm,Xm];lia);have j:a.toArray++g.toArray=(a++g).toArray:=by simp
 rw[j];exact⟨.r _,_,I.Ku (r.append f) (by rw[W0];exact A),O,q _ I.fresh⟩
def Kx:R2:=λx y H Q=>∃l k s,x=.r l/\y=.i k/\H l=some (.l s)/\ -(2 ^ 63)<=k/\k<2 ^ 63/\s.length*k.toNat<=sizeLine/\
 ∀p,H p=none->Q (.r p) (upd H p<|.l (List.replicate k.toNat s).flatten)
theorem apP{a:Type}(x:List a)(k:Nat):(List.replicate k x).flatten.length=k*x.length:=by simp
theorem agM:bo X (binaryOp .Mult) Kx:=by
 intro M s G H x y v u Q I o j h;obtain⟨l,k,K,zq⟩:=XM h;obtain⟨rfl,rfl,w,B,A,c,q⟩:=ZV zq;cases o;obtain⟨t,rfl⟩:=j;obtain⟨z,g,n,r,p,e⟩:=I.qi w;have b:g.toArray.size*k.toNat<=sizeLine:=by rw[Xm,<-p];exact c
 have D:¬g.toArray.size*k.toNat>(2 ^ 63 - 1) / 8:=by
  have:(sizeLine:Nat)<= (2 ^ 63 - 1) / 8:=by decide
  exact Zq (wO b this)
 have Y:¬(!Builtin.List.listFitsIndex k)=true:=by
  rw[fitsIndex_both B A];exact X8
 have E:¬Builtin.List.listTooLong (g.toArray.size*k.toNat)=true:=by
  rw[Kv b];exact X8
 have J:List.foldl (λf d=>f++d) #[] (List.replicate (if g.toArray.isEmpty=true then 0 else k.toNat) g.toArray)=(List.replicate k.toNat g).flatten.toArray:=by
  have C:=λm=>by
   have:=G8 g m [];rw[X3] at this;exact this
  rw[C];cases g with
  |nil=>simp
  |cons a L=>rw[Ix aJ]
 refine wpAny_binaryOp_repeat_ref (O) ⟨_,e,O⟩ (λi=>typeIs_int i k t) noFill_list_mul F.fills_int_mul F.slot_int_rmul repeat_list F.slot_int_index.lookup
  (P3 F.slot_int_rmul (typeIs_int s k t) F.entry_int_rmul (F.args_int_rmul_2 _ _) (int___rmul___int_list k t l g.toArray n)
   ⟨e,O,⟨_,e,O⟩,P3 F.slot_list_mul ⟨_,e,O⟩ F.entry_list_mul (F.args_list_mul_2 _ _) (AutoListH.list___mul___list_int_3 l g.toArray n k t Y D E) ⟨e,?_⟩⟩)
 rw[J];exact⟨.r _,_,I.Ku (r.rep k.toNat) (by rw[apP,Nat.mul_comm];exact c),O,q _ I.fresh⟩
end
end
namespace Ky
open PySem PySem.W PySem.Calls PyProof.Rows
theorem YA{h:FS}:∀(s:AC)(v:ga),WellAll P h v (s.map WData.int)->IntsAre v s:=by
 intro s;induction s with
 |nil=>
  intro v w;cases w;exact .nil
 |cons n s i=>
  intro v w;cases w with
  |cons a b=>
   cases a;exact .cons _ _<|i _ b
theorem amI{l:OpenLaw}(m:l.most=some n){h:FS}{v:ga}(o:l.row.toRowW.claim.pre s=true)(z:WellAll P h v s):
  ∃a g b,v=[Value.ref a]/\s=[WData.list<|b.map WData.int]/\h.get? a=some {cls:=.type "list",data:=.seq g.toArray}/\IntsAre g b/\b.length<=n:=by
 obtain⟨d,r,rfl,u,t⟩:=hasAllW_cons ((pre_splitW o).1);obtain rfl:=hasAllW_nil t;obtain⟨x,rfl,p⟩:=hasW_list u;obtain⟨b,rfl⟩:=items_int p;have c:b.length<=n:=by
  have e:=by
   have e:=(holds_andW ((pre_splitW o).2)).1;rw[m] at e;exact e
  have f:=condW_of e (w_not<|w_lt w_lit<|w_len_list<|w_arg O);refine Nat.le_of_not_lt λq=>?_
  first
   | (rw[Z2 q'] at f;cases (O) f)
   | (simp at f;omega)
 cases z with
 |cons i w=>
  cases w;cases i with
  |list k j=>exact pG _ _ b O O k (YA b _ j) c
theorem aoN(l:OpenLaw)(a:List WData):l.row.toRowW.claim.post a (.bool true) a=true:=
 postW_of
  (show WShape.has [] (.bool true) .bool=true by first|rfl|decide|simp)
  (show(WTm.eq .res<|.lit<|.bool true).value [] {args:=a,res:=some (.bool true),after:=a}=some (.bool<|true==true) from w_eq_bool (w_res O) w_lit) O
theorem YE{l:OpenLaw}{q:Fa}{e:bi}{X:(ge)->FS->Prop}{P:Fk->FS->Prop}(I:l.most=some n)(A:d.params.defaults=[])(i:∀(w:Fk)(s W:Ev)(m u:ge)(g:DL)(o:Obj)(t p c:EQ)(a:DL)(v:ga)(k:AC),
   Ground q e [] X w s m u W.heap->P w W.heap->
   W.heap.get? g=some o->o.data=.func (docDef d.name d.params d.body d.scope t p c)->W.heap.CodeRec p d.name->m d.name=some (.ref g)->
   W.heap.get? a=some {cls:=.type "list",data:=.seq v.toArray}->IntsAre v k->k.length<=n->W.gens= #[]->
   codeAny (model l.prog w) callerA (.call (.ref g) ⟨[.ref a],[]⟩) (λr j=>r=.ok (.ret (.bool true))/\OldK W.heap j.heap/\j.os=W.os/\AllBare j.gens) W):
  WalkO q e X P l.row.toRowW d [] (λf v=>PySem.call f v):=by
 intro w s W m u G Y g o t p c S V H M C D K L y x as B U E z zR;obtain rfl:S=.none:=Dflts.none D A;obtain rfl:V=.none:=Dflts.noKw D;obtain⟨a,v,k,zq⟩:=XM (amI I B z);obtain⟨rfl,rfl,Z,h,b⟩:=ZE zq;refine enter_call<|UV (i w s W m u g o t p c a v k G Y H (fd_plain M) C K Z h b L) λr j F=>?_;obtain⟨rfl,R,Q,N⟩:=F;exact⟨.inl (pG (.bool true) (.bool true) [] O (λT=>O) (.bool true) (aoN l _) (λT=> ⟨List.Pairwise.nil,λT J=>(nomatch J)⟩)),R,Q,N⟩
section
variable{prog:Fa}{w:Fk}{A:Gc}{E:cr}{s:Ev}{K:Frag}
end
end Ky
section
open PyProof.Rows
theorem apO:∀{v:ga}{s:AC},IntsAre v s->ZT (s.map V.i) v:=by
 intro Y Y h;induction h with
 |nil=>exact .nil
 |cons n t Y i=>exact .cons ⟨t,O⟩ i
def DB(H:Hp):Prop:= ∀b,H b=none\/∃o x,H b=some (.c o<|.l x)
theorem anI{K:Frag}{A I:ge}{t:ga}{y:AC}(KX:K.In W.heap)(T:W.heap.Ns mainGlobals A)(f:W.heap.Ns builtinsNs I)(YH:∀x:Str,x≠"__name__"->I x=bootBuiltins x)(YI:W.heap.NoLimit)(hg:W.gens= #[])(C:W.heap.get? a=some {cls:=.type "list",data:=.seq t.toArray})(X:IntsAre t y)(U:y.length<=sizeLine)(hr:dZ k callerA)(F:∀j:FS,K.In j->j.Ns mainGlobals A->dD P w K A j CX k L fd [x] Q)(YJ:∀(s:Ev)(u:EQ),BindsTo s fd ⟨[u],[]⟩ [(x,u)])(qg:∀H:Hp,DB H->ah K H a (y.map V.i)->Q [.r a] H (λv _=>v=.b true) λ_ _ _=>False)(DC:∀H e g,CX [] H W (λ_ _ _=>False) e g->False):
  codeAny (model P w) callerA (.call (.ref L) ⟨[.ref a],[]⟩) (λr g=>r=.ok (.ret<|.bool true)/\OldK W.heap g.heap/\g.os=W.os/\AllBare g.gens) W:=by
 have rv:=apO X;have p:∀H:Hp,DB H->ah K H a (y.map V.i)->cN P w H W.heap->(∀b,H b≠none->b=a)->(H a≠none->K.lookup a=none)->
   codeAny (model P w) callerA (.call (.ref L) ⟨[.ref a],[]⟩) (λr g=>r=.ok (.ret<|.bool true)/\OldK W.heap g.heap/\g.os=W.os/\AllBare g.gens) W:=by
  intro H Y hS az Z hK;have R:∀{b:DL}{o:Obj},W.heap.get? b=some o->H b=none->(oF W.heap H).get? b=some o:=λe n=>anZ e n;have wG:∀{b:DL}{o:Obj}{D:Array DictEntry}{E:Nat},W.heap.get? b=some o->o.data=.dict D E->H b=none:=λ{b o D E} e d=>by
   cases q:H b with
   |none=>rfl
   |some u=>
    have M:b=a:=Z b (by rw[q];simp);subst M;rw[C] at e;cases e;cases d
  have S:∀{b:DL}{m:ge},W.heap.Ns b m->(oF W.heap H).Ns b m:=λ{b m} ⟨o,D,E,e,d,r⟩=>o3 o ⟨D,E,R e<|wG e d,d,r⟩;have Kz:=λb o e=>R (KX b o e) (by
   cases q:H b with
   |none=>rfl
   |some u=>
    have M:b=a:=Z b (by rw[q];simp);subst M;rw[hK (by rw[q];simp)] at e;cases e)
  have hM:Mod K A (oF W.heap H):=⟨Kz,S T,nT I (S f) YH,let ⟨mc,h1,h2⟩:=YI;(nT mc (S h1) h2)⟩;have e0:qf P w K A (oF W.heap H) callerA [] W H:=⟨O,hM,λb o e=>amD e,VN<|aiA _ _,trivial,λb f=>absurd (show b∈ ([]:db) from f) aJ,az,.of_eq hg⟩;refine UV ((F _ Kz<|S T).run callerA [] W H ⟨[.ref a],[]⟩ [.ref a] [.r a] _ _ hr e0 (YJ W<|.ref a) (.cons O .nil)<|qg H Y hS) λr g h=>?_;cases r with
  |error e=>exact(DC H e g h).elim
  |ok fl=>
   cases fl with
   |next=>exact False.elim h
   |brk=>exact False.elim h
   |cont=>exact False.elim h
   |ret u=>
    obtain⟨v,H',zq⟩:=XU h;obtain⟨os,B,N,YK,r',q⟩:=Yk zq;subst q;obtain rfl:u=Value.bool true:=r';refine⟨O,OldK.of_keep λb o e=>?_,os,B⟩;cases q:H b with
    |none=>exact N.keep b o e q (by intro z;exact absurd (show b∈ ([]:db) from z) aJ) aJ
    |some u=>
     rcases Y b with z|⟨ob,xs,z⟩
     rw[q] at z;cases z;obtain⟨e1,_⟩:=az b _ z;obtain⟨e2,_⟩:=YK b _ (N.jC b ob _ z);rw[e] at e1;cases e1;exact e2
 cases J:K.lookup a with
 |some o=>
  have e:=KX a o J;rw[C] at e;cases e;refine p (λ_=>none) (λ_=>.inl O) (.inr (pG _ t.toArray _ J O O O ⟨by rw[Xm,X.length];exact U,ap⟩)) (λb u z=>by lia) (λb z=>absurd O z) λz=>absurd O z
 |none=>
  refine p (λb=>if b=a then some (.c {cls:=.type "list",data:=.seq t.toArray}<|.l<|y.map V.i) else none) (λb=>?_) (.inl<|.inr ⟨{cls:=.type "list",data:=.seq t.toArray},Id O⟩) (λb u z=>?_) (λb z=>?_) λ_=>J;by_cases f:b=a;exact .inr (o3 _ ⟨_,Id f⟩);exact .inl (Ix f);by_cases f:b=a;have G:=(Id f).symm.trans z;cases G;subst f;exact⟨C,rS (by rw[XN];exact U) t _ rv C⟩;have G:=(Ix f).symm.trans z;cases G;by_cases f:b=a;exact f;exact absurd (Ix f) z
theorem aqM{l:PySem.W.OpenLaw}{q:Fa}{m:bi}{XP:(ge)->FS->Prop}{P:Fk->FS->Prop}{K:Params->Frag}{I:Fk->cZ}{E:Fk->Sp}(Q:l.most=some n)(U:n<=sizeLine)(L:d.params.defaults=[])(N:dZ k callerA)(Z:∀(w:Fk)(h:FS),P w h->(K w.params).In h)(F:∀(w:Fk)(t:ge)(z:DL)(h:FS),(K w.params).In h->h.Ns mainGlobals t->t d.name=some (.ref z)->
   ∃B:GE,(∀(s:Ev)(u:EQ),BindsTo s B ⟨[u],[]⟩ [(x,u)])/\
    ∀c:FS,(K w.params).In c->c.Ns mainGlobals t->dD l.prog w (K w.params) t c (I w) k z B [x] (E w))(M:∀(w:Fk)(H:Hp)(a:DL)(y:AC),y.length<=n->DB H->ah (K w.params) H a (y.map V.i)->E w [.r a] H (λv O=>v=.b true) λO O O=>False)(DC:∀(w:Fk)(H:Hp)(s:Ev)(e:EQ)(A:Ev),I w [] H s (λO O O=>False) e A->False):
  PySem.W.WalkO q m XP P l.row.toRowW d [] (λf C=>PySem.call f C):=by
 refine Ky.YE Q L λw D W' t mb z o pm cd a' a C y G Y ho hd m5 J DA p j R=>?_;have X:=Z w _ Y;obtain⟨B,S,hF⟩:=F w t z _ X G.T.g J;exact anI X G.T.g G.T.b G.T.builtins G.T.nolimit R DA p (wO j U) N hF S (λH hO hS=>M w H a y j hO hS) λH e A=>DC w H W' e A
noncomputable def X1(s:Fr)(j:Nat):Fr:=match s with
 |.ClassDef _ _ _ b _ _ _ _ _ _ _=>b.getD j (.Pass ⟨0,0,0,0⟩)
 |_=>.Pass ⟨0,0,0,0⟩
noncomputable def j7(s:Fr):Arguments:=match s with
 |.FunctionDef _ a _ _ _ _ _ _ _ _=>a
 |_=> {posonlyargs:=[],args:=[],vararg:=none,kwonlyargs:=[],kw_defaults:=[],kwarg:=none,defaults:=[]}
noncomputable def gp(s:Fr):List Fr:=match s with
 |.FunctionDef _ _ b _ _ _ _ _ _ _=>b
 |_=>[]
noncomputable def gW(s:Fr):Scope:=match s with
 |.FunctionDef _ _ _ _ _ _ c _ _ _=>c
 |_=> {kind:=.function,names:=[],isGenerator:=false,isCoroutine:=false}
abbrev wM:cZ:=λ_ _ _ _ _ _=>False
abbrev E0:XK:=λ_ _ _=>False
structure sj(K:Frag)(x qual:Str)(st:Fr)(f:DL)(fd:GE):Prop where
 ex:∃(oc:EQ)(od:wP)(kV doc pm:EQ)(an:wP)(bH ct:EQ)(j6:Array AT),
  fd=PySem.W.fnOf x qual (j7 st) (gp st) (gW st) .none kV doc pm an bH ct/\K.lookup f=some ⟨oc,od,.func fd,j6⟩/\PySem.W.codeIn K bH qual=true
 kp:PySem.W.keepIn K (.ref f)=true
section
variable{P:Fa}{w:Fk}{K:Frag}{mg:ge}{base:FS}
theorem sj.binds{p:bi}(F:sj K x q s f e)(h:∀(k d m:EQ)(a:wP)(b c:EQ)(u:ga),u.length=p.length->bindArgs (PySem.W.fnOf x q (j7 s) (gp s) (gW s) .none k d m a b c) ⟨u,[]⟩=pure (p.zip u)):Wz K e p []:=by
 obtain⟨g,o,k,d,m,a,b,c,j,zq⟩:=uJ F.ex;obtain⟨rfl,l,i⟩:=Xb zq;exact .all<|h k d m a b c
theorem KA{f:DL}{e:EQ}{o a:wP}{j:Array AT}{V d p b t:EQ}(l:K.lookup f=some ⟨e,o,.func<|PySem.W.fnOf x q (j7 s) (gp s) (gW s) .none V d p a b t,j⟩)(c:PySem.W.codeIn K b q=true)(k:PySem.W.keepIn K (.ref f)=true):sj K x q s f (PySem.W.fnOf x q (j7 s) (gp s) (gW s) .none V d p a b t):=⟨qC e o V d p a b t ⟨j,O,l,c⟩,k⟩
end
theorem jg{B:Prop}(h:B):if false=true then A else B:=by lia
theorem gX{B:Prop}(h:A):if true=true then A else B:=by lia
theorem j8{B:Prop}[Decidable c](a:c->A)(h:¬c->B):if c then A else B:=by lia
def ar(H a:Hp):Prop:= ∀b o,H b=some o->a b=some o
theorem ar.refl(H:Hp):ar H H:=λY Y h=>h
theorem ar.trans(a:ar H e)(b:ar e d):ar H d:=λc o h=>b c o (a c o h)
theorem ar.free(e:ar H a)(h:a l=Option.none):H l=Option.none:=by
 cases q:H l with
 |none=>rfl
 |some o=>
  rw[e l o q] at h;cases h
theorem ar.seq{K:Frag}(e:ar H b)(h:ah K H a x):ah K b a x:=by
 rcases h with(h|⟨o,h⟩)|h
 exact .inl (.inl<|e _ _ h);exact .inl (.inr ⟨o,e _ _ h⟩);exact .inr h
section
variable{c:Type}[DecidableEq c]
noncomputable def cm(N:List (c×V))(k:c):v0:=(N.find? λv=>decide (v.1=k)).map (·.2)
noncomputable def Yx(N:List (c×V))(k:c)(v:V):List (c×V):=
 if (N.any λa=>decide (a.1=k))=true then N.map (λa=>if a.1=k then (a.1,v) else a) else N++[(k,v)]
theorem iH{r:List (c×V)}(e:p.1=k):cm (p::r) k=some p.2:=by simp[cm,nA,e]
theorem jE{r:List (c×V)}(e:¬p.1=k):cm (p::r) k=cm r k:=by simp[cm,nA,e]
theorem wN(k:c):∀N:List (c×V),(N.any λv=>decide (v.1=k))=(cm N k).isSome
 |[]=>O
 |p::r=>by
  rw[Yh];by_cases e:p.1=k;simp only[iH e,Z2 e,Bool.true_or,Option.isSome_some];rw[jE e,VH e];exact wN k r
theorem KC(k j:c)(y:V):∀N:List (c×V),cm (N.map λv=>if v.1=k then (v.1,y) else v) j=(cm N j).map λx=>if j=k then y else x
 |[]=>O
 |p::r=>by
  have i:=KC k j y r;rw[AP];by_cases h:p.1=k;rw[Id h];by_cases e:p.1=j;rw[iH (p:=(p.1,y)) e,iH e,WZ,Id<|e.symm.trans h];rw[jE (p:=(p.1,y)) e,jE e,i];rw[Ix h];by_cases e:p.1=j;rw[iH e,iH e,WZ,Ix<|λz=>h<|e.trans z];rw[jE e,jE e,i]
theorem KD(k j:c)(y:V):∀N:List (c×V),cm N k=none->cm (N++[(k,y)]) j=if j=k then some y else cm N j
 |[],_=>by
  by_cases e:k=j;rw[Id e.symm];exact iH e;rw[Ix<|λz=>e z.symm];exact jE e
 |p::r,h=>by
  rw[hY];have a:¬p.1=k:=λz=>by rw[iH z] at h;cases h
  rw[jE a] at h;by_cases e:p.1=j;rw[iH e,iH e,Ix<|λz=>a<|e.trans z];rw[jE e,jE e,(KD k j y r h)]
theorem aoL(N:List (c×V))(k j:c)(y:V):cm (Yx N k y) j=if j=k then some y else cm N j:=by
 unfold Yx;by_cases a:(N.any λv=>decide (v.1=k))=true;rw[Id a,KC];rw[wN] at a;by_cases e:j=k;obtain⟨x,h⟩:=Option.isSome_iff_exists.mp a;rw[Id e,e,h,WZ,Id O];rw[Ix e];cases cm N j with
 |none=>rfl
 |some x=>rw[WZ,Ix e]
 rw[Ix a];refine KD k j y N ?_;rw[wN] at a;cases q:cm N k with
 |none=>rfl
 |some x=>rw[q] at a;cases a O
theorem DE(N:List (c×V))(k:c)(v:V):(Yx N k v).length<=N.length+1:=by
 unfold Yx;split;rw[XN];exact Yr _;rw[W0,d_,VO];exact VL _
theorem aaP{k:c}(v:V)(h:cm N k=none):Yx N k v=N++[(k,v)]:=by
 unfold Yx;rw[wN,h];exact Ix aJ
theorem iE.wQ(r:iE o u):o.isSome=u.isSome:=by
 cases o with
 |none=>cases u with
  |none=>rfl
  |some Y=>exact(show False from r).elim
 |some Y=>cases u with
  |none=>exact(show False from r).elim
  |some Y=>rfl
theorem KV.val(r:KV N v)(k:c):iE (cm N k) (valueAt v k):=by
 induction r with
 |nil=>exact True.intro
 | @cons p q g s h t i=>
  obtain⟨d,f⟩:=h;by_cases e:p.1=k;have a:=d.symm.trans e;have b:valueAt (q::s) k=some q.2:=by simp[valueAt,nA,a]
  rw[iH e,b];exact f;have a:¬q.1=k:=λz=>e (d.trans z);have b:valueAt (q::s) k=valueAt s k:=by simp[valueAt,nA,a]
  rw[jE e,b];exact i
theorem KV.any(r:KV N s)(k:c):(N.any λv=>decide (v.1=k))=s.any λv=>decide (v.1=k):=by
 induction r with
 |nil=>rfl
 |cons h t i=>rw[Yh,Yh,i,h.1]
theorem KV.DF(r:KV N s)(k:c)(b:mL y u):
  KV (N.map λv=>if v.1=k then (v.1,y) else v) (s.map λv=>if v.1=k then (v.1,u) else v):=by
 induction r with
 |nil=>exact .nil
 | @cons p q g f h t i=>
  rw[AP,AP];refine .cons ?_ i;obtain⟨a,d⟩:=h;by_cases e:p.1=k;rw[Id e,Id<|a.symm.trans e];exact⟨a,b⟩;rw[Ix e,Ix<|λz=>e<|a.trans z];exact⟨a,d⟩
theorem KV.put(r:KV N v)(k:c)(a:mL y u):KV (Yx N k y) (stored v k u):=by
 unfold Yx stored;rw[r.any k];by_cases e:(v.any λb=>decide (b.1=k))=true;rw[Id e,Id e];exact r.DF k a;rw[Ix e,Ix e];exact Tm r ⟨O,a⟩
theorem KV.length{v:List (c×EQ)}(r:KV N v):N.length=v.length:=KB r
end
theorem uK(r:mL (kV k) u):(c9 P w).is k u=true:=by
 cases k with
 |inl i=>obtain⟨t,e⟩:=(show ∃t,u=Value.int i t from r);subst e;exact apN P w i t
 |inr x=>obtain⟨t,e⟩:=(show ∃t,u=Value.str x t from r);subst e;exact zj P w x t
theorem KG:∀{s:Db}{u:ga},ZT (s.map kV) u->ItemsAre (c9 P w) s u
 |[],_,r=>by cases r;exact .nil
 |k::s,_,r=>by
  cases r with
  |cons h t=>exact .cons (uK h) (KG t)
abbrev KT(H:Hp):io->ww->Prop:=Paired λp q=>p.1=q.1/\H q.2.1=some (.t<|p.1.map kV)/\mL p.2 q.2.2
theorem KT.val(r:KT H N x)(k:Db):iE (cm N k) ((atKey x k).map (·.2)):=by
 induction r with
 |nil=>exact True.intro
 | @cons p q f s h t i=>
  obtain⟨c,Y,d⟩:=h;by_cases e:p.1=k;have a:=c.symm.trans e;have b:atKey (q::s) k=some q.2:=by simp[atKey,nA,a]
  rw[iH e,b];exact d;have a:¬q.1=k:=λz=>e (c.trans z);have b:atKey (q::s) k=atKey s k:=by simp[atKey,nA,a]
  rw[jE e,b];exact i
theorem KT.DF(r:KT H N x)(k:Db)(c:mL y u):
  KT H (N.map λv=>if v.1=k then (v.1,y) else v) (x.map<|putAt k u):=by
 induction r with
 |nil=>exact .nil
 | @cons p q f s h t i=>
  rw[AP];refine .cons ?_ i;obtain⟨a,b,d⟩:=h;unfold putAt;by_cases e:p.1=k;rw[Id e,Id<|a.symm.trans e];exact⟨a,b,c⟩;rw[Ix e,Ix<|λz=>e<|a.trans z];exact⟨a,b,d⟩
theorem KT.put(r:KT H N x)(k:Db)(h:H b=some (.t<|k.map kV))(a:mL y u):
  KT H (Yx N k y) (storedH x k b u):=by
 have e:(N.any λv=>decide (v.1=k))=(atKey x k).isSome:=by
  rw[wN,(r.val k).wQ,tX]
 unfold Yx storedH;rw[e];by_cases q:(atKey x k).isSome=true;rw[Id q,Id q];exact r.DF k a;rw[Ix q,Ix q];exact Tm r ⟨O,h,a⟩
theorem KT.keeps(r:KT H N x)(h:∀b y,H b=some (.t y)->a b=some (.t y)):KT a N x:=
 Paired.CO r λY Y z=>⟨z.1,h _ _ z.2.1,z.2.2⟩
section
variable{P:Fa}{w:Fk}{H:Hp}{h:FS}{a:DL}
theorem KH(o:cN P w H h)(e:Rd H a u):cT P w H h a u:=e.ok o
theorem wR(o:cN P w H h)(e:Rd H a (.d N)):N.length<=sizeLine/\(a==sysModules)=false/\∃v,KV N v/\h.DictOf (c9 P w) a v:=
 show cT P w H h a (.d N) from KH o e
theorem KI(o:cN P w H h)(e:H a=some (.d N)):N.length<=sizeLine/\(a==sysModules)=false/\∃v,KV N v/\h.DictOf (c9 P w) a v:=wR o (.inl e)
theorem uL(b:cN P w H h)(e:H a=some (.t<|k.map kV)):(tupleKind<|c9 P w).is h k a:=by
 obtain⟨Y,g,r,o,f,d,n,c⟩:=(show cT P w H h a (.t<|k.map kV) from b a _ e);exact q9 o g.toArray n f d c (by simpa using KG r)
theorem wU(k:cN P w H h)(e:Rd H a (.T N)):N.length<=sizeLine/\(a==sysModules)=false/\
  ∃s,KT H N s/\h.DictOfH (tupleKind<|c9 P w) a s:=by
 obtain⟨z,y,s,r,o,u,v,n,j,g,f,d⟩:=(show cT P w H h a (.T N) from KH k e);refine⟨z,y,s,r,o,u,v,n,j,g,f,λx b=>?_,d⟩;have c:∀{l:io}{m:ww},KT H l m->∀x∈m,(tupleKind<|c9 P w).is h x.1 x.2.1:=by
  intro l m q;induction q with
  |nil=>intro x b;exact nomatch b
  | @cons p q B A C t i=>
   intro x b;rcases xW.mp b with e|b
   exact uL k ap;exact i x b
 exact c r x b
theorem amM(o:cN P w H h)(e:H a=some (.T N)):N.length<=sizeLine/\(a==sysModules)=false/\
  ∃x,KT H N x/\h.DictOfH (tupleKind<|c9 P w) a x:=wU o (.inl e)
end
def fE(H:Hp)(a:DL)(y:V)(r:v0):Prop:=
 (∃N k,Rd H a (.d N)/\y=kV k/\r=cm N k)\/∃N k b,Rd H a (.T N)/\y=.r b/\H b=some (.t<|k.map kV)/\r=cm N k
def l9(H:Hp)(a:DL)(y v:V)(c:Hp):Prop:=
 (∃N k,H a=some (.d N)/\y=kV k/\N.length<sizeLine/\c=upd H a (.d<|Yx N k v))\/
 ∃N k b,H a=some (.T N)/\y=.r b/\H b=some (.t<|k.map kV)/\N.length<sizeLine/\c=upd H a (.T<|Yx N k v)
theorem fE.k{a:DL}{N:ii}{k:We}(e:H a=some (.d N)):fE H a (kV k) (cm N k):=.inl ⟨N,k,.inl e,O,O⟩
theorem fE.t{a b:DL}{N:io}{k:Db}(e:H a=some (.T N))(c:H b=some (.t<|k.map kV)):fE H a (.r b) (cm N k):=.inr ⟨N,k,b,.inl e,O,c,O⟩
theorem l9.k{a:DL}{N:ii}{k:We}{v:V}(e:H a=some (.d N))(h:N.length<sizeLine):l9 H a (kV k) v (upd H a<|.d<|Yx N k v):=.inl ⟨N,k,e,O,h,O⟩
theorem l9.t{a b:DL}{N:io}{k:Db}{v:V}(e:H a=some (.T N))(c:H b=some (.t<|k.map kV))(h:N.length<sizeLine):
  l9 H a (.r b) v (upd H a<|.T<|Yx N k v):=.inr ⟨N,k,b,e,O,c,h,O⟩
section
variable{X:Cx}{d:cy}{f:St}{H:Hp}{s:Ev}{a:DL}{y v:V}{u r:EQ}{o:v0}{A:Gc}{E:cr}
theorem Ut.big(I:Ut X d f H s):sysModules<s.heap.objs.size:=by
 exact Xf bc ((I.mod.glob.keeps I.bk).lt)
theorem apI(q:A.units+1<cLine)(I:Ut X d f H s)(g:fE H a y (some v))(o:mL y u)(h:∀c n,Ut X d f H n->mL v c->Q c n):
  wpAny (model X.prog X.w) A (getItem (.ref a) u) Q E s:=by
 rcases g with⟨N,k,e,j,l⟩|⟨N,k,b,e,j,B,l⟩
 subst j;obtain⟨z,x,D,r,m⟩:=wR I.az e;obtain⟨c,i,K⟩:=iE.some_of (l▸r.val k);exact wpAny_getItem_of (uK o) m.mapOf i<|h c _ (I.tok _) K;subst j;cases (show u=Value.ref b from o);obtain⟨z,x,C,r,m⟩:=wU I.az e;obtain⟨c,i,K⟩:=iE.some_of (v:=v) (l▸r.val k);obtain⟨p,t,Z⟩:=ZX.mp i;refine wpAny_getItem_heap (XL q) (uL I.az B) m t ?_;rw[Z];exact h c _ (I.tok _) K
theorem anV(p:A.units+1<cLine)(I:Ut X d f H s)(g:fE H a y o)(n:mL y u)(h:∀m,Ut X d f H m->Q (.bool o.isSome) m):
  wpAny (model X.prog X.w) A (compareOp .In u<|.ref a) Q E s:=by
 rcases g with⟨N,k,e,i,l⟩|⟨N,k,b,e,i,t,l⟩
 subst i;obtain⟨z,c,v,r,j⟩:=wR I.az e;refine wpAny_in_of (uK n) c j.mapOf ?_;rw[<-(r.val k).wQ,<-l];exact h _<|I.tok _;subst i;cases (show u=Value.ref b from n);obtain⟨z,c,x,r,j⟩:=wU I.az e;refine wpAny_in_heap (XL p) (uL I.az t) c j ?_;have q:=(r.val k).wQ;rw[tX] at q;rw[<-q,<-l];exact h _<|I.tok _
theorem apG(p:A.units+1<cLine)(I:Ut X d f H s)(g:fE H a y o)(n:mL y u)(h:∀m,Ut X d f H m->Q (.bool<|!o.isSome) m):
  wpAny (model X.prog X.w) A (compareOp .NotIn u<|.ref a) Q E s:=by
 rcases g with⟨N,k,e,i,l⟩|⟨N,k,b,e,i,t,l⟩
 subst i;obtain⟨z,c,v,r,j⟩:=wR I.az e;refine wpAny_notIn_of (uK n) c j.mapOf ?_;rw[<-(r.val k).wQ,<-l];exact h _<|I.tok _;subst i;cases (show u=Value.ref b from n);obtain⟨z,c,x,r,j⟩:=wU I.az e;refine wpAny_notIn_heap (XL p) (uL I.az t) c j ?_;have q:=(r.val k).wQ;rw[tX] at q;rw[<-q,<-l];exact h _<|I.tok _
theorem DG{o:HO}(I:Ut X d f H s)(m:wq (H a))(c:Heap.SameBut a s.heap h)(e:∃q,h.get? a=some q)(n:cT X.prog X.w (upd H a o) h a o):
  Ut X d f (upd H a o) {s with heap:=h,toks:=t}:=
 I.write m (.inl O) (λb q g z=>(c.2 b g).trans z) e n
theorem KJ{N:ii}{v:wE}(z:N.length<=sizeLine)(b:(a==sysModules)=false)(r:KV N v)(c:h.DictOf (c9 P w) a v):
  cT P w H h a (.d N):=⟨z,b,v,r,c⟩
theorem YS{Q:BT}(P:A.units+1<cLine)(I:Ut X d f H s)(g:l9 H a y v Z)(D:mL y u)(F:mL v r)(h:∀C,Ut X d f Z C->Q () C):
  wpAny (model X.prog X.w) A (setItem (.ref a) u r) Q E s:=by
 rcases g with⟨N,k,e,t,l,x⟩|⟨N,k,b,e,t,K,l,x⟩
 subst t x;obtain⟨z,p,vs,i,B⟩:=KI I.az e;have M:=i.length▸z;have o:(Yx N k v).length<=sizeLine:=by have:=DE N k v;omega
 refine wpAny_setItem_pairs (uK D) B λG j n=>h _ ?_;have R:∃q,G.get? a=some q:=let ⟨q,_,_,m,_⟩:=j;⟨q,m⟩;exact DG I (e▸True.intro) n R<|KJ o p (i.put k F) j;subst t x;cases (show u=Value.ref b from D);obtain⟨z,p,L,i,B⟩:=amM I.az e;have M:L.length<=sizeLine:=by rw[<-KB i];exact z
 have o:(Yx N k v).length<=sizeLine:=by have:=DE N k v;omega
 refine wpAny_setItem_heap (XL P) (uL I.az K) B λG j n=>h _ ?_;obtain⟨q,W,Y,zq⟩:=XM j;obtain⟨m,V,U,T,O,S⟩:=Yk zq;refine DG I (e▸True.intro) n ⟨q,m⟩ ⟨o,p,_,(i.put k K F).keeps λc ys J=>?_,q,W,Y,m,V,U,T,S⟩;rw[ay<|cA J e<|λz=>nomatch z];exact J
end
def DH(i:Expr):Prop:= ∀o v,subscripted i false o v=operate [o,v] (getItem o v)
theorem anU{w:Fk}{A:Gc}{E:cr}{s:Ev}{T l:GM}{Q:cr}(n:typeLookup (.type T) "__getitem__"=pure (some<|.builtin l))(m:DH e)(h:wpAny (model p w) A (eval v d) (λo W=>wpAny (model p w) A (eval e d) (λi a=>a.TypeIs o T/\wpAny (model p w) A (getItem o i) Q E a) E W) E s):
  wpAny (model p w) A (eval (.Subscript v e k) d) Q E s:=by
 refine Subscript_<|Op h (λo W j=>Op j (λi a b=>?_) λY Y x=>x) λY Y x=>x;obtain⟨q,b⟩:=b;refine GT (GT<|Uf q n ?_);have f:wpAny (model p w) A (subscripted e false o i) (λr c=>wpAny (model p w) A (letTemporaryGo v o r>>=λY=>pure r) Q E c) E a:=by
  rw[m o i];exact wpAny_operating<|Op b (λr c g=>GT<|wpAny_letTemporaryGo<|IO g) λY Y x=>x
 first
  |exact IO (GT f)
  |exact GT (IO<|GT f)
  |exact GT f
theorem agA{c:St}(I:Ut X E c H s)(g:fE H a y o):s.TypeIs (.ref a) "dict":=by
 rcases g with⟨N,k,e,Y,Y⟩|⟨N,k,b,e,Y,Y,Y⟩
 obtain⟨Y,Y,v,Y,d⟩:=wR I.az e;exact d.typeIs;obtain⟨Y,Y,x,Y,d⟩:=wU I.az e;exact d.typeIs
def KL(d t:TE):TE:=λb H Q=>d b H λx e=>t b e λy c=>∃a v,x=.r a/\fE c a y (some v)/\Q v c
def DI(t e:TE):TE:=λc H Q=>t c H λy f=>e c f λx d=>∃a o,x=.r a/\fE d a y o/\Q (.b o.isSome) d
def DJ(t e:TE):TE:=λc H Q=>t c H λy f=>e c f λx d=>∃a o,x=.r a/\fE d a y o/\Q (.b<|!o.isSome) d
def KN(e t d:TE):TS:=λD b H=>d b H λv h=>e b h λx g=>t b g λy f=>∃a c,x=.r a/\l9 f a y v c/\D.nx b c
section
variable{X:Cx}{o i e d:Expr}{f j De:Pos}{b c k:TE}
theorem aqN(m:X.A.units+1<cLine)(p:PE X o b)(t:PE X i c)(n:DH i):PE X (.Subscript o i f) (KL b c):=by
 intro E s d H Q I h;refine anU PySem.F.slot_dict_getitem.lookup n<|aA (p E s d H _ I h) λu j ⟨x,D,B,k,l⟩=>aA (t E j d D _ B l) λM L ⟨y,C,e,r,a,v,w,g,q⟩=>?_;subst w;obtain rfl:u=Value.ref a:=k;exact⟨agA e g,apI m e g r λG J z K=>⟨v,C,z,K,q⟩⟩
theorem KO(k:X.A.units+1<cLine)(m:PE X i c)(l:PE X o b):PC X .In i o (DI c b):=by
 intro E s d H Q I h;refine aA (m E s d H _ I h) λF e ⟨y,B,w,r,j⟩=>aA (l E e d B _ w j) λu D ⟨x,z,t,f,a,v,n,g,q⟩=>?_;subst n;obtain rfl:u=Value.ref a:=f;exact anV k t g r λC p=>⟨.b v.isSome,z,p,O,q⟩
theorem aoQ(k:X.A.units+1<cLine)(m:PE X i c)(l:PE X o b):PC X .NotIn i o (DJ c b):=by
 intro E s d H Q I h;refine aA (m E s d H _ I h) λF e ⟨y,B,w,r,j⟩=>aA (l E e d B _ w j) λu D ⟨x,z,t,f,a,v,n,g,q⟩=>?_;subst n;obtain rfl:u=Value.ref a:=f;exact apG k t g r λC p=>⟨.b<|!v.isSome,z,p,O,q⟩
theorem apW(C:X.A.units+1<cLine)(G:PE X o b)(J:PE X i c)(B:PE X d k)(F:swapsWith d (some<|.Subscript o i j) f.line X.env=pure false):
  PS X (.Assign [.Subscript o i j] d f) (KN b c k):=by
 intro E s e H D I h;refine wpAny_Assign_Subscript (aA (B E s e H _ I h) λr m ⟨v,S,P,q,z⟩=>aA (G E m e S _ P z) λu l ⟨x,R,N,p,w⟩=>aA (J E l e R _ N w) λV U ⟨y,W,M,n,a,Q,K,g,t⟩=>?_) F;subst K;obtain rfl:u=Value.ref a:=p;exact YS C M g n q λT L=>⟨e,Q,L,t⟩
end
theorem KP(h:FS)(b:sysModules<h.objs.size):cT P w H (h.push {cls:=.type "dict",data:=.dict #[]}) h.objs.size (.d []):=
 ⟨Ww _,beq_eq_false_iff_ne.mpr<|KF<|ZH b,[],.nil,Heap.DictOf.new h⟩
theorem aeF(h:FS)(b:sysModules<h.objs.size):cT P w H (h.push {cls:=.type "dict",data:=.dict #[]}) h.objs.size (.T []):=
 ⟨Ww _,beq_eq_false_iff_ne.mpr<|KF<|ZH b,[],.nil,_,#[],0,On _ O,⟨O,O,O⟩,O,O,WQ⟩
def KQ:TE:=λ_ H Q=>∀p,H p=none->Q (.r p) (upd H p<|.T [])
section
variable{X:Cx}{pos:Pos}
theorem aqP:PE X (.Dict [] [] pos) KQ:=λE s a H Q I h=>
 wpAny_Dict_empty ⟨.r s.heap.objs.size,_,I.laid (λY Y q=>KK _ q) (VL _)<|aeF s.heap I.big,O,h _<|I.az.fresh<|VL _⟩
end
def anL(H:Hp)(a:DL):Prop:=(∃N,Rd H a<|.d N)\/∃N,Rd H a (.T N)
def agS(f t e:TE):TE:=λb H Q=>f b H λx d=>∃a,x=.r a/\anL d a/\t b d λy g=>e b g λz c=>∃o,fE c a y o/\Q (o.getD z) c
end
set_option maxHeartbeats 4000000
section
open PyProof.Rows
theorem uM:∀(s:wS)(n:Nat)(Z:sK),cellsFrom n s Z=cellsFrom n s []++Z:=by
 intro s;induction s with
 |nil=>intros;rfl
 |cons y r i=>
  intro n Z;obtain⟨e,k⟩:=y;unfold cellsFrom;split;rw[i (n+1) ((e,n)::Z),i (n+1) [(e,n)],VD];rfl;exact i n Z
theorem aoZ{c:DL}:∀(s:wS)(n:Nat),(x,c)∈cellsFrom n s []->(x,NameKind.cell)∈s:=by
 intro s;induction s with
 |nil=>intro n h;cases h
 |cons y r i=>
  intro n h;obtain⟨e,k⟩:=y;unfold cellsFrom at h;split at h;rename_i a;rw[uM] at h;rcases X0.mp h with h|h
  exact yl _ (i _ h);cases Yd.mp h;rw[show k=.cell by lia];exact Y1;exact yl _ (i _ h)
theorem KR:∀(l:sK),(x,c)∈l->∃c,l.lookup x=some c:=by
 intro l;induction l with
 |nil=>intro h;cases h
 |cons y r i=>
  intro h;rw[YW];cases e:x==y.1 with
  |true=>exact⟨_,O⟩
  |false=>
   rcases xW.mp h with h|h
   rw[<-h] at e;simp at e;exact i h
theorem KS:∀(s:wS)(n:Nat),(x,NameKind.cell)∈s->∃c,(x,c)∈cellsFrom n s []:=by
 intro s;induction s with
 |nil=>intro n h;cases h
 |cons y r i=>
  intro n h;obtain⟨e,k⟩:=y;unfold cellsFrom;split;rw[uM];rcases xW.mp h with h|h
  cases h;exact⟨n,Za _<|.head _⟩;obtain⟨c,b⟩:=i (n+1) h;exact⟨c,Wu _ b⟩;rename_i a;rcases xW.mp h with h|h
  cases h;cases a O;exact i n h
theorem acX{A:Gc}{E:cr}{s:Ev}{g:DL}{c:sK}{Q:Env->Ev->Prop}(j:∀h,h.Ns s.heap.objs.size (λY=>none)->(∀b o,s.heap.get? b=some o->h.get? b=some o)->CellsOk h (s.heap.objs.size+1) (cellsFrom (s.heap.objs.size+1) a.names [])->
   Q (newEnv a s.heap.objs.size g (cellsFrom (s.heap.objs.size+1) a.names c) q none .none (some r) builtinsNs) {s with heap:=h}):
  wpAny M A (newFunctionEnv a g c [] q none .none<|some r) Q E s:=by
 simp only[newFunctionEnv,Option.isSome_some,if_true];refine GT<|wpAny_alloc (GT<|wpAny_layCells _ (λn i f=>O) _ _ _ _ ?_);rw[show({s with heap:=s.heap.push {cls:=.type "dict",data:=.dict #[]}}:Ev).heap.objs.size=s.heap.objs.size+1 from Tk ..];have k:=cellsFrom_ok a.names (s.heap.push {cls:=.type "dict",data:=.dict #[]}) (s.heap.objs.size+1) [] ⟨λY Y m=>(nomatch m),List.Pairwise.nil⟩ aJ;rw[Tk] at k;exact GT (IO<|IO<|j _ ((Heap.Ns.new s.heap<|.type "dict").keeps<|pushCells_keeps _ _) (λb o e=>pushCells_keeps _ _ b o<|KK _ e) k)
section
variable{X:Cx}{d:cy}{f:St}{H:Hp}{s:Ev}{a:DL}{o:HO}
theorem Ut.zT(I:Ut X d f H s)(y:H a=none)(A:X.S.heap.objs.size<=a)(L:a≠X.env.locals)(C:∀x c,X.env.cells.lookup x=some c->c≠a)(v:∀p∈X.n++d,p.1≠a)(h:cT X.prog X.w (upd H a o) s.heap a o):Ut X d f (upd H a o) s:=by
 have Y:∀b u,X.S.heap.get? b=some u->b≠a:=λb u e=>ZH (YY (IR e) A);have V:∀b u,H b=some u->b≠a:=λb u e=>aQ e y;refine⟨I.ok,I.os,I.E,⟨I.base.keep,I.base.slot,λb u e n t=>?_,I.base.there,λb g e=>?_,λb u g e=>?_,λb r e=>?_⟩,I.G,I.cell,?_,λx c e=>?_,λp q=>?_,λb u e=>?_,I.len⟩;rw[ay<|Y b u e];exact I.base.free b u e n t;have z:=I.base.bB b g e;rw[ay<|V b _ z];exact z;have z:=I.base.jC b u g e;rw[ay<|V b _ z];exact z;obtain⟨m,z⟩:=I.base.j5 b r e;exact⟨m,by rw[ay<|V b _ z];exact z⟩;rw[ay<|KF L];exact I.free;rw[ay<|C x c e];exact I.oG x c e;obtain⟨l,k,j⟩:=I.pin p q;exact⟨l,by rw[ay<|v p q];exact k,j⟩;by_cases i:b=a;subst i;rw[aj] at e;cases e;exact h;rw[ay i] at e;exact(I.az b u e).oE (λZ Z Z q=>q) (λc q=>by rw[ay<|V c _ q];exact q) λc g q=>by rw[ay<|V c _ q];exact q
end
noncomputable def dw(c:sK):wS->sK->sK
 |[],Z=>Z
 |(n,k)::r,Z=>dw c r (if k=.free then (n,(c.lookup n).getD 0)::Z else Z)
theorem KU(v:Env):∀(s:wS)(Z:sK),(∀y∈s,y.2=.free->∃c,v.cells.lookup y.1=some c)->
  (forIn s Z (fun(x:Str×NameKind)(j:sK)=>match x with
   |(b,d)=>if (d==NameKind.free)=true then do let a <-cellOf v b;pure (ForInStep.yield ((b,a)::j)) else pure (ForInStep.yield j)):Sem sK)=pure (dw v.cells s Z)
 |[],Z,_=>O
 |(n,k)::r,Z,h=>by
  have i:=λu=>KU v r u λy l=>h y (yl _ l);by_cases f:k=.free;subst f;obtain⟨c,e⟩:=h (n,.free) Y1 O;have o:cellOf v n=pure c:=by unfold cellOf;rw[e]
  have g:dw v.cells ((n,.free)::r) Z=dw v.cells r ((n,c)::Z):=by simp[dw,e]
  rw[g,<-i];simp[o];have m:=by simpa using f
  have g:dw v.cells ((n,k)::r) Z=dw v.cells r Z:=by simp[dw,f]
  rw[g,<-i];simp[m]
theorem Y6(h:∀y∈s.names,y.2=.free->∃c,e.cells.lookup y.1=some c):closureFor s e=pure (dw e.cells s.names []):=by
 have:=KU e s.names [] h;simp only[closureFor];rw[<-this];simp
theorem KW:∀(s:wS)(Z:sK)(x:Str)(c:DL),(dw a s Z).lookup x=some c->(Z.lookup x=some c)\/((x,.free)∈s/\(a.lookup x).getD 0=c)
 |[],Z,x,c,h=>.inl h
 |(n,k)::r,Z,x,c,h=>by
  rcases KW r _ x c h with z|⟨f,e⟩
  by_cases d:k=.free;subst d;simp at z;rw[YW] at z;by_cases b:x==n;simp only[b] at z;have Y:=eq_of_beq b;subst Y;exact .inr ⟨Y1,WV z⟩;have G:(x==n)=false:=by lia
  simp only[G] at z;exact .inl z;simp only[Ix d] at z;exact .inl z;exact .inr ⟨yl _ f,e⟩
theorem DK:∀(s:wS)(Z:sK)(x:Str),((x,NameKind.free)∈s\/∃c,Z.lookup x=some c)->∃c,(dw cells s Z).lookup x=some c
 |[],Z,x,h=>by
  rcases h with h|h
  cases h;exact h
 |(n,k)::r,Z,x,h=>by
  refine DK r _ x ?_;rcases h with h|⟨c,h⟩
  rcases xW.mp h with e|h
  cases e;refine .inr ?_;simp;exact .inl h;refine .inr ?_;by_cases a:k=.free;simp only[Id a,YW];cases b:x==n;exact⟨c,h⟩;exact⟨_,O⟩;simp only[Ix a];exact⟨c,h⟩
theorem DM{env:Env}:∀(s:wS)(x:Str),
  (s.map fun(n,k)=>if (k==NameKind.free && env.scope.kind==.function && env.kindOf n==some .cell) then (n,NameKind.cell) else (n,k)).lookup x=
   (s.lookup x).map λk=>if (k==NameKind.free && env.scope.kind==.function && env.kindOf x==some .cell) then NameKind.cell else k
 |[],_=>O
 |(n,k)::r,x=>by
  have i:=DM (env:=env) r x;show List.lookup x ((if (k==NameKind.free && env.scope.kind==.function && env.kindOf n==some .cell)=true then (n,NameKind.cell) else (n,k))::_)=_;cases a:x==n with
  |true=>
   have e:=eq_of_beq a;subst e;by_cases h:(k==NameKind.free && env.scope.kind==.function && env.kindOf x==some .cell)=true;rw[Id h];simp only[YW,beq_self_eq_true,WZ];rw[Id h];rw[Ix h];simp only[YW,beq_self_eq_true,WZ];rw[Ix h]
  |false=>
   by_cases h:(k==NameKind.free && env.scope.kind==.function && env.kindOf n==some .cell)=true;rw[Id h];simp only[YW,a];exact i;rw[Ix h];simp only[YW,a];exact i
section
variable{a:Fa}{w:Fk}{A:Gc}{R:Result->Ev->Prop}{s:Ev}
theorem aiS{u:on}{D Z:EQ}(I:Nat->Ev->Prop)(o:∀n s,I n s->wpAny (model a w) A (pyNext D) (λr W=>match r with
   |none=>R (.ok .next) W
   |some v=>wpAny (model a w) A (letOwnedTupleGo t D v) (λU K=>wpAny (model a w) A (assign t e v) (λU i=>
     wpAny (model a w) A (forIn u true λc r=>if r=true then do let p <-isTrue c e (eval c e);pure (ForInStep.yield p) else pure (ForInStep.yield r)) (λp b=>
      if p=true then wpAny (model a w) A (eval E e) (λx g=>
       wpAny (model a w) A (call (.builtin "list.append") [Z,x]) (λU f=>∃m,m<n/\I m f) (λU U=>False) g) (λU U=>False) b
      else ∃m,m<n/\I m b) (λU U=>False) i) (λU U=>False) K) (λU U=>False) W) (λU U=>False) s)(n:Nat)(h:I n s):codeAny (model a w) A (.compLoop (.ListComp E [⟨t,q,u,0⟩] l C) 0 D Z e) R s:=by
 refine codeAny_loop O I (λn s F=>wpAny_noted (GT<|UF<|GT<|Op (o n s F) (λr W k=>?_) λU U d=>d.elim)) n h;cases r with
 |none=>exact IO k
 |some v=>
  refine GT<|Op k (λU K Y=>GT<|Op Y (λU i B=>GT<|Op B (λp b j=>?_) λU U d=>d.elim) λU U d=>d.elim) λU U d=>d.elim;cases p with
  |false=>exact IO ⟨O,j⟩
  |true=>
   exact GT<|GT<|Op j (λx g z=>GT<|Op z (λU f y=>IO<|IO ⟨O,y⟩) λU U d=>d.elim) λU U d=>d.elim
end
def jh(X:Cx)(e:Scope)(N:bi)(a:db)(C:DL)(s:Ev)(H:Hp):Cx where
 prog:=X.prog
 w:=X.w
 K:=X.K
 mg:=X.mg
 base:=X.base
 A:=X.A
 N:=N
 S:=s
 H:=H
 env:=compEnvC e (cellsFrom (C+1) e.names<|dw X.env.cells e.names []) C X.env
 r:=X.stack
 stack:=X.stack
 ex:=a
 fn:=λx=>decide (e.names.lookup x=some .cell)
 calm:=X.calm
 n:=[]
 xe:=λ_ _=>False
structure l_(X:Cx)(scope:Scope)(ln:bi)(fv:ut):Prop where
 kind:scope.kind=.function
 own:∀y∈scope.names,y.2=.cell->scope.names.lookup y.1=some .cell
 locals:∀y∈scope.names,y.2=.local->scope.names.lookup y.1=some .local
 free:∀y∈scope.names,y.2=.free->(X.env.kindOf y.1=some .cell\/X.env.kindOf y.1=some .free)
 Y_:∀p∈fv,X.N[p.2]?=some p.1/\scope.names.lookup p.1=some .free
noncomputable def b_(a:St)(f:ut):St:=f.map λp=>(a[p.2]?).join
def jF(K:Frag):xz->V->Hp->(ci->Prop)->Prop
 |none,x,_,Q=>Q [x]
 |some n,x,H,Q=>if n=102 then ∃a s,x=.r a/\ah K H a s/\s.length=2/\Q s else ∃a s,x=.r a/\aB K H a s/\s.length=n/\Q s
theorem agK{K:Frag}(h:jF K (some n) x H P)(k:∀s,P s->Q s):jF K (some n) x H Q:=by
 by_cases e:n=102;have h:if n=102 then ∃a s,x=.r a/\ah K H a s/\s.length=2/\P s else ∃a s,x=.r a/\aB K H a s/\s.length=n/\P s:=h
 show if n=102 then ∃a s,x=.r a/\ah K H a s/\s.length=2/\Q s else ∃a s,x=.r a/\aB K H a s/\s.length=n/\Q s
 rw[Id e] at h⊢;obtain⟨a,s,d,c,b,q⟩:=h;exact oZ a s d c b (k _ q);have h:if n=102 then ∃a s,x=.r a/\ah K H a s/\s.length=2/\P s else ∃a s,x=.r a/\aB K H a s/\s.length=n/\P s:=h
 show if n=102 then ∃a s,x=.r a/\ah K H a s/\s.length=2/\Q s else ∃a s,x=.r a/\aB K H a s/\s.length=n/\Q s
 rw[Ix e] at h⊢;obtain⟨a,s,d,c,b,q⟩:=h;exact oZ a s d c b (k _ q)
def k_:Option TT->TT
 |none=>λ_ H k=>k true H
 |some t=>t
def so(K:Frag)(w:TI)(t:xz)(v:ut)(j:Option TT)(h:TE):TE:=λd H Q=>
 w d H λJ n=>∃W:Nat->Nat->ci->Hp->Prop,(∃m,W 0 m [] n)/\∀i m s a,W i m s a->
  (J.stop i a/\∀p,a p=none->Q (.r p) (upd a p<|.l s))\/
  (J.go i a/\∀x e,J.gQ i a x e->jF K t x e λf=>
   k_ j (f.map some++b_ d v) e λb g=>
    if b=true then h (f.map some++b_ d v) g λy k=>s.length<sizeLine/\∃c,c<m/\W (i+1) c (s++[y]) k
    else ∃c,c<m/\W (i+1) c s g)
section
variable{X:Cx}{A:cy}{s:St}{H:Hp}{f j:Ev}{a:Scope}{g:bi}{n:ut}{w:db}{B:FS}{D C:DL}{m:ge}{t:Nat}
theorem l_.cells(S:l_ X a g n)(I:Ut X A s H f)(h:(dw X.env.cells a.names []).lookup x=some c):X.env.cells.lookup x=some c/\(x,NameKind.free)∈a.names:=by
 rcases KW _ _ _ _ h with z|⟨d,b⟩
 cases z;obtain⟨i,e⟩:=I.ok.has x (S.free _ d O);rw[e] at b;subst b;exact⟨e,d⟩
theorem l_.KZ(S:l_ X a g n)(I:Ut X A s H f):closureFor a X.env=pure (dw X.env.cells a.names []):=
 Y6 λy h k=>I.ok.has y.1 (S.free y h k)
theorem Zb(S:l_ X a g n)(I:Ut X A s H f)(f2:∀b∈w,kS X A H b)(wW:∀b∈w,∃o,f.heap.get? b=some o)(os:j.os=f.os)(Z:j.gens=f.gens)(U:∀b o,f.heap.get? b=some o->j.heap.get? b=some o)(W:D=f.heap.objs.size)(h3:j.heap.objs.size=f.heap.objs.size+1)(Y:C=j.heap.objs.size)(k4:∀b o,j.heap.get? b=some o->B.get? b=some o)(sf:B.Ns C m)(N:CellsOk B (C+1) (cellsFrom (C+1) a.names [])):
  Ut (jh X a (g++n.map (·.1)) (D::w) C j H) [] (g.map (λ_=>none)++b_ s n) H {j with heap:=B,toks:=t}:=by
 have M:∀{x c},(dw X.env.cells a.names []).lookup x=some c->X.env.cells.lookup x=some c:=λh=>(S.cells I h).1;have DO:∀{x c},(dw X.env.cells a.names []).lookup x=some c->c<f.heap.objs.size:=λh=>by
  obtain⟨v,q⟩:=I.cell _ _ (M h);exact q.lt
 have Zc:∀b∈w,b<f.heap.objs.size:=λb F=>by obtain⟨o,e⟩:=wW b F;exact IR e
 have K0:∀b∈D::w,b<=f.heap.objs.size:=λb F=>by
  rcases xW.mp F with e|F
  rw[e,W];exact VL _;exact Zx (Zc b F)
 have K1:∀x,(relabel a X.env).names.lookup x=(a.names.lookup x).map λk=>if (k==NameKind.free && X.env.scope.kind==.function && X.env.kindOf x==some .cell) then NameKind.cell else k:=λx=>DM a.names x
 have Zd:∀x,a.names.lookup x=some .free->((relabel a X.env).names.lookup x=some .cell\/(relabel a X.env).names.lookup x=some .free):=λx e=>by
  rw[K1,e];simp only[WZ];split;exact .inl O;exact .inr O
 have Ze:∀x,((relabel a X.env).names.lookup x=some .cell\/(relabel a X.env).names.lookup x=some .free)->(x,NameKind.free)∈a.names\/(x,NameKind.cell)∈a.names:=λx e=>by
  rw[K1] at e;cases q:a.names.lookup x with
  |none=>rw[q] at e;rcases e with e|e<;>cases e
  |some k=>
   rw[q] at e;have hm:(x,k)∈a.names:=Pi q;simp only[WZ] at e;by_cases P:k=.free;rw[P] at hm;exact .inl hm;have F:(k==NameKind.free)=false:=by simpa using P
   simp only[F,Bool.false_and,jK,Tl] at e;rcases e with e|e
   rw[WV e] at hm;exact .inr hm;exact absurd (WV e) P
 have T:∀{x c},(cellsFrom (C+1) a.names<|dw X.env.cells a.names []).lookup x=some c->(x,c)∈cellsFrom (C+1) a.names []\/(dw X.env.cells a.names []).lookup x=some c:=λ{x c} h=>by
  rw[uM,tA] at h;cases e:(cellsFrom (C+1) a.names []).lookup x with
  |none=>rw[e] at h;exact .inr h
  |some d=>rw[e] at h;cases h;exact .inl (Pi e)
 have lo:∀{x c},(x,NameKind.cell)∈a.names->(cellsFrom (C+1) a.names<|dw X.env.cells a.names []).lookup x=some c->(x,c)∈cellsFrom (C+1) a.names []:=λ{x c} K h=>by
  obtain⟨d,L⟩:=KS a.names (C+1) K;obtain⟨d',e⟩:=KR _ L;rw[uM,tA,e] at h;cases h;exact Pi e
 have lh:∀{x},(x,NameKind.free)∈a.names\/(x,NameKind.cell)∈a.names->∃c,(cellsFrom (C+1) a.names<|dw X.env.cells a.names []).lookup x=some c:=λ{x} K=>by
  rw[uM,tA];cases e:(cellsFrom (C+1) a.names []).lookup x with
  |some d=>exact o3 d O
  |none=>
   rcases K with K|K
   exact DK _ _ x (.inl K);obtain⟨d,L⟩:=KS a.names (C+1) K;obtain⟨d',e'⟩:=KR _ L;rw[e] at e';cases e'
 have lf:∀{x c},a.names.lookup x=some .free->(dw X.env.cells a.names []).lookup x=some c->(cellsFrom (C+1) a.names<|dw X.env.cells a.names []).lookup x=some c:=λ{x c} K h=>by
  rw[uM,tA];cases e:(cellsFrom (C+1) a.names []).lookup x with
  |none=>exact h
  |some d=>
   have:=S.own _ (aoZ _ _<|Pi e) O;rw[K] at this;cases this
 have sC:f.heap.objs.size<C:=by rw[Y,h3];exact Yq _
 refine⟨⟨I.ok.mod,S.kind,I.ok.glob,I.ok.blt,VN Y.symm,λx y c h1 h2=>?_,λx K=>lh (Ze x K),λx c h e=>?_,I.ok.hd,I.ok.frames,.inl O,λb F=>⟨?_,λx c e=>?_⟩,λb o e=>⟨U b o (I.bs b o e).1,(I.bs b o e).2⟩,?_,λb o e F=>?_,λb F hf=>?_,?_,I.zp⟩,
  rfl,?_,Un.kept λb u e=>k4 b u e,nT m sf (λi x v e1 J e3=>?_),λx c e=>?_,I.az.fresh ?_,λx c e=>(T e).elim (λz=>I.az.fresh (Zx (YY sC (VP (N.empty x c z).2)))) λz=>I.oG x c (M z),λp hp=>absurd (show p∈ ([]:cy) from hp) aJ,I.az.kept λb u e=>k4 b u (U b u e),?_⟩
 rcases T h1 with R|R<;>rcases T h2 with Q|Q
 exact PySem.name_of_addr N.apart R Q;exact absurd (Xf (DO Q) sC) (Nat.not_lt_of_le<|VP (N.empty _ _ R).2);exact absurd (Xf (DO R) sC) (Nat.not_lt_of_le<|VP (N.empty _ _ Q).2);exact I.ok.inj x y c (M R) (M Q);exact wO (VN Y.symm) (VP (N.empty x c<|lo (Pi<|Re h) e).2);show b≠C;have:=K0 b F;rw[Y,h3];exact ZH (Nat.lt_succ_of_le this);rcases T e with e|e
 exact Ya (Wn (K0 b F)<|YY sC<|VP (N.empty x c e).2);have q1:=DO e;rcases xW.mp F with z|z
 rw[z,W];exact ZH q1;exact(f2 b z).2.2.2.2.1 x c (M e);show X.base.objs.size<=j.heap.objs.size;have:=wO I.ok.uA I.sz;lia;have J:=(I.bs b o e).1;have qm:b∈D::w:=F;rcases xW.mp qm with z|z
 have:=IR J;rw[z,W] at this;exact XD _ this;rcases (f2 b z).2.2.2.1 with q|q
 exact I.ok.CT b o e q;exact absurd (YY (IR (I.ok.bs b o e).1) q) (XD _);have K2:b∈bX X.stack:=hf;have qm:b∈D::w:=F;rcases xW.mp qm with z|z
 rcases xW.mp (I.zo b K2) with q|q
 have:=I.lt;rw[<-q,z,W] at this;exact XD _ this;exact I.Jc (by rw[z,W];exact VL _) q;rcases xW.mp (I.zo b K2) with q|q
 exact(f2 b z).2.1 q;exact(f2 b z).2.2.1 q;exact PySem.Heap.FunFrames.of_keeps (λb o e _=>nT o (U b o e) O) I.stack;show AllBare j.gens;rw[Z];exact I.E;have hi:g.length<=i:=by
  by_cases hi:i<g.length;exfalso;rw[XG (by simpa using hi),ZW] at J;cases q:g[i]? with
  |none=>rw[q] at J;cases J
  |some y=>rw[q] at J;cases J
  exact Zw hi
 have V:(g++n.map (·.1))[i]?=some x:=e1;rw[Wt hi,ZW] at V;rw[Wt (by simpa using hi),XN] at J;unfold b_ at J;rw[ZW] at J;cases q:n[i - g.length]? with
 |none=>rw[q] at V;cases V
 |some p=>
  rw[q] at V J;have ex:p.1=x:=WV V;have ev:(s[p.2]?).join=some v:=WV J;obtain⟨g1,g2⟩:=S.Y_ p (Wv q);rw[ex] at g1 g2;have Zf:s[p.2]?=some (some v):=by
   cases z:s[p.2]? with
   |none=>rw[z] at ev;cases ev
   |some o=>rw[z] at ev;rw[show o=some v from ev]
  have P:=S.free _ (Pi g2) O;obtain⟨m2,kU,hl⟩:=I.G;obtain⟨u,r,l⟩:=hl p.2 x v g1 Zf (by rcases P with k|k;exact .inr (.inl k);exact .inr (.inr k));refine nT u r (.inr ?_);rcases l with⟨k,_⟩|⟨_,c,ec,z⟩
  rcases P with k'|k'<;>(rw[k] at k';cases k')
  refine qH (Zd x g2) c ?_ ?_;obtain⟨c',e'⟩:=DK (cells:=X.env.cells) a.names [] x (.inl<|Pi g2);have:=M e';rw[ec] at this;cases this;exact lf g2 e';obtain⟨o,ho,L⟩:=z;exact nT o (k4 c o<|U c o ho) L
 rcases T e with e|e
 exact o3 none ((N.empty x c e).1);obtain⟨v,o,ho,L⟩:=I.cell x c (M e);exact pI v o (k4 c o<|U c o ho) L;rw[Y,h3];exact Yr _;show(g.map (λ_=>none)++b_ s n).length=(g++n.map (·.1)).length;simp[b_]
end
structure K3(Φ:Cx->Prop)(P:Fa)(w:Fk)(K:Frag)(tg:Expr)(J:It)(fp:db)(it:DL)(tn:Nat->FS->Prop):Prop where
 mem:it∈fp
 obj:∀i h,tn i h->∀b∈fp,∃o,h.get? b=some o/\∀v,o.data≠ .cell v
 keep:∀i h h',tn i h->(∀b∈fp,∀o,h.get? b=some o->h'.get? b=some o)->tn i h'
 item:∀(X:Cx),X.prog=P->X.w=w->X.K=K->Φ X->∀(i:Nat)(E':cy)(s:Ev)(σ:St)(H:Hp)(E:cr),Ut X E' σ H s->(∀b∈fp,kS X E' H b)->tn i s.heap->J.go i H->
  wpAny (model P w) X.A (pyNext (.ref it)) (λr s1=>∃u,r=some u/\
   wpAny (model P w) X.A (letOwnedTupleGo tg (.ref it) u) (λ_ s2=>∃x H',Ut X E' σ H' s2/\mL x u/\J.gQ i H x H'/\tn (i+1) s2.heap/\∀b∈fp,H' b=none) E s1) E s
 done:∀(X:Cx),X.prog=P->X.w=w->X.K=K->Φ X->∀(i:Nat)(E':cy)(s:Ev)(σ:St)(H:Hp)(E:cr),Ut X E' σ H s->(∀b∈fp,kS X E' H b)->tn i s.heap->J.stop i H->
  wpAny (model P w) X.A (pyNext<|.ref it) (λr s1=>r=none/\Ut X E' σ H s1) E s
 self:∀(A:Gc)(i:Nat)(s:Ev)(Q:cr)(E:cr),tn i s.heap->Q (.ref it) s->wpAny (model P w) A (pyIter<|.ref it) Q E s
def DP(g:Cx->Prop)(X:Cx)(j i:Expr)(h:TI):Prop:=
 ∀(E:cy)(s:Ev)(a:St)(H:Hp)(R:It->Hp->Prop),Ut X E a H s->h a H R->
  wpAny (model X.prog X.w) X.A (eval i X.env) (λv k=>wpAny (model X.prog X.w) X.A (pyIter v) (λr d=>
   ∃(e:DL)(f:db)(t:Nat->FS->Prop)(J:It)(c:Hp),r=.ref e/\Ut X E a c d/\K3 g X.prog X.w X.K j J f e t/\t 0 d.heap/\(∀b∈f,kS X E c b)/\R J c) X.xe k) X.xe s
abbrev anD(X:Cx):Prop:=X.calm=true
theorem PI.p{t i:Expr}{w:TI}(h:PI X t i w):DP anD X t i w:=λE s a H R I q=>
 aA (h E s a H R I q) λv m d=>aA d λS l ⟨c,g,n,J,k,e,j,T,b,f,r⟩=>p3 c g n J k e j ⟨T.mem,T.obj,T.keep,T.item,T.done,T.self⟩ b f r
section
variable{X:Cx}{G:cy}{A:St}{H:Hp}{w:Ev}{a:Scope}{l:bi}{f:ut}{Y K N:Expr}{B:on}{d:Pos}{J:It}{j:db}{R:DL}{P:Nat->FS->Prop}{L:xz}{M:Option TT}{U:TE}{k:VK}{Z:EQ->DL->Result->Ev->Prop}{E:cr}
def DQ(e:Hp->Prop)(X:Cx)(a:Scope)(l:bi)(f:ut)(K:Expr)(L:xz):Prop:=
 ∀(h:db)(C:DL)(s:Ev)(H:Hp),e H->∃g,PG (jh X a (l++f.map (·.1)) h C s H) K g/\
  ∀(x:V)(p c:St)(b:Hp)(Q:Do),p.length=l.length->jF X.K L x b (λd=>d.length=l.length->Q (d.map some++c) b)->g x (p++c) b Q
def wX(X:Cx)(a:Scope)(l:bi)(f:ut)(K:Expr)(L:xz):Prop:=
 ∀(e:db)(C:DL)(s:Ev)(H:Hp),∃g,PG (jh X a (l++f.map (·.1)) e C s H) K g/\
  ∀(x:V)(p c:St)(b:Hp)(Q:Do),p.length=l.length->jF X.K L x b (λd=>d.length=l.length->Q (d.map some++c) b)->g x (p++c) b Q
def wY(X:Cx)(a:Scope)(N:bi)(B:on)(M:Option TT):Prop:=
 match M with
 |none=>B=[]
 |some t=>∃c,B=[c]/\∀(e:db)(C:DL)(s:Ev)(H:Hp),PT (jh X a N e C s H) c t
theorem K4(S:l_ X a l f)(hc:∀Xc:Cx,Xc.A=X.A->Xc.calm=X.calm->Xc.H=H->Φ Xc)(l':Ψ H)(hg:DQ Ψ X a l f K L)(ht:wY X a (l++f.map (·.1)) B M)
  (he:∀(ex:db) (C:DL) (s:Ev) (H:Hp),PE (jh X a (l++f.map (·.1)) ex C s H) Y U)
  (I:Ut X G A H w) (T:K3 Φ X.prog X.w X.K K J j R P) (st:P 0 w.heap) (f2:∀b∈j,kS X G H b)
  (h:∃W:Nat->Nat->ci->Hp->Prop,(∃m,W 0 m [] H)/\∀i m ys H2,W i m ys H2->
   (J.stop i H2/\∀p,H2 p=none->k (.r p) (upd H2 p<|.l ys))\/
   (J.go i H2/\∀x H3,J.gQ i H2 x H3->jF X.K L x H3 λxs=>
    k_ M (xs.map some++b_ A f) H3 λb H5=>
     if b=true then U (xs.map some++b_ A f) H5 λy H6=>ys.length<sizeLine/\∃m',m'<m/\W (i+1) m' (ys++[y]) H6
     else ∃m',m'<m/\W (i+1) m' ys H5))
  (Zg:∀D C H' s' m,Ut X G A H' s'->s'.heap.Ns C m->H' C=none->C≠X.env.locals->X.S.heap.objs.size<=C->(∀x c,X.env.cells.lookup x=some c->c≠C)->(∀p∈X.n++G,p.1≠C)->k (.r D) H'->Z (.ref D) C (.ok .next) s'):
  wpAny (model X.prog X.w) X.A (newList []) (λZ' Q=>wpAny (model X.prog X.w) X.A (newFunctionEnv a X.env.globals (dw X.env.cells a.names []) [] X.env.qual none .none (some X.env)) (λK5 a'=>
   codeAny (model X.prog X.w) X.A (.compStart (.ListComp Y [⟨K,N,B,0⟩] a d) 0 (.ref R) Z' {K5 with scope:=relabel a X.env}) (Z Z' K5.locals) a') E Q) E w:=by
 obtain⟨W,⟨m0,w0⟩,h'⟩:=h;refine WF<|acX λb' zU zV ck=>?_
 dsimp only at zU zV ck⊢
 generalize oM:({w with heap:=w.heap.push {cls:=.type "list",dict:=none,data:=.seq ([]:ga).toArray}}:Ev)=Q
 have wZ:w.heap.push {cls:=.type "list",dict:=none,data:=.seq ([]:ga).toArray}=Q.heap:=by rw[<-oM]
 rw[wZ] at zU zV ck⊢;have K6:Q.os=w.os:=by rw[<-oM]
 have Zh:Q.gens=w.gens:=by rw[<-oM]
 have sq:Q.heap.objs.size=w.heap.objs.size+1:=by rw[<-wZ,Tk]
 have k3:∀b o,w.heap.get? b=some o->Q.heap.get? b=some o:=λb o e=>by rw[<-wZ];exact KK _ e
 have k4:=zV;have gD:Q.heap.get? w.heap.objs.size=some {cls:=.type "list",dict:=none,data:=.seq ([]:ga).toArray}:=by rw[<-wZ];exact On _ O
 generalize eD:w.heap.objs.size=D at gD;generalize eC:Q.heap.objs.size=C at zU zV ck⊢;have zW:D≠C:=by rw[<-eD,<-eC,sq];exact ZH (Yq _)
 have wW:∀b∈j,∃o,w.heap.get? b=some o:=λb V=>by obtain⟨o,e,_⟩:=T.obj 0 _ st b V;exact o3 o e
 have K7:∀b∈j,b≠D:=λb V=>by obtain⟨o,e⟩:=wW b V;rw[<-eD];exact ZH (IR e)
 have Zi:∀b∈j,b≠C:=λb V=>by
  obtain⟨o,e⟩:=wW b V;have:=IR e;rw[<-eC,sq];exact ZH (ER this)
 generalize eX:jh X a (l++f.map (·.1)) (D::j) C Q H=Xc;have I4:∀t,Ut Xc [] (l.map (λ_=>none)++b_ A f) H {Q with heap:=b',toks:=t}:=λt=>by
  rw[<-eX];exact Zb S I f2 wW K6 Zh k3 eD.symm sq eC.symm k4 zU ck
 have xL:Xc.env.locals=C:=by rw[<-eX];rfl
 have w9:Xc.ex=D::j:=by rw[<-eX];rfl
 have Zj:Xc.fs=bX X.stack:=by rw[<-eX];rfl
 have xP:Xc.prog=X.prog:=by rw[<-eX];rfl
 have xw:Xc.w=X.w:=by rw[<-eX];rfl
 have xK:Xc.K=X.K:=by rw[<-eX];rfl
 have xA:Xc.A=X.A:=by rw[<-eX];rfl
 have xc:Φ Xc:=hc Xc xA (by rw[<-eX];rfl) (by rw[<-eX];rfl)
 have K8:Xc.n=[]:=by rw[<-eX];rfl
 have DR:Xc.xe=λ_ _=>False:=by rw[<-eX];rfl
 have DS:Xc.env=compEnvC a (cellsFrom (C+1) a.names<|dw X.env.cells a.names []) C X.env:=by rw[<-eX];rfl
 have cF:∀x c,Xc.env.cells.lookup x=some c->∀b∈D::j,c≠b:=λx c e b V=>((I4 0).ok.VQ b (by rw[w9];exact V)).2 x c e
 have sF:∀b∈D::j,b∉Xc.fs:=λb V hf=>by
  have:=(I4 0).ok.CU b (by rw[w9];exact V)
  exact this hf
 have rT:∀{H':Hp}{oD:Obj},(∀b∈j,H' b=none)->∀b∈j,kS Xc [(D,oD)] H' b:=λhn b V=>
  ⟨hn b V,by rw[xL];exact Zi b V,sF b (yl _ V),.inl (by rw[w9];exact yl _ V),λx c e=>cF x c e b (yl _ V),λp hp=>by
   rw[K8] at hp;rcases Yd.mp (show p∈ [(D,_)] from hp) with rfl
   exact(K7 b V).symm⟩
 have d':∀a':Ev,a'={Q with heap:=b'}->
   codeAny (model X.prog X.w) X.A (.compLoop (.ListComp Y [⟨K,N,B,0⟩] a d) 0 (.ref R) (.ref D)<|compEnvC a (cellsFrom (C+1) a.names<|dw X.env.cells a.names []) C X.env) (Z (.ref D) C) a':=by
  rintro a' rfl;refine aiS (λn s'=>vI λi c' ys ag nn H'=>Dz (Ut Xc [(D,{cls:=.type "list",data:=.seq (List.toArray ag) nn})] (c'++b_ A f) H' s') (c'.length=l.length) (P i s'.heap) (∀b∈j,H' b=none) (ZT ys ag) (ys.length<=sizeLine) (W i n ys H')) ?_ m0
   ⟨0,l.map<|λ_=>none,[],[],0,H,(I4 _).uB<|λp hp=>?_,by simp,T.keep 0 _ _ st<|λb _ o e=>k4 b o<|k3 b o e,λb V=>(f2 b V).1,.nil,Ww _,w0⟩
  rotate_left
  ·have w_:=Yd.mp hp;subst w_;refine⟨k4 _ _ gD,I.az.fresh<|VN eD,by rw[xL];exact zW,sF D Y1,λv z=>by cases z⟩
  rintro n s' ⟨i,c',ys,ag,nn,H',I',oK,eR,k',hv,hz,w'⟩;have n':=I'.pin (D,_) (Za _ Y1);rcases h' i n ys H' w' with⟨i',qn⟩|⟨go,j'⟩
  ·have td:=T.done Xc xP xw xK xc i _ s' _ H' (λ_ _=>False) I' (rT k') eR i';rw[xA] at td;refine aA td λr s1 ⟨hr,I1⟩=>?_;subst hr;have DT:=I1.pin (D,_) (Za _ Y1);have b1:=I1.base;rw[Zj,w9] at b1;have K9:Xc.S=Q:=by rw[<-eX];rfl
   have Zk:Xc.H=H:=by rw[<-eX];rfl
   rw[K9,Zk] at b1;have nD:∀b o,w.heap.get? b=some o->b∉j->b∉D::j:=λb o e V hm=>by
    rcases xW.mp hm with z|z
    ·have:=IR e;rw[z,eD] at this;exact XD _ this
    ·exact V z
   have un:Un (bX X.stack) j H H' w.heap s1.heap:=⟨λb o e nb V hx=>b1.keep b o (k3 b o e) nb V (nD b o e hx),λb o e nb V hx=>b1.slot b o (k3 b o e) nb V (nD b o e hx),λb o e nb hx=>b1.free b o (k3 b o e) nb (nD b o e hx),
    λb o e hx=>b1.there b o (k3 b o e) (nD b o e hx),b1.bB,b1.jC,b1.j5⟩
   have Zl:s1.os=w.os:=by rw[I1.os,K9,K6]
   have K_:=I1.az;rw[xP,xw] at K_;have J1:Ut X G A H' s1:=I.VY Zl un K_ I1.E λb V=>⟨(f2 b V).2.2.2.1,(f2 b V).2.1,(f2 b V).2.2.2.2.1,(f2 b V).2.2.2.2.2⟩;have Zm:∀x c,X.env.cells.lookup x=some c->c≠D:=λx c e=>by
    obtain⟨v,q⟩:=I.cell x c e;rw[<-eD];exact ZH q.lt
   have Zn:∀x c,X.env.cells.lookup x=some c->c≠C:=λx c e=>by
    obtain⟨v,q⟩:=I.cell x c e;rw[<-eC,sq];exact ZH (ER q.lt)
   have pD:∀p∈X.n++G,p.1≠D:=λp hp=>by rw[<-eD];exact ZH (IR (I.pin p hp).1)
   have pC:∀p∈X.n++G,p.1≠C:=λp hp=>by
    rw[<-eC,sq];exact ZH (ER<|IR (I.pin p hp).1)
   have lD:D≠X.env.locals:=by rw[<-eD];exact Ya I.lt
   have lC:C≠X.env.locals:=by
    rw[<-eC,sq];exact Ya (ER I.lt)
   have J2:Ut X G A (upd H' D<|.l ys) s1:=Ut.zT J1 DT.2.1 (by rw[<-eD];exact I.sz) lD Zm pD (rS hz ag nn hv DT.1)
   obtain⟨mC,La,_⟩:=I1.G;rw[xL] at La;have fC:H' C=none:=by have:=I1.free;rw[xL] at this;exact this
   exact Zg D C _ s1 mC J2 La (by rw[ay<|KF zW];exact fC) lC (by rw[<-eC,sq];exact Nat.le_succ_of_le I.sz) Zn pC<|qn D DT.2.1
  ·have ti:=T.item Xc xP xw xK xc i _ s' _ H' (λ_ _=>False) I' (rT k') eR go;rw[xA] at ti;refine aA ti λr s4 ⟨u,hr,h4⟩=>?_;subst hr;refine aA h4 λ_ s5 ⟨x,H5,I5,r5,y5,rV,C8⟩=>?_;have C9:=I5.pinned (rT C8) (T.obj _ _ rV);obtain⟨g,pg,gq⟩:=hg (D::j) C Q H l';rw[eX] at pg;have rd:=j' x H5 y5;have Lb:=pg _ s5 _ H5 x u (λg' H6=>vK λ(xs:ci)=>BJ (g'=xs.map some++b_ A f) (xs.length=l.length) (H6=H5) (k_ M (xs.map some++b_ A f) H5 λb H5=>
     if b=true then U (xs.map some++b_ A f) H5 λy H6=>ys.length<sizeLine/\∃m',m'<n/\W (i+1) m' (ys++[y]) H6
     else ∃m',m'<n/\W (i+1) m' ys H5)) C9 r5 (gq x c' (b_ A f) H5 _ oK (by
      cases L with
      |none=>exact λhl=>⟨_,O,hl,O,rd⟩
      |some k0=>exact agK rd λxs rd hl=>⟨xs,O,hl,O,rd⟩))
   rw[xA,xP,xw,DR,DS] at Lb;refine aA Lb λ_ s6 ⟨g',H6,I6,xs,e6,jH,eH,Lc⟩=>?_;subst e6 eH;have Le:∀{H7:Hp}{f':St}{s7:Ev},Ut Xc ([(D,{cls:=.type "list",data:=.seq (List.toArray ag) nn})]++uE j s5.heap) f' H7 s7->P (i+1) s7.heap/\(∀b∈j,H7 b=none)/\s7.heap.get? D=some {cls:=.type "list",data:=.seq (List.toArray ag) nn}/\H7 D=none:=λ{H7 f' s7} I7=>by
    refine⟨T.keep _ _ _ rV λb V o e=>(I7.pin (b,o)<|Za _<|Za _<|zx V e).1,λb V=>?_,?_,?_⟩
    ·obtain⟨o,e,d0⟩:=T.obj _ _ rV b V;exact(I7.pin (b,o)<|Za _<|Za _<|zx V e).2.1
    ·exact(I7.pin (D,_)<|Za _<|Wu _ Y1).1
    ·exact(I7.pin (D,_)<|Za _<|Wu _ Y1).2.1
   have e':wpAny (model X.prog X.w) X.A (forIn B true λc r=>if r=true then do let ok <-isTrue c (compEnvC a (cellsFrom (C+1) a.names<|dw X.env.cells a.names []) C X.env) (eval c<|compEnvC a (cellsFrom (C+1) a.names<|dw X.env.cells a.names []) C X.env);pure (ForInStep.yield ok) else pure (ForInStep.yield r))
     (λok s7=>∃H7,Ut Xc ([(D,{cls:=.type "list",data:=.seq (List.toArray ag) nn})]++uE j s5.heap) (xs.map some++b_ A f) H7 s7/\
      if ok=true then U (xs.map some++b_ A f) H7 λy H6=>ys.length<sizeLine/\∃m',m'<n/\W (i+1) m' (ys++[y]) H6
      else ∃m',m'<n/\W (i+1) m' ys H7) (λ_ _=>False) s6:=by
    cases M with
    |none=>
     have uN:B=[]:=ht;subst uN;exact wpAny_tests_nil (nT _ I6 Lc)
    |some t=>
     obtain⟨c,uN,pt⟩:=(show ∃c,B=[c]/\∀(ex:db) (C:DL) (s:Ev) (H:Hp),PT (jh X a (l++f.map (·.1)) ex C s H) c t from ht)
     subst uN;have Lf:=pt (D::j) C Q H;rw[eX] at Lf;have q:=Lf _ s6 _ _ _ I6 Lc;rw[xA,xP,xw,DR,DS] at q;exact wpAny_tests_one<|aA q λb s7 ⟨H7,I7,q7⟩=>nT H7 I7 q7
   refine aA e' λok s7 ⟨H7,I7,q7⟩=>?_;cases ok with
   |false=>
    simp only[jK,Tl] at q7⊢
    obtain⟨m',hm,w7⟩:=q7;obtain⟨t7,f7,d7,n7⟩:=Xn (Le I7);refine nT m' hm ⟨i+1,xs.map some,ys,ag,nn,H7,I7.uB<|λp hp=>?_,by simpa using jH,t7,f7,hv,hz,w7⟩
    exact I7.pin p<|Za _<|Wu _ hp
   |true=>
    simp only[if_true] at q7⊢
    have q:=he (D::j) C Q H;rw[eX] at q;have q:=q _ s7 _ H7 _ I7 q7;rw[xA,xP,xw,DR,DS] at q;refine aA q λuy s8 ⟨y,H8,I8,r8,aD,m',hm,w8⟩=>?_;obtain⟨t8,f8,d8,n8⟩:=Xn (Le I8);have hl:=hv.length;refine P3 wH (nT _ d8 O) F.entry_list_append (F.args_list_append_2 _ _) (PySem.list_append D ag.toArray nn uy (by rw[Xm];lia)) ⟨d8,?_⟩
    have I9:∀t,Ut Xc [] (xs.map some++b_ A f) H8 {s8 with heap:=s8.heap.update D (Obj.mapSeq (·.push uy)),toks:=t}:=λt=>
     (I8.uB (pins':=[])<|λp hp=>absurd hp (by simp)).turned (i:=D) (C :=t) (λb o V e=>(Ps s8.heap (Obj.mapSeq (·.push uy))<|KF V).trans e) n8 (by rw[xL];exact zW) (.inl (by rw[w9];exact Y1)) (λx c e=>cF x c e D Y1)
      (λp hp=>by rw[K8] at hp;exact absurd hp (by simp))
    have g9:=PySem.IsL.update d8 (·.push uy);obtain⟨n9,Zo⟩:∃n9,(s8.heap.update D (Obj.mapSeq (·.push uy))).get? D=some {cls:=.type "list",data:=.seq (ag++[uy]).toArray n9}:=
     o3 _ (by rw[show(ag++[uy]).toArray=ag.toArray.push uy by simp];exact g9)
    refine nT m' hm ⟨i+1,xs.map some,ys++[y],ag++[uy],n9,H8,(I9 _).uB<|λp hp=>?_,by simpa using jH,?_,f8,hv.append<|.cons r8 .nil,?_,w8⟩
    ·have w_:=Yd.mp hp;subst w_;exact⟨Zo,n8,by rw[xL];exact zW,sF D Y1,λv z=>by cases z⟩
    ·exact T.keep _ _ _ t8 λb V o e=>(Ps s8.heap (Obj.mapSeq (·.push uy))<|KF<|K7 b V).trans e
    ·rw[W0,ZS];exact X5 aD
 have Zp:P 0 b':=T.keep 0 _ _ st λb _ o e=>k4 b o (k3 b o e);have e4:({w with heap:=b'}:Ev)={Q with heap:=b'}:=by rw[<-oM]
 exact codeAny_compStart_list (d' _ e4)<|T.self X.A 0 _ _ _ Zp<|d' _ e4
end
section
variable{X:Cx}{c:Scope}{f:bi}{d:ut}{l g j:Expr}{n:on}{w:Pos}{p:TI}{r:xz}{t:Option TT}{u:TE}
theorem aqK(S:l_ X c f d)(Z:∀H,y H->∀i:Cx,i.A=X.A->i.calm=X.calm->i.H=H->B i)(a:∀E k H s,Ut X E k H s->y H)(V:DP B X g j p)(W:DQ y X c f d g r)(N:wY X c (f++d.map (·.1)) n t)(Y:∀(ex:db)(C:DL)(s:Ev)(H:Hp),PE (jh X c (f++d.map (·.1)) ex C s H) l u)(P:∀x,foldedSetIterable j X.env x=pure x:=by intro _;rfl):
  PE X (.ListComp l [⟨g,j,n,0⟩] c w) (so X.K p r d t u):=by
 intro E s k H Q I h;refine wpAny_comprehension_free O P (S.KZ I) S.kind S.locals<|aA (V E s k H _ I h) λv s1 h1=>aA h1 λrS s2 h2=>?_;obtain⟨it,fp,tn,J,H2,zq⟩:=Yj h2;obtain⟨e,z,T,G,f2,hW⟩:=Yk zq;subst e;refine K4 S (Z H2<|a _ _ _ _ z) (a _ _ _ _ z) W N Y z T G f2 hW ?_;intro D C H' s' m I' M U hL h0 F R q;exact⟨m,M,λh' L=>⟨.r D,H',I'.turned (λb o hb e=>L.extBut b o hb e) U hL (.inr h0) F R,O,q⟩⟩
theorem Zr(hN:X.N.Nodup)(dq:X.N[i]?=some y)(hy:YN X.env.scope y)(DU:swapsWith (.ListComp l [⟨g,j,n,0⟩] c w) (some<|.Name y R) Q.line X.env=pure true)(S:l_ X c f d)(hc:∀H,G H->∀F:Cx,F.A=X.A->F.calm=X.calm->F.H=H->Φ F)(B:∀M E H s,Ut X M E H s->G H)(hi:DP Φ X g j p)(hg:DQ G X c f d g r)(ht:wY X c (f++d.map (·.1)) n t)(he:∀(ex:db)(C:DL)(s:Ev)(H:Hp),PE (jh X c (f++d.map (·.1)) ex C s H) l u)(hs:∀x,foldedSetIterable j X.env x=pure x:=by intro V;rfl)(hf:autoParam (X.fn y=true\/X.env.scope.names.lookup y=some .local) bw):
  PS X (.Assign [.Name y R] (.ListComp l [⟨g,j,n,0⟩] c w) Q) (m9 (so X.K p r d t u)<|gG i):=by
 intro M s E H D I h;rw[exec_Assign_Name_used _ _ _ _ DU];refine GT<|UF<|GT ?_;refine GT (Op (wpAny_comprehension_free O hs (S.KZ I) S.kind S.locals
  (aA (hi M s E H _ I h) λv s1 h1=>aA h1 λrS s2 h2=>?_)) (λV Z hq=>IO (IO hq)) λV V e=>e)
 obtain⟨it,fp,tn,J,H2,zq⟩:=Yj h2;obtain⟨e,L,T,W,f2,hW⟩:=Yk zq;subst e;refine K4 (k:=λx H1=>gG i x E H1 D.nx) S (hc H2<|B _ _ _ _ L) (B _ _ _ _ L) hg ht he L T W f2 hW ?_;intro Da C H' Z m I' ns hn U h0 P hp q;refine wpAny_assign_Name<|Jh I' hN dq hy (v:=.r Da) O (λs4 I4 ⟨a,Y,ha⟩=>?_) hf;have Zs:C≠a:=by
  rcases ha with z|z
  rw[z];exact U;exact KF (P _ _ z)
 exact nT m (ns.sameBut Y Zs) (λh' Zt=>pI _ H' (I4.turned (λb o hb e=>Zt.extBut b o hb e) hn U (.inr h0) P hp) q)
theorem aeL(S:l_ X c f d)(o:X.calm=true)(i:PI X g j p)(k:wX X c f d g r)(h:wY X c (f++d.map (·.1)) n t)(m:∀(a:db)(C:DL)(s:Ev)(H:Hp),PE (jh X c (f++d.map (·.1)) a C s H) l u)(b:autoParam (∀x,foldedSetIterable j X.env x=pure x) dr):
  PE X (.ListComp l [⟨g,j,n,0⟩] c w) (so X.K p r d t u):=
 aqK S (λY Y q Y e Y=>e.trans o) (λY Y Y Y Y=>trivial) i.p (λa C s H Y=>k a C s H) h m b
theorem alM(D:X.N.Nodup)(E:X.N[i]?=some y)(k:YN X.env.scope y)(U:swapsWith (.ListComp l [⟨g,j,n,0⟩] c w) (some<|.Name y h) b.line X.env=pure true)(S:l_ X c f d)(B:X.calm=true)(q:PI X g j p)(v:wX X c f d g r)(m:wY X c (f++d.map (·.1)) n t)(A:∀(a:db)(C:DL)(s:Ev)(H:Hp),PE (jh X c (f++d.map (·.1)) a C s H) l u)(o:autoParam (∀x,foldedSetIterable j X.env x=pure x) dr)(z:autoParam (X.fn y=true\/X.env.scope.names.lookup y=some .local) bw):
  PS X (.Assign [.Name y h] (.ListComp l [⟨g,j,n,0⟩] c w) b) (m9 (so X.K p r d t u)<|gG i):=
 Zr D E k U S (λY Y F Y e Y=>e.trans B) (λY Y Y Y Y=>trivial) q.p (λa C s H Y=>v a C s H) m A o z
end
section
variable{X:Cx}{m:Scope}{B:ut}
theorem ahL(h:m.names.lookup x=some .cell):(relabel m e).names.lookup x=some .cell:=(DM m.names x).trans (by rw[h];rfl)
theorem aiF(l:YN m x)(o:(x::B.map (·.1)).Nodup):wX X m [x] B (.Name x b) none:=by
 intro e C s H;have Z:YN (jh X m ([x]++B.map (·.1)) e C s H).env.scope x:=l.imp sU ahL;refine⟨gG 0,zu o O Z<|l.elim (λl=>.inr<|sU l) λl=>.inl (Z2 l),λv p d f Q c h=>?_⟩;obtain⟨a,rfl⟩:∃a,p=[a]:=by
  match p,c with
  |[a],_=>exact⟨a,O⟩
 exact h O
theorem afE(D:X.calm=true)(z:m.names.lookup x=some .local)(w:m.names.lookup y=some .local)(L:(x::y::B.map (·.1)).Nodup):wX X m [x,y] B (.Tuple [.Name x l,.Name y j] k f) (some 2):=by
 intro E C s H;generalize eX:jh X m ([x,y]++B.map (·.1)) E C s H=c;have i:c.N=x::y::B.map (·.1):=eX▸O;have r:c.calm=true:=eX▸D;have o:c.env.scope.names.lookup x=some .local:=eX▸sU z;have n:c.env.scope.names.lookup y=some .local:=eX▸sU w;have u:PG c (.Name x l) (gG 0):=zu ap (i▸O) (.inl o) (.inr o);have t:PG c (.Name y j) (gG 1):=zu ap (i▸O) (.inl n) (.inr n);have J:c.K=X.K:=eX▸O;refine nT (JB c.K 2<|zv (gG 0)<|zv (gG 1) C3) (JD r<|C4 u<|C4 t JA) (λv p I P Q A h=>?_);obtain⟨a,b,rfl⟩:∃a b,p=[a,b]:=by
  match p,A with
  |[a,b],_=>exact o3 a ⟨b,O⟩
 obtain⟨G,g,rfl,M,F,q⟩:=h;obtain⟨e,d,rfl⟩:∃e d,g=[e,d]:=by
  match g,F with
  |[e,d],_=>exact o3 e ⟨d,O⟩
 exact pX G _ O ap O e _ O d _ O O (q O)
theorem bo.imp(h:bo X f r)(i:∀x y H Q,a x y H Q->r x y H Q):bo X f a:=λE s b H x y v u Q I d c q=>h E s b H x y v u Q I d c (i _ _ _ _ q)
theorem dC.imp(h:dC X f r)(i:∀x H Q,a x H Q->r x H Q):dC X f a:=λE s b H x u Q I v q=>h E s b H x u Q I v (i _ _ _ q)
def Lg(K:Frag):R2:=λx y H Q=>match x,y with
 |.i i,.i j=>Q (.i<|i+j) H
 |.s i,.s j=>i.length+j.length<=sizeLine/\Q (.s<|i++j) H
 |.r l,.r b=>Kw (.r l) (.r b) H Q\/Km K (.r l) (.r b) H Q
 |_,_=>False
theorem aeD:bo X (binaryOp .Add) (Lg X.K):=by
 refine bo.imp ((anS.or Xj).or<|apJ.or anB) λx y H Q h=>?_;cases x<;>cases y<;>first
  |exact False.elim h
  |exact .inl (.inl ⟨_,_,O,O,h⟩)
  |exact .inl (.inr ⟨_,_,O,O,h⟩)
  |exact .inr h
def nz(C:Int->Int->Prop)(g:Int->Int->V):R2:=λx y H Q=>match x,y with
 |.i i,.i j=>C i j/\Q (g i j) H
 |_,_=>False
theorem DV(x y:V)(H:Hp)(Q:VK)(h:nz C g x y H Q):rI C g x y H Q:=by
 cases x<;>cases y<;>first
  |exact False.elim h
  |exact⟨_,_,O,O,h⟩
theorem xb(x y:V)(H:Hp)(Q:VK)(h:nz (λY Y=>True) g x y H Q):oH g x y H Q:=by
 cases x<;>cases y<;>first
  |exact False.elim h
  |exact⟨_,_,O,O,h.2⟩
def Lh:R2:=λx y H Q=>match x,y with
 |.i i,.i j=>zC i j/\Q (.i<|i*j) H
 |.r l,.i k=>Kx (.r l) (.i k) H Q
 |_,_=>False
theorem aoH:bo X (binaryOp .Mult) Lh:=by
 refine bo.imp (WN.or agM) λx y H Q h=>?_;cases x<;>cases y<;>first
  |exact False.elim h
  |exact .inl ⟨_,_,O,O,h⟩
  |exact .inr h
def sv(K:Frag):Operator->R2
 |.Add=>Lg K
 |.Sub=>nz (λ_ _=>True) λi j=>.i (i - j)
 |.Mult=>Lh
 |.FloorDiv=>nz JR λi j=>.i (i / j)
 |.Mod=>nz (λ_ j=>0<j) λi j=>.i (i % j)
 |.Pow=>nz JS λi j=>.i (i ^ j.toNat)
 |_=>λ_ _ _ _=>False
theorem apK(o:Operator):bo X (binaryOp o) (sv X.K o):=by
 cases o<;>first
  |exact aeD
  |exact bo.imp alN xb
  |exact aoH
  |exact bo.imp WO DV
  |exact bo.imp anR DV
  |exact bo.imp apX DV
  |exact λY Y Y Y Y Y Y Y Y Y Y Y h=>False.elim h
mutual
def Is(H:Hp):PyData->V->Prop
 |.none,v=>v=.a
 |.bool b,v=>v=.b b
 |.int i,v=>v=.i i
 |.str x,v=>v=.s x
 |.list xs,v=>∃a vs,v=.r a/\H a=some (.l vs)/\IsL H xs vs
 |.tuple xs,v=>∃a vs,v=.r a/\H a=some (.t vs)/\IsL H xs vs
 |.dict _,_=>False
def IsL(H:Hp):List PyData->ci->Prop
 |[],vs=>vs=[]
 |d::ds,vs=>∃v r,vs=v::r/\Is H d v/\IsL H ds r
end
mutual
theorem Is.reads{E':cy}{σ:St}{H:Hp}{s:Ev}(I:Ut X E' σ H s):∀(d:PyData)(v:V)(u:EQ),Is H d v->mL v u->∃as,Reads s.heap u d as
 |.none,v,u,h,r=>by rw[show v=.a from h] at r;rw[show u=.none from r];exact⟨_,.none⟩
 |.bool b,v,u,h,r=>by rw[show v=.b b from h] at r;rw[show u=.bool b from r];exact⟨_,.bool b⟩
 |.int i,v,u,h,r=>by rw[show v=.i i from h] at r;obtain⟨t,e⟩:=r;rw[e];exact⟨_,.int i t⟩
 |.str x,v,u,h,r=>by rw[show v=.s x from h] at r;obtain⟨t,e⟩:=r;rw[e];exact⟨_,.str x t⟩
 |.list xs,v,u,h,r=>by
  obtain⟨a,vs,e,hH,hl⟩:=(show ∃a vs,v=.r a/\H a=some (.l vs)/\IsL H xs vs by simpa only[Is] using h);rw[e] at r;rw[show u=.ref a from r];obtain⟨Y,ag,n,hv,hg⟩:=I.az a _ hH;obtain⟨as,q⟩:=IsL.reads I xs vs ag hl hv;exact⟨_,.list hg rfl rfl (by simpa using q)⟩
 |.tuple xs,v,u,h,r=>by
  obtain⟨a,vs,e,hH,hl⟩:=(show ∃a vs,v=.r a/\H a=some (.t vs)/\IsL H xs vs by simpa only[Is] using h);rw[e] at r;rw[show u=.ref a from r];obtain⟨Y,ag,hv,o,hg,hc,n,hd⟩:=I.az a _ hH;obtain⟨as,q⟩:=IsL.reads I xs vs ag hl hv;exact⟨_,.tuple hg hc hd (by simpa using q)⟩
 |.dict _,v,u,h,r=>by simp only[Is] at h
theorem IsL.reads{E':cy}{σ:St}{H:Hp}{s:Ev}(I:Ut X E' σ H s):∀(ds:List PyData)(vs:ci)(us:ga),IsL H ds vs->ZT vs us->∃as,ReadsAll s.heap us ds as
 |[],vs,us,h,r=>by
  rw[show vs=[] from h] at r;cases r;exact⟨_,.nil⟩
 |d::ds,vs,us,h,r=>by
  obtain⟨v,q,e,h1,h2⟩:=(show ∃v r,vs=v::r/\Is H d v/\IsL H ds r by simpa only[IsL] using h);rw[e] at r;cases r with
  |cons r1 r2=>
   obtain⟨as,q1⟩:=Is.reads I d v _ h1 r1;obtain⟨bs,q2⟩:=IsL.reads I ds q _ h2 r2;exact⟨_,.cons q1 q2⟩
end
noncomputable def aeE:V->Go
 |.qd _=>false
 |.h _=>false
 |_=>true
def aiU:R2:=λx y H Q=>∃a b s,x=.r a/\y=.r b/\H a=some (.l s)/\H b=some (.l s)/\s.all aeE=true/\Q (.b true) H
def oO(n:Go):R2:=λx y H Q=>match m_ x y with
 |true=>Q (.b<|n ^^ decide (x=y)) H
 |false=>∃d e,Is H d x/\Is H e y/\SeqAt.shaped d=true/\SeqAt.shaped e=true/\Q (.b<|n ^^ PyData.eqv d e) H
def aeS:R2:=λx y H Q=>oO false x y H Q\/aiU x y H Q
theorem ZI(j:X.A.units+64<cLine):bo X (compareOp .Eq) (oO false):=by
 intro E s f H x y v u Q I a r h;unfold oO at h;by_cases c:m_ x y=true;rw[c] at h;simp at h;exact WW E s f H x y v u Q I a r ⟨c,h⟩;rw[show m_ x y=false by lia] at h;obtain⟨d,e,zq⟩:=XU h;obtain⟨n,m,l,k,q⟩:=ZE zq;rw[ZP] at q;obtain⟨p,i⟩:=Is.reads I d x v n a;obtain⟨o,g⟩:=Is.reads I e y u m r;exact eq_dataH i g l k j ⟨.b _,H,I,O,q⟩
theorem aoW(j:X.A.units+64<cLine):bo X (compareOp .NotEq) (oO true):=by
 intro E s f H x y v u Q I a r h;unfold oO at h;by_cases c:m_ x y=true;rw[c] at h;simp at h;exact ahH E s f H x y v u Q I a r ⟨c,h⟩;rw[show m_ x y=false by lia] at h;obtain⟨d,e,zq⟩:=XU h;obtain⟨n,m,l,k,q⟩:=ZE zq;rw[WI] at q;obtain⟨p,i⟩:=Is.reads I d x v n a;obtain⟨o,g⟩:=Is.reads I e y u m r;exact ne_dataH i g l k j ⟨.b _,H,I,O,q⟩
def an5(K:Frag)(H:Hp)(a:DL):Prop:=(∃x,ah K H a x)\/(∃x,aB K H a x)\/∃N,H a=some (.d N)
def zY(K:Frag)(n:Go):R2:=λx y H Q=>match y with
 |.s j=>∃i,x=.s i/\Q (.b (if n then !(!(Builtin.Str.occurrences j i 0 j.length 1).isEmpty) else !(Builtin.Str.occurrences j i 0 j.length 1).isEmpty)) H
 |.r p=>match x with
  |.r _=>False
  |x=>Du K n x (.r p) H Q
 |_=>False
theorem ahG(f:X.A.units+64<cLine):bo X (compareOp .In) (zY X.K false):=by
 intro E s b H x y v u Q I d c h;cases y with
 |s j=>
  obtain⟨i,e,q⟩:=h;exact Xa E s b H x _ v u Q I d c (oW i j e O q)
 |r p=>
  cases x with
  |r a=>exact False.elim h
  |_=>exact agU E s b H _ _ v u Q I d c h
 |_=>exact False.elim h
theorem apF(f:X.A.units+64<cLine):bo X (compareOp .NotIn) (zY X.K true):=by
 intro E s b H x y v u Q I d c h;cases y with
 |s j=>
  obtain⟨i,e,q⟩:=h;exact alU E s b H x _ v u Q I d c (oW i j e O q)
 |r p=>
  cases x with
  |r a=>exact False.elim h
  |_=>exact aoY E s b H _ _ v u Q I d c h
 |_=>exact False.elim h
theorem anT{A:Gc}{E:cr}{Q:cr}{v:EQ}{d:Go}(a:∀i,v≠ .builtin i)(h:Q (.bool<|v==.bool d) s):wpAny M A (compareOp .Is v<|.bool d) Q E s:=by
 cases v<;>first|exact IO h|exact absurd O (a _)
theorem afB{A:Gc}{E:cr}{Q:cr}{v:EQ}{d:Go}(a:∀i,v≠ .builtin i)(h:Q (.bool<|!(v==.bool d)) s):wpAny M A (compareOp .IsNot v<|.bool d) Q E s:=by
 cases v<;>first|exact IO h|exact absurd O (a _)
def Li:R2:=λx y H Q=>match y with
 |.b b=>Q (.b<|decide<|x=.b b) H
 |_=>y=.a/\Q (.b<|decide<|x=.a) H
def Lj:R2:=λx y H Q=>match y with
 |.b b=>Q (.b<|!decide (x=.b b)) H
 |_=>y=.a/\Q (.b<|!decide (x=.a)) H
theorem anP:bo X (compareOp .Is) Li:=by
 intro E s d H x y v u Q I r c h;cases y with
 |b b=>
  cases c;have n:∀i,v≠ .builtin i:=λi z=>by
   subst z;cases x<;>first
    | (obtain⟨t,e⟩:=r;cases e)
    | (cases r)
  refine anT n<|cL I (show Q (.b<|decide<|x=.b b) H from h) ?_;cases x<;>first
   | (cases r;rfl)
   | (obtain⟨t,rfl⟩:=r;rfl)
   | (cases r;rename_i a;cases a<;>cases b<;>rfl)
 |_=>exact ahY E s d H x _ v u Q I r c h
theorem ZQ:bo X (compareOp .IsNot) Lj:=by
 intro E s d H x y v u Q I r c h;cases y with
 |b b=>
  cases c;have n:∀i,v≠ .builtin i:=λi z=>by
   subst z;cases x<;>first
    | (obtain⟨t,e⟩:=r;cases e)
    | (cases r)
  refine afB n<|cL I (show Q (.b<|!decide (x=.b b)) H from h) ?_;cases x<;>first
   | (cases r;rfl)
   | (obtain⟨t,rfl⟩:=r;rfl)
   | (cases r;rename_i a;cases a<;>cases b<;>rfl)
 |_=>exact ahA E s d H x _ v u Q I r c h
def cp(K:Frag):CmpOp->R2
 |.Eq=>oO false
 |.NotEq=>oO true
 |.Lt=>nz (λ_ _=>True) λi j=>.b (decide<|i<j)
 |.LtE=>nz (λ_ _=>True) λi j=>.b (decide<|i<=j)
 |.Gt=>nz (λ_ _=>True) λi j=>.b (decide<|j<i)
 |.GtE=>nz (λ_ _=>True) λi j=>.b (decide<|j<=i)
 |.In=>zY K false
 |.NotIn=>zY K true
 |.Is=>Li
 |.IsNot=>Lj
theorem uO(h:X.A.units+64<cLine)(o:CmpOp):bo X (compareOp o) (cp X.K o):=by
 cases o with
 |Eq=>exact ZI h
 |NotEq=>exact aoW h
 |Lt=>exact bo.imp ahC xb
 |LtE=>exact bo.imp aoI xb
 |Gt=>exact bo.imp acE xb
 |GtE=>exact bo.imp aqJ xb
 |In=>exact ahG h
 |NotIn=>exact apF h
 |Is=>exact anP
 |IsNot=>exact ZQ
inductive Ty where|i|s|b|l|t|d
 deriving DecidableEq
noncomputable def Ty.nm:Ty->GM
 |.i=> "int" |.s=> "str" |.b=> "bool" |.l=> "list" |.t=> "tuple" |.d=> "dict"
def cf(T:Ty)(x:V)(H:Hp)(Q:Go->Prop):Prop:=match x with
 |.a=>Q false
 |.b _=>Q (T==.b ||T==.i)
 |.i _=>Q (T==.i)
 |.s _=>Q (T==.s)
 |.r a=>match H a with
  |some (.l _)=>Q (T==.l)
  |some (.c _<|.l _)=>Q (T==.l)
  |some (.t _)=>Q (T==.t)
  |some (.d _)=>Q (T==.d)
  |some (.T _)=>Q (T==.d)
  |_=>False
 |_=>False
theorem qo(K:Frag)(S T:Ty):kitOne K (.type S.nm) (.type T.nm)=some (S==T ||(S==.b && T==.i)):=by
 cases S<;>cases T<;>rfl
theorem aoJ(K:Frag)(T:Ty):kitOne K (.type "NoneType") (.type T.nm)=some false:=by
 cases T<;>rfl
theorem amH(e:X.calm=true):dC X (.builtin "sum") (λx H Q=>∃(p:DL)(n:AC),x=[.r p]/\ah X.K H p (n.map V.i)/\Q (.i n.sum) H):=by
 intro E s m H x o Q I r h;obtain⟨p,n,rfl,d,q⟩:=h;obtain⟨u,rfl,c⟩:=VZ r;cases c;obtain⟨j,v,l,z⟩:=I.list d;have b:=Ef v;obtain⟨x,a⟩:=b.allInts.items;refine sum_intListG (I.ok.hd e) (a ▸ l.isList) λy w t k=>?_;have g:n=x.toList.map (·.1):=by
  rw[<-nums_intItems,<-a];exact(show numsOf j.toArray.toList=n from b.numsOf).symm
 have f:preSum (numAt x) x.size=n.sum:=by
  rw[preSum_eq,XB aJ,g]
 rw[f];exact⟨.i n.sum,H,I.kept k,⟨t,O⟩,q⟩
theorem Lk:∀{a:bi}{u:ga},ZT (a.map V.s) u->∃l:List (Str×Tok),u=strValues l/\l.map (·.1)=a
 |[],_,.nil=>⟨[],O,O⟩
 |x::a,_,.cons ⟨t,e⟩ r=>by
  obtain⟨l,c,b⟩:=Lk r;subst e c;exact⟨(x,t)::l,O,by simp[b]⟩
def agO(K:Frag):V->ci->Hp->VK->Prop:=λx v H Q=>∃(a:Str)(p:DL)(t:bi),x=.s a/\v=[.r p]/\ah K H p (t.map V.s)/\JoinOk a t=true/\Q (.s<|Txt.join a t) H
theorem acG:uH X "str.join" (agO X.K):=by
 intro E s i H x m v n Q I c r h;obtain⟨b,p,o,zq⟩:=XM h;obtain⟨rfl,rfl,f,j,q⟩:=ZE zq;obtain⟨t,rfl⟩:=c;obtain⟨u,rfl,d⟩:=VZ r;cases d;obtain⟨w,r,e,z⟩:=I.list f;obtain⟨l,rfl,g⟩:=Lk r;exact SC.join e.isList g j λa k=>⟨.s _,H,I.tok k,⟨a,O⟩,q⟩
def ZU:V->ci->Hp->VK->Prop:=λx v H Q=>∃z y,x=.s z/\v=[.s y]/\z.length<=sizeLine/\Q (.s<|Txt.lstripChars z y) H
theorem aoD:uH X "str.lstrip" ZU:=by
 intro E s e H x f v g Q I r c h;obtain⟨z,y,rfl,rfl,d,q⟩:=h;obtain⟨t,rfl⟩:=r;obtain⟨u,rfl,⟨a,rfl⟩⟩:=VZ c;exact call_gives F.slot_str_lstrip (WP _ _ _) F.entry_str_lstrip (F.args_str_lstrip_2 _ _) (gives_str_lstrip_chars z y t a)<|post_val_or_made (λY=>fits_stripped _ _ _ d) λb k=>⟨.s _,H,I.tok k,⟨b,O⟩,q⟩
noncomputable def oP{a:Type}(x:List a)(l h:tz):List a:=(x.drop<|HT.aV x.length 0 l).take (HT.aV x.length x.length h - HT.aV x.length 0 l)
def oQ(z:Str)(l h:tz):Str:=⟨(oP z.cps.toList l h).toArray⟩
theorem acZ(z:Str)(l h:tz):((Builtin.Str.strSliceIndices l h 1 z.length).filterMap (z.cps[·]?))=oP z.cps.toList l h:=by
 obtain⟨d,c,b⟩:=Ds l h z.length;have e:Builtin.Str.strSliceIndices l h 1 z.length=sliceRange (sliceBounds l h none z.length).1 (sliceBounds l h none z.length).2.1 (sliceBounds l h none z.length).2.2:=O;have a:z.cps.toList.length=z.length:=O;rw[e,d,c,b,sliceRange_one,pick_run];unfold oP;rw[a]
def sx(K:Frag)(n:Go):R2:=λx y H Q=>∃p a d s,y=.r p/\ah K H p a/\Is H d x/\IsL H s a/\SeqAt.shaped d=true/\d.depth<=60/\(∀e∈s,SeqAt.shaped e=true)/\Q (.b<|n ^^ s.any λe=>PyData.eqv e d) H
theorem Ll(e:EQ->Go)(b:∀y a j,Reads h y a j->a.canLay0=true->e y=PyData.eqv a d):∀{u:ga}{s:List PyData}{i:db},ReadsAll h u s i->(∀x∈s,x.canLay0=true)->u.any e=s.any λx=>PyData.eqv x d
 |_,_,_,.nil,_=>O
 |_,_,_,.cons r f,c=>by
  rw[Yh,Yh,b _ _ _ r<|c _ Y1,Ll e b f λx g=>c x (yl _ g)]
theorem Lm:∀{b:ga}{c:List PyData}{g:db},ReadsAll h b c g->∀u∈b,∃d∈c,∃s,Reads h u d s
 |_,_,_,.nil,u,a=>by cases a
 |_,_,_,.cons r e,u,a=>by
  rcases xW.mp a with rfl|a
  exact⟨_,Y1,_,r⟩;obtain⟨d,f,s,q⟩:=Lm e u a;exact⟨d,yl _ f,s,q⟩
open Classical in
theorem amN{E':cy}{s:Ev}{σ:St}{H:Hp}{x:V}{v:EQ}{d:PyData}{es:List PyData}{xs:ci}{ag:ga}(I:Ut X E' σ H s)(hu:X.A.units+64<cLine)(hx:Is H d x)(rx:mL x v)(hs:IsL H es xs)(r:ZT xs ag)(sd:SeqAt.shaped d=true)(dep:d.depth<=60)(se:∀e∈es,SeqAt.shaped e=true):
  ∃e:EQ->Go,(∀w∈ag,SeqAt.EqAt X.A.in1 s w v<|e w)/\ag.any e=es.any λe=>PyData.eqv e d:=by
 obtain⟨as,rd⟩:=Is.reads I d x v hx rx;obtain⟨bs,ra⟩:=IsL.reads I es xs ag hs r;have cd:=XV sd
 let e:EQ->Go:=λy=>decide (∃de as',Reads s.heap y de as'/\de.canLay0=true/\PyData.eqv de d=true)
 have he:∀y de as',Reads s.heap y de as'->de.canLay0=true->e y=PyData.eqv de d:=by
  intro y de as' q c;show decide _=_;cases hv:PyData.eqv de d with
  |true=>exact Z2 ⟨de,as',q,c,hv⟩
  |false=>
   refine VH λ⟨ZY,gY,q',_,zD⟩=>?_;have:=SeqAt.Reads.unique de ZY y as' gY c q q';rw[<-this,hv] at zD;cases zD
 refine⟨e,λw hw=>?_,Ll e he ra λx hx=>XV (se x hx)⟩;obtain⟨de,ZZ,gY,q⟩:=Lm ra w hw;have Ln:=XV (se de ZZ);rw[he w de gY q Ln];exact SeqAt.eqAt_reads de d X.A.in1 s w v gY as q rd Ln cd (by show X.A.units+1+min de.depth d.depth<cLine;lia)
theorem ahT(n:X.A.units+64<cLine):bo X (compareOp .NotIn) (sx X.K true):=by
 intro G s C H x y v u Q I j i h;obtain⟨p,D,d,F,zq⟩:=ZO h;obtain⟨rfl,t,k,o,f,a,c,q⟩:=WR zq;cases i;obtain⟨g,r,l,E⟩:=I.list t;obtain⟨e,z,B⟩:=amN I n k j o r f a c;refine SeqAt.notIn_listAt e l.isList (λw m=>z w (by simpa using m)) ⟨.b _,H,I,O,?_⟩;rw[show g.toArray.any e=g.any e by simp,B];simpa using q
end
noncomputable def DW:HO:=.e λ_=>True
structure DX(ob:Obj)(cls:EQ)(vs:lc):Prop where
 cls:ob.cls=cls
 data:ob.data=.fields vs
 an6:vs[2]?=some .none
 dict:ob.dict=none
def yM(H:Hp)(e D:DL):Prop:= ∃o v,H e=some (.c o DW)/\DX o (.ref D) v
structure aoB(K:Frag)(D:DL):Prop where
 hga:PySem.W.findIn K (.ref D) "__getattribute__"=some (some<|.builtin "BaseException.__getattribute__")
 hgn:PySem.W.findIn K (.ref D) "__getattr__"=some none
 hk:(PySem.W.clsIn K D).isSome=true
 ha:PySem.W.findIn K (.ref D) "__class__"=some (some<|.builtin "object.__class__")
 hn:specialIn K (.builtin "object.__class__") "__get__"=some (some<|.builtin "getset_descriptor.__get__")
 Df:takesIn K (.builtin "object.__class__")=some true
 hm:mroIn K D (.type "object")=some true
 hb:mroIn K D (.type "BaseException")=some true
noncomputable def aoT:V->EQ
 |.r a=>.ref a
 |.t n=>.type n
 |_=>.none
def Lo(K:Frag):ci->Hp->VK->Prop
 |[.r e,c],H,Q=>∃D b,yM H e D/\aoB K D/\((∃C,c=.r C)\/∃n,c=.t n)/\kitOne K (.ref D) (aoT c)=some b/\Q (.b b) H
 |_,_,_=>False
def aeC(s:Sp)(h:wP)(t:TA):TE:=λb H Q=>t b H λv a=>(∃e D,h=some e/\yM a e D)/\s v a Q E0
def DY(C:DL)(E:XK)(t:TA):TS:=λ_ a H=>t a H λv b=>v.length<=sizeLine/\E (.ref C) none b
def aeM(K:Frag)(C:DL)(i n:Nat)(t:DL->TS)(D:ET):XK:=λs _ H=>exmOne K s (.ref C)=some true/\
 ∀(e:DL)(o:Obj)(v:lc)(a:St),H e=none->a.length=n->DX o s v->t e {nx:=λ_ _=>False,r:=D.r} (a.set i<|some<|.r e) (upd H e<|.c o DW)
def Z4(K:Frag)(C:DL)(i n:Nat)(b:XK->TS)(t:DL->TS):TS:=λD a H=>b (aeM K C i n t D) {nx:=D.nx,r:=D.r} a H
def apH(K:Frag)(C:DL)(i:Nat)(t:DL->TS)(D:ET)(a:St):XK:=λs _ H=>exmOne K s (.ref C)=some true/\
 ∀(e:DL)(o:Obj)(v:lc),H e=none->DX o s v->t e {nx:=λ_ _=>False,r:=D.r} (a.set i<|some<|.r e) (upd H e<|.c o DW)
def aoG(K:Frag)(C:DL)(i k:Nat)(p:Sp)(b:TA)(t:DL->TS):TS:=λD a H=>b a H λs d=>p s d (λv c=>D.nx (a.set k<|some v) c) (apH K C i t D a)
inductive oR where|l|m|x|s|i|t|e|abs
 deriving DecidableEq
inductive jI where|a|p|e|j|l|s|r|C|i|f|c|Lq|DZ
 deriving DecidableEq
inductive IK where|l|tup|g|zZ|z|Z7|txt|Z8|Z9
 deriving DecidableEq
inductive RE where
 |v (i:Nat)|c (x:V)|g (j:Nat)
 |b (h:Operator)(a b:RE)|n (a:RE)
 |p (h:CmpOp)(a b:RE)|A (h Y:CmpOp) (a b d:RE)|Ls (h Y U:CmpOp) (a b d f:RE)
 |d (e:List RE)|o (e:List RE)|N (a:RE)|M (t a b:RE)
 |l (j:Nat)(e:List RE)|t (b:oR) (e:List RE)|j (T:Ty) (a:RE)
 |w (m:jI)(o:RE)(e:List RE)
 |i (a b:RE)|s (a:RE) (J K:Option RE)
 |T (e:List RE)|L (e:List RE)
 |C (H:xz)(Q:ut)(k:IK)(R:List RE)(r:Option RE)(u:RE)
 |Lv (a c:RE)|Z_ (j:Nat) (a:RE)|dct|same (a b:RE)
 |xf|B (a b:RE)|I (a b:RE)|uP (a b:RE)|aab (o a b:RE)|inD (a b:RE)|y (a b:RE)
 |x (T:Frag->TA->TE)(e:List RE)|xm (T:Frag->TE->TA->TE) (o:RE) (e:List RE)
 |f (o:RE)(f:Str)|a (j:Nat) (m:Str) (o:RE) (e:List RE)|m (j:Nat) (e:List RE)
abbrev u8:=List RE
structure bu where
 K:Frag
 fs:Nat->Sp
 gv:Nat->V
 E:XK
 sd:DL->ii->Prop
 ms:Nat->DL×Sp
 kt:Nat->DL×Sp
 ex:Nat->DL
 hs:Nat->Sp
 hv:wP
abbrev bu.calm(a:bu):bu:={a with E:=E0}
inductive RS where
 |a (i:Nat)(e:RE)|uQ (i:Nat) (e:RE)|s (o D e:RE)
 |d (e:RE)|r (e:RE)|aac
 |i (c:RE)(t e:List RS)
 |j (i:Nat)(k:IK)(v:u8)(b:List RS)
 |l (g:am)(k:IK)(v:u8)(b:List RS)
 |m (c:RE)(b:List RS)
 |pass|brk|c|n
 |aad (o C E e:RE)|f (o:RE) (f:Str) (e:RE)
 |aae (g:am)(e:RE)|t (o i e:RE)|L (j:Nat) (q:u8)|aaf (n i j:Nat) (b u:List RS)|aag (k i j f:Nat) (q:u8) (u:List RS)
 |xs (T:bu->TS)
abbrev gu:=List RS
def oS(K:Frag)(x:V)(H:Hp)(Q:Go->Prop):Prop:=match x with
 |.a=>Q false
 |.b b=>Q b
 |.i i=>Q (i !=0)
 |.s y=>y.length<=sizeLine/\Q ((y.length:Int) !=0)
 |.r p=>(∃c,ah K H p c/\Q (!c.isEmpty))\/(∃c,aB K H p c/\Q (!c.isEmpty))\/∃N,H p=some (.d N)/\Q (!N.isEmpty)
 |_=>False
theorem Lw{K:Frag}(h:oS K x H Q):∃k,JX K x H k/\Q k:=by
 cases x with
 |a=>exact nT _ O h
 |b b=>exact nT _ O h
 |i i=>exact nT _ O h
 |s y=>exact nT _ ⟨h.1,O⟩ h.2
 |r p=>
  rcases h with⟨c,e,d⟩|⟨c,e,d⟩|⟨c,e,d⟩
  exact nT _ (.inl (nT c e O)) d;exact nT _ (.inr<|.inl ⟨c,e,O⟩) d;exact nT _ (.inr<|.inr ⟨c,e,O⟩) d
 |_=>exact False.elim h
def ji(K:Frag)(t:TE):TT:=λc H Q=>t c H λx a=>oS K x a λb=>Q b a
def D0(K:Frag)(t:TE):TE:=λc H Q=>t c H λx a=>oS K x a λb=>Q (.b<|!b) a
def Lx:V->Hp->VK->Prop:=λx H Q=>match x with|.i i=>Q (.i<|-i) H|_=>False
def wL(K:Frag)(x:V)(H:Hp)(Q:Nat->Prop):Prop:=match x with
 |.s y=>y.length<=sizeLine/\Q y.length
 |.r p=>(∃a,ah K H p a/\Q a.length)\/∃a,aB K H p a/\Q a.length
 |_=>False
noncomputable def ZM(x:Str):ci:=x.cps.toList.map λc=>V.s ⟨#[c]⟩
def aah:TE:=λ_ H Q=>∀p,H p=none->Q (.r p) (upd H p<|.d [])
def oU(K:Frag):oR->ci->Hp->VK->Prop
 |.l,[x],H,Q=>wL K x H λn=>Q (.i n) H
 |.m,[.i i,.i j],H,Q=>Q (.i (if j<i then j else i)) H
 |.x,[.i i,.i j],H,Q=>Q (.i (if j>i then j else i)) H
 |.m,[.r p],H,Q=>∃a:AC,ah K H p (a.map V.i)/\a≠ []/\∀m:Int,m∈a->(∀n∈a,m<=n)->Q (.i m) H
 |.x,[.r p],H,Q=>∃a:AC,ah K H p (a.map V.i)/\a≠ []/\∀m:Int,m∈a->(∀n∈a,n<=m)->Q (.i m) H
 |.s,[.r p],H,Q=>∃a:AC,ah K H p (a.map V.i)/\Q (.i a.sum) H
 |.i,[.i i],H,Q=>Q (.i i) H
 |.i,[.b k],H,Q=>Q (.i (if k then 1 else 0)) H
 |.t,[.r p],H,Q=>∃y,(ah K H p y\/aB K H p y)/\∀l,H l=none->Q (.r l) (upd H l<|.l y)
 |.t,[.s x],H,Q=>x.length<=sizeLine/\∀l,H l=none->Q (.r l) (upd H l<|.l<|ZM x)
 |_,_,_,_=>False
def qp(T:Ty):ci->Hp->VK->Prop
 |[x,.t n],H,Q=>n=T.nm/\cf T x H λb=>Q (.b b) H
 |_,_,_=>False
def z6(K:Frag):jI->V->ci->Hp->VK->Prop
 |.a,.r l,[y],H,Q=>∃x,H l=some (.l x)/\x.length<sizeLine/\Q .a (upd H l<|.l<|x++[y])
 |.p,.r l,[],H,Q=>∃x y,H l=some (.l x)/\x[x.length - 1]?=some y/\Q y (upd H l<|.l x.dropLast)
 |.e,.r l,[.r b],H,Q=>∃x f,H l=some (.l x)/\H b=some (.l f)/\x.length+f.length<=sizeLine/\Q .a (upd H l<|.l<|x++f)
 |.j,.s d,[.r p],H,Q=>∃t:bi,ah K H p (t.map V.s)/\JoinOk d t=true/\Q (.s<|Txt.join d t) H
 |.l,.s z,[.s y],H,Q=>z.length<=sizeLine/\Q (.s<|Txt.lstripChars z y) H
 |.c,.s z,[.s y],H,Q=>Q (.i (Builtin.Str.occurrences z y 0 z.length<|z.length+1).length) H
 |.C,.r l,[],H,Q=>∃x,H l=some (.l x)/\Q .a (upd H l<|.l [])
 |.DZ,.r l,[y],H,Q=>∃x,ah K H l x/\je y=true/\x.all je=true/\fD y x=true/\Q (.i (x.findIdx (λz=>jf z y):Nat)) H
 |_,_,_,_,_=>False
noncomputable def xg:jI->GM
 |.j|.l|.s|.f|.c=> "str"
 |_=> "list"
def uR(K:Frag)(m:jI)(o:TE)(t:TA):TE:=λa H Q=>o a H λx b=>uI K (xg m) x b/\t a b λs c=>z6 K m x s c Q
def sA(K:Frag):V->tz->tz->Hp->VK->Prop:=λx o h H Q=>match x with
 |.s z=>z.length<=sizeLine/\Q (.s<|oQ z o h) H
 |.r a=>(∃b,ah K H a b/\∀p,H p=none->Q (.r p) (upd H p<|.l<|c5 b o h))\/
  (∃b,aB K H a b/\ ¬(HT.aV b.length 0 o=0/\HT.aV b.length b.length h=b.length)/\∀p,H p=none->Q (.r p) (upd H p<|.t<|c5 b o h))
 |_=>False
noncomputable def oV(N:ii)(k:We):v0:=(N.find? λv=>decide (v.1=k)).map (·.2)
def Ly(s:DL->ii->Prop):R2:=λx y H Q=>∃p N k v,x=.r p/\y=kV k/\s p N/\oV N k=some v/\Q v H
def qr(K:Frag)(s:DL->ii->Prop):R2:=λx y H Q=>Kq K x y H Q\/Kr K x y H Q\/Ks x y H Q\/Ly s x y H Q
def aai(r n m:R2)(l j i t:TE):TT:=λa H Q=>l a H λx v=>j a v λy s=>r x y s λz f=>∃k,z=.b k/\
 (if k=true then i a f λw q=>n y w q λh e=>∃d,h=.b d/\(if d=true then t a e λu p=>m w u p λg o=>∃c,g=.b c/\Q c o else Q false e) else Q false f)
def xh(K:Frag)(a b:DL):It:=
  ⟨λi H=>∃s y,ah K H a s/\ah K H b y/\i<s.length/\i<y.length,
   λi H x c=>∃T,H T=none/\x=.r T/\∀s y u v,ah K H a s->ah K H b y->s[i]?=some u->y[i]?=some v->c=upd H T (.t [u,v]),
   λi H=>∃s y,ah K H a s/\ah K H b y/\i=min s.length y.length⟩
def Itn(K:Frag)(a:DL):It:=
  ⟨λi H=>∃s,ah K H a s/\i<s.length,
   λi H x b=>∃T,H T=none/\x=.r T/\∀s u,ah K H a s->s[i]?=some u->b=upd H T (.t [.i (i:Nat),u]),
   λi H=>∃s,ah K H a s/\i=s.length⟩
def aak(K:Frag)(t:TA):TI:=λc H R=>t c H λv b=>∃a,v=[.r a]/\(∃x,ah K b a x)/\R (Itn K a) b
def D3(K:Frag)(t:TA):TI:=λd H R=>t d H λv c=>∃a b,v=[.r a,.r b]/\(∃x,ah K c a x)/\(∃y,ah K c b y)/\R (xh K a b) c
def Xp(K:Frag)(a b:DL):It:=
  ⟨λi H=>∃s y,aB K H a s/\aB K H b y/\i<s.length/\i<y.length,
   λi H x c=>∃T,H T=none/\x=.r T/\∀s y u v,aB K H a s->aB K H b y->s[i]?=some u->y[i]?=some v->c=upd H T (.t [u,v]),
   λi H=>∃s y,aB K H a s/\aB K H b y/\i=min s.length y.length⟩
def aam(K:Frag)(t:TA):TI:=λd H R=>t d H λv c=>∃a b,v=[.r a,.r b]/\(∃x,aB K c a x)/\(∃y,aB K c b y)/\R (Xp K a b) c
noncomputable def Its(z:Str):It:=⟨λi _=>i<z.length,λi H x a=>a=H/\∃c,z.cps[i]?=some c/\x=.s ⟨#[c]⟩,λi _=>i=z.length⟩
def aao(t:TE):TI:=λa H R=>t a H λx b=>∃z,x=.s z/\R (Its z) b
noncomputable def aap(l c:Int)(n:Nat):It:=⟨λi _=>i<n,λi H x a=>a=H/\x=.i (l+i*c),λi _=>n<=i⟩
def aaq(t:TA):TI:=λa H R=>t a H λv b=>∃(i j c:Int)(n:Nat),v=[.i i,.i j,.i c]/\c≠0/\Builtin.Range.small i j c=true/\Builtin.divisionGoesByPylong (j - i) c=false/\Builtin.Range.rangeSize i j c=n/\R (aap i c n) b
mutual
def ae(Γ:bu):RE->TE
 |.v i=>CY i
 |.c x=>tC x
 |.g j=>tC (Γ.gv j)
 |.b op a b=>gk (sv Γ.K op) (ae Γ a) (ae Γ b)
 |.n a=>JP Lx (ae Γ a)
 |.p op a b=>gk (cp Γ.K op) (ae Γ a) (ae Γ b)
 |.A op cY a b d=>uF (cp Γ.K op) (cp Γ.K cY) (ae Γ a) (ae Γ b) (ae Γ d)
 |.Ls _ _ _ _ _ _ _=>λ_ _ _=>False
 |.d as=>Lz Γ as
 |.o as=>LA Γ as
 |.N a=>D0 Γ.K (ae Γ a)
 |.M t a b=>Js (aR Γ t) (ae Γ a) (ae Γ b)
 |.l j as=>Dg (Γ.fs j) [] Γ.E (aP Γ as)
 |.t b as=>gU (oU Γ.K b) (aP Γ as)
 |.j T a=>gU (qp T) (fB (ae Γ a)<|fB (tC<|.t T.nm) kY)
 |.w m o as=>uR Γ.K m (ae Γ o) (aP Γ as)
 |.i a b=>gk (qr Γ.K Γ.sd) (ae Γ a) (ae Γ b)
 |.s a lo hi=>Dm (sA Γ.K) (ae Γ a) (qt Γ lo) (qt Γ hi)
 |.T as=>J8 (aP Γ as)
 |.L as=>J9 (aP Γ as)
 |.C tk fv k ag cond elt=>so Γ.K (jj Γ k ag) tk fv (xj Γ.calm cond) (ae Γ.calm elt)
 |.Lv a c=>gU (Lo Γ.K) (fB (ae Γ a)<|fB (ae Γ c) kY)
 |.dct=>aah
 |.same a b=>gk aeS (ae Γ a) (ae Γ b)
 |.inD a b=>gk (sx Γ.K false) (ae Γ a) (ae Γ b)
 |.y a b=>gk (sx Γ.K true) (ae Γ a) (ae Γ b)
 |.xf=>KQ
 |.B a b=>KL (ae Γ a) (ae Γ b)
 |.I a b=>DI (ae Γ a) (ae Γ b)
 |.uP a b=>DJ (ae Γ a) (ae Γ b)
 |.aab o a b=>agS (ae Γ o) (ae Γ a) (ae Γ b)
 |.x T as=>T Γ.K (aP Γ as)
 |.xm T o as=>T Γ.K (ae Γ o) (aP Γ as)
 |.Z_ j a=>aeC (Γ.hs j) Γ.hv (fB (ae Γ a) kY)
 |.f o f=>zF Γ.K (ae Γ o) f
 |.a j m o as=>rY (Γ.ms j).1 m (Γ.ms j).2 [] Γ.E (ae Γ o) (aP Γ as)
 |.m j as=>Dh (Γ.kt j).1 (Γ.kt j).2 [] Γ.E (aP Γ as)
def aR(Γ:bu):RE->TT
 |.N a=>Jq (aR Γ a)
 |.inD a b=>oI (gk (sx Γ.K false) (ae Γ a)<|ae Γ b)
 |.y a b=>oI (gk (sx Γ.K true) (ae Γ a)<|ae Γ b)
 |.I a b=>tB (DI (ae Γ a)<|ae Γ b)
 |.uP a b=>tB (DJ (ae Γ a)<|ae Γ b)
 |.d as=>LB Γ as
 |.o as=>LC Γ as
 |.p op a b=>oI (gk (cp Γ.K op) (ae Γ a)<|ae Γ b)
 |.A op cY a b d=>oI (uF (cp Γ.K op) (cp Γ.K cY) (ae Γ a) (ae Γ b)<|ae Γ d)
 |.Ls op cY Lu a b d f=>aai (cp Γ.K op) (cp Γ.K cY) (cp Γ.K Lu) (ae Γ a) (ae Γ b) (ae Γ d) (ae Γ f)
 |.v i=>ji Γ.K (CY i)
 |.l j as=>ji Γ.K (Dg (Γ.fs j) [] Γ.E<|aP Γ as)
 |.j T a=>ji Γ.K (gU (qp T)<|fB (ae Γ a)<|fB (tC<|.t T.nm) kY)
 |.Lv a c=>ji Γ.K (gU (Lo Γ.K)<|fB (ae Γ a)<|fB (ae Γ c) kY)
 |.w m o as=>ji Γ.K (uR Γ.K m (ae Γ o)<|aP Γ as)
 |.i a b=>ji Γ.K (gk (qr Γ.K Γ.sd) (ae Γ a)<|ae Γ b)
 |.b op a b=>ji Γ.K (gk (sv Γ.K op) (ae Γ a)<|ae Γ b)
 |.f o f=>ji Γ.K (zF Γ.K (ae Γ o) f)
 |.x T as=>ji Γ.K (T Γ.K<|aP Γ as)
 |.xm T o as=>ji Γ.K (T Γ.K (ae Γ o)<|aP Γ as)
 |.a j m o as=>ji Γ.K (rY (Γ.ms j).1 m (Γ.ms j).2 [] Γ.E (ae Γ o)<|aP Γ as)
 |_=>λ_ _ _=>False
def aP(Γ:bu):u8->TA
 |[]=>kY
 |a::r=>fB (ae Γ a) (aP Γ r)
def Lz(Γ:bu):u8->TE
 |[]=>λ_ _ _=>False
 |[a]=>ae Γ a
 |a::r=>Jr (ae Γ a) (Lz Γ r)
def LA(Γ:bu):u8->TE
 |[]=>λ_ _ _=>False
 |[a]=>ae Γ a
 |a::r=>Wc (ae Γ a) (LA Γ r)
def LB(Γ:bu):u8->TT
 |[]=>λ_ _ _=>False
 |[a]=>aR Γ a
 |a::r=>Jo (aR Γ a) (LB Γ r)
def LC(Γ:bu):u8->TT
 |[]=>λ_ _ _=>False
 |[a]=>aR Γ a
 |a::r=>Jp (aR Γ a) (LC Γ r)
def qt(Γ:bu):Option RE->TO
 |none=>wI
 |some a=>r_ (ae Γ a)
def xj(Γ:bu):Option RE->Option TT
 |none=>none
 |some a=>some (aR Γ a)
def jj(Γ:bu)(k:IK):u8->TI
 |[]=>λ_ _ _=>False
 |a::r=>match k with
  |.l=>C6 Γ.K (ae Γ a)
  |.tup=>amB Γ.K (ae Γ a)
  |.g=>JK (fB (ae Γ a)<|aP Γ r)
  |.zZ=>JL (fB (ae Γ a)<|aP Γ r)
  |.z=>D3 Γ.K (fB (ae Γ a)<|aP Γ r)
  |.Z7=>aak Γ.K (fB (ae Γ a)<|aP Γ r)
  |.txt=>aao (ae Γ a)
  |.Z8=>aam Γ.K (fB (ae Γ a)<|aP Γ r)
  |.Z9=>aaq (fB (ae Γ a)<|aP Γ r)
end
structure dJ where
 N:bi
 sc:Scope
 fn:bi
 gn:bi
 bl:bi
 mn:bi
 kn:bi
 en:bi
 hn:bi
 m:Nat
noncomputable def Yn(s:Scope)(x:Str):Go:=match s.names.lookup x with
 |some .local=>true|some .cell=>true|some .free=>true|_=>false
noncomputable def tR(s:Scope)(x:Str):Go:=match s.names.lookup x with
 |some .local=>true|some .cell=>true|_=>false
noncomputable def qu(s:Scope)(x:Str):Go:=match s.names.lookup x with
 |some .globalImplicit=>true|_=>false
theorem aar(h:Yn s x=true):zm s x:=by
 unfold Yn at h;unfold zm;cases e:s.names.lookup x with
 |none=>rw[e] at h;cases h
 |some k=>rw[e] at h;cases k<;>first|exact .inl O|exact .inr (.inl O)|exact .inr (.inr O)|cases h
theorem D4(h:tR s x=true):YN s x:=by
 unfold tR at h;unfold YN;cases e:s.names.lookup x with
 |none=>rw[e] at h;cases h
 |some k=>rw[e] at h;cases k<;>first|exact .inl O|exact .inr O|cases h
theorem aas(h:qu s x=true):s.names.lookup x=some .globalImplicit:=by
 unfold qu at h;cases e:s.names.lookup x with
 |none=>rw[e] at h;cases h
 |some k=>rw[e] at h;cases k<;>first|rfl|cases h
structure xk where
 elt:Expr
 tg:Expr
 i:Expr
 ifs:on
 sc:Scope
noncomputable def oR.nm:oR->Str
 |.l=> "len" |.m=> "min" |.x=> "max" |.s=> "sum" |.i=> "int" |.t=> "list" |.e=> "tuple" |.abs=> "abs"
noncomputable def jI.nm:jI->Str
 |.a=> "append" |.p=> "pop" |.e=> "extend" |.j=> "join" |.l=> "lstrip" |.s=> "startswith" |.r=> "reverse" |.C=> "clear" |.i=> "index" |.f=> "find" |.c=> "count" |.Lq=> "count" |.DZ=> "index"
noncomputable def qv:Expr->Go
 |.Call (.Name _ _) [] [] _=>false
 |_=>true
noncomputable def WH:Expr->Go
 |.Starred ..=>false
 |_=>true
noncomputable def xl:Expr->Go
 |.Set ..=>false
 |_=>true
noncomputable def D5(L s:Scope):Scope:=
 {L with names:=L.names.map fun(n,k)=>if (k==.free && s.kind==.function && s.names.lookup n==some .cell) then (n,.cell) else (n,k)}
noncomputable def uS(t:xz)(g:Expr):Option bi:=match t,g with
 |none,.Name x _=>some [x]
 |some 2,.Tuple [.Name x _,.Name y _] _ _=>some [x,y]
 |_,_=>none
def LF(S:dJ)(c:xk)(l:bi)(f:ut):dJ:={S with N:=l++f.map (·.1),sc:=D5 c.sc S.sc,en:=[],m:=if S.m=0 then 0 else 2}
def D6(S:dJ)(c:xk)(l:bi)(f:ut):Go:=
 decide (c.sc.kind=.function) && c.sc.names.all (λy=>decide (y.2≠ .cell)||decide (c.sc.names.lookup y.1=some .cell)) && c.sc.names.all (λy=>decide (y.2≠ .local)||decide (c.sc.names.lookup y.1=some .local))
 && c.sc.names.all (λy=>decide (y.2≠ .free)||decide (S.sc.names.lookup y.1=some .cell)||decide (S.sc.names.lookup y.1=some .free))
 && f.all (λp=>decide (S.N[p.2]?=some p.1) && decide (c.sc.names.lookup p.1=some .free))
 && l.all (λx=>decide (c.sc.names.lookup x=some .local)||(decide (l.length=1) && decide (c.sc.names.lookup x=some .cell))) && decide ((l++f.map (·.1)).Nodup) && xl c.i
theorem aat{K:Frag}{N:on}{z B j g f Z Y:DL}(D:ZipApart z B j g f Z Y)(dl:Z≠B/\Y≠B):
  sW P w K (.Tuple N k c') (xh K Z Y) [z,B,j,g,f] z
   (λi h=>IsZip h z B j .none/\IsPair h B (.ref g) (.ref f)/\(∃a b,IsPair h j a b)/\h.IsListIter g Z i/\h.IsListIter f Y i) where
 mem:=by simp
 obj:=λi h C b d=>by
  obtain⟨F,L,⟨a,b',J⟩,⟨o1,e1,c1,d1⟩,⟨o2,e2,c2,d2⟩⟩:=C;simp only[xW,Zz,Os] at d;rcases d with rfl|rfl|rfl|rfl|rfl
  exact nT _ F (λv q=>by cases q);exact nT _ L (λv q=>by cases q);exact nT _ J (λv q=>by cases q);exact nT _ e1 (λv q=>by rw[d1] at q;cases q);exact nT _ e2 (λv q=>by rw[d2] at q;cases q)
 keep:=λi h h' C y=>by
  obtain⟨F,L,⟨a,b',J⟩,h1,h2⟩:=C;exact⟨y z aJ _ F,y B aJ _ L,o3 a ⟨b',y j aJ _ J⟩,h1.at λo e=>y g aJ o e,h2.at λo e=>y f aJ o e⟩
 item:=by
  intro X hP hw hK l i E' s σ H E I M C hg;subst hP hw hK;obtain⟨xs,ys,hx,hy,s',p'⟩:=hg;obtain⟨V,r1,p1,z1⟩:=I.list hx;obtain⟨gm,r2,p2,z2⟩:=I.list hy;have cO:=r1.length;have dm:=r2.length;have W:=WalksT.zip2 (prog:=X.prog) (w:=X.w) (A:=X.A) (I.ok.hd l) z B j g f Z Y D V.toArray gm.toArray;obtain⟨F,L,J,h1,h2⟩:=ZE (id C);have hn:i<min V.toArray.size gm.toArray.size:=by simp only[Xm];lia
  refine W.item i s _ _ hn ⟨F,L,J,h1,h2,p1.isList,p2.isList⟩ λT m' h' tk hv hT k' f' y=>?_;refine nT (.ref T) O ?_;refine W.go N k c' i T _ _ _ f' λz7 l' LG=>?_;obtain⟨u,v,zq⟩:=XU hv;obtain⟨eu,ev,rfl⟩:=Xb zq;have R:∀b∈ [z,j,g,f],b∈ [z,B,j,g,f]:=λb d=>by
   simp only[xW,Zz,Os] at d⊢;rcases d with rfl|rfl|rfl|rfl<;>simp
  have kk:=λb o d e=>LG b o d (y b o d e);have I1:Ut X E' σ H {s with heap:=z7,toks:=tk}:=by
   refine I.step (g':=s.gens) (d':=s.drawn) (ch:=[z,j,g,f]) (λb d=>?_) (λb o _ _ l e _=>kk b o l e) (λb o _ _ l e _=>o3 o.slots (kk b o l e)) (λ_ _ _ _ n=>n)
    (λb o l e=>o3 o (kk b o l e)) (λ_ _ e=>e) (λ_ _ _ e=>e) (λb ps e=>o3 (#[]) (by rw[e];simp)) (λm hm=>?_) (λb o e=>?_) I.E
   obtain⟨f0,f1,f2,f3,f4,f5⟩:=Yk (M b (R b d));exact⟨f3,f1,f4,f5⟩;obtain⟨o,es,ep,ho,r⟩:=hm;exact o3 o ⟨es,ep,kk _ o (λd=>(M _<|R _ d).2.1 O) ho,r⟩;have nb:∀c o',H c=some o'->c∉ [z,j,g,f]:=λc o' e d=>by
    rw[(M c<|R c d).1] at e;cases e
   refine(I.az b o e).oE (λc q S G=>kk c q ?_ G) (λ_ q=>q) λ_ _ q=>q;rcases S with rfl|S
   exact nb _ _ e;exact nb _ _ S
  have U:s.heap.objs.size<=T:=hT;have fT:H T=none:=I.az.fresh U;have aT:T∉ [z,j,g,f]:=W.apart i T h' f';have tT:z7.IsTuple T #[u,v]:=by
   obtain⟨o,ho,q⟩:=k';exact nT o (LG T o aT ho) q
  obtain⟨a,j',ra⟩:∃a,xs[i]?=some a/\mL a u:=by
   have e:V[i]?=some u:=by simpa using eu
   have:i<xs.length:=s'
   obtain⟨u',G,r'⟩:=r1.get (i:=i) (x:=xs[i]) (by simp[this]);rw[e] at G;cases G;exact nT (xs[i]) (by simp[this]) r'
  obtain⟨b,i',rb⟩:∃b,ys[i]?=some b/\mL b v:=by
   have e:gm[i]?=some v:=by simpa using ev
   have:i<ys.length:=p'
   obtain⟨u',G,r'⟩:=r2.get (i:=i) (x:=ys[i]) (by simp[this]);rw[e] at G;cases G;exact nT (ys[i]) (by simp[this]) r'
  have n':=I.sz;have I2:Ut X E' σ (upd H T<|.t [a,b]) {s with heap:=z7,toks:=tk}:=by
   refine Ut.zT I1 fT (wO I.sz U) (Ya<|YY I.lt U) (λx c e q=>?_) (λp hp q=>?_) (qH (by show 2<=sizeLine;decide) [u,v] (.cons ra<|.cons rb .nil) tT);obtain⟨v',q'⟩:=I.cell x c e;have:=q'.lt;rw[q] at this;exact absurd (YY this U)<|XD _;have:=IR (I.pin p hp).1;rw[q] at this;exact absurd (YY this U)<|XD _
  refine o4 (.r T) _ I2 O (nW T fT O (λbx e9 a' b' eG lZ ea eb=>?_)) ?_ (λc S=>?_);rw[I.C0 eG hx,j'] at ea;rw[I.C0 lZ hy,i'] at eb;cases ea;cases eb;rfl;obtain⟨q1,q2,q3,q4,q5,_⟩:=Yk l';exact⟨q1,q2,q3,q4,q5⟩;have n0:=(M c S).1;have:c≠T:=λq=>by
   obtain⟨o,e,_⟩:∃o,s.heap.get? c=some o/\True:=by
    obtain⟨F,L,⟨a',b',J⟩,⟨o1,e1,_⟩,⟨o2,e2,_⟩⟩:=C;simp only[xW,Zz,Os] at S;rcases S with rfl|rfl|rfl|rfl|rfl
    exact nT _ F trivial;exact nT _ L trivial;exact nT _ J trivial;exact nT _ e1 trivial;exact nT _ e2 trivial
   have:=IR e;rw[q] at this;exact absurd (YY this U)<|XD _
  rw[ay this];exact n0
 done:=by
  intro X hP hw hK l i E' s σ H E I M C hg;subst hP hw hK;obtain⟨xs,ys,hx,hy,hi⟩:=hg;obtain⟨V,r1,p1,z1⟩:=I.list hx;obtain⟨gm,r2,p2,z2⟩:=I.list hy;have cO:=r1.length;have dm:=r2.length;have W:=WalksT.zip2 (prog:=X.prog) (w:=X.w) (A:=X.A) (I.ok.hd l) z B j g f Z Y D V.toArray gm.toArray;obtain⟨F,L,J,h1,h2⟩:=ZE (id C);have hn:i=min V.toArray.size gm.toArray.size:=by simp only[Xm];lia
  subst hn;refine W.done s _ _ ⟨F,L,J,h1,h2,p1.isList,p2.isList⟩ λh' tk y=>⟨O,?_⟩;have R:∀b∈ [z,j,g,f],b∈ [z,B,j,g,f]:=λb d=>by
   simp only[xW,Zz,Os] at d⊢;rcases d with rfl|rfl|rfl|rfl<;>simp
  refine I.step (g':=s.gens) (d':=s.drawn) (ch:=[z,j,g,f]) (λb d=>?_) (λb o _ _ l e _=>y b o l e) (λb o _ _ l e _=>o3 o.slots (y b o l e)) (λ_ _ _ _ n=>n)
   (λb o l e=>o3 o (y b o l e)) (λ_ _ e=>e) (λ_ _ _ e=>e) (λb ps e=>o3 (#[]) (by rw[e];simp)) (λm hm=>?_) (λb o e=>?_) I.E
  obtain⟨f0,f1,f2,f3,f4,f5⟩:=Yk (M b (R b d));exact⟨f3,f1,f4,f5⟩;obtain⟨o,es,ep,ho,r⟩:=hm;exact o3 o ⟨es,ep,y _ o (λd=>(M _<|R _ d).2.1 O) ho,r⟩;have nb:∀c o',H c=some o'->c∉ [z,j,g,f]:=λc o' e d=>by
   rw[(M c<|R c d).1] at e;cases e
  refine(I.az b o e).oE (λc q S G=>y c q ?_ G) (λ_ q=>q) λ_ _ q=>q;rcases S with rfl|S
  exact nb _ _ e;exact nb _ _ S
 self:=λA i s Q E C hQ=>wpAny_pyIter_zip C.1 hQ
theorem G7:bootBuiltins "zip"=some (.type "zip"):=O
theorem aay{g:on}(N:Gl X "zip")(L:X.mg "zip"=none)(P:PA X [a,b] t)(J:starEach [a,b] X.env=(false,eval a X.env)::starEach [b] X.env)(E:(backTo d<|starEach [b] X.env).any (·.1)=false):
  PI X (.Tuple g k Y) (.Call (.Name "zip" p) [a,b] [] d) (D3 X.K t):=by
 intro W s y H R I h;refine Call_<|m6 I N L G7<|Rs (aA (P d W s y H _ I h) λus c ⟨vs,x,i,B,C⟩=>?_) J E;obtain⟨n,m,e,⟨xs,G⟩,⟨ys,F⟩,q⟩:=C;subst e;obtain⟨u,v,rfl,A,z⟩:=YX B;cases A;cases z;obtain⟨mi,z8,l,z1⟩:=i.list G;obtain⟨gm,z9,j,z2⟩:=i.list F;refine call_zip_2 l.isList j.isList λh' w U T S Q a6 M=>?_;refine wpAny_pyIter_zip w ?_;have D7: @LT.lt Nat _ n c.heap.objs.size:=by obtain⟨_,e,_⟩:=l.isList;exact IR e
 have Z: @LT.lt Nat _ m c.heap.objs.size:=by obtain⟨_,e,_⟩:=j.isList;exact IR e
 have D:ZipApart (c.heap.objs.size+4) (c.heap.objs.size+2) (c.heap.objs.size+3) c.heap.objs.size (c.heap.objs.size+1) n m:=by
  constructor<;>(show @Ne Nat _ _;lia)
 have V:=i.kept (t':=c.toks) M;refine p3 _ _ _ _ x O V (aat D ⟨ap,ap⟩) ⟨w,U,o3 _ ⟨_,T⟩,S,Q⟩ (λr o=>?_) q;have f:c.heap.objs.size<=r:=by
  simp at o;rcases o with rfl|rfl|rfl|rfl|rfl
  exact j9 _ _;exact j9 _ _;exact j9 _ _;exact VL _;exact j9 _ _
 have:=i.C5 (b:=r) (H':=x) f (i.az.fresh f);exact this
end
set_option maxHeartbeats 400000
section
open PyProof.Rows
end
set_option maxHeartbeats 1000000
set_option maxHeartbeats 400000
section
open PyProof.Rows
inductive bQ(J:Ev->Prop){b:Type}:Sem b->Prop
 |p (a:b):bQ J (.pure a)
 |r (e:EQ):bQ J (.raise e)
 |u (w:GM):bQ J (.unsupported w)
 |R {t:GM}{k:Unit->Sem b}:bQ J (k ())->bQ J (.rule t k)
 |l {a:DL}{p:AT}{k:Obj->Sem b}:(∀o,bQ J<|k o)->bQ J (.load a p k)
 |U {a:DL}{p:AT}{f:Obj->Obj}{k:Unit->Sem b}:(∀s,J s->J {s with heap:=s.heap.update a f})->bQ J (k ())->bQ J (.update a p f k)
 |c {o:Obj}{k:DL->Sem b}:(∀s,J s->J {s with heap:=s.heap.push o})->(∀a,bQ J<|k a)->bQ J (.alloc o k)
 |s {k:List (Code×Pos)->Sem b}:(∀t,bQ J<|k t)->bQ J (.stack k)
theorem aaz{t:Sem b}(k:bQ J t):∀{Q:b->Pos->Ev->Prop}{E:EQ->Pos->Ev->Prop}{p:Pos}{s:Ev},J s->Sem.wp M d t Q E p s->
  Sem.wp M d t (λa p s=>Q a p s/\J s) (λe p s=>E e p s/\J s) p s:=by
 induction k with
 |p a=>intro Q E p s j h;exact⟨h,j⟩
 |r e=>intro Q E p s j h;rw[Sem.wp] at h⊢;exact⟨h,j⟩
 |u w=>intro Q E p s j h;cases h
 |R Y i=>intro Q E p s j h;exact i j h
 |l Y i=>intro Q E p s j h;obtain⟨o,e,h⟩:=h;exact⟨o,e,i o j h⟩
 |U f Y i=>intro Q E p s j h;exact⟨h.1,i (f _ j) h.2⟩
 |c f Y i=>intro Q E p s j h;exact i _ (f _ j) h
 |s Y i=>intro Q E p s j h;rw[Sem.wp] at h⊢;exact i _ j h
theorem LH{A:Gc}{t:Sem c}{Q:c->Ev->Prop}{E:cr}(k:bQ J t)(j:J s)(h:wpAny M A t Q E s):
  wpAny M A t (λa s=>Q a s/\J s) (λe s=>E e s/\J s) s:=λd p b=>aaz k j (h d p b)
def fJ(e:DL)(s:Ev):Prop:= ∃o v,s.heap.get? e=some o/\o.data=.fields v/\v[2]?=some .none/\o.dict=none
theorem aaA(f:lc->lc)(o:Obj):(Obj.mapFields f o).dict=o.dict:=by
 unfold Obj.mapFields;split<;>rfl
theorem Mo{v:EQ}(k:i≠2)(s:Ev)(j:fJ e s):fJ e {s with heap:=s.heap.update a (Obj.mapFields (·.setIfInBounds i v))}:=by
 obtain⟨o,g,f,c,b,h⟩:=j;by_cases z:a=e;subst z;have d:=Obj.data_mapFields c (·.setIfInBounds i v);exact oZ _ _ (SB _ f<|Obj.isFreed_of_fields d) d (by rw[Array.getElem?_setIfInBounds_ne k];exact b) ((aaA _ _).trans h);exact oZ o g ((Ps _ _ z).trans f) c b h
theorem aaC(h:∀o,(f o).data=o.data/\(f o).dict=o.dict)(s:Ev)(j:fJ e s):fJ e {s with heap:=s.heap.update a f}:=by
 obtain⟨o,v,g,b,d,c⟩:=j;by_cases z:a=e;subst z;exact oZ _ v (SB _ g<|Obj.isFreed_of_fields<|(h o).1.trans b) ((h o).1.trans b) d ((h o).2.trans c);exact oZ o v ((Ps _ _ z).trans g) b d c
theorem aaD(s:Ev)(j:fJ e s):fJ e {s with heap:=s.heap.push b}:=by
 obtain⟨o,v,zq⟩:=XU j;obtain⟨d,c,a,h⟩:=Xn zq;exact⟨o,v,KK _ d,c,a,h⟩
theorem bQ.bind{t:Sem b}{f:b->Sem d}(k:bQ J t)(h:∀a,bQ J<|f a):bQ J (t>>=f):=by
 induction k with
 |p a=>exact h a
 |r e=>exact .r e
 |u w=>exact .u w
 |R Y i=>exact .R i
 |l Y i=>exact .l i
 |U g Y i=>exact .U g i
 |c g Y i=>exact .c g i
 |s Y i=>exact .s i
section
variable{e:DL}
theorem D8{a:DL}:bQ (fJ e) (load a):=.l λo=>.p o
theorem D9(h:i≠2):bQ (fJ e) (setField v i x):=by
 unfold setField;split;refine D8.bind λo=>?_;split;split;exact .U (λs j=>Mo h s j) (.p ());exact .u _;exact .u _;exact .u _
theorem aaE:bQ (fJ e) (fieldsOf v):=by
 unfold fieldsOf;split;refine D8.bind λo=>?_;split;exact .p _;exact .u _;exact .u _
theorem Aa:bQ (fJ e) (field v i):=by
 refine aaE.bind λs=>?_;split;exact .p _;exact .u _
theorem aaF{f:wP}:bQ (fJ e) (setFlight v f):=by
 refine Aa.bind λt=>?_;split;exact D9 (Ya (Yq _));exact .p _
theorem D_:bQ (fJ e) stack:=.s λt=>.p t
theorem aaG{v:ga}:bQ (fJ e) (newFields t v):=by
 show bQ (fJ e) (if v.toArray.size>sizeLine+2 then (unsupported "record:memory" >>=_) else _);split;exact .u _;exact bQ.bind (.c (λs j=>aaD s j) λa=>.p a) λa=>.p _
theorem aaH{b:Go}:bQ (fJ e) (entryPlaceOf f b):=by
 refine D_.bind λa=>?_;split;exact .p _;exact .p _
theorem LI:∀l:zO,bQ (fJ e) (readyFrames l)
 |[]=>.p _
 |v::r=>by
  unfold readyFrames;split;refine D8.bind λo=>?_;split;exact .p _;refine bQ.bind ?_ λi=>bQ.bind ?_ λb=>bQ.bind (.U (λs j=>aaC ap s j)<|.p ()) λY=>LI r;unfold behindIsImport;split;exact .p _;split;exact .p _;exact Aa.bind λY=>.p _;unfold keptBack;split;split;exact .p _;exact bQ.bind (D_.bind λY=>.p _) λY=>.p _;exact .p _;exact .u _
theorem aaI:bQ (fJ e) (PySem.frameOf v):=by
 refine bQ.bind (D_.bind λY=>.p _) λl=>bQ.bind ?_ λr=>?_;unfold frameObject;split;exact .p _;exact(LI _).bind λY=>.p _;split;exact .p _;exact .u _
theorem aaJ:bQ (fJ e) (noteFrame v c):=by
 unfold noteFrame;split;rename_i x d hq;refine Aa.bind λh=>?_;have t:bQ (fJ e) (do let a <-PySem.frameOf c;let l <-entryPlaceOf d (h !=.none);let b <-EntryCells.newEntry h a .none (rawInt d) .none l;setField v 1 b):=
  aaI.bind λa=>aaH.bind λl=>bQ.bind aaG λb=>D9 (ZH (Yq _))
 split;refine Aa.bind λx=>?_;split;exact .p _;exact(D9 (Ya (Yq _))).bind λY=>t;exact t;exact .u _
theorem LJ:bQ (fJ e) (leaving a v):=by
 exact aaJ.bind λY=>aaF
end
end
set_option maxHeartbeats 4000000
section
open PyProof.Rows
theorem cT.Ea(x:cT P w H h a o):∃b,h.get? a=some b:=by
 cases o with
 |l g=>obtain⟨Y,Y,Y,Y,e⟩:=x;exact⟨_,e⟩
 |t g=>obtain⟨Y,Y,Y,b,e,Y⟩:=x;exact⟨_,e⟩
 |d N=>obtain⟨Y,Y,Y,Y,o,Y,Y,e,Y⟩:=x;exact⟨_,e⟩
 |T N=>obtain⟨Y,Y,Y,Y,o,Y,Y,e,Y⟩:=x;exact⟨_,e⟩
 |s S n=>obtain⟨o,Y,Y,Y,e,Y⟩:=ZO x;exact⟨_,e⟩
 |i C v j=>obtain⟨Y,Y,Y,e,Y⟩:=ZE x;exact⟨_,e⟩
 |o y=>obtain⟨Y,e⟩:=x;exact⟨_,e⟩
 |xd j=>obtain⟨Y,⟨Y,Y,Y,e,Y⟩,Y⟩:=x;exact⟨_,e⟩
 |gf q r=>obtain⟨Y,Y,Y,e⟩:=x;exact⟨_,e⟩
 |c b u=>obtain⟨e,Y⟩:=x;exact⟨_,e⟩
 |M p=>exact⟨_,(show h.get? a=some _ from x)⟩
 |m f y=>exact⟨_,(show h.get? a=some _ from x)⟩
 |e k=>obtain⟨Y,⟨Y,e⟩,Y⟩:=x;exact⟨_,e⟩
theorem cN.LK(f:cN P w H h)(k:∀b u,H b≠none->h.get? b=some u->d.get? b=some u):cN P w H d:=λa o e=>
 (f a o e).oE (λb u c g=>k b u (by
  rcases c with rfl|c
  rw[e];exact Option.some_ne_none _;rw[c];exact Option.some_ne_none _) g) (λY z=>z) (λY Y z=>z)
def jm(P:Fa)(w:Fk):cZ:=λr H s E e a=>∃(f:DL)(c:EQ)(t:DL)(B:FS)(d:Hp),
 e=.ref f/\a.os=s.os/\AllBare a.gens/\Un (bX r) [] H d s.heap a.heap/\cN P w d a.heap/\Heap.FlyingW B r f c (.ref t) a.heap/\fJ f a/\d f=none/\
 (∀b,d b≠none->∀o,a.heap.get? b=some o->B.get? b=some o)/\(∀b o,s.heap.get? b=some o->b∉bX r->∀g,a.heap.get? b=some g->B.get? b=some g)/\E c none d
theorem LL(h:jm P w o H s E0 e a):False:=by
 obtain⟨Y,Y,Y,Y,Y,zq⟩:=Yj h;obtain⟨Y,Y,Y,Y,Y,Y,Y,Y,Y,Y,h⟩:=GI zq;exact h
section
variable{P:Fa}{w:Fk}{K:Frag}{i:ge}{j:FS}{N:bi}{d:Str}{g:Scope}{f:DL}{h:EQ}{A:Gc}{a:zO}{c:Ev}{k:Hp}{E:XK}
theorem aaK:YD (jm P w) (r9 (jm P w) P w K i j N d g f h A a c k E) E:=by
 intro E' σ H s e V I hx;obtain⟨ea,M,t,B,H',zq⟩:=Yj hx;obtain⟨rfl,os,R,u,az,fl,Eb,Y,c1,c2,hE⟩:=GI zq;have nL:∀b o,c.heap.get? b=some o->b∉bX a->b∉bX (envOfC d g c.heap.objs.size f h::a):=λb o l r S=>by
  rcases xW.mp S with rfl|z
  cases Nat.not_lt.mpr I.ok.above (IR l);exact r z
 have wu:∀b∈bX (envOfC d g c.heap.objs.size f h::a),H' b=none:=λb l=>by
  obtain⟨o,y,_⟩:=(I.stack.mem l).2;exact u.free b o y (I.zp b l) Zz
 refine Op (LH LJ Eb<|wpAny_leaves_onW (Q:=λ_ lY=>∃G,lY={V with heap:=G}/\Heap.FlyingW B a ea M (.ref t) G/\V.heap.UpToSlots G) (E:=λ_ _=>False) I.ok.frames O fl λG J T=>nW G O J T)
  (λ_ lY hq=>?_) (λ_ _ z=>z.1.elim)
 obtain⟨⟨G,rfl,J,T⟩,Ec⟩:=hq;have p:=λb o l r X Z=>J.1 b X (c2 b o l r X Z);have bP:=λb o l y=>J.1 b o (c1 b l o y);have sD:∀b∈bX (envOfC d g c.heap.objs.size f h::a),∀o,V.heap.get? b=some o->∃U,G.get? b=some {o with slots:=U}:=λb l o y=>by
  obtain⟨C,mq,hd⟩:=(fl.2.2.1.mem l).2;rw[y] at mq;cases mq;exact T b o y hd
 refine p3 ea M t B H' O (os.trans I.os) R ⟨λb o q n r _=>?_,λb o q n r _=>?_,λb o q n _=>?_,λb o q _=>?_,λb xs q=>u.bB b xs (I.base.bB b xs q),λb o v q=>u.jC b o v (I.base.jC b o v q),λb ps q=>?_⟩ (az.LK (λb o l y=>bP b o l y)) ⟨J,Ec,Y,λb l o y=>?_,λb o q r X Z=>?_,hE⟩
 have m:=I.base.keep b o q n r Zz;have D:=nL b o q r;exact p b o m D o<|u.keep b o m (I.base.free b o q n Zz) D Zz;obtain⟨U,m⟩:=I.base.slot b o q n r Zz;have D:b∈bX (envOfC d g c.heap.objs.size f h::a):=yl _ r;obtain⟨Dj,x⟩:=u.slot b _ m (I.base.free b o q n Zz) D Zz;obtain⟨Ee,W⟩:=sD b D _ x;exact o3 Ee W;obtain⟨C,m⟩:=I.base.there b o q Zz;exact u.free b C m (I.base.free b o q n Zz) Zz;obtain⟨C,m⟩:=I.base.there b o q Zz;obtain⟨F,x⟩:=u.there b C m Zz;by_cases S:b∈bX (envOfC d g c.heap.objs.size f h::a);obtain⟨U,W⟩:=sD b S F x;exact o3 _ W;exact o3 F (p b C m S F x);obtain⟨m1,e1⟩:=I.base.j5 b ps q;obtain⟨m2,e2⟩:=u.j5 b _ e1;exact o3 (m1++m2) (by rw[e2,Array.append_assoc]);obtain⟨jD,hH⟩:=Option.ne_none_iff_exists'.mp l;obtain⟨F,x⟩:=(az b jD hH).Ea;have L:=y;rw[(bP b F l x)] at L;cases L;exact c1 b l _ x;obtain⟨C,m⟩:=I.base.there b o q Zz;obtain⟨F,x⟩:=u.there b C m Zz;have D:=nL b o q r;have L:=Z;rw[(p b C m D F x)] at L;cases L;exact c2 b C m D _ x
def x0(X:Cx)(E:XK):Prop:= ∀(b:cy)(a:St)(H:Hp)(s:Ev)(h:FS)(e:DL)(c:EQ)(v:ga),Ut X b a H s->Heap.MadeExcOf s.heap h e c v->E c none H->X.xe (.ref e) {s with heap:=h}
theorem aaM:x0 (r9 (jm P w) P w K i j N d g f h A a c k E) E:=by
 intro E' σ H s Z e F vs I J hE;have V:∀b o,c.heap.get? b=some o->b∉bX a->b∉bX (envOfC d g c.heap.objs.size f h::a):=λb o m p B=>by
  rcases xW.mp B with rfl|z
  cases Nat.not_lt.mpr I.ok.above (IR m);exact p z
 have uT:∀x∈ (envOfC d g c.heap.objs.size f h::a),∀b,x.frame=some b->b∈bX (envOfC d g c.heap.objs.size f h::a):=λx he b m=>VG.mpr (nT x he m);have Eb:fJ e {s with heap:=Z}:=by
  obtain⟨t,ht,_,_⟩:=J.there;exact oZ _ _ ht O O O
 refine Op (LH LJ Eb (wpAny_leaves_madeW (Q:=λ_ Y=>∃v t,Y={s with heap:=v}/\Heap.FlyingW (hideAll s.heap (bX (envOfC d g c.heap.objs.size f h::a))) a e F (.ref t) v/\Z.UpToSlots v) (E:=λ_ _=>False)
  I.ok.frames O (λb o q=>of_hideAll _ q) (PySem.W.funFrames_hide I.stack uT) J λv t G _ _ L=>oW v t O G L)) (λ_ Y hq=>?_) (λ_ _ z=>z.1.elim)
 obtain⟨⟨v,t,rfl,G,L⟩,Ec⟩:=hq;have l:=λb o m p=>G.1 b o (hideAll_get _ m p);have S:∀b,H b≠none->b∉bX (envOfC d g c.heap.objs.size f h::a):=λb m B=>m (I.zp b B);have T:∀b∈bX (envOfC d g c.heap.objs.size f h::a),∀o,s.heap.get? b=some o->∃M,v.get? b=some {o with slots:=M}:=λb m o r=>by
  obtain⟨y,X,hd⟩:=(I.stack.mem m).2;rw[r] at X;cases X;exact L b o (J.keeps b o r) hd
 refine p3 e F t _ H O I.os I.E ⟨λb o q n p _=>?_,λb o q n p _=>?_,λb o q n _=>I.base.free b o q n Zz,λb o q _=>?_,I.base.bB,I.base.jC,I.base.j5⟩ (I.az.LK (λb o m r=>l b o r (S b m))) ⟨G,Ec,?_,λb m o r=>?_,λb o q p o' gg=>?_,hE⟩
 exact l b o (I.base.keep b o q n p Zz) (V b o q p);obtain⟨M,u⟩:=I.base.slot b o q n p Zz;obtain⟨Ee,R⟩:=T b (yl _ p) _ u;exact o3 Ee R;obtain⟨y,u⟩:=I.base.there b o q Zz;by_cases B:b∈bX (envOfC d g c.heap.objs.size f h::a);obtain⟨M,R⟩:=T b B y u;exact o3 _ R;exact o3 y (l b y u B);cases q:H e with
 |none=>rfl
 |some r=>
  obtain⟨U,C⟩:=(I.az e r q).Ea;rw[J.new] at C;cases C
 obtain⟨jD,hH⟩:=Option.ne_none_iff_exists'.mp m;obtain⟨U,C⟩:=(I.az b jD hH).Ea;have D:=r;rw[(l b U C (S b m))] at D;cases D;exact hideAll_get _ C<|S b m;obtain⟨y,u⟩:=I.base.there b o q Zz;have dN:=V b o q p;have D:=gg;rw[(l b y u dN)] at D;cases D;exact hideAll_get _ u dN
end
section
variable{X:Cx}
theorem aaN{C:DL}{Q:ga}{B n U:GM}{c:on}(hc:X.calm=true)(a:OwnCls x C Q n X.mg X.base)(S:ExcBaseFacts B n U Q)(k:Gl X x)(hd:(x==("__debug__":Str))=false)(ha:PA X (e::c) t)(K:starEach (e::c) X.env=(false,eval e X.env)::starEach c X.env)(h1:(backTo i<|starEach c X.env).any (·.1)=false)(hR:x0 X E):
  PS X (.Raise (some<|.Call (.Name x w) (e::c) [] i) none p) (DY C E t):=by
 intro o s g H D I h;obtain⟨tl,N,y,q,P,b,u,d,R,l,M,J,G,F,A,z,mN,hC,hN,Ab,T⟩:=a.obj;have hg:PE X (.Name x w) (tC<|.r C):=Jm k a.bound O hd;refine wpAny_Raise_call_subT (C:=C) (nm:=y) (q:=q) (N:=N) (bs:=P) (hdct:=b) (sn:=u) (sub:=d) (ab:=R) (col:=l) (dd:=M) (k0:=J) (k1:=G) (k2:=F) (k3:=A) (k5:=z)
  S (T.hasType S.hasBase) (I.ok.hd hc) (by rw[K];show(false ||(backTo i<|starEach c X.env).any (·.1))=false;rw[h1];rfl) Ab
  (aA (hg o s g H (λv m=>v=.r C/\DY C E t D g m) I ⟨O,h⟩) λf W ⟨v,m,I1,Z,ev,q1⟩=>?_)
 subst ev;obtain rfl:f=Value.ref C:=Z;refine⟨O,?_⟩;have L:=ha i o W g m _ I1 q1;rw[K] at L⊢;refine Calls.evalArgs_plain<|aA L λus V ⟨vs,H2,j,Y,hl,q2⟩=>⟨O,?_,j.bk _ _ hC,hN.keeps j.bk,T.keeps j.bk,λh' e' hm=>hR o g H2 V h' e' _ _ j hm q2⟩;have:=Y.length;lia
end
def LM(A:Gc)(H:Hp):Prop:= ∃e D,A.handled=some (.ref e)/\yM H e D
def aqF(X:Cx):Prop:=LM X.A X.H
structure Eh(k:Nat)(A:Gc):Prop where
 dp:A.depth+3*k+5<recursionLimit
 un:A.units+16*k+200<cLine
 gd:A.guards=some []:=by rfl
theorem dZ.h(r:dZ k A):Eh k A:=⟨r.dp,r.un,r.gd⟩
def CRH(o:zO)(P:Fa)(w:Fk)(H:Hp)(s:Ev)(Q:VK)(r:Result)(a:Ev):Prop:=
 match r with
 |.ok (.ret u)=>CE o P w H s Q u a
 |_=>False
structure LN(P:Fa)(w:Fk)(K:Frag)(mg:ge)(base:FS)(k:Nat)(f:DL)(fd:GE)(ps:bi)(sp:Sp):Prop where
 len:∀vs H Q E,sp vs H Q E->vs.length=ps.length
 run:∀(A:Gc)(outer:zO)(s:Ev)(H:Hp)(args:Args)(us:ga)(vs:ci)(Q:VK),Eh k A->LM A H->qf P w K mg base A outer s H->BindsTo s fd args (ps.zip us)->ZT vs us->sp vs H Q E0->
  codeAny (model P w) A (.call (.ref f) args) (CRH outer P w H s Q) s
def LO(C:cZ)(X:Cx)(x:Str)(s:Sp):Prop:=
 ∃k f d p,dD X.prog X.w X.K X.mg X.base C k f d p s/\dZ k X.A/\X.mg x=some (.ref f)/\PySem.W.keepIn X.K (.ref f)=true/\Wz X.K d p []
def Ac(a:cZ)(X:Cx)(C:DL)(m:Str)(s:Sp):Prop:=
 gT X.K C/\∃k f d p,yX X.K C m f/\dD X.prog X.w X.K X.mg X.base a k f d p s/\dZ k X.A/\Wz X.K d p []
def LP(a:cZ)(X:Cx)(x:Str)(C:DL)(s:Sp):Prop:=
 ∃k f d p,Mk X.K C f/\dD X.prog X.w X.K X.mg X.base a k f d p s/\dZ (k+1) X.A/\X.mg x=some (.ref C)/\Wz X.K d p []
def LQ(X:Cx)(x:Str)(s:Sp):Prop:=
 ∃k f d p,LN X.prog X.w X.K X.mg X.base k f d p s/\Eh k X.A/\X.mg x=some (.ref f)/\PySem.W.keepIn X.K (.ref f)=true/\Wz X.K d p []
def LR(X:Cx)(x:Str)(C:DL):Prop:= ∃b B n u,OwnCls x C b n X.mg X.base/\ExcBaseFacts B n u b
structure Good(CX:cZ)(S:dJ)(Γ:bu)(X:Cx):Prop where
 N:X.N=S.N
 sc:X.env.scope=S.sc
 K:X.K=Γ.K
 calm:S.m=0->X.calm=true
 units:X.A.units+64<cLine
 gd:X.A.guards=some []
 fns:S.m=0->∀j x,S.fn[j]?=some x->LO CX X x (Γ.fs j)
 iK:∀j x,S.gn[j]?=some x->∃u,X.mg x=some u/\mL (Γ.gv j) u
 jo:∀x,S.bl.contains x=true->X.mg x=none
 P:YD CX X Γ.E
 Ad:∀outer H s e s',CX outer H s E0 e s'->False
 Ae:∀p N',Γ.sd p N'->∀h:FS,X.K.In h->∃vs,KV N' vs/\h.DictOf (c9 X.prog X.w) p vs
 xp:S.m=0->∀j m,S.mn[j]?=some m->Ac CX X (Γ.ms j).1 m (Γ.ms j).2
 Af:S.m=0->∀j x,S.kn[j]?=some x->LP CX X x (Γ.kt j).1 (Γ.kt j).2
 Ei:∀j x,S.en[j]?=some x->LR X x (Γ.ex j)
 Ej:∀j x,S.hn[j]?=some x->LQ X x (Γ.hs j)
 Ek:∀e,Γ.hv=some e->X.A.handled=some (.ref e)
 LS:S.m=1->aqF X
theorem Ag{S:dJ}(h:(if S.m=0 then 0 else 2)=0):S.m=0:=by lia
section
variable{d:cZ}{S:dJ}{g:bu}{X:Cx}
theorem Good.inner(G:Good d S g X)(c:xk)(l:bi)(f:ut)(b:db)(C:DL)(s:Ev)(H:Hp):
  Good d (LF S c l f) g.calm (jh X c.sc (l++f.map (·.1)) b C s H) where
 N:=O
 sc:=by
  show relabel c.sc X.env=D5 c.sc S.sc;rw[<-G.sc];rfl
 K:=G.K
 calm:=λh=>G.calm (Ag h)
 units:=G.units
 gd:=G.gd
 fns:=λm j x h=>G.fns (Ag m) j x h
 iK:=G.iK
 jo:=G.jo
 P:=λY Y Y Y Y Y Y h=>(G.Ad _ _ _ _ _ h).elim
 Ad:=G.Ad
 Ae:=G.Ae
 xp:=λz j m h=>G.xp (Ag z) j m h
 Af:=λz j x h=>G.Af (Ag z) j x h
 Ei:=λj x h=>by simp[LF] at h
 Ej:=λj x h=>G.Ej j x h
 Ek:=λe h=>G.Ek e h
 LS:=λh=>by
  have a:(if S.m=0 then 0 else 2)=1:=h;split at a<;>cases a
theorem Good.gl(G:Good d S g X)(h:qu S.sc x=true):Gl X x:=by
 show X.env.scope.names.lookup x=_;rw[G.sc];exact aas h
theorem eI{s:on}(h:WH e=true):starEach (e::s) v=(false,eval e v)::starEach s v:=by
 cases e<;>first|rfl|cases h
theorem si(h:qv o=true):attributeBase o x e (eval o e)=eval o e:=by
 unfold attributeBase;split;cases h;rfl
theorem Ah(h:xl e=true):∀x,foldedSetIterable e v x=pure x:=by
 intro x;cases e<;>first|rfl|cases h
def ib(e:on):Go:=e.all WH
theorem mv(v:Env)(p:Pos):∀(s:on),ib s=true->(backTo p<|starEach s v).any (·.1)=false
 |[],h=>O
 |e::s,h=>by
  simp only[ib,ZD,Zu] at h;rw[eI h.1];show(false ||(backTo p<|starEach s v).any (·.1))=false;rw[(mv v p s h.2)];rfl
theorem El(v:Env)(p:Pos):∀(s:on),ib s=true->(backTo p<|starEach s v).all (λx=> !x.1)=true
 |[],h=>O
 |e::s,h=>by
  simp only[ib,ZD,Zu] at h;rw[eI h.1];show(!false && (backTo p<|starEach s v).all (λx=> !x.1))=true;rw[(El v p s h.2)];rfl
theorem e_{s:on}(h:ib (e::s)=true):WH e=true/\ib s=true:=by
 simp only[ib,ZD,Zu] at h;exact h
theorem LU(G:Good d S g X)(h:D6 S c l f=true):
  l_ X c.sc l f/\(∀x∈l,if l.length=1 then YN c.sc x else c.sc.names.lookup x=some .local)/\(l++f.map (·.1)).Nodup/\xl c.i=true:=by
 simp only[D6,Zu,KM,Yw,Bool.or_eq_true] at h;obtain⟨⟨⟨⟨⟨⟨⟨u,t⟩,s⟩,r⟩,q⟩,o⟩,n⟩,m⟩:=h;refine⟨⟨u,λy a b=>(t y a).resolve_left λz=>z b,λy a b=>?_,λy a k=>?_,λp j=>?_⟩,λx e=>?_,n,m⟩;rcases s y a with z|z
 cases z b;exact z;show X.env.scope.names.lookup y.1=_\/X.env.scope.names.lookup y.1=_;rw[G.sc];rcases r y a with(z|z)|z
 cases z k;exact .inl z;exact .inr z;rw[G.N];exact q p j;rcases o x e with z|z
 split;exact .inl z;exact z;rw[Id z.1];exact .inr z.2
theorem LV(d:X.calm=true){c:xk}{f:ut}(h:uS t c.tg=some l)(a:∀x∈l,if l.length=1 then YN c.sc x else c.sc.names.lookup x=some .local)(n:(l++f.map (·.1)).Nodup):
  wX X c.sc l f c.tg t:=by
 unfold uS at h;split at h;rename_i x p he;cases h;rw[he];exact aiF (a x aJ) n;rename_i x p y q k b he;cases h;rw[he];exact afE d (a x aJ) (a y aJ) n;cases h
theorem aaQ{K:Frag}(h:oU K .i x H Q):(∃i,x=[.i i]/\Q (.i i) H)\/∃k,x=[.b k]/\Q (.i (if k then 1 else 0)) H:=by
 match x,h with
 |[.i i],h=>exact .inl ⟨i,O,h⟩
 |[.b k],h=>exact .inr ⟨k,O,h⟩
theorem aaR{K:Frag}(h:wL K x H Q):∃n,J3 K x H n/\Q n:=by
 match x,h with
 |.s y,h=>exact⟨_,⟨h.1,O⟩,h.2⟩
 |.r p,.inl ⟨c,a,b⟩=>exact⟨_,.inl ⟨c,a,O⟩,b⟩
 |.r p,.inr ⟨c,a,b⟩=>exact⟨_,.inr ⟨c,a,O⟩,b⟩
inductive aaS(X:Cx)(b:oR):Prop where
 |fn (i:GM)(h:bootBuiltins b.nm=some (.builtin i))(c:dC X (.builtin i) (oU X.K b))
 |ty (T:GM)(h:bootBuiltins b.nm=some (.type T))(c:dC X (.type T) (oU X.K b))
theorem aiG:bootBuiltins "min"=some (.builtin "min"):=O
theorem aoX:bootBuiltins "max"=some (.builtin "max"):=O
theorem akZ:bootBuiltins "abs"=some (.builtin "abs"):=O
theorem aiT:bootBuiltins "sum"=some (.builtin "sum"):=O
theorem aaT:bootBuiltins "isinstance"=some (.builtin "isinstance"):=O
theorem aaU:bootBuiltins "int"=some (.type "int"):=O
theorem Em:bootBuiltins "list"=some (.type "list"):=O
theorem aaV:bootBuiltins "tuple"=some (.type "tuple"):=O
theorem En(f:Nat->Int)(l:Nat->Nat->Go)(h:∀i j,l i j=decide (f i<f j)):∀n,argBest l n<=n/\∀i,i<=n->f (argBest l n)<=f i
 | 0=>⟨VL _,λi c=>by
   obtain rfl:i=0:=WT c (Ww _)
   exact ZN _⟩
 |n+1=>by
  obtain⟨a,b⟩:=En f l h n;have e:argBest l (n+1)=if l (n+1) (argBest l n)=true then n+1 else argBest l n:=O
  rw[e,h];split;refine⟨VL _,λi c=>?_⟩;by_cases z:i=n+1;rw[z];exact ZN _;have:=b i (Xe (Y2 c z));lia;refine⟨(hB a),λi c=>?_⟩;by_cases z:i=n+1;lia;exact b i (Xe (Y2 c z))
theorem LW(h:i<x.size):numAt x i=x[i].1:=by
 unfold numAt;rw[Yo h];rfl
theorem LX(h:i<x.size):numAt x i∈x.toList.map (·.1):=by
 rw[LW h];exact Yc.mpr ⟨x[i],aJ,O⟩
theorem LY(h:n∈x.toList.map (·.1)):∃i,i<x.size/\n=numAt x i:=by
 obtain⟨y,a,rfl⟩:=Yc.mp h;obtain⟨i,b,rfl⟩:=List.getElem_of_mem a;have d:=by simpa using b
 exact⟨i,d,by rw[LW d];simp⟩
theorem LZ{b:St}{n:AC}(I:Ut X E b H s)(q:ah X.K H p (n.map V.i)):∃x:Array (Int×Tok),s.heap.IsList p (intItems x)/\n=x.toList.map (·.1):=by
 obtain⟨g,r,l,z⟩:=I.list q;have a:=Ef r;obtain⟨x,h⟩:=a.allInts.items;refine⟨x,h ▸ l.isList,?_⟩;rw[<-nums_intItems,<-h];exact(show numsOf g.toArray.toList=n from a.numsOf).symm
theorem aaW(g:X.calm=true):dC X (.builtin "min") (λx H Q=>∃(p:DL)(a:AC),x=[.r p]/\ah X.K H p (a.map V.i)/\a≠ []/\∀m:Int,m∈a->(∀n∈a,m<=n)->Q (.i m) H):=by
 intro E s w H x y Q I r h;obtain⟨p,a,rfl,e,L,q⟩:=h;obtain⟨u,rfl,c⟩:=VZ r;cases c;obtain⟨x,l,rfl⟩:=LZ I e;have b:0<x.size:=Nat.pos_of_ne_zero λz=>L (by rw[yA z];rfl);refine min_intList (I.ok.hd g) l b λv C A d k=>?_;obtain⟨t,rfl⟩:=intItems_at d;obtain⟨D,o⟩:=En (numAt x) (λi j=>decide<|numAt x i<numAt x j) (λY Y=>O) (x.size - 1);refine⟨.i _,H,I.kept k,⟨t,O⟩,q _ (LX ap) λn f=>?_⟩;obtain⟨i,B,rfl⟩:=LY f;exact o i ap
theorem aaX(g:X.calm=true):dC X (.builtin "max") (λx H Q=>∃(p:DL)(a:AC),x=[.r p]/\ah X.K H p (a.map V.i)/\a≠ []/\∀m:Int,m∈a->(∀n∈a,n<=m)->Q (.i m) H):=by
 intro E s w H x y Q I r h;obtain⟨p,a,rfl,e,L,q⟩:=h;obtain⟨u,rfl,c⟩:=VZ r;cases c;obtain⟨x,l,rfl⟩:=LZ I e;have b:0<x.size:=Nat.pos_of_ne_zero λz=>L (by rw[yA z];rfl);refine max_intList (I.ok.hd g) l b λv C A d k=>?_;obtain⟨t,rfl⟩:=intItems_at d;obtain⟨D,o⟩:=En (λi=> - numAt x i) (λi j=>decide<|numAt x i>numAt x j) (λi j=>decide_eq_decide.mpr ap) (x.size - 1);refine⟨.i _,H,I.kept k,⟨t,O⟩,q _ (LX ap) λn f=>?_⟩;obtain⟨i,B,rfl⟩:=LY f;have:=o i ap;lia
theorem aaY{Z:lc}(h:ItemsOf (SignAt x) Z x.cps.size):ZT (ZM x) Z.toList:=by
 have o:∀(l:am)(a:ga),a.length=l.length->(∀(j:Nat)(v:EQ),a[j]?=some v->∃(c:Nat)(t:Tok),l[j]?=some c/\v=Value.str ⟨#[c]⟩ t)->ZT (l.map λc=>V.s ⟨#[c]⟩) a:=by
  intro l;induction l with
  |nil=>
   intro a b Y;rw[Wo.mp b];exact .nil
  |cons c l k=>
   intro a b g;cases a with
   |nil=>cases b
   |cons u a=>
    obtain⟨q,t,f,e⟩:=g 0 u O;have G:=by simpa using f
    subst G;exact .cons (o3 t e) (k a (by simpa using b) λj v d=>by
     obtain⟨p,i,n,m⟩:=g (j+1) v (by simpa using d);exact pI p i (by simpa using n) m)
 refine o x.cps.toList Z.toList ?_ λj v d=>?_;have:=h.1;simpa using this;obtain⟨c,t,f,e⟩:=h.2 j v (by simpa using d);exact pI c t (by simpa using f) e
theorem aaZ(x:Str):(ZM x).length=x.length:=by simp[ZM,Str.length]
theorem aa0(c:X.calm=true):dC X (.type "list") (λa H Q=>∃x,a=[.s x]/\x.length<=sizeLine/\∀l,H l=none->Q (.r l) (upd H l<|.l<|ZM x)):=by
 intro E s g H a j Q I r h;obtain⟨x,rfl,b,q⟩:=h;obtain⟨u,rfl,t,rfl⟩:=VZ r;exact call_list_str (I.ok.hd c) x t (λd m n f k e i=>⟨.r s.heap.objs.size,_,I.laid k (VL _) (show cT X.prog X.w _ d _ (.l<|ZM x) from⟨by rw[aaZ];exact b,n.toList,f,(aaY i),by simpa using e⟩),O,q _<|I.az.fresh<|VL _⟩) b
theorem aa1(f:X.calm=true)(b:oR):aaS X b:=by
 cases b with
 |l=>exact .fn "len" boot_len (dC.imp aeH λa H Q h=>by
   rcases a with Y|⟨x,Y|⟨Y,Y⟩⟩ <;>(try exact False.elim h)
   obtain⟨n,d,c⟩:=aaR (Q:=λn=>Q (.i n) H) h;exact oW x n O d c)
 |m=>exact .fn "min" aiG (dC.imp ((Xl f).or (aaW f)) λa H Q h=>by
   match a,h with
   |[.i i,.i j],h=>exact .inl (pI i j O h)
   |[.r p],⟨g,d,c,k⟩=>exact .inr (oZ p g O d c k))
 |x=>exact .fn "max" aoX (dC.imp ((aqL f).or (aaX f)) λa H Q h=>by
   match a,h with
   |[.i i,.i j],h=>exact .inl (pI i j O h)
   |[.r p],⟨g,d,c,k⟩=>exact .inr (oZ p g O d c k))
 |s=>exact .fn "sum" aiT (dC.imp (amH f) λa H Q h=>by
   rcases a with Y|⟨x,Y|⟨Y,Y⟩⟩ <;>(try exact False.elim h) <;>cases x<;>(try exact False.elim h)
   obtain⟨g,d,c⟩:=h;exact oW _ g O d c)
 |abs=>exact .fn "abs" akZ λY Y Y Y a Y Y Y Y h=>by rcases a with Y|⟨y,Y|⟨q,Y⟩⟩ <;>first|exact False.elim h| (cases y<;>exact False.elim h)
 |i=>exact .ty "int" aaU (dC.imp afF λa H Q h=>aaQ h)
 |t=>exact .ty "list" Em (dC.imp (aqG.or (aa0 f)) λa H Q h=>by
   rcases a with Y|⟨x,Y|⟨Y,Y⟩⟩ <;>(try exact False.elim h) <;>cases x<;>(try exact False.elim h)
   exact .inr (nW _ O h.1 h.2);obtain⟨o,d,c⟩:=h;exact .inl (oW _ o O d c))
 |e=>exact .ty "tuple" aaV λY Y Y Y a Y Y Y Y h=>by rcases a with Y|⟨y,Y|⟨q,Y⟩⟩ <;>first|exact False.elim h| (cases y<;>exact False.elim h)
structure aa2(X:Cx)(m:jI)(id:GM):Prop where
 pa:PlainAttrs (xg m)
 slot:Slot (xg m) m.nm id
 ty:typeOf (.builtin id)=pure (.type "method_descriptor")
 mt:uH X id (z6 X.K m)
theorem aa4{f:wE}(r:KV N f)(k:We)(h:oV N k=some v):∃u,valueAt f k=some u/\mL v u:=by
 induction r with
 |nil=>cases h
 | @cons p q c s j t i=>
  obtain⟨g,l⟩:=j;by_cases e:p.1=k;have d:=g.symm.trans e;have b:valueAt (q::s) k=some q.2:=by simp[valueAt,nA,d]
  have a:oV (p::c) k=some p.2:=by simp[oV,nA,e]
  rw[a] at h;cases h;exact⟨_,b,l⟩;have d:¬q.1=k:=λz=>e (g.trans z);have b:valueAt (q::s) k=valueAt s k:=by simp[valueAt,nA,d]
  have a:oV (p::c) k=oV c k:=by simp[oV,nA,e]
  rw[a] at h;rw[b];exact i h
theorem aa5(E:∀p N,c p N->∀h:FS,X.K.In h->∃a,KV N a/\h.DictOf (c9 X.prog X.w) p a):nq X (Ly c):=by
 intro e b t s o H x y v u Q I g f h i;obtain⟨p,N,k,z,zq⟩:=ZO h;obtain⟨rfl,rfl,j,l,q⟩:=ZE zq;cases g;obtain⟨a,r,d⟩:=E p N j s.heap I.dY;obtain⟨w,n,m⟩:=aa4 r k l;exact wD d.mapOf.typeIs PySem.F.slot_dict_getitem.lookup
  (wpAny_getItem_of (uK f) d.mapOf n ⟨O,z,H,I.tok _,m,q⟩) i
theorem aa6(E:∀p N,s p N->∀h:FS,X.K.In h->∃v,KV N v/\h.DictOf (c9 X.prog X.w) p v):nq X (qr X.K s):=X6.or (X7.or<|ahX.or<|aa5 E)
theorem aa7:uH X "list.index" (λx b H Q=>∃(l:DL)(y:V)(a:ci),x=.r l/\b=[y]/\ah X.K H l a/\je y=true/\a.all je=true/\fD y a=true/\Q (.i (a.findIdx (λz=>jf z y):Nat)) H):=by
 intro E' s Y H x b v Z Q I B C h;obtain⟨l,y,a,zq⟩:=XM h;obtain⟨rfl,rfl,G,N,m,T,q⟩:=ZV zq;cases B;obtain⟨u,rfl,D⟩:=VZ C;obtain⟨g,r,⟨⟨S,R,t,A⟩,n,o,M,Ep,L⟩,hz⟩:=I.list G;subst M L;have c:=r.length;have e:∀j (k:j<g.length) (f:j<a.length),gL y g[j]=jf a[j] y:=λj k f=>by
  obtain⟨w,P,E⟩:=r.get (i:=j) (x:=a[j]) aJ;have p:=Xd k;rw[P] at p;rw[<-WV p];exact Dt E<|Yw.mp m _<|List.getElem_mem f
 have d:=List.findIdx_lt_length.mpr (List.any_eq_true.mp T);have hn:=rW;refine P3 PySem.F.slot_list_index ⟨_,o,O⟩ PySem.F.entry_list_index (PySem.F.args_list_index_2 _ _)
  (PySem.SeqAt.list_indexAt l g.toArray n R A u (gL y) (a.findIdx λz=>jf z y) bd ap ?_ ?_) ⟨o,λz W=>wJ D N r m z (by simpa using W),⟨.i _,H,I.tok _,⟨_,O⟩,q⟩⟩
 show gL y g[a.findIdx λz=>jf z y]=true;rw[e _ (YY d (VN c)) d];exact List.findIdx_getElem (w:=d);intro j J U;show gL y g[j]=false;rw[e j J (Xf U d)];simpa using List.not_of_lt_findIdx U
theorem L0(m:jI):∃M,aa2 X m M:=by
 cases m with
 |a=>exact o3 _ ⟨SL,wH,F.type_list_append,λE s o H x b v q Q I g k h=>by
   cases x<;>(try exact False.elim h) <;>rcases b with Y| ⟨d,Y| ⟨Y,Y⟩⟩ <;>(try exact False.elim h)
   obtain ⟨A,n,w,B⟩:=h;exact Yp E s o H _ _ v q Q I g k (pG _ A _ O O n w B)⟩
 |p=>exact o3 _ ⟨SL,F.slot_list_pop,F.type_list_pop,λE s o H x b v q Q I g k h=>by
   cases x<;>(try exact False.elim h) <;>rcases b with Y| ⟨Y,Y⟩ <;>(try exact False.elim h)
   obtain ⟨A,y,n,w,B⟩:=h;exact anC E s o H _ _ v q Q I g k (pG _ A y O O n w B)⟩
 |e=>exact o3 _ ⟨SL,F.slot_list_extend,F.type_list_extend,λE s o H x b v q Q I g k h=>by
   cases x<;>(try exact False.elim h) <;>rcases b with Y| ⟨d,Y| ⟨Y,Y⟩⟩ <;>(try exact False.elim h) <;>cases d<;>(try exact False.elim h)
   obtain ⟨J,A,zq⟩:=XU h;obtain ⟨n,w,B,G⟩:=Xn zq;exact amA E s o H _ _ v q Q I g k (pE _ _ J A O O n w B G)⟩
 |j=>exact o3 _ ⟨YC,F.slot_str_join,F.type_str_join,λE s o H x b v q Q I g k h=>by
   cases x<;>(try exact False.elim h) <;>rcases b with Y| ⟨d,Y| ⟨Y,Y⟩⟩ <;>(try exact False.elim h) <;>cases d<;>(try exact False.elim h)
   obtain ⟨K,n,w,B⟩:=h;exact acG E s o H _ _ v q Q I g k (pG _ _ K O O n w B)⟩
 |l=>exact o3 _ ⟨YC,F.slot_str_lstrip,F.type_str_lstrip,λE s o H x b v q Q I g k h=>by
   cases x<;>(try exact False.elim h) <;>rcases b with Y| ⟨d,Y| ⟨Y,Y⟩⟩ <;>(try exact False.elim h) <;>cases d<;>(try exact False.elim h)
   obtain ⟨n,w⟩:=h;exact aoD E s o H _ _ v q Q I g k (oZ _ _ O O n w)⟩
 |s=>exact o3 _ ⟨YC,F.slot_str_startswith,F.type_str_startswith,λY Y Y Y x b Y Y Y Y Y Y h=>by cases x<;>rcases b with Y| ⟨d,Y| ⟨D,Y⟩⟩ <;>first|exact False.elim h| (cases d<;>exact False.elim h)⟩
 |f=>exact o3 _ ⟨YC,F.slot_str_find,F.type_str_find,λY Y Y Y x b Y Y Y Y Y Y h=>by cases x<;>rcases b with Y| ⟨d,Y| ⟨D,Y⟩⟩ <;>first|exact False.elim h| (cases d<;>exact False.elim h)⟩
 |c=>exact o3 _ ⟨YC,F.slot_str_count,F.type_str_count,λE s o H x b v q Q I g k h=>by
   match x,b,h with
   |.s z,[.s y],n=>
    obtain ⟨t,rfl⟩:=g;obtain ⟨u,rfl, ⟨L,rfl⟩⟩:=VZ k;exact call_gives F.slot_str_count (WP _ _ _) F.entry_str_count (F.args_str_count_2 _ _) (gives_str_count z y t L) ⟨.i _,H,I.tok _,o3 _ O,n⟩⟩
 |r=>exact o3 _ ⟨SL,F.slot_list_reverse,F.type_list_reverse,λY Y Y Y x b Y Y Y Y Y Y h=>by cases x<;>rcases b with Y| ⟨d,Y| ⟨D,Y⟩⟩ <;>first|exact False.elim h| (cases d<;>exact False.elim h)⟩
 |i=>exact o3 _ ⟨SL,F.slot_list_index,F.type_list_index,λY Y Y Y x b Y Y Y Y Y Y h=>by cases x<;>rcases b with Y| ⟨d,Y| ⟨D,Y⟩⟩ <;>first|exact False.elim h| (cases d<;>exact False.elim h)⟩
 |Lq=>exact o3 _ ⟨SL,F.slot_list_count,F.type_list_count,λY Y Y Y x b Y Y Y Y Y Y h=>by cases x<;>rcases b with Y| ⟨d,Y| ⟨D,Y⟩⟩ <;>first|exact False.elim h| (cases d<;>exact False.elim h)⟩
 |DZ=>exact o3 _ ⟨SL,F.slot_list_index,F.type_list_index,λE s o H x b v q Q I g k h=>by
   cases x<;>(try exact False.elim h) <;>rcases b with Y| ⟨d,Y| ⟨Y,Y⟩⟩ <;>(try exact False.elim h)
   obtain ⟨A,zq⟩:=eT h;obtain ⟨n,w,B,G,N⟩:=ZE zq;exact aa7 E s o H _ _ v q Q I g k (rR _ _ A O O n w B G N)⟩
 |C=>exact o3 _ ⟨SL,F.slot_list_clear,F.type_list_clear,λE s o H x b v q Q I g k h=>by
   cases x<;>(try exact False.elim h) <;>rcases b with Y| ⟨Y,Y⟩ <;>(try exact False.elim h)
   obtain ⟨A,n,w⟩:=h;exact amC E s o H _ _ v q Q I g k (oZ _ A O O n w)⟩
theorem aa9{p:St}{Q:cr}{E:cr}(I:Ut X v p H s)(f:mL x u)(h:cf T x H n)(q:∀b k,n b->Q (.bool b) {s with toks:=k}):wpAny (model X.prog X.w) X.A (call (.builtin "isinstance") [u,.type T.nm]) Q E s:=by
 match x,f,h with
 |.a,f,h=>exact oJ I f (.aw) (aoJ _ T) λk=>q _ _ h
 |.b b,f,h=>exact oJ I f (.bl b) (qo X.K .b T) λk=>q _ _ (by cases T<;>exact h)
 |.i i,f,h=>exact oJ I f (.int i) (qo X.K .i T) λk=>q _ _ (by cases T<;>exact h)
 |.s i,f,h=>exact oJ I f (.str i) (qo X.K .s T) λk=>q _ _ (by cases T<;>exact h)
 |.r a,f,h=>
  cases e:H a with
  |none=>simp only[cf,e] at h
  |some o=>
   match o,e with
   |.l j,e=>simp only[cf,e] at h;exact oJ I f (.lst e) (qo X.K .l T) λk=>q _ _ ap
   |.c g (.l j),e=>simp only[cf,e] at h;exact oJ I f (.cH e) (qo X.K .l T) λk=>q _ _ ap
   |.t j,e=>simp only[cf,e] at h;exact oJ I f (.tup e) (qo X.K .t T) λk=>q _ _ ap
   |.d j,e=>simp only[cf,e] at h;exact oJ I f (.dK e) (qo X.K .d T) λk=>q _ _ ap
   |.T j,e=>simp only[cf,e] at h;exact oJ I f (.dT e) (qo X.K .d T) λk=>q _ _ ap
   |.s _ _,e=>simp only[cf,e] at h
   |.i _ _ _,e=>simp only[cf,e] at h
   |.o _,e=>simp only[cf,e] at h
   |.xd _,e=>simp only[cf,e] at h
   |.m _ _,e=>simp only[cf,e] at h
   |.gf _ _,e=>simp only[cf,e] at h
   |.M _,e=>simp only[cf,e] at h
   |.e _,e=>simp only[cf,e] at h
   |.c g (.t j),e=>simp only[cf,e] at h
   |.c g (.d j),e=>simp only[cf,e] at h
   |.c g (.T j),e=>simp only[cf,e] at h
   |.c g (.s _ _),e=>simp only[cf,e] at h
   |.c g (.i _ _ _),e=>simp only[cf,e] at h
   |.c g (.o _),e=>simp only[cf,e] at h
   |.c g (.xd _),e=>simp only[cf,e] at h
   |.c g (.m _ _),e=>simp only[cf,e] at h
   |.c g (.gf _ _),e=>simp only[cf,e] at h
   |.c g (.M _),e=>simp only[cf,e] at h
   |.c g (.e _),e=>simp only[cf,e] at h
   |.c g (.c _ _),e=>simp only[cf,e] at h
theorem aa_(T:Ty):bootBuiltins (Str.ofString T.nm)=some (.type T.nm):=by cases T<;>decide+kernel
theorem aba(T:Ty):dC X (.builtin "isinstance") (qp T):=by
 intro E s f H a i Q I r h;match a,r,h with
 |[x,.t n],r,⟨e,h⟩=>
  subst e;obtain⟨u,w,rfl,c,g⟩:=YX r;cases g;exact aa9 I c h λb k d=>⟨.b b,H,I.tok k,O,d⟩
theorem abb(e:PE X a c)(d:WH a=true)(g:Gl X "isinstance")(m:X.mg "isinstance"=none)(b:Gl X (Str.ofString T.nm))(h:X.mg (Str.ofString T.nm)=none):
  PE X (.Call (.Name "isinstance" p) [a,.Name (Str.ofString T.nm) q] [] s) (gU (qp T)<|fB c<|fB (tC<|.t T.nm) kY):=by
 have f:PE X (.Name (Str.ofString T.nm) q) (tC<|.t T.nm):=V4 b h (aa_ T) O (by cases T<;>decide) (by cases T<;>decide);exact Kg (aba T) g m aaT (qe e (qe f wC O)<|eI d) bc (O) (eI d) O
theorem abe:zL X (sA X.K):=by
 intro G s y H x v m j o b A Q I c q n p h;match x,c,h with
 |.r a,c,.inl ⟨g,f,d⟩=>exact aeJ G s y H _ v m j o b A Q I c q n p (oW a g O f d)
 |.r a,c,.inr ⟨g,f,d,M⟩=>exact apD G s y H _ v m j o b A Q I c q n p (oZ a g O f d M)
 |.s z,c,⟨f,d⟩=>
  obtain⟨t,rfl⟩:=c;obtain⟨l,P,C⟩:∃l:Option (Int×Tok),m=partValue l/\l.map (·.1)=o:=by
   cases n with
   |none=>exact nT none O O
   |int i t=>exact nT (some (i,t)) O O
  obtain⟨u,N,B⟩:∃u:Option (Int×Tok),j=partValue u/\u.map (·.1)=b:=by
   cases p with
   |none=>exact nT none O O
   |int i t=>exact nT (some (i,t)) O O
  subst P N;refine oW ("str") _ F.slot_str_getitem.lookup (WP _ _ _) ?_;refine wpAny_getItem_str_slice (l:=l) (u:=u) (st:=none) q O ?_;obtain⟨U,T,S⟩:=Ds o b z.length;have L:slicePicked z l u none=(List.range<|HT.aV z.length z.length b - HT.aV z.length 0 o).map (HT.aV z.length 0 o+ ·):=by
   show Builtin.Str.strSliceIndices (l.map (·.1)) (u.map (·.1)) 1 z.length=_;rw[C,B];have R:Builtin.Str.strSliceIndices o b 1 z.length=sliceRange (sliceBounds o b none z.length).1 (sliceBounds o b none z.length).2.1 (sliceBounds o b none z.length).2.2:=O;rw[R,U,T,S,sliceRange_one]
  have E:((slicePicked z l u none).filterMap (z.cps[·]?))=oP z.cps.toList o b:=by
   show(Builtin.Str.strSliceIndices (l.map (·.1)) (u.map (·.1)) 1 z.length).filterMap (z.cps[·]?)=_;rw[C,B,acZ]
  have D:z.cps.toList.length=z.length:=by simp[Str.length]
  have Z:=HT.Dl z.length 0 (Ww _) o;have Y:=HT.Dl z.length z.length (VL _) b;unfold sliceMade;refine post_val_or_made (λ_=>?_) λJ k=>?_;show(List.toArray ((slicePicked z l u none).filterMap (z.cps[·]?))).size<=sizeLine;rw[E,Xm];have:(oP z.cps.toList o b).length<=z.cps.toList.length:=by unfold oP;simp only[Ye,Z0];lia
  lia;have e:(if (((none:Option (Int×Tok)).map (·.1)).getD 1==1 && (slicePicked z l u none).length==z.length)=true then z else ⟨((slicePicked z l u none).filterMap (z.cps[·]?)).toArray⟩)=oQ z o b:=by
   split;rename_i hq;simp only[Zu,Y4] at hq;have w:=hq.2;rw[L,XN,Wd] at w;have W:HT.aV z.length 0 o=0:=by lia
   have V:HT.aV z.length z.length b=z.length:=by lia
   unfold oQ oP;rw[D,W,V,<-D,Nat.sub_zero,XW,Xg];rw[E];rfl
  rw[e];exact⟨.s _,H,I.tok k,o3 J O,d⟩
theorem abg:zy X (unaryOp .USub) Lx:=by
 intro E s a H x v Q I r h;match x,r,h with
 |.i i,r,h=>exact alT E s a H _ v Q I r ⟨i,O,h⟩
theorem abh(g:PE X a t):PE X (.UnaryOp .Not a p) (D0 X.K t):=by
 intro E s d H Q I h;exact UnaryOp_<|aA (g E s d H _ I h) λv e ⟨x,k,j,r,f⟩=>not_of (aA (JZ E e d k x v (λb c=>Q (.b<|!b) c) j r<|Lw f) λb l ⟨c,i,q⟩=>⟨.b<|!b,c,i,O,q⟩)
theorem L3(d:PE X a t)(e:∀w,isTrue a X.env w=(do let v <-w;standAt a.pos;holding [v] (truthy v))):PT X a (ji X.K t):=by
 intro E s b H Q I h;exact isTrue_plain (aA (d E s b H _ I h) λv c ⟨x,g,f,r,q⟩=>JZ E c b g x v Q f r (Lw q))<|e _
theorem abi{s:on}(c:PE X o b)(f:PA X (e::s) t)(d:qv o=true)(l:(a.endLine==T.line)=true)(n:(e::s).length<29)(h:starEach (e::s) X.env=(false,eval e X.env)::starEach s X.env)(i:(backTo T<|starEach s X.env).any (·.1)=false)(g:(backTo T<|starEach (e::s) X.env).all (λx=> !x.1)=true):
  PE X (.Call (.Attribute o m.nm a) (e::s) [] T) (uR X.K m b t):=by
 obtain⟨j,M⟩:=L0 m;exact ahF M.pa M.slot M.ty M.mt c f (si d) (by
  rw[g];show(true && true && decide ((e::s).length+0+0<30))=true;rw[Z2 ap];rfl) l h i
theorem abj(h:PE X o t)(b:qv o=true)(l:(a.endLine==e.line)=true):
  PE X (.Call (.Attribute o m.nm a) [] [] e) (uR X.K m t kY):=by
 obtain⟨i,M⟩:=L0 m;exact aiV M.pa M.slot M.ty M.mt h (si b) l
theorem L4{a:on}{Q:cr}{E:cr}{A:Gc}{s:Ev}{g:Fa}{w:Fk}(r:qv o=true)(n:(b.endLine==p.line)=true)(y:a.length<29)(q:(backTo p<|starEach a v).all (λx=> !x.1)=true)(h:wpAny (model g w) A (eval o v) (λi d=>∀j,wpAny (model g w) A (getMethod i m j) (λf c=>wpAny (model g w) A (callWith p f.1 f.2 (backTo p<|starEach a v)<|backToKw p<|keywordEach [] v) Q E c) E d) E s):
  wpAny (model g w) A (eval (.Call (.Attribute o m b) a [] p) v) Q E s:=by
 have k:methodCallForm (a.length+0) (backTo p<|starEach a v) (backToKw p<|keywordEach [] v)=true:=by
  show((backTo p<|starEach a v).all (λx=> !x.1) && true && decide (a.length+0+0<30))=true;rw[q,Z2 ap];rfl
 have l:methodCallPos true o v b p=pure p:=by unfold methodCallPos;simp[n]
 rw[arm_eval_Call,si r];refine GT<|Op h (λi d u=>GT<|UF ?_) λY Y e=>e;unfold methodCall;rw[show([]:List Keyword).length=0 from O,k];exact GT<|NE<|Op (u _) (λf c t=>GT<|wpAny_of_eq l t) λY Y e=>e
theorem abl{g:on}(M:Ac d X C m n)(K:YD d X E)(P:PE X o j)(U:PA X (e::g) t)(T:qv o=true)(S:(b.endLine==p.line)=true)(R:(e::g).length<29)(L:starEach (e::g) X.env=(false,eval e X.env)::starEach g X.env)(W:(backTo p<|starEach g X.env).any (·.1)=false)(V:(backTo p<|starEach (e::g) X.env).all (λx=> !x.1)=true):
  PE X (.Call (.Attribute o m b) (e::g) [] p) (rY C m n [] E j t):=by
 obtain⟨c,k,f,fd,ps,w,F,N,B⟩:=M;intro A s i H Q I h;refine L4 T S R V<|aA (P A s i H _ I h) λu D ⟨x,H1,z,G,a,dx,fs,Y,Z,l,q⟩=>λpl=>?_;subst Y;obtain rfl:u=Value.ref a:=G;exact J6 z Z c w l (callWith_K I.ok.mod.wt w.kp (aA (U p A D i H1 _ z q) λus s2 ⟨v,H2,y,r,J⟩=>⟨y.dY,Di (vs:=.r a::v) F N B .nil K y (.cons O r) J⟩) L W)
theorem RR{g:Sp}(M:Ac d X C m g)(w:YD d X E)(z:PE X o t)(B:qv o=true)(A:(b.endLine==p.line)=true):
  PE X (.Call (.Attribute o m b) [] [] p) (rY C m g [] E t kY):=by
 obtain⟨c,k,f,S,N,i,F,y,n⟩:=M;intro J s j H Q I h;refine L4 B A aJ O<|aA (z J s j H _ I h) λu L ⟨x,U,e,v,a,T,R,D,G,l,q⟩=>λP=>?_;subst D;obtain rfl:u=Value.ref a:=v;exact J6 e G c i l (PySem.W.callWith_K0 e.dY i.kp<|Di (vs:=[.r a]) F y n .nil w e (.cons O .nil) q)
variable{a:Fa}{w:Fk}{A:Gc}{E:cr}{s:Ev}
theorem L5{l:DL}{b:lc}(L:l≠t):∀(n i:Nat)(s:Ev)(Q:ga->Ev->Prop),s.heap.IsListIter t l i->s.heap.IsList l b->i+n<=b.size->
  (∀e,e.IsListIter t l (i+n)->Heap.SameBut t s.heap e->Q ((b.toList.drop i).take n) {s with heap:=e})->wpAny (model a w) A (draw (.ref t) n) Q E s
 | 0,i,s,Q,h,_,_,d=>by
  exact IO (by simpa using d s.heap h (Heap.SameBut.refl ..))
 |n+1,i,s,Q,h,g,m,d=>by
  have D:i<b.size:=by lia
  refine GT<|wpAny_pyNext_list_item h g (x:=b[i]) aJ λf r j=>?_;refine GT<|NE<|L5 L n (i+1) _ _ r (g.extBut j.extBut L) ap λc p k=>IO ?_;have o:b.toList.drop i=b[i]::b.toList.drop (i+1):=by simp[cV,D]
  have:=d c ap (j.trans k);rw[o] at this;exact this
theorem abo{i:lc}{Q:ga->Ev->Prop}(m:A.handled=none)(d:s.heap.IsList t i)(n:∀j,Heap.ExtBut s.heap.objs.size s.heap j->Q i.toList {s with heap:=j}):wpAny (model a w) A (unpackItems (.ref t) i.size none) Q E s:=by
 have D:t≠s.heap.objs.size:=by obtain⟨o,l,Y⟩:=d;exact ZH (IR l)
 refine GT ?_;refine GT<|Uf d.typeIs slot_list_iter.lookup ?_;refine IO ?_;refine GT<|NE<|u1 d (GT<|NE<|L5 D i.size 0 _ _ ⟨_,On _ O,O,O⟩ (d.push _) (VN (zI _ _)) λf r k=>?_);have q:List.take i.size (List.drop 0 i.toList)=i.toList:=by
  exact XB aJ
 rw[q];rw[Ix aJ];refine GT<|NE<|wpAny_pyNext_list_end m r ((d.push _).extBut k.extBut D) aJ λc h=>?_;refine IO<|n c λb o g e=>h b o g (k.extBut b o g<|KK _ e)
theorem Yz{e:on}{t:DL}{i:lc}{Q:BT}(f:A.handled=none)(d:s.heap.IsList t i)
  (n:(assignEach e v).length=i.size) (b:(assignEach e v).findIdx? (·.1)=none)
  (h:∀c,Heap.ExtBut s.heap.objs.size s.heap c->wpAny (model a w) A (assignInOrder ((assignEach e v).map (·.2)) i.toList) Q E {s with heap:=c}):
  wpAny (model a w) A (assign (.Tuple e x p) v<|.ref t) Q E s:=by
 refine GT<|UF ?_;unfold unpack;rw[n,b];exact GT<|NE<|abo f d h
end
def xr(K:Frag)(n:Nat)(t:m7):TG:=λv b H Q=>∃a x,v=.r a/\(aB K H a x\/ah K H a x)/\x.length=n/\t x b H Q
theorem abu(g:X.calm=true)(h:uD X c t)(f:(assignEach c X.env).length=n)(B:(assignEach c X.env).findIdx? (·.1)=none):PG X (.Tuple c k p) (xr X.K n t):=by
 intro E s d H v u Q I r w;obtain⟨a,x,i,q,l,w⟩:=w;rcases q with q|q
 exact JD g h f B E s d H v u Q I r (oZ a x i q l w);subst i;cases r;obtain⟨C,j,y,z⟩:=I.list q;refine Yz (I.ok.hd g) y.isList (by simp[f,<-l,j.length]) B λA m=>?_;exact h E _ d H x _ Q (I.kept λb o e=>m b o (ZH<|IR e) e) ap w
def uV:am->m7
 |[]=>C3
 |i::r=>zv (gG i) (uV r)
def gSl(t:TE)(f h:TO):TG:=λv d H Q=>t d H λo k=>f d k λi g=>h d g λj e=>∃l b x y a c,o=.r l/\v=.r b/\i=some a/\j=some c/\e l=some (.l x)/\e b=some (.l y)/\l≠b/\
 0<=a/\a<=c/\c<=x.length/\x.length+y.length<=sizeLine/\Q d (upd e l<|.l<|x.take a.toNat++y++x.drop c.toNat)
mutual
def cj(Γ:bu):RS->TS
 |.a i e=>m9 (ae Γ e) (gG i)
 |.uQ i e=>m9 (ae Γ e) (gG i)
 |.s o ix e=>m9 (ae Γ e) (JF (ae Γ o) (ae Γ ix) zM)
 |.t o i e=>KN (ae Γ o) (ae Γ i) (ae Γ e)
 |.d e=>Jv (ae Γ e)
 |.r e=>Jx (ae Γ e)
 |.aac=>adX
 |.i c t e=>Jy (aR Γ c) (ax Γ t) (ax Γ e)
 |.j i k ag body=>zw (jj Γ k ag) (gG i) (ax Γ body)
 |.l is k ag body=>zw (jj Γ k ag) (xr Γ.K is.length<|uV is) (ax Γ body)
 |.m c body=>JG (aR Γ c) (ax Γ body)
 |.pass=>C1
 |.brk=>aoS
 |.c=>Ju
 |.n=>apZ
 |.aad o lo hi e=>m9 (ae Γ e) (gSl (ae Γ o) (r_<|ae Γ lo)<|r_<|ae Γ hi)
 |.f o f e=>zG Γ.K (ae Γ o) (ae Γ e) f
 |.aae is e=>m9 (ae Γ e) (xr Γ.K is.length<|uV is)
 |.L j as=>DY (Γ.ex j) Γ.E (aP Γ as)
 |.aaf n i j body su=>λD σ H=>∃C,Γ.gv j=.r C/\Z4 Γ.K C i n (λE=>ax {Γ with E:=E} body) (λea=>ax {Γ with E:=E0,hv:=some ea} su) D σ H
 |.aag k i j f as su=>λD σ H=>∃C,Γ.gv j=.r C/\aoG Γ.K C i k (Γ.fs f) (aP {Γ with E:=E0} as) (λea=>ax {Γ with E:=E0,hv:=some ea} su) D σ H
 |.xs T=>T Γ
def ax(Γ:bu):gu->TS
 |[]=>C1
 |s::r=>Jt (cj Γ s) (ax Γ r)
end
noncomputable def xu:Expr->Go
 |.Slice ..=>false|_=>true
noncomputable def Ai:Expr->Go
 |.ListComp ..=>false|.SetComp ..=>false|.DictComp ..=>false|_=>true
noncomputable def L7(c:Scope)(x:Str)(l:Nat)(s:Scope)(p:Pos):Go:=
 decide (c.kind=.function) && decide (c.names.lookup x=some .local) && (l==p.line) && !(s.names.any fun(n,k)=>n==x && (k==.local ||k==.cell))
def uW(N:bi)(c:Scope):am->bi->Go
 |[],s=>s.isEmpty
 |i::r,s=>match s with
  |[]=>false
  |x::t=>decide (N[i]?=some x) && tR c x && uW N c r t
structure iM(CX:cZ)(S:dJ)(Γ:bu)(X:Cx):Prop extends Good CX S Γ X where
 nd:S.N.Nodup
 Aj:∀x,X.fn x=true
 own:PassesOwn (model X.prog X.w) X.A X.env X.xe
 L8:X.env.scope.kind=.function
 rs:∀(j:Nat)(x:Str),S.en[j]?=some x->x0 X Γ.E
 wu:X.stack=X.env::X.r
 sD:X.env.frame=some X.env.locals
 exn:X.ex=[]
 hcx:CX=jm X.prog X.w
def qV(S:dJ)(i:Nat)(x:Str):Go:=decide (S.N[i]?=some x) && Yn S.sc x && !(x==("__debug__":Str)) && !(x==("__classdict__":Str))
def kG(S:dJ)(j:Nat)(x:Str):Go:=decide (S.gn[j]?=some x) && qu S.sc x && !(x==("__debug__":Str))
def kF(S:dJ)(j:Nat)(x:Str):Go:=decide (S.fn[j]?=some x) && qu S.sc x && !(x==("__debug__":Str))
def kK(S:dJ)(j:Nat)(x:Str):Go:=decide (S.kn[j]?=some x) && qu S.sc x && !(x==("__debug__":Str))
def kB(S:dJ)(x y:Str):Go:=decide (x=y) && qu S.sc x && S.bl.contains x
def kM(o:Expr)(m:Str)(x:Str)(n:Nat)(a c:Pos):Go:=decide (x=m) && qv o && (a.endLine==c.line) && decide (n<29)
def kL(S:dJ)(i:Nat)(x:Str):Go:=decide (S.N[i]?=some x) && tR S.sc x
section
variable{n:cZ}{S:dJ}{g:bu}{X:Cx}{e E a b c d:Expr}{w:on}{x:Str}{p q B:Pos}{r l z D:RE}{A:u8}{i j:Nat}
theorem aG(G:Good n S g X)(h:autoParam (qV S i x=true) ee):PE X (.Name x p) (ae g<|.v i):=by
 simp only[qV,Zu,KM,ZJ] at h;exact alR (G.N▸h.1.1.1) (G.sc▸aar h.1.1.2) h.1.2 h.2
theorem dt:PE X (.Constant (.int v) k p) (ae g<|.c<|.i v):=ahD
theorem nE:PE X (.Constant (.str v) k p) (ae g<|.c<|.s v):=V3
theorem L9:PE X (.Constant (.bool v) k p) (ae g<|.c<|.b v):=acW
theorem Es:PE X (.Constant .none k p) (ae g<|.c .a):=aqO
theorem d_g(G:Good n S g X)(h:autoParam (kG S j x=true) ee):PE X (.Name x p) (ae g<|.g j):=by
 simp only[kG,Zu,KM,ZJ] at h;obtain⟨u,m,r⟩:=G.iK j x h.1.1;exact Jm (G.gl h.1.2) m r h.2
theorem j_(G:Good n S g X)(c:PE X a (ae g l))(h:PE X b (ae g z)):PE X (.BinOp a o b p) (ae g<|.b o l z):=by
 show PE X _ (gk (sv g.K o) (ae g l)<|ae g z);rw[<-G.K];exact WJ (apK o) c h
theorem abz(h:PE X a (ae g l)):PE X (.UnaryOp .USub a p) (ae g<|.n l):=akY abg h
theorem L_(G:Good n S g X)(d:PE X a (ae g l))(c:PE X b (ae g z))(h:autoParam (behindInMarks o b=false) ee):PE X (.Compare a [o] [b] p) (ae g<|.p o l z):=by
 show PE X _ (gk (cp g.K o) (ae g l)<|ae g z);rw[<-G.K];exact aeQ (uO G.units o) d c h
theorem abA(G:Good n S g X)(f:PE X a (ae g l))(e:PE X b (ae g z))(d:PE X c (ae g D))(h:autoParam (lastMarks [o,Y] [b,c]=false) ee):PE X (.Compare a [o,Y] [b,c] p) (ae g<|.A o Y l z D):=by
 show PE X _ (uF (cp g.K o) (cp g.K Y) (ae g l) (ae g z)<|ae g D);rw[<-G.K];exact aoV (uO G.units o) (uO G.units Y) f e d h
theorem X2(h:PE X e (ae g r)):PE X (.BoolOp .And [e] p) (ae g<|.d [r]):=aoM h
theorem abC(h:PE X e (ae g r))(t:PE X (.BoolOp .And (E::w) p) (ae g<|.d (r2::A))):PE X (.BoolOp .And (e::E::w) p) (ae g<|.d (r::r2::A)):=adW h t
theorem abD(G:Good n S g X)(h:PE X a (ae g l)):PE X (.UnaryOp .Not a p) (ae g<|.N l):=by
 show PE X _ (D0 g.K<|ae g l);rw[<-G.K];exact abh h
theorem abE(h:PT X c (aR g D))(e:PE X a (ae g l))(d:PE X b (ae g z)):PE X (.IfExp c a b p) (ae g<|.M D l z):=Wf h e d
theorem cP:PA X [] (aP g []):=wC
theorem bC(h:PE X e (ae g r))(t:PA X w (aP g A))(s:autoParam (WH e=true) ee):PA X (e::w) (aP g (r::A)):=qe h t (eI s)
theorem ie(G:Good n S g X)(o:PA X (e::w) (aP g (r::A)))(h:autoParam (kF S j x=true) ee)(a:autoParam (ib (e::w)=true) ee)(q:autoParam (S.m=0) dh):PE X (.Call (.Name x p) (e::w) [] B) (ae g<|.l j (r::A)):=by
 simp only[kF,Zu,KM,ZJ] at h;obtain⟨k,f,t,s,zq⟩:=ZO (G.fns q j x h.1.1);obtain⟨F,b,c,d,i⟩:=ZE zq;exact agT F b (G.gl h.1.2) c d i .nil G.P o h.2 (eI (e_ a).1)<|mv _ _ w (e_ a).2
theorem Ma(G:Good n S g X)(i:PA X (e::w) (aP g (r::A)))(h:autoParam (kK S j x=true) ee)(a:autoParam (ib (e::w)=true) ee)(q:autoParam (S.m=0) dh):PE X (.Call (.Name x p) (e::w) [] B) (ae g<|.m j (r::A)):=by
 simp only[kK,Zu,KM,ZJ] at h;obtain⟨k,f,l,s,zq⟩:=ZO (G.Af q j x h.1.1);obtain⟨M,F,b,c,d⟩:=ZE zq;exact aqE M F b (G.gl h.1.2) c d .nil G.P i h.2 (eI (e_ a).1)<|mv _ _ w (e_ a).2
theorem sE(G:Good n S g X)(f:PA X (e::w) (aP g (r::A)))(h:autoParam (kB S x t.nm=true) ee)(a:autoParam (ib (e::w)=true) ee)(q:autoParam (S.m=0) dh):PE X (.Call (.Name x p) (e::w) [] B) (ae g<|.t t (r::A)):=by
 simp only[kB,Zu,KM] at h;obtain⟨⟨rfl,j⟩,i⟩:=h;have d:t.nm≠"__name__":=by cases t<;>decide
 have b:(t.nm==("__debug__":Str))=false:=by cases t<;>decide
 show PE X _ (gU (oU g.K t)<|aP g (r::A));rw[<-G.K];cases aa1 (G.calm q) t with
 |fn k v c=>exact Kg c (G.gl j) (G.jo _ i) v f d b (eI (e_ a).1) (mv _ _ w (e_ a).2)
 |ty T v c=>exact Kh c (G.gl j) (G.jo _ i) v f d b (eI (e_ a).1) (mv _ _ w (e_ a).2)
theorem abF(G:Good n S g X)(d:PE X a (ae g l))(h:autoParam (kB S x "isinstance"=true) ee)(b:autoParam (kB S y (Str.ofString T.nm)=true) ee)(s:autoParam (WH a=true) ee):PE X (.Call (.Name x p) [a,.Name y q] [] B) (ae g<|.j T l):=by
 simp only[kB,Zu,KM] at h b;obtain⟨⟨rfl,f⟩,e⟩:=h;obtain⟨⟨rfl,c⟩,k⟩:=b;exact abb d s (G.gl f) (G.jo _ e) (G.gl c)<|G.jo _ k
theorem Mb{a:Pos}(G:Good n S g X)(b:PE X o (ae g r))(h:autoParam (kM o m.nm x 0 a B=true) ee):PE X (.Call (.Attribute o x a) [] [] B) (ae g<|.w m r []):=by
 simp only[kM,Zu,KM] at h;obtain⟨⟨⟨rfl,d⟩,c⟩, -⟩:=h;show PE X _ (uR g.K m (ae g r) kY);rw[<-G.K];exact abj b d c
theorem Mc{a:RE}(G:Good n S g X)(c:PE X o (ae g a))(d:PA X (e::w) (aP g (r::A)))(h:autoParam (kM o m.nm x (w.length+1) p B=true) ee)(b:autoParam (ib (e::w)=true) ee):PE X (.Call (.Attribute o x p) (e::w) [] B) (ae g<|.w m a (r::A)):=by
 simp only[kM,Zu,KM] at h;obtain⟨⟨⟨rfl,j⟩,i⟩,f⟩:=h;show PE X _ (uR g.K m (ae g a)<|aP g (r::A));rw[<-G.K];exact abi c d j i f (eI (e_ b).1) (mv _ _ w (e_ b).2)<|El _ _ (e::w) b
theorem xv(G:Good n S g X)(o:PE X a (ae g r))(h:autoParam (qv a=true) ee):PE X (.Attribute a f p) (ae g<|.f r f):=by
 show PE X _ (zF g.K (ae g r) f);rw[<-G.K];exact aiP o<|si h
theorem Md(G:Good n S g X)(b:PE X o (ae g r))(h:autoParam ((kM o m m 0 p B && decide (S.mn[j]?=some m))=true) ee)(q:autoParam (S.m=0) dh):PE X (.Call (.Attribute o m p) [] [] B) (ae g<|.a j m r []):=by
 simp only[kM,Zu,KM] at h;obtain⟨⟨⟨⟨-,e⟩,d⟩, -⟩,c⟩:=h;exact RR (G.xp q j _ c) G.P b e d
theorem xx{c:RE}(G:Good n S g X)(d:PE X o (ae g c))(f:PA X (e::w) (aP g (r::A)))(h:autoParam ((kM o m m (w.length+1) p B && decide (S.mn[j]?=some m))=true) ee)(b:autoParam (ib (e::w)=true) ee)(q:autoParam (S.m=0) dh):PE X (.Call (.Attribute o m p) (e::w) [] B) (ae g<|.a j m c (r::A)):=by
 simp only[kM,Zu,KM] at h;obtain⟨⟨⟨⟨-,s⟩,l⟩,k⟩,i⟩:=h;exact abl (G.xp q j _ i) G.P d f s l k (eI (e_ b).1) (mv _ _ w (e_ b).2)<|El _ _ (e::w) b
theorem abG(h:xu b=true):Ko b:=λo i=>by cases b<;>first|rfl|cases h
theorem jM(G:Good n S g X)(d:PE X a (ae g l))(c:PE X b (ae g z))(h:autoParam (xu b=true) ee):PE X (.Subscript a b p) (ae g<|.i l z):=by
 show PE X _ (gk (qr g.K g.sd) (ae g l)<|ae g z);rw[<-G.K];exact anE (aa6 G.Ae) d c<|abG h
theorem Me:PE X (.Dict [] [] p) (ae g .xf):=aqP
theorem abH(h:xu b=true):DH b:=λo i=>by cases b<;>first|rfl|cases h
theorem qw(G:Good n S g X)(d:PE X a (ae g l))(c:PE X b (ae g z))(h:autoParam (xu b=true) ee):PE X (.Subscript a b p) (ae g<|.B l z):=
 aqN (by have:=G.units;lia) d c (abH h)
theorem abI(G:Good n S g X)(d:PE X a (ae g l))(c:PE X b (ae g z))(h:autoParam (behindInMarks .In b=false) ee):PE X (.Compare a [.In] [b] p) (ae g<|.I l z):=
 aoE (KO (by have:=G.units;lia) d c) h
theorem Mf(G:Good n S g X)(d:PE X a (ae g l))(c:PE X b (ae g z))(h:autoParam (behindInMarks .In b=false) ee):PT X (.Compare a [.In] [b] p) (aR g<|.I l z):=
 Jn (KO (by have:=G.units;lia) d c) h
theorem Mg(G:Good n S g X)(d:PE X a (ae g l))(c:PE X b (ae g z))(h:autoParam (behindInMarks .NotIn b=false) ee):PT X (.Compare a [.NotIn] [b] p) (aR g<|.uP l z):=
 Jn (aoQ (by have:=G.units;lia) d c) h
theorem abJ(G:Good n S g X)(d:PE X a (ae g l))(c:PE X b (ae g z))(h:autoParam (behindInMarks .NotIn b=false) ee):PT X (.Compare a [.NotIn] [b] p) (aR g<|.y l z):=by
 show PT X _ (oI<|gk (sx g.K true) (ae g l)<|ae g z);rw[<-G.K];exact JW (ahT G.units) d c h
theorem Mh{i:Option Expr}{r:Option RE}(G:Good n S g X)(d:PE X a (ae g l))(b:PO X o (qt g r))(c:PO X i (qt g h)):PE X (.Subscript a (.Slice o i none q) p) (ae g<|.s l r h):=by
 show PE X _ (Dm (sA g.K) (ae g l) (qt g r)<|qt g h);rw[<-G.K];exact acU abe d b c
theorem Mi:PO X none (qt g none):=zJ
theorem Mj(h:PE X a (ae g l)):PO X (some a) (qt g<|some l):=zK h
theorem abK(h:PA X w (aP g A)):PE X (.Tuple w k p) (ae g<|.T A):=anG h
theorem uX(h:PA X w (aP g A)):PE X (.List w p) (ae g<|.L A):=agQ h
def xy(n:cZ)(S:dJ)(g:bu)(c:Option RE)(i:on):Prop:=match c with
 |none=>i=[]
 |some r=>∃e,i=[e]/\∀X,Good n S g X->PT X e (aR g r)
theorem Et:xy n S g none []:=O
theorem Eu(h:∀X,Good n S g X->PT X e (aR g r)):xy n S g (some r) [e]:=⟨e,O,h⟩
def kC(S:dJ)(t:xz)(g i:Expr)(s:Scope)(k:IK)(l:bi)(f:ut):Go:=decide (uS t g=some l) && (decide (k≠ .z)||t.isSome) && D6 S ⟨.Constant .none 0 ⟨0,0,0,0⟩,g,i,[],s⟩ l f
abbrev cS(S:dJ)(s:Scope)(l:bi)(f:ut):dJ:={S with N:=l++f.map (·.1),sc:=D5 s S.sc,en:=[],m:=if S.m=0 then 0 else 2}
theorem Ml{j:u8}{c:Option RE}{e:RE}{i:Expr}{b:on}{a:Scope}(G:Good n S g X)(h:kC S tk t i a k ln f=true)(A:PI X t i (jj g k j))(o:xy n (cS S a ln f) g.calm c b)(B:∀X,Good n (cS S a ln f) g.calm X->PE X u (ae g.calm e))(d:autoParam (S.m=0) dh):PE X (.ListComp u [⟨t,i,b,0⟩] a p) (ae g<|.C tk f k j c e):=by
 simp only[kC,Zu,KM] at h;obtain⟨⟨E,I⟩,D⟩:=h;obtain⟨z,y,w,v⟩:=Xn (LU G D);show PE X _ (so g.K (jj g k j) tk f (xj g.calm c)<|ae g.calm e);rw[<-G.K];refine aeL z (G.calm d) A (LV (G.calm d) E y w) ?_ (λx C s H=>B _<|G.inner ⟨.Constant .none 0 ⟨0,0,0,0⟩,t,i,[],a⟩ ln f x C s H)<|Ah v;cases c with
 |none=>exact o
 |some r=>
  obtain⟨F,q,d⟩:=o;exact⟨F,q,λx C s H=>d _<|G.inner ⟨.Constant .none 0 ⟨0,0,0,0⟩,t,i,[],a⟩ ln f x C s H⟩
theorem abL{d:u8}{c:Option RE}{e:RE}{l i:Expr}{b:Scope}(G:Good n S g X)(j:PI X t i (jj g k d))(r:xy n (cS S b ((uS tk t).getD []) f) g.calm c s)(o:∀X,Good n (cS S b ((uS tk t).getD []) f) g.calm X->PE X l (ae g.calm e))(h:autoParam (kC S tk t i b k ((uS tk t).getD []) f=true) ee)(q:autoParam (S.m=0) dh):PE X (.ListComp l [⟨t,i,s,0⟩] b p) (ae g<|.C tk f k d c e):=Ml G h j r o q
theorem abM(h:PT X a (aR g l)):PT X (.UnaryOp .Not a p) (aR g<|.N l):=Wb h
theorem abN(h:PT X e (aR g r)):PW X (.BoolOp .And [e] p) (aR g<|.d [r]):=apQ h
theorem abO(h:PT X e (aR g r))(t:PW X (.BoolOp .And (E::w) p) (aR g<|.d (r2::A))):PW X (.BoolOp .And (e::E::w) p) (aR g<|.d (r::r2::A)):=anO h t
theorem Rt(h:PT X e (aR g r)):PW X (.BoolOp .Or [e] p) (aR g<|.o [r]):=ahJ h
theorem abQ(h:PT X e (aR g r))(t:PW X (.BoolOp .Or (E::w) p) (aR g<|.o (r2::A))):PW X (.BoolOp .Or (e::E::w) p) (aR g<|.o (r::r2::A)):=aiQ h t
theorem xB(G:Good n S g X)(d:PE X a (ae g l))(c:PE X b (ae g z))(h:autoParam (behindInMarks o b=false) ee):PT X (.Compare a [o] [b] p) (aR g<|.p o l z):=by
 show PT X _ (oI<|gk (cp g.K o) (ae g l)<|ae g z);rw[<-G.K];exact JW (uO G.units o) d c h
theorem OS(G:Good n S g X)(f:PE X a (ae g l))(e:PE X b (ae g z))(d:PE X c (ae g D))(h:autoParam (lastMarks [o,Y] [b,c]=false) ee):PT X (.Compare a [o,Y] [b,c] p) (aR g<|.A o Y l z D):=by
 show PT X _ (oI<|uF (cp g.K o) (cp g.K Y) (ae g l) (ae g z)<|ae g D);rw[<-G.K];exact apA (uO G.units o) (uO G.units Y) f e d h
theorem abS(G:Good n S g X)(h:PE X (.Call a w [] p) (ae g<|.l j A)):PT X (.Call a w [] p) (aR g<|.l j A):=by
 show PT X _ (ji g.K<|ae g<|.l j A);rw[<-G.K];exact L3 h λY=>O
theorem abT(G:Good n S g X)(h:PE X (.Call a w [] p) (ae g<|.j T l)):PT X (.Call a w [] p) (aR g<|.j T l):=by
 exact L3 h λY=>O
theorem Ak(G:Good n S g X)(h:PE X a (ae g l)):PI X t a (jj g .l [l]):=by
 show PI X t a (C6 g.K<|ae g l);rw[<-G.K];exact amK h
theorem Mm(G:Good n S g X)(b:PE X a (ae g l))(h:autoParam (kB S x "range"=true) ee)(s:autoParam (WH a=true) ee):PI X t (.Call (.Name x p) [a] [] B) (jj g .g [l]):=by
 simp only[kB,Zu,KM] at h;obtain⟨⟨rfl,d⟩,c⟩:=h;exact WE (G.gl d) (G.jo _ c) (qe b wC<|eI s)<|eI s
theorem abU(G:Good n S g X)(e:PE X a (ae g l))(d:PE X b (ae g z))(h:autoParam (kB S x "range"=true) ee)(s:autoParam (WH a=true) ee)(c:autoParam (WH b=true) ee):PI X t (.Call (.Name x p) [a,b] [] B) (jj g .zZ [l,z]):=by
 simp only[kB,Zu,KM] at h;obtain⟨⟨rfl,i⟩,f⟩:=h;exact apL (G.gl i) (G.jo _ f) (qe e (qe d wC<|eI c)<|eI s) (by rw[eI s,eI c];rfl)<|eI c
theorem Mn{t:on}{d:Pos}(G:Good n S g X)(f:PE X a (ae g l))(e:PE X b (ae g z))(h:autoParam (kB S x "zip"=true) ee)(c:autoParam (ib [a,b]=true) ee):PI X (.Tuple t k d) (.Call (.Name x p) [a,b] [] B) (jj g .z [l,z]):=by
 simp only[kB,Zu,KM] at h;obtain⟨⟨rfl,j⟩,i⟩:=h;show PI X _ _ (D3 g.K<|fB (ae g l)<|aP g [z]);rw[<-G.K];exact aay (G.gl j) (G.jo _ i) (qe f (qe e wC<|eI (e_ (e_ c).2).1)<|eI (e_ c).1) (eI (e_ c).1)<|mv _ _ _ (e_ c).2
end
section
variable{g:cZ}{S:dJ}{d:bu}{X:Cx}{e a b c v:Expr}{n:on}{x:Str}{p q pos:Pos}{r m z A:RE}{i j:Nat}{D:Fr}{E:List Fr}{s:RS}{F t u:gu}
theorem Ew{t:Option Expr}{e:Env}(h:Ai v=true):swapsWith v t l e=pure false:=by
 cases v<;>first|rfl|cases h
theorem abV{e:Env}(h:e.kindOf x=some .cell):swapsWith v (some<|.Name x p) l e=pure false:=by
 cases v<;>first
  |rfl
  |(unfold swapsWith;simp only[h];have q:(some NameKind.cell==some NameKind.local)=false:=O;simp only[q,Bool.and_false,Bool.false_and])
theorem Mp{i:Expr}:swapsWith v (some<|.Subscript o i p) l env=pure false:=by
 cases v<;>rfl
theorem abW{i:Expr}{e:Env}:swappedStores [.Subscript o i p] v e=pure none:=O
theorem iM.name(G:iM g S d X)(h:kL S i x=true):PG X (.Name x p) (gG i):=by
 simp only[kL,Zu,KM] at h;exact zu (G.N▸G.nd) (G.N▸h.1) (G.sc▸D4 h.2)<|.inl<|G.Aj x
theorem jN:gF X [] (ax d []):=aeO
theorem a_(h:PS X D (cj d s))(t:gF X E (ax d F)):gF X (D::E) (ax d (s::F)):=aqC h t
theorem eU(G:iM g S d X)(e:PE X v (ae d r))(h:autoParam (kL S i x=true) ee)(c:autoParam ((Ai v ||decide (S.sc.names.lookup x=some .cell))=true) ee):PS X (.Assign [.Name x p] v q) (cj d<|.a i r):=by
 simp only[kL,Zu,KM,Bool.or_eq_true] at h c;refine aeN (G.N▸G.nd) (G.N▸h.1) (G.sc▸D4 h.2) e ?_<|.inl<|G.Aj x;rcases c with b|b
 exact Ew b;exact abV (by show X.env.scope.names.lookup x=_;rw[G.sc];exact b)
theorem Ex{c:Option RE}{e:RE}{A t:Expr}{j:on}{b:Scope}(G:iM g S d X)(u:kL S i x=true)(n:L7 S.sc x p.line b l=true)(h:kC S y t a b k ln f=true)(I:PI X t a (jj d k w))(z:xy g (cS S b ln f) d.calm c j)(J:∀X,Good g (cS S b ln f) d.calm X->PE X A (ae d.calm e))(o:autoParam (S.m=0) dh):PS X (.Assign [.Name x p] (.ListComp A [⟨t,a,j,0⟩] b l) q) (cj d<|.uQ i<|.C y f k w c e):=by
 simp only[kC,kL,L7,Zu,KM,Y4,ZJ] at h u n;obtain⟨⟨M,T⟩,L⟩:=h;obtain⟨F,E,D,B⟩:=Xn (LU G.toGood L);show PS X _ (m9 (so d.K (jj d k w) y f (xj d.calm c)<|ae d.calm e)<|gG i);rw[<-G.K];refine alM (G.N▸G.nd) (G.N▸u.1) (G.sc▸D4 u.2) ?_ F (G.calm o) I (LV (G.calm o) M E D) ?_ (λv C s H=>J _<|G.toGood.inner ⟨.Constant .none 0 ⟨0,0,0,0⟩,t,a,[],b⟩ ln f v C s H) (Ah B)<|.inl<|G.Aj x;have Q:X.env.kindOf x=some .local:=by show X.env.scope.names.lookup x=_;rw[G.sc];exact n.1.1.2
 have P:X.env.blockKind=.function:=by unfold Env.blockKind;rw[G.L8];rfl
 unfold swapsWith;simp only[Q,P,n.1.2,n.2];show pure (true && true && (l.line==l.line) && !false)=pure true;rw[beq_self_eq_true];rfl;cases c with
 |none=>exact z
 |some r=>
  obtain⟨R,q,o⟩:=z;exact⟨R,q,λv C s H=>o _<|G.toGood.inner ⟨.Constant .none 0 ⟨0,0,0,0⟩,t,a,[],b⟩ ln f v C s H⟩
theorem Ey(e:PE X v (ae d r))(f:PE X a (ae d m))(c:PE X b (ae d z))(h:autoParam (xu b=true) ee):PS X (.Assign [.Subscript a b p] v q) (cj d<|.s m z r):=
 agL e (amL f c alX (by intro w;cases b<;>first|rfl|cases h)) (by exact Mp (o:=a) (i:=b) (p:=p) (l:=q.line) (env:=X.env)) abW O
theorem Mq(G:iM g S d X)(h:PE X v (ae d r))(e:PE X a (ae d m))(c:PE X b (ae d z)):PS X (.Assign [.Subscript a b p] v q) (cj d<|.t m z r):=
 apW (by have:=G.toGood.units;lia) e c h (by exact Mp)
theorem Mr(G:iM g S d X)(o:PE X a (ae d m))(e:PE X v (ae d r))(h:autoParam (Ai v=true) ee):PS X (.Assign [.Attribute a f p] v q) (cj d<|.f m f r):=by
 show PS X _ (zG d.K (ae d m) (ae d r) f);rw[<-G.K];exact J7 o e<|Ew h
theorem Ez(e:PE X v (ae d r))(h:autoParam (Ai v=true) ee):PS X (.Expr v p) (cj d<|.d r):=alF e (Ew h)
theorem uY(h:PE X v (ae d r)):PS X (.Return (some v) p) (cj d<|.r r):=alQ h
theorem EA(h:PT X c (aR d A))(a:gF X as (ax d t))(b:gF X bs (ax d u)):PS X (.If c as bs p) (cj d<|.i A t u):=aoP h a b
theorem EB(G:iM g S d X)(h:PT X c (aR d A))(a:gF X as (ax d t)):PS X (.While c as [] p) (cj d<|.m A t):=acY G.own h a
theorem Ms{b:u8}{r:Expr}{a:List Fr}(G:iM g S d X)(e:PI X (.Name x p) r (jj d k b))(f:gF X a (ax d t))(h:autoParam (kL S i x=true) ee)(s:autoParam (xl r=true) ee)(c:autoParam (S.m=0) dh):PS X (.For (.Name x p) r a [] q) (cj d<|.j i k b t):=
 JM G.own (G.calm c) e (G.name h) f (Ah s)
theorem Mt(G:iM g S d X):∀(s:am)(x:List (Str×Pos)),uW S.N S.sc s (x.map (·.1))=true->
  uD X (x.map λy=>.Name y.1 y.2) (uV s)/\(assignEach (x.map λy=>Expr.Name y.1 y.2) X.env).length=s.length/\(assignEach (x.map λy=>Expr.Name y.1 y.2) X.env).findIdx? (·.1)=none
 |[],x,h=>by
  simp only[uW,List.isEmpty_iff,List.map_eq_nil_iff] at h;subst h;exact⟨JA,O,O⟩
 |i::r,[],h=>by cases h
 |i::r,y::t,h=>by
  simp only[AP,uW,Zu] at h;obtain⟨c,b,a⟩:=Mt G r t h.2;refine⟨C4 (G.name (by simp only[kL,Zu];exact h.1)) c O,?_,?_⟩;show(assignEach _ X.env).length+1=r.length+1;rw[b];show List.findIdx? (·.1) ((false,assign (.Name y.1 y.2) X.env)::assignEach _ X.env)=none;rw[List.findIdx?_cons,a];rfl
theorem Mu{a:u8}{i:Expr}{e:List Fr}{b}(x:List (Str×Pos))(G:iM g S d X)(r:PI X (.Tuple (x.map λy=>.Name y.1 y.2) b p) i (jj d k a))(u:gF X e (ax d t))(h:autoParam (uW S.N S.sc is (x.map (·.1))=true) ee)(o:autoParam (xl i=true) ee)(c:autoParam (S.m=0) dh):
  PS X (.For (.Tuple (x.map λy=>.Name y.1 y.2) b p) i e [] q) (cj d<|.l is k a t):=by
 obtain⟨n,j,f⟩:=Mt G is x h;show PS X _ (zw (jj d k a) (xr d.K is.length<|uV is)<|ax d t);rw[<-G.K];exact JM G.own (G.calm c) r (abu (G.calm c) n j f) u<|Ah o
def kX(S:dJ)(j:Nat)(x:Str):Go:=decide (S.en[j]?=some x) && qu S.sc x && !(x==("__debug__":Str))
theorem abX(G:iM g S d X)(A:PA X (e::n) (aP d (r::rs)))(h:autoParam (kX S j x=true) ee)(c:autoParam (ib (e::n)=true) ee)(q:autoParam (S.m=0) dh):PS X (.Raise (some<|.Call (.Name x p) (e::n) [] T) none pos) (cj d<|.L j (r::rs)):=by
 simp only[kX,Zu,KM,ZJ] at h;obtain⟨f,B,b,u,a,F⟩:=ZO (G.Ei j x h.1.1);exact aaN (G.calm q) a F (G.gl h.1.2) h.2 A (eI (e_ c).1) (mv _ _ n (e_ c).2)<|G.rs j x h.1.1
theorem Mv:PS X (.Continue p) (cj d .c):=Wm
end
section
variable{P:Fa}{w:Fk}{K:Frag}{a:ge}{d:FS}
def nG(P:Fa)(w:Fk)(K:Frag)(a:ge)(d:FS)(k:Nat)(x:Str)(s:Sp):Prop:=
 ∃f b p,dD P w K a d (jm P w) k f b p s/\a x=some (.ref f)/\PySem.W.keepIn K (.ref f)=true/\Wz K b p []
theorem nG.mono(h:nG P w K a d j x s)(b:j<=k):nG P w K a d k x s:=by
 obtain⟨f,c,p,F,r⟩:=h;exact⟨f,c,p,F.mono b,r⟩
def qx(t:v4)(j:Nat):Sp:=match t[j]? with
 |some p=>p.2
 |none=>λ_ _ _ _=>False
noncomputable def Al(t:jp)(j:Nat):V:=match t[j]? with
 |some p=>p.2
 |none=>.a
structure EC(a:ge)(p:Str×V):Prop where
 ex:∃u,a p.1=some u/\mL p.2 u
noncomputable def nH(t:List (Str×DL×Sp))(j:Nat):DL×Sp:=match t[j]? with
 |some p=>p.2
 |none=>(0,λ_ _ _ _=>False)
noncomputable def Am(t:sK)(j:Nat):DL:=match t[j]? with
 |some p=>p.2
 |none=>0
abbrev aH(K:Frag)(t:v4)(g:jp)(d:List (DL×ii):=[])(m k:List (Str×DL×Sp):=[])(et:sK:=[])(h:v4:=[])(E:XK:=E0):bu:=
 {K:=K,fs:=qx t,gv:=Al g,E:=E,sd:=λp N=>(p,N)∈d,ms:=nH m,kt:=nH k,ex:=Am et,hs:=qx h,hv:=none}
def nI(P:Fa)(w:Fk)(K:Frag)(a:ge)(d:FS)(k:Nat)(p:Str×DL×Sp):Prop:=
 gT K p.2.1/\∃f b s,yX K p.2.1 p.1 f/\dD P w K a d (jm P w) k f b s p.2.2/\Wz K b s []
def sG(P:Fa)(w:Fk)(K:Frag)(a:ge)(d:FS)(k:Nat)(p:Str×DL×Sp):Prop:=
 ∃j f b s,j+1<=k/\Mk K p.2.1 f/\dD P w K a d (jm P w) j f b s p.2.2/\a p.1=some (.ref p.2.1)/\Wz K b s []
theorem nI.mono(h:nI P w K a d j p)(e:j<=k):nI P w K a d k p:=by
 obtain⟨c,f,g,s,m,F,b⟩:=h;exact⟨c,f,g,s,m,F.mono e,b⟩
theorem sG.mono(h:sG P w K a d j p)(b:j<=k):sG P w K a d k p:=by
 obtain⟨i,f,c,s,m,r⟩:=ZO h;exact⟨i,f,c,s,wO m b,r⟩
def An(P:Fa)(w:Fk)(K:Frag)(q:DL×ii):Prop:= ∀h:FS,K.In h->∃v,KV q.2 v/\h.DictOf (c9 P w) q.1 v
abbrev Ao(N:bi)(s:Scope)(t:bi)(g:bi)(b:bi)(n k:bi:=[])(e h:bi:=[])(d:Nat:=0):dJ:={N:=N,sc:=s,fn:=t,gn:=g,bl:=b,mn:=n,kn:=k,en:=e,hn:=h,m:=d}
def Ap(a:ge)(d:FS)(p:Str×DL):Prop:= ∃b B n u,OwnCls p.1 p.2 b n a d/\ExcBaseFacts B n u b
def ED(P:Fa)(w:Fk)(K:Frag)(a:ge)(d:FS)(k:Nat)(x:Str)(s:Sp):Prop:=
 ∃f b p,LN P w K a d k f b p s/\a x=some (.ref f)/\PySem.W.keepIn K (.ref f)=true/\Wz K b p []
theorem abY{V:bi}(F:sj K x c' T f fd)(S:wF N V (gW T))(t:v4)(M:jp)(bl:bi)(n z:List (Str×DL×Sp))(R:sK)(I:v4)(m:gu)(hm:∀{CX:cZ}{Γ:bu}{X:Cx},iM CX (Ao N (gW T) (t.map (·.1)) (M.map (·.1)) bl (n.map (·.1)) (z.map (·.1)) (R.map (·.1)) (I.map (·.1))) Γ X->gF X (gp T) (ax Γ m))(sI:∀p∈t,nG P w K a d k p.1 p.2)(EE:∀p∈M,EC a p)(EF:∀y∈bl,a y=none)(dk:List (DL×ii))(EG:∀q∈dk,An P w K q)(EH:∀p∈n,nI P w K a d k p)(EI:∀p∈z,sG P w K a d k p)(a':∀p∈R,Ap a d p)(EK:∀p∈I,ED P w K a d k p.1 p.2)(Y:∀v H Q E,U v H Q E->v.length=V.length)(EL:∀v H Q E,U v H Q E->ax (aH K t M dk n z R I E) m {nx:=λ_ H'=>Q .a H',r:=Q} (XF N v) H):dD P w K a d (jm P w) (k+1) f fd V U:=by
 obtain⟨oc,od,kV,d',pm,an,bH,ct,j6,zq⟩:=uJ F.ex;obtain⟨rfl,lk,m5⟩:=Xb zq;refine acR lk m5 S Y λA W s H v Q E L qg=>nT _ (hm (CX:=jm P w) ?_) (EL v H Q E qg);refine {N:=O,sc:=O,K:=O,calm:=λ_=>O,units:=L.units,gd:=L.gd,fns:=λ_ j y g=>?_,iK:=λj y g=>?_,jo:=λy hy=>?_,P:=aaK,Ad:=λ_ _ _ _ _ h=>LL h,Ae:=λp N' h=>EG _ h,xp:=λ_ j y g=>?_,Af:=λ_ j y g=>?_,Ei:=λj y g=>?_,Ej:=λj y g=>?_,Ek:=λ_ h=>(nomatch h),LS:=λh=>(nomatch h),nd:=S.nd,Aj:=λ_=>O,own:=PassesOwn.leaving,L8:=S.kind,rs:=λ_ _ _=>aaM,wu:=O,sD:=O,exn:=O,hcx:=O};have b:=g;rw[ZW] at b;cases q:t[j]? with
 |none=>rw[q] at b;cases b
 |some p=>
  rw[q] at b;have e:p.1=y:=WV b;obtain⟨C,J,B,zq⟩:=XM (sI p (Wv q));obtain⟨G,o,Z,D⟩:=Xn zq;have l:qx t j=p.2:=by unfold qx;rw[q]
  show LO (jm P w) _ y (qx t j);rw[l,<-e];exact oT k C J B G L o Z D
 have b:=g;rw[ZW] at b;cases q:M[j]? with
 |none=>rw[q] at b;cases b
 |some p=>
  rw[q] at b;have e:p.1=y:=WV b;obtain⟨u,h1,h2⟩:=(EE p<|Wv q).ex;have l:Al M j=p.2:=by unfold Al;rw[q]
  show ∃u,a y=some u/\mL (Al M j) u;rw[l,<-e];exact nT u h1 h2
 exact EF y (by simpa using hy);have b:=g;rw[ZW] at b;cases q:n[j]? with
 |none=>rw[q] at b;cases b
 |some p=>
  rw[q] at b;have e:p.1=y:=WV b;obtain⟨c,C,J,B,o,G,D⟩:=EH p (Wv q);have l:nH n j=p.2:=by unfold nH;rw[q]
  show Ac (jm P w) _ (nH n j).1 y (nH n j).2;rw[l,<-e];exact⟨c,p4 k C J B o G L D⟩
 have b:=g;rw[ZW] at b;cases q:z[j]? with
 |none=>rw[q] at b;cases b
 |some p=>
  rw[q] at b;have e:p.1=y:=WV b;obtain⟨i,C,J,B,zq⟩:=ZO (EI p (Wv q));obtain⟨hi,o,G,g',D⟩:=ZE zq;have l:nH z j=p.2:=by unfold nH;rw[q]
  show LP (jm P w) _ y (nH z j).1 (nH z j).2;rw[l,<-e];exact oT i C J B o G (L.mono hi) g' D
 have b:=g;rw[ZW] at b;cases q:R[j]? with
 |none=>rw[q] at b;cases b
 |some p=>
  rw[q] at b;have e:p.1=y:=WV b;have l:Am R j=p.2:=by unfold Am;rw[q]
  show LR _ y (Am R j);rw[l,<-e];exact a' p<|Wv q
 have b:=g;rw[ZW] at b;cases q:I[j]? with
 |none=>rw[q] at b;cases b
 |some p=>
  rw[q] at b;have e:p.1=y:=WV b;obtain⟨C,J,B,zq⟩:=XM (EK p (Wv q));obtain⟨G,o,Z,D⟩:=Xn zq;have l:qx I j=p.2:=by unfold qx;rw[q]
  show LQ _ y (qx I j);rw[l,<-e];exact oT k C J B G L.h o Z D
variable{x qual:Str}{st:Fr}{f:DL}{b:GE}{N c:bi}{k:Nat}{g:Sp}
theorem dD.top(F:dD P w K a d (jm P w) k f b c g):dD P w K a d wM k f b c (λv H Q Y=>g v H Q E0):=
 ⟨λv H Q E h=>F.len v H Q E0 h,λA o s H i u v Q E m q n j l=>UV (F.run A o s H i u v Q E0 m q n j l) λr t h=>by
  cases r with
  |error e=>exact(LL h).elim
  |ok p=>cases p<;>exact h⟩
end
section
variable{c:bu}{D:ET}{d:St}{H:Hp}{r:gu}{Q:VK}
theorem Mw(h:ae c e d H λx b=>ax c r D (d.set i<|some x) b):ax c (.a i e::r) D d H:=h
theorem Mx(h:aP c a d H λv e=>oU c.K b v e Q):ae c (.t b a) d H Q:=h
theorem My{Q:ci->Hp->Prop}(h:ae c a d H λx b=>Q [x] b):aP c [a] d H Q:=h
end
end
variable{H Z W H1 H0:Hp}{u:St}{Γ:bu}{Y:ac}{i B j T X' d:Nat}{a b o:RE}{Q:VK}{xs vs N:ci}{C L lo be lg dx l1 l2:PySem.Addr}{r cC:am}{D:ET}{as:u8}{body:gu}{M Ed:List PySem.Addr}{fv:List (PySem.Str×Nat)}{y:PySem.Str}
section
open PyProof.Rows
noncomputable def oX:bi:=["thing"]
noncomputable def Mz:gu:=
 [.r<|.d [(.j .i<|.v 0),(.N<|.j .b<|.v 0)]]
noncomputable def aa:bi:=[]
noncomputable def abZ:bi:=["isinstance","int","bool"]
noncomputable def EM:bi:=["thing","words"]
noncomputable def EN:gu:=
 [.r<|.d [(.j .s<|.v 0),(.p .In (.v 0)<|.v 1)]]
noncomputable def MA:bi:=["isinstance","str"]
noncomputable def EO:gu:=
 [.r<|.d [(.j .s<|.v 0),(.p .Eq (.w .l (.v 0) [.g 0])<|.c<|.s "")]]
noncomputable def Yl:bi:=["SIGNS"]
noncomputable def Aq:gu:=
 [.i (.o [(.N (.j .t (.v 0))),(.p .NotEq (.t .l [.v 0]) (.c (.i 2)))]) [.r (.c (.b false))] [],
 .i (.l 0 [(.i (.v 0)<|.c<|.i 0),(.T [(.c<|.s "keep")])]) [.r<|.d [(.l 1 [(.i (.v 0)<|.c<|.i 1)]),(.p .GtE (.i (.v 0)<|.c<|.i 1)<|.c<|.i 1)]] [],
 .r (.d [(.l 0 [(.i (.v 0) (.c (.i 0))),(.T [(.c (.s "cut")),(.c (.s "put"))])]),(.l 2 [(.i (.v 0) (.c (.i 1)))]),(.p .NotEq (.i (.v 0) (.c (.i 1))) (.c (.s "")))])]
noncomputable def ab1:bi:=["is_word","is_whole","is_text"]
noncomputable def ab2:bi:=["isinstance","tuple","len"]
noncomputable def MB:bi:=["word","ahead"]
noncomputable def MC:gu:=
 [.r<|.d [(.p .NotEq (.v 0)<|.v 1),(.N<|.d [(.p .Eq (.v 1)<|.c<|.s "cut"),(.p .Eq (.v 0)<|.c<|.s "put")])]]
noncomputable def MD:bi:=["change","ahead","part"]
noncomputable def ME:gu:=
 [.i (.N (.j .l (.v 0))) [.L 0 [(.c (.s "a change is a list"))]] [],
 .a 1 (.c<|.s ""),
 .j 2 .l [.v 0] [.i (.N (.l 0 [.v 2])) [.L 0 [(.c (.s "a part is a keep of 1 sign or more, or a cut or put of a text that is not empty"))]] [],
  .i (.N<|.l 1 [(.i (.v 2)<|.c<|.i 0),.v 1]) [.L 0 [(.c<|.s "neighbours have two words, and no put stands right behind a cut")]] [],
  .a 1 (.i (.v 2) (.c (.i 0)))]]
noncomputable def ab3:bi:=["is_part","may_follow"]
noncomputable def ab4:bi:=["isinstance","list"]
noncomputable def LD:bi:=["BadChange"]
noncomputable def MF:bi:=["part"]
noncomputable def MG:gu:=
 [.r<|.M (.p .Eq (.i (.v 0)<|.c<|.i 0)<|.c<|.s "keep") (.i (.v 0)<|.c<|.i 1)<|.t .l [(.i (.v 0)<|.c<|.i 1)]]
noncomputable def fV:bi:=["len"]
noncomputable def MH:bi:=["change","over","gives"]
noncomputable def MI:gu:=
 [.d (.l 0 [.v 0]),
 .a 1 (.t .s [(.C none [] .l [.v 0] (some<|.p .NotEq (.i (.v 0)<|.c<|.i 0)<|.c<|.s "put")<|.l 1 [.v 0])]),
 .a 2 (.t .s [(.C none [] .l [.v 0] (some<|.p .NotEq (.i (.v 0)<|.c<|.i 0)<|.c<|.s "cut")<|.l 1 [.v 0])]),
 .r (.T [.v 1,.v 2])]
noncomputable def ab6:bi:=["need_change","part_size"]
noncomputable def ab7:bi:=["sum"]
noncomputable def MJ:bi:=["change","size"]
noncomputable def MK:gu:=
 [.i (.d [(.p .Gt (.t .l [.v 0]) (.c (.i 0))),(.p .Eq (.i (.i (.v 0) (.n (.c (.i 1)))) (.c (.i 0))) (.c (.s "keep")))]) [.a 1 (.b .Add (.v 1) (.i (.w .p (.v 0) []) (.c (.i 1))))] [],
 .d (.w .a (.v 0) [(.T [(.c (.s "keep")),.v 1])])]
noncomputable def ML:bi:=["change","puts","cuts","put","cut"]
noncomputable def MM:gu:=
 [.a 3 (.w .j (.c (.s "")) [.v 1]),
 .a 4 (.w .j (.c<|.s "") [.v 2]),
 .i (.p .NotEq (.v 3)<|.c<|.s "") [.d<|.w .a (.v 0) [(.T [(.c<|.s "put"),.v 3])]] [],
 .i (.p .NotEq (.v 4) (.c (.s ""))) [.d (.w .a (.v 0) [(.T [(.c (.s "cut")),.v 4])])] []]
noncomputable def MN:bi:=["parts","change","puts","cuts","word","what"]
noncomputable def MO:gu:=
 [.a 1 (.L []),
 .a 2 (.L []),
 .a 3 (.L []),
 .l [4,5] .l [.v 0] [.i (.p .Eq (.v 4) (.c (.s "put"))) [.d (.w .a (.v 2) [.v 5])] [.i (.p .Eq (.v 4) (.c (.s "cut"))) [.d (.w .a (.v 3) [.v 5])] [.i (.p .Gt (.v 5) (.c (.i 0))) [.d (.l 0 [.v 1,.v 2,.v 3]),
     .a 2 (.L []),
     .a 3 (.L []),
     .d (.l 1 [.v 1,.v 5])] []]]],
 .d (.l 0 [.v 1,.v 2,.v 3]),
 .r (.v 1)]
noncomputable def ab8:bi:=["add_texts","add_keep"]
noncomputable def MP:bi:=["change"]
noncomputable def MQ:gu:=
 [.d (.l 0 [.v 0]),
 .r (.l 1 [(.C (some 2) [] .l [.v 0] none (.T [(.i (.g 0) (.v 0)),.v 1]))])]
noncomputable def ab9:bi:=["need_change","neat"]
noncomputable def ab_:bi:=["WAYS_BACK"]
noncomputable def MR:bi:=["_law_script","_law_k"]
noncomputable def MS:gu:=
 [.i (.p .Lt (.v 1) (.t .l [.v 0])) [.r (.i (.v 0) (.v 1))] [],
 .r (.c (.i 0))]
noncomputable def MT:bi:=["_law_cell","_law_k","_law_number"]
noncomputable def MU:gu:=
 [.a 2 (.b .Mod (.b .Add (.b .Add (.b .Mult (.v 0) (.c (.i 48271))) (.b .Mult (.c (.i 7919)) (.v 1))) (.c (.i 11))) (.c (.i 1000003))),
 .r (.b .Mod (.b .Mult (.b .Mod (.b .Mult (.v 2) (.v 2)) (.c (.i 1000003))) (.v 2)) (.c (.i 1000003)))]
noncomputable def apR:bi:=["_law_cell","_law_size_here","_law_some"]
noncomputable def MV:gu:=
 [.a 2 (.c (.s " !\"#$&'()*+,-./0123456789:;<=>?@ABCDEFGHIJKLMNOPQRSTUVWXYZ[\\]^_`")),
 .a 2 (.b .Add (.v 2)<|.c<|.s "abcdefghijklmnopqrstuvwxyz{|}~\n"),
 .i (.p .Eq (.b .Mod (.v 0)<|.c<|.i 3)<|.c<|.i 0) [.a 2<|.c<|.s "ab\n"] [],
 .r (.w .j (.c (.s "")) [(.C none [("_law_some",2),("_law_cell",0)] .g [.v 1] none (.i (.v 1) (.b .Mod (.b .FloorDiv (.l 0 [.v 2,.v 0]) (.c (.i 7))) (.t .l [.v 1]))))])]
noncomputable def aca:bi:=["_law_mixed"]
noncomputable def ES:bi:=["range","len"]
noncomputable def agN:bi:=["_law_cell","_law_text_here","_law_many","_law_parts_here","_law_at","_law_k","_law_number","_law_size_here","_law_left"]
noncomputable def MW:gu:=
 [.a 3 (.L []),
 .a 4 (.c<|.i 0),
 .j 5 .g [.v 2] [.a 6 (.l 0 [.v 0,(.b .Add (.c (.i 50)) (.v 5))]),
  .a 7 (.i (.L [(.c<|.i 1),(.c<|.i 2),(.c<|.i 0),(.c<|.i 3),(.c<|.i 5),(.c<|.i 40)])<|.b .Mod (.b .FloorDiv (.v 6)<|.c<|.i 4)<|.c<|.i 6),
  .a 8 (.t .m [.v 7,(.b .Sub (.t .l [.v 1])<|.v 4)]),
  .i (.p .Eq (.b .Mod (.v 6)<|.c<|.i 4)<|.c<|.i 3) [.d<|.w .a (.v 3) [(.T [(.c<|.s "put"),(.l 1 [.v 6,.v 7])])]] [.i (.p .Eq (.b .Mod (.v 6)<|.c<|.i 4)<|.c<|.i 2) [.d<|.w .a (.v 3) [(.T [(.c<|.s "cut"),(.s (.v 1) (some<|.v 4)<|some<|.b .Add (.v 4)<|.v 8)])]] [.d<|.w .a (.v 3) [(.T [(.c<|.s "keep"),.v 8])]]],
  .i (.p .Lt (.b .Mod (.v 6) (.c (.i 4))) (.c (.i 3))) [.a 4 (.b .Add (.v 4) (.v 8))] []],
 .r (.b .Add (.v 3) (.L [(.T [(.c (.s "keep")),(.b .Sub (.t .l [.v 1]) (.v 4))])]))]
noncomputable def acb:bi:=["_law_mixed","_law_text"]
noncomputable def acd:bi:=["range","min","len"]
noncomputable def MZ:bi:=["_law_parts_here","_law_rows","_law_word","_law_thing","_law_found","_law_put","_law_cut","_law_keep","_law_some"]
noncomputable def M0:gu:=
 [.a 1 (.L [(.L [(.c (.s "")),(.c (.s "")),(.c (.i 0))])]),
 .l [2,3] .l [.v 0] [.i (.p .Eq (.v 2) (.c (.s "keep"))) [.s (.i (.v 1) (.n (.c (.i 1)))) (.c (.i 2)) (.b .Add (.i (.i (.v 1) (.n (.c (.i 1)))) (.c (.i 2))) (.v 3))] [.i (.p .NotEq (.v 3) (.c (.s ""))) [.i (.p .Gt (.i (.i (.v 1) (.n (.c (.i 1)))) (.c (.i 2))) (.c (.i 0))) [.d (.w .a (.v 1) [(.L [(.c (.s "")),(.c (.s "")),(.c (.i 0))])])] [],
    .s (.i (.v 1) (.n (.c (.i 1)))) (.t .i [(.p .Eq (.v 2) (.c (.s "cut")))]) (.b .Add (.i (.i (.v 1) (.n (.c (.i 1)))) (.t .i [(.p .Eq (.v 2) (.c (.s "cut")))])) (.v 3))] []]],
 .a 4 (.L []),
 .l [5,6,7] .l [.v 1] [.a 8 (.L [(.T [(.c (.s "put")),.v 5]),(.T [(.c (.s "cut")),.v 6]),(.T [(.c (.s "keep")),.v 7])]),
  .a 4 (.b .Add (.v 4) (.C none [] .l [.v 8] (some (.d [(.p .NotEq (.i (.v 0) (.c (.i 1))) (.c (.s ""))),(.p .NotEq (.i (.v 0) (.c (.i 1))) (.c (.i 0)))])) (.v 0)))],
 .r (.v 4)]
noncomputable def ace:bi:=["int"]
noncomputable def M1:bi:=["_law_cell","_law_text_here","_law_many"]
noncomputable def M4:gu:=
 [.r<|.l 0 [(.l 1 [.v 0,.v 1,.v 2])]]
noncomputable def acf:bi:=["_law_neat","_law_parts"]
noncomputable def M5:bi:=["thing","least","most"]
noncomputable def M6:gu:=
 [.r<|.d [(.l 0 [.v 0]),(.A .LtE .LtE (.v 1) (.v 0)<|.v 2)]]
noncomputable def M7:bi:=["is_whole"]
def bR(H Z:Hp):Prop:= ∀b xs,H b=some (.t xs)->Z b=some (.t xs)
theorem aX(h:ar H Z):bR H Z:=λb xs e=>h b _ e
theorem bR.trans(a:bR H H1)(b:bR H1 W):bR H W:=λc xs e=>b c xs (a c xs e)
theorem Xq{o:HO}(h:H p=none):ar H (upd H p o):=λb u e=>by rw[ay<|aQ e h];exact e
def aE(c:DL)(H Z:Hp):Prop:= ∀b o,H b=some o->b≠c->Z b=some o
theorem aE.upd{o:HO}:aE c H (upd H c o):=λb u e n=>by rw[ay n];exact e
theorem aE.trans(a:aE c H H1)(b:aE c H1 W):aE c H W:=λd o e n=>b d o (a d o e n) n
theorem aE.same(a:aE c H H1)(b:ar H1 W):aE c H W:=λd o e n=>b d o (a d o e n)
theorem sameBut(a:ar H H1)(b:aE c H1 W):aE c H W:=λd o e n=>b d o (a d o e) n
theorem qy(a:ar H H1)(h:H c=none)(b:aE c H1 W):ar H W:=λd o e=>b d o (a d o e) (aQ e h)
theorem aE.bB(h:aE c H Z)(a:H c=some (.l xs)):bR H Z:=λb N e=>h b _ e (λz=>by lia)
theorem iF{B:Prop}(q:B)(h:c=false:=by first|rfl|decide):if c=true then A else B:=by lia
theorem iT{B:Prop}(q:A)(h:c=true:=by first|rfl|decide):if c=true then A else B:=by lia
inductive Pt where|k (n:Int)|p (s:Str)|c (s:Str)
 deriving DecidableEq
noncomputable def Pt.word:Pt->Str|.k _=> "keep" |.p _=> "put" |.c _=> "cut"
noncomputable def Pt.val:Pt->V|.k n=>.i n|.p s=>.s s|.c s=>.s s
def jO(H:Hp)(v:V)(p:Pt):Prop:= ∃a,v=.r a/\H a=some (.t [.s p.word,p.val])
abbrev aF(H:Hp):ci->List Pt->Prop:=Paired (jO H)
theorem jO.mono(t:bR H Z)(h:jO H v p):jO Z v p:=by
 obtain⟨a,e,h⟩:=h;exact⟨a,e,t _ _ h⟩
theorem aF.mono(t:bR H Z):∀{vs:ci}{p:List Pt},aF H vs p->aF Z vs p:=by
 intro Y Y h;exact Paired.CO h λY Y x=>x.mono t
theorem aF.get:∀{vs:ci}{s:List Pt}{i:Nat}{v:V},aF H vs s->vs[i]?=some v->∃p,s[i]?=some p/\jO H v p:=by
 intro Y Y i v h;induction h generalizing i with
 |nil=>intro e;simp at e
 |cons x Y c=>
  intro e;cases i with
  |zero=>simp at e;subst e;exact⟨_,O,x⟩
  |succ i=>
   obtain⟨p,a,b⟩:=c (by simpa using e);exact⟨p,by simpa using a,b⟩
theorem aF.snoc{v:V}{p:Pt}(h:aF H vs s)(q:jO H v p):aF H (vs++[v]) (s++[p]):=Tm h q
theorem aF.dropLast:∀{vs:ci}{p:List Pt},aF H vs p->aF H vs.dropLast p.dropLast:=by
 intro Y Y h;induction h with
 |nil=>exact .nil
 |cons x k i=>
  cases k with
  |nil=>exact .nil
  |cons Y Y=>exact .cons x i
noncomputable def nJ(w a:Str):Go:=w !=a && !(a=="cut" && w=="put")
inductive M8(vs:ci)(H:Hp)(Q:VK)(E:XK):Prop|i(w a:_)(_:vs=[.s w,.s a])(_:Q (.b<|nJ w a) H)
abbrev bI(K:Frag)(E:XK):bu:=aH K [] [] (E:=E)
theorem acg{K:Frag}(vs:ci)(H:Hp)(Q:VK)(E:XK)(h:M8 vs H Q E):ax (bI K E) MC {nx:=λY Z=>Q .a Z,r:=Q} (XF MB vs) H:=by
 obtain⟨w,a,rfl,q⟩:=h;refine pT _ O _ O ⟨_,O,?_⟩;unfold nJ at q;refine j8 (λh=>?_)<|λh=>?_;rw[WI,iG] at h;have e:(w !=a)=true:=h;rw[e] at q;refine⟨_,O,_,O,?_⟩;refine j8 (λc=>?_)<|λc=>?_;rw[ZP,iG] at c;rw[c] at q;refine nT _ O ?_;show Q (.b<|!(false ^^ decide (V.s w=V.s "put"))) H;rw[ZP,iG];exact q;have d:(a=="cut")=false:=by lia
 rw[d] at q;exact q;have e:(w !=a)=false:=by lia
 rw[e] at q;exact q
noncomputable def sL:Pt->Int|.k n=>n|.p s=>s.length|.c s=>s.length
def M9:Pt->Prop|.k _=>True|.p s=>s.length<=1000000|.c s=>s.length<=1000000
theorem cI(h:n<=1000000):n<=sizeLine:=wO h bc
theorem cQ(h:n<=1000000):n<sizeLine:=Wn h bc
inductive qz(vs:ci)(H:Hp)(Q:VK)(E:XK):Prop|i(v p:_)(_:vs=[v])(_:jO H v p)(_:M9 p)(_:Q (.i<|sL p) H)
theorem ach{K:Frag}(vs:ci)(H:Hp)(Q:VK)(E:XK)(h:qz vs H Q E):ax (bI K E) MG {nx:=λY Z=>Q .a Z,r:=Q} (XF MF vs) H:=by
 obtain⟨v,p,rfl,⟨a,rfl,b⟩,o,q⟩:=h;refine nT _ O (.inr<|.inl ⟨_,_,_,_,O,O,aB.of b,O,_,O,?_⟩);cases p with
 |k n=>exact gX (nT _ O (.inr<|.inl ⟨_,_,_,_,O,O,aB.of b,O,q⟩))
 |p s=>exact jg (nT _ O (.inr<|.inl ⟨_,_,_,_,O,O,aB.of b,O,cI o,q⟩))
 |c s=>exact jg (nT _ O (.inr<|.inl ⟨_,_,_,_,O,O,aB.of b,O,cI o,q⟩))
noncomputable def cell(n:AC)(k:Nat):Int:=n.getD k 0
inductive EU(K:Frag)(vs:ci)(H:Hp)(Q:VK)(E:XK):Prop|i(a:DL)(n:AC)(k:Int)(_:vs=[.r a,.i k])(_:ah K H a (n.map V.i))(_:0<=k)(_:Q (.i<|cell n k.toNat) H)
theorem aci{K:Frag}(vs:ci)(H:Hp)(Q:VK)(E:XK)(h:EU K vs H Q E):ax (bI K E) MS {nx:=λY Z=>Q .a Z,r:=Q} (XF MR vs) H:=by
 obtain⟨a,n,k,rfl,b,c,q⟩:=h;refine pT _ O _ O (.inl (rP _ b trivial _ O ?_));rw[XN];refine j8 (λh=>?_)<|λh=>?_;refine pT _ O _ O (.inl (oT _ _ _ _ O O b ?_ q));have e:=dv (xs:=n.map V.i) (j:=k.toNat) (v:=.i (cell n k.toNat)) (by
  have:k.toNat<n.length:=by lia
  simp[cell,this])
 rw[show((k.toNat:Nat):Int)=k by lia] at e;exact e;have e:cell n k.toNat=0:=by
  have z:n[k.toNat]?=none:=List.getElem?_eq_none_iff.mpr ap;unfold cell;rw[WK,z];rfl
 rw[e] at q;exact q
theorem EV:(0:Int) <1000003:=by decide
noncomputable def mixed(c k:Int):Int:=let n:=(c*48271+7919*k+11) % 1000003;n*n % 1000003*n % 1000003
inductive EW(vs:ci)(H:Hp)(Q:VK)(E:XK):Prop|i(c k:_)(_:vs=[.i c,.i k])(_:Q (.i<|mixed c k) H)
theorem acj{K:Frag}(vs:ci)(H:Hp)(Q:VK)(E:XK)(h:EW vs H Q E):ax (bI K E) MU {nx:=λY Z=>Q .a Z,r:=Q} (XF MT vs) H:=by
 obtain⟨c,k,rfl,q⟩:=h;refine⟨_,O,.inr ⟨ap,ap⟩,_,O,.inl ⟨ap,ap⟩,EV,?_⟩;refine⟨_,O,_,O,.inl ⟨ap,ap⟩,EV,_,O,.inl ⟨ap,ap⟩,EV,?_⟩;exact q
theorem ack(c k:Int):0<=mixed c k/\mixed c k<1000003:=⟨Xk _ ap,Hd _ ap⟩
noncomputable def SG:Str:=" !\"#$&'()*+,-./0123456789:;<=>?@ABCDEFGHIJKLMNOPQRSTUVWXYZ[\\]^_`abcdefghijklmnopqrstuvwxyz{|}~\n"
def good(x:Str):Prop:=x.length<=1000000/\∀c∈x.cps.toList,SG.cps.contains c=true
theorem Ib{a:Type}(p:a->Go):∀l:List a,(∀c∈l,p c=true)->l.takeWhile p=l
 |[],_=>O
 |c::l,h=>by rw[List.takeWhile_cons,h c Y1,Ib p l λd b=>h d (yl _ b)];rfl
theorem acm(x y:Str)(h:∀c∈x.cps.toList,y.cps.contains c=true):Txt.lstripChars x y="":=by
 have e:stripLo y.cps.contains true x=x.length:=by
  unfold stripLo;rw[Ib _ _ h];simp[Str.length]
 have a:stripHi y.cps.contains false x x.length=x.length:=O;unfold Txt.lstripChars Txt.stripBy stripSame stripped;rw[e];split;rename_i q;simp only[Zu,Y4] at q;have:=yA q.1;obtain⟨c⟩:=x;subst this;rfl;show(⟨x.cps.extract x.length x.length⟩:Str)=_;have:x.cps.extract x.length x.length= #[]:=by simp[Str.length]
 rw[this];rfl
theorem M_{a:DL}{T:Ty}(h:H a=some (.t xs))(q:k (T==.t)):cf T (.r a) H k:=by
 show(match H a with|some (.l _)=>k (T==.l)|some (.c _<|.l _)=>k (T==.l)|some (.t _)=>k (T==.t)|some (.d _)=>k (T==.d)|some (.T _)=>k (T==.d)|_=>False);rw[h];exact q
theorem acn{a:DL}{T:Ty}(h:H a=some (.l xs))(q:k (T==.l)):cf T (.r a) H k:=by
 show(match H a with|some (.l _)=>k (T==.l)|some (.c _<|.l _)=>k (T==.l)|some (.t _)=>k (T==.t)|some (.d _)=>k (T==.d)|some (.T _)=>k (T==.d)|_=>False);rw[h];exact q
abbrev alS:jp:=[("SIGNS",.s SG)]
inductive Jl(vs:ci)(H:Hp)(Q:VK)(E:XK):Prop|i(x:_)(_:vs=[.s x])(_:good x)(_:Q (.b true) H)
abbrev bW(K:Frag)(E:XK):bu:=aH K [] alS (E:=E)
theorem acp{K:Frag}(vs:ci)(H:Hp)(Q:VK)(E:XK)(h:Jl vs H Q E):ax (bW K E) EO {nx:=λY Z=>Q .a Z,r:=Q} (XF oX vs) H:=by
 obtain⟨x,rfl,c,q⟩:=h;refine⟨_,O,O,_,O,gX ⟨_,O,O,cI c.1,?_⟩⟩;show Q (.b<|false ^^ decide (V.s (Txt.lstripChars x SG)=V.s "")) H;rw[acm x SG c.2];exact q
def aZ:Pt->Prop|.k n=>1<=n|.p s=>good s/\s≠"" |.c s=>good s/\s≠""
inductive acq(K:Frag)(vs:ci)(H:Hp)(Q:VK)(E:XK):Prop|i(w p xs:_)(_:vs=[.s w,.r p])(_:aB K H p xs)(_:xs.all je=true)(_:Q (.b<|fD (.s w) xs) H)
theorem acr{K:Frag}(vs:ci)(H:Hp)(Q:VK)(E:XK)(h:acq K vs H Q E):ax (bI K E) EN {nx:=λY Z=>Q .a Z,r:=Q} (XF EM vs) H:=by
 obtain⟨w,p,xs,rfl,b,f,q⟩:=h;exact⟨_,O,O,_,O,gX (pT _ O _ O ⟨p,xs,O,.inr b,O,f,q⟩)⟩
inductive EX(vs:ci)(H:Hp)(Q:VK)(E:XK):Prop|i(v p:_)(_:vs=[v])(_:jO H v p)(_:aZ p)(_:∀Z,ar H Z->Q (.b true) Z)
def YU:Str->List Pt->Go
 |_,[]=>true
 |a,p::r=>nJ p.word a && YU p.word r
noncomputable def sM(a:Str)(s:List Pt):Nat->Str
 | 0=>a
 |i+1=>match s[i]? with|some p=>p.word|none=> ""
theorem Na:∀(s:List Pt)(a:Str)(i:Nat)(p:Pt),YU a s=true->s[i]?=some p->nJ p.word (sM a s i)=true
 |[],_,_,_,_,h=>by simp at h
 |q::r,a,0,p,h,e=>by
  simp only[YU,Zu] at h;simp at e;subst e;exact h.1
 |q::r,a,i+1,p,h,e=>by
  simp only[YU,Zu] at h;have b:=Na r q.word i p h.2 (by simpa using e);cases i with
  |zero=>simpa[sM] using b
  |succ i=>simpa[sM] using b
abbrev acs:v4:=[("is_part",EX),("may_follow",M8)]
inductive EY(vs:ci)(H:Hp)(Q:VK)(E:XK):Prop|i(a xs s:_)(_:vs=[.r a])(_:H a=some (.l xs))(_:aF H xs s)(_:(∀p∈s,aZ p))(_:YU "" s=true)(_:∀Z,ar H Z->Q .a Z)
abbrev apU(K:Frag)(et:sK)(E:XK):bu:=aH K acs [] (et:=et) (E:=E)
theorem Ym{K:Frag}(vs:ci)(H:Hp)(Q:VK)(E:XK)(h:EY vs H Q E):ax (apU K et E) ME {nx:=λY Z=>Q .a Z,r:=Q} (XF MD vs) H:=by
 obtain⟨a,xs,e,rfl,k,w,z,o,q⟩:=h;refine nW _ O O (acn k (qB _ O a O (o3 _ (ah.of k)) (kT (λi u W=>∃v,u=[some (.r a),some (.s (sM "" e i)),v]/\ar H W) (nT none O (ar.refl _))
  (λi u W _ ⟨_,_,d⟩=>ah.of (d _ _ k)) ?_ ?_)))
 rintro i x u W m ⟨v,rfl,d⟩;obtain⟨p,g,l⟩:=w.get m;obtain⟨b,rfl,j⟩:=l.mono (aX d);refine nT _ O ⟨_,p,O,nT b O j,z p<|Wv g,λt f=>nT _ O (.inr<|.inl ⟨_,_,_,_,O,O,aB.of<|f _ _ j,O,_,O,p.word,_,O,?_⟩)⟩;show(λc H1=>if (!c)=true then _ else _) (nJ p.word<|sM "" e i) t;rw[(Na e "" i p o g)];refine nT _ O (.inr<|.inl ⟨_,_,_,_,O,O,aB.of<|f _ _ j,O,some<|.r b,?_,d.trans f⟩);show[some<|V.r a,some<|V.s p.word,some<|V.r b]=_;have n:sM "" e (i+1)=p.word:=by simp only[sM,g]
 rw[n];rintro u W ⟨v,rfl,d⟩;exact q W d
def WD(s:List Pt):AC:=(s.filter λp=>decide (p.word≠ ("put":Str))).map sL
def qA(s:List Pt):AC:=(s.filter λp=>decide (p.word≠ ("cut":Str))).map sL
abbrev anX:v4:=[("need_change",EY),("part_size",qz)]
inductive ig(vs:ci)(H:Hp)(Q:VK)(E:XK):Prop|i(a xs s:_)(_:vs=[.r a])(_:H a=some (.l xs))(_:aF H xs s)(_:(∀p∈s,aZ p))(_:YU "" s=true)(_:s.length<=1000000)(_:∀t Z,ar H Z->Z t=some (.t [.i (WD s).sum,.i (qA s).sum])->Q (.r t) Z)
theorem Ar(h:aZ p):M9 p:=by
 cases p with
 |k n=>trivial
 |p s=>exact h.1.1
 |c s=>exact h.1.1
theorem acv{a:Type}(p:a->Go)(l:List a)(i:Nat)(v:a)(h:l[i]?=some v):(l.take<|i+1).filter p=(l.take i).filter p++(if p v then [v] else []):=by
 rw[YQ,h];cases b:p v<;>simp[b]
abbrev c6(K:Frag)(E:XK):bu:=aH K anX [] (E:=E)
theorem acw{K:Frag}(vs:ci)(H:Hp)(Q:VK)(E:XK)(h:ig vs H Q E):ax (c6 K E) MI {nx:=λ_ Z=>Q .a Z,r:=Q} (XF MH vs) H:=by
 obtain⟨a,xs,g,rfl,j,y,G,Y,B,q⟩:=h;refine nT _ O ⟨a,xs,g,O,j,y,G,Y,λH1 k=>?_⟩;have hl:=KB y;have f:∀(w:Str)(H1:Hp)(z:VK)(u:St),ar H H1->u[0]?=some (some<|.r a)->
   (∀b W,ar H W->W b=some (.l<|((g.filter λp=>decide (p.word≠w)).map sL).map V.i)->z (.r b) W)->
   ae (c6 K E) (.C none [] .l [.v 0] (some<|.p .NotEq (.i (.v 0)<|.c<|.i 0)<|.c<|.s w)<|.l 1 [.v 0]) u H1 z:=by
  intro w H1 z u k o R;refine qB _ o a O (o3 _ (ah.of<|k _ _ j)) ⟨λi m N W=>m=xs.length - i/\i<=xs.length/\ar H W/\N=(((g.take i).filter λp=>decide (p.word≠w)).map sL).map V.i,qU _ O (Ww _) k O,?_⟩;rintro i m N W ⟨rfl,hi,d,rfl⟩;by_cases D:i<xs.length;refine .inr ⟨pI xs (xs[i]) (ah.of<|d _ _ j) (by simp[D]),?_⟩;rintro x H3 ⟨rfl,M⟩;have T:=M xs (ah.of<|d _ _ j);obtain⟨p,n,J⟩:=y.get T;obtain⟨b,rfl,F⟩:=J.mono (aX d);refine nT _ O (.inr<|.inl ⟨_,_,_,_,O,O,aB.of F,O,_,O,?_⟩);rw[WI,iG];have A:=acv (λp=>decide<|p.word≠w) g i p n;have S:((g.take i).filter λp=>decide (p.word≠w)).length<=1000000:=wO (jL _ _) (wO (List.length_take_le _ _) ap);refine j8 (λh=>?_)<|λh=>?_;have e:decide (p.word≠w)=true:=by simpa using h
  refine nT _ O ⟨_,p,O,nT b O F,Ar<|G p<|Wv n,?_,xs.length - (i+1),ap,O,D,d,?_⟩;rw[XN,XN];exact cQ S;rw[A,e];simp;have e:=by simpa using h
  refine rZ (xs.length - (i+1)) ap O D d ?_;rw[A,e];simp;have L:i=xs.length:=WT hi (Zw D)
  subst L;refine .inl ⟨nT xs (ah.of<|d _ _ j) (VL _),λp n=>?_⟩;have e:g.take xs.length=g:=XB ap;rw[e];exact R p _ (d.trans<|Xq n) aj
 refine Mw<|Mx<|My<|f "put" H1 _ _ k O λb1 W d X=>nT _ (ah.of X) ?_;refine Mw<|Mx<|My<|f "cut" W _ _ d O λb2 H3 I U=>nT _ (ah.of U) ?_;refine qB _ O _ O eF (λt P=>?_);exact q t _ (I.trans<|Xq P) aj
noncomputable def Wi(t:bi):Str:=Txt.join "" t
noncomputable def sz(t:bi):Nat:=(t.map Str.length).sum
theorem wV:(Str.ofString "")=⟨#[]⟩:=O
theorem sN(s:bi):(Wi s).cps.toList=(s.map λt=>t.cps.toList).flatten:=by
 have e:(Str.ofString "").cps= #[]:=O;cases s with
 |nil=>rfl
 |cons t r=>
  show(r.foldl (λZ p=>Z++(Str.ofString "").cps++p.cps) t.cps).toList=_;rw[e];have g:∀(r:bi)(Z:Array Nat),(r.foldl (λZ p=>Z++ #[]++p.cps) Z).toList=Z.toList++(r.map λt=>t.cps.toList).flatten:=by
   intro r;induction r with
   |nil=>intro Z;simp
   |cons q r i=>
    intro Z;show(r.foldl (λZ p=>Z++ #[]++p.cps)<|Z++ #[]++q.cps).toList=_;rw[i];simp
  rw[g];simp
theorem iO(h:x.cps.toList=y.cps.toList):x=y:=by
 obtain⟨x⟩:=x;obtain⟨y⟩:=y;exact IN Str.mk<|Array.toList_inj.mp h
theorem ZC(x y:Str):(x++y).cps.toList=x.cps.toList++y.cps.toList:=by
 show(x.cps++y.cps).toList=_;simp
theorem acx(a b:bi):Wi (a++b)=Wi a++Wi b:=iO (by rw[ZC,sN,sN,sN];simp)
theorem acy(x:Str):Wi [x]=x:=iO (by rw[sN];simp)
theorem Xz(x:Str):x.length=x.cps.toList.length:=O
theorem EZ(t:bi):(Wi t).length=sz t:=by
 rw[Xz,sN,List.length_flatten];rw[XE];congr 1
theorem Nc(x:Str):x++(Str.ofString "")=x:=O
theorem uZ(x:Str):(Str.ofString "")++x=x:=iO (by rw[ZC];simp[wV])
theorem Nd(a b:bi):sz (a++b)=sz a+sz b:=by simp[sz]
theorem V2(h:sz s<=1000000):JoinOk "" s=true:=by
 have g:∀(l:bi)(n:Nat),l.foldl (· + ·.length+(Str.ofString "").length) n=n+sz l:=by
  intro l;induction l with
  |nil=>intro n;rfl
  |cons t r i=>
   intro n;show r.foldl _ (n+t.length+0)=_;rw[i];show n+t.length+0+sz r=n+(t.length+sz r);lia
 unfold JoinOk;have e:s.toArray.foldl (· + ·.length+(Str.ofString "").length) 0=sz s:=by
  rw[List.foldl_toArray,g,VF]
 rw[e];show(!decide (sz s>sizeLine))=true;rw[VH (by have:=cI h;exact Zq this)];rfl
noncomputable def txt(m:Str->Pt)(x:Str):List Pt:=if x="" then [] else [m x]
def d4(h:List Pt)(a d:bi):List Pt:=h++txt .p (Wi a)++txt .c (Wi d)
inductive Nf(vs:ci)(H:Hp)(Q:VK)(E:XK):Prop|i(c p q xs b e d:_)(_:vs=[.r c,.r p,.r q])(_:H c=some (.l xs))(_:aF H xs b)(_:H p=some (.l<|e.map .s))(_:H q=some (.l<|d.map .s))(_:sz e<=1000000)(_:sz d<=1000000)(_:b.length<=900000)(_:∀Z x,aE c H Z->Z c=some (.l x)->aF Z x (d4 b e d)->Q .a Z)
theorem acz{K:Frag}(vs:ci)(H:Hp)(Q:VK)(E:XK)(h:Nf vs H Q E):ax (bI K E) MM {nx:=λ_ Z=>Q .a Z,r:=Q} (XF ML vs) H:=by
 obtain⟨c,p,q,xs,B,n,I,rfl,hc,cw,hp,X,L,E3,hl,k⟩:=h;refine qH O _ O ⟨n,ah.of hp,V2 L,?_⟩;refine qH O _ O ⟨I,ah.of X,V2 E3,?_⟩;have J:∀(i:Nat)(w x:Str)(m:Str->Pt)(H1:Hp)(f:ci)(g:List Pt)(u:St)(D:ET),(∀y,(m y).word=w/\(m y).val=.s y)->H1 c=some (.l f)->aF H1 f g->g.length<=950000->u[0]?=some (some<|.r c)->u[i]?=some (some<|.s x)->
   (∀W j,aE c H1 W->W c=some (.l j)->aF W j (g++txt m x)->D.nx u W)->
   cj (bI K E) (.i (.p .NotEq (.v i)<|.c<|.s "") [.d<|.w .a (.v 0) [(.T [(.c<|.s w),.v i])]] []) D u H1:=by
  intro i w x m H1 f g u D N V z cO h0 G F;have a':=KB z;refine⟨_,G,_,O,?_⟩;rw[WI,iG];refine j8 (λh=>?_)<|λh=>?_;have R:x≠"":=by simpa using h
  refine rP _ h0 (.inl ⟨O,o3 _ (ah.of V)⟩) _ G ⟨eF,λt A=>?_⟩;have C:c≠t:=aQ V A;refine nW f (by rw[ay C];exact V) (cQ ap) (F _ (f++[.r t]) ((sameBut (Xq A) aE.upd)) aj ?_);have P:bR H1 (upd (upd H1 t<|.t [.s w,.s x]) c<|.l<|f++[.r t]):=(sameBut (Xq A) aE.upd).bB V;unfold txt;rw[Ix R];refine aF.snoc (z.mono P) (nT t O ?_);rw[ay C.symm,aj,(N x).1,(N x).2];have e:x="":=by simpa using h
  refine F H1 f (λb o e _=>e) V ?_;unfold txt;rw[Id e,Y3];exact z
 refine J 3 "put" (Wi n) .p H xs B _ _ (λ_=>⟨O,O⟩) hc cw (wO hl (XA _ _)) O O λW j b2 dH Y=>?_;have l2:(B++txt .p (Wi n)).length<=950000:=by
  rw[W0];have:(txt .p<|Wi n).length<=1:=by unfold txt;split<;>simp
  lia
 refine J 4 "cut" (Wi I) .c W j _ _ _ (λ_=>⟨O,O⟩) dH Y l2 O O λH3 S b3 U M=>?_;exact k H3 S (b2.trans b3) U M
noncomputable def fg(c:List Pt)(n:Int):List Pt:=match c.getLast? with
 |some (.k m)=>c.dropLast++[.k<|n+m]
 |_=>c++[.k n]
inductive Nh(vs:ci)(H:Hp)(Q:VK)(E:XK):Prop|i(c n xs p:_)(_:vs=[.r c,.i n])(_:H c=some (.l xs))(_:aF H xs p)(_:p.length<=900000)(_:∀Z b,aE c H Z->Z c=some (.l b)->aF Z b (fg p n)->Q .a Z)
theorem aF.last(h:aF H xs s)(n:xs.length≠0):∃v p,xs[xs.length - 1]?=some v/\fU xs (-1)=some v/\s.getLast?=some p/\jO H v p:=by
 have D:xs.length - 1<xs.length:=by lia
 obtain⟨p,b,a⟩:=h.get (i:=xs.length - 1) (v:=xs[xs.length - 1]) aJ;refine⟨xs[xs.length - 1],p,aJ,?_,?_,a⟩;unfold fU gJ;have:¬(0:Int)<= -1:=by lia
 rw[Ix this,Id ap];have e:((-1:Int)+(xs.length:Int)).toNat=xs.length - 1:=by lia
 rw[e];simp;rw[List.getLast?_eq_getElem?,<-KB h];exact b
theorem acB{K:Frag}(vs:ci)(H:Hp)(Q:VK)(E:XK)(h:Nh vs H Q E):ax (bI K E) MK {nx:=λY Z=>Q .a Z,r:=Q} (XF MJ vs) H:=by
 obtain⟨c,n,xs,j,rfl,f,q,A,k⟩:=h;have G:=KB q;have g:∀(m:Int)(H1:Hp)(u:ci)(x:List Pt),aE c H H1->H1 c=some (.l u)->aF H1 u x->x.length<=900000->fg j n=x++[.k m]->
   ax (bI K E) [.d<|.w .a (.v 0) [(.T [(.c<|.s "keep"),.v 1])]] {nx:=λY Z=>Q .a Z,r:=Q} [some<|.r c,some<|.i m] H1:=by
  intro m H1 u x P V D S e;have R:=KB D;refine rP _ O (.inl ⟨O,o3 _ (ah.of V)⟩) _ O ⟨eF,λt y=>?_⟩;have F:c≠t:=aQ V y;refine nW u (by rw[ay F];exact V) (cQ ap) (k _ (u++[.r t]) (P.trans<|sameBut (Xq y) aE.upd) aj ?_);rw[e];refine aF.snoc (D.mono<|(sameBut (Xq y) aE.upd).bB V) ⟨t,O,?_⟩;rw[ay F.symm,aj];rfl
 refine nT _ O (.inl (rP _ (ah.of f) trivial _ O ?_));refine j8 (λh=>?_)<|λh=>?_;have I:xs.length≠0:=by
  lia
 obtain⟨v,p,L,J,C,a,rfl,B⟩:=q.last I;refine nT _ O (.inl (oT _ _ _ _ O O (ah.of f) J (.inr<|.inl ⟨_,_,_,_,O,O,aB.of B,O,_,O,?_⟩)));rw[ZP,iG];cases p with
 |k m=>
  have M:upd H c (.l xs.dropLast) a=some (.t [.s "keep",.i m]):=by rw[ay<|cA B f (by intro z;cases z)];exact B
  refine qB _ O _ O (.inl ⟨O,o3 _ (ah.of f)⟩) ⟨xs,_,f,L,.inr<|.inl ⟨_,_,_,_,O,O,aB.of M,O,?_⟩⟩;refine g (n+m) _ xs.dropLast j.dropLast aE.upd aj (q.dropLast.mono<|aE.upd.bB f) (by rw[zH];exact wO (Xr _ _) A) ?_;unfold fg;rw[C]
 |p s=>exact g n H xs j (λb o e Y=>e) f q A (by unfold fg;rw[C])
 |c s=>exact g n H xs j (λb o e Y=>e) f q A (by unfold fg;rw[C])
 have N:j=[]:=by
  exact Wo.mp ap
 exact g n H xs j (λb o e Y=>e) f q A (by rw[N];rfl)
abbrev NS:=List Pt×bi×bi
def dE:NS->Pt->NS
 |(h,p,c),.p s=>(h,p++[s],c)
 |(h,p,c),.c s=>(h,p,c++[s])
 |(h,p,c),.k n=>if 0<n then (fg (d4 h p c) n,[],[]) else (h,p,c)
def jr(p:List Pt):List Pt:=let s:=p.foldl dE ([],[],[]);d4 s.1 s.2.1 s.2.2
noncomputable def dO:Pt->Nat|.k _=>0|.p s=>s.length|.c s=>s.length
def aq(p:List Pt):Nat:=(p.map dO).sum
theorem Au(p:List Pt)(i:Nat):aq (p.take i)<=aq p:=by
 have:aq p=aq (p.take i)+aq (p.drop i):=by
  unfold aq;rw[<-List.sum_append,<-Z3,Zv]
 lia
theorem E4{s:List Pt}(h:s[i]?=some p):aq (s.take<|i+1)=aq (s.take i)+dO p:=by
 rw[YQ,h];simp[aq]
theorem Ni{c a:Type}{f:a->c->a}{b:a}{l:List c}{p:c}(h:l[i]?=some p):(l.take<|i+1).foldl f b=f ((l.take i).foldl f b) p:=by
 rw[YQ,h,Xy];rfl
theorem Nj(m:Str->Pt)(x:Str):(txt m x).length<=1:=by unfold txt;split<;>simp
theorem Av(h:List Pt)(p c:bi):(d4 h p c).length<=h.length+2:=by
 unfold d4;have:=Nj .p (Wi p);have:=Nj .c (Wi c);simp;lia
theorem Nk(c:List Pt)(n:Int):(fg c n).length<=c.length+1:=by
 unfold fg;split;simp only[W0,zH,ZS];exact h_ (Xr _ _) _;simp
abbrev acC:v4:=[("add_texts",Nf),("add_keep",Nh)]
inductive mw(vs:ci)(H:Hp)(Q:VK)(E:XK):Prop|i(a xs p:_)(_:vs=[.r a])(_:H a=some (.l xs))(_:aF H xs p)(_:p.length<=200000)(_:aq p<=100000)(_:∀b Z N,ar H Z->H b=none->Z b=some (.l N)->aF Z N (jr p)->Q (.r b) Z)
inductive Nl(a c:DL)(H:Hp)(e:List Pt)(i:Nat)(u:St)(W:Hp):Prop|i(p q:DL)(h:List Pt)(b d:bi)(o:ci)(w x:v0)(_:u=[some<|.r a,some<|.r c,some<|.r p,some<|.r q,w,x])(_:H p=none)(_:H q=none)(_:p≠c)(_:q≠c)(_:p≠q)(_:ar H W)(_:W c=some (.l o))(_:aF W o h)(_:W p=some (.l<|b.map .s))(_:W q=some (.l<|d.map .s))(_:(e.take i).foldl dE ([],[],[])=(h,b,d))(_:h.length<=3*i)(_:b.length<=i)(_:d.length<=i)(_:sz b+sz d<=aq (e.take i)):Nl a c H e i u W
abbrev agR(K:Frag)(E:XK):bu:=aH K acC [] (E:=E)
theorem acD{K:Frag}(vs:ci)(H:Hp)(Q:VK)(E:XK)(h:mw vs H Q E):ax (agR K E) MO {nx:=λ_ Z=>Q .a Z,r:=Q} (XF MN vs) H:=by
 obtain⟨a,xs,m,rfl,ha,cw,hl,ht,k⟩:=h;have d':=KB cw;refine⟨Ww _,λc o=>⟨Ww _,λS L=>⟨Ww _,λP A=>?_⟩⟩⟩;have E5:c≠S:=λz=>by rw[<-z,aj] at L;cases L
 have Nn:c≠P:=λz=>by rw[<-z,ay E5,aj] at A;cases A
 have Np:S≠P:=λz=>by rw[<-z,aj] at A;cases A
 have s0:ar H (upd (upd (upd H c<|.l []) S<|.l []) P<|.l []):=(Xq o).trans ((Xq L).trans<|Xq A);have c':H S=none:=(Xq o).free L;have b':H P=none:=((Xq o).trans<|Xq L).free A;refine qB _ O a O (o3 _ (ah.of (s0 _ _ ha))) (kT (K:=K) (a:=a) (xs:=xs) (Nl a c H m)
 ⟨S,P,[],[],[],[],none,none,O,c',b',E5.symm,Nn.symm,Np,s0,(by rw[ay Nn,ay E5,aj]),.nil,(by rw[ay Np,aj];rfl),aj,O,aJ,aJ,aJ,by simp[sz]⟩
  (λi u W _ ⟨_,_,_,_,_,_,_,_,_,_,_,_,_,_,j,_,_,_,_,_,_,_,_,_⟩=>ah.of (j _ _ ha)) ?_ ?_)
 rintro i x u W hi ⟨p,q,g,f,d,G,w,x',rfl,X,U,R,M,D,j,y,I,B,C,ef,l1,l2,l3,l4⟩;obtain⟨pt,iP,jq⟩:=cw.get hi;obtain⟨b,rfl,hb⟩:=jq.mono (aX j);have dq:i<m.length:=(Wq.mp iP).1;have Y:(m.take<|i+1).foldl dE ([],[],[])=dE (g,f,d) pt:=by rw[Ni iP,ef]
 have et:=E4 iP;have tb:=Au m i;refine pX b _ O (.inl<|aB.of hb) O _ _ O _ _ O O ?_;cases pt with
 |p s=>
  refine⟨_,O,_,O,_,O,.inl ⟨O,_,ah.of B⟩,_,O,_,B,cQ (by rw[XN];lia),?_⟩;have t:aE p W (upd W p<|.l<|f.map V.s++[.s s]):=aE.upd;refine⟨p,q,g,f++[s],d,G,_,_,O,X,U,R,M,D,qy j X t,t _ _ y R.symm,I.mono<|t.bB B,(by rw[aj,Z3];rfl),t _ _ C D.symm,Y,(YB l1),bd,(hB l3),?_⟩;rw[Nd,et];show sz f+(s.length+0)+sz d<=aq (m.take i)+s.length;lia
 |c s=>
  refine⟨_,O,_,O,_,O,_,O,_,O,.inl ⟨O,_,ah.of C⟩,_,O,_,C,cQ (by rw[XN];lia),?_⟩;have t:aE q W (upd W q<|.l<|d.map V.s++[.s s]):=aE.upd;refine⟨p,q,g,f,d++[s],G,_,_,O,X,U,R,M,D,qy j U t,t _ _ y M.symm,I.mono<|t.bB C,t _ _ B D,(by rw[aj,Z3];rfl),Y,(YB l1),(hB l2),bd,?_⟩;rw[Nd,et];show sz f+(sz d+(s.length+0))<=aq (m.take i)+s.length;lia
 |k n=>
  refine⟨_,O,_,O,_,O,_,O,_,O,trivial,_,O,?_⟩;refine j8 (λh=>?_)<|λh=>?_;have hn:0<n:=Re h;have e2:dE (g,f,d) (.k n)=(fg (d4 g f d) n,[],[]):=Id hn;refine pT _ O _ O ⟨_,O,c,p,q,G,g,f,d,O,y,I,B,C,ap,ap,ap,λv T b3 Aw E6=>?_⟩;have s3:ar H v:=qy j o b3;refine⟨Ww _,λF js=>⟨Ww _,λN J=>?_⟩⟩;have E7:c≠F:=aQ Aw js;have lF:upd v F (.l []) c=some (.l T):=by rw[ay E7];exact Aw
  have E8:c≠N:=aQ lF J;have Nq:F≠N:=λz=>by rw[<-z,aj] at J;cases J
  have o7:upd (upd v F<|.l []) N (.l []) c=some (.l T):=by rw[ay E8];exact lF
  have s5:ar v (upd (upd v F<|.l []) N<|.l []):=(Xq js).trans (Xq J);refine pT _ O _ O ⟨c,n,T,_,O,o7,E6.mono<|aX s5,?_,λH6 a' b6 ju E9=>?_⟩;have:=Av g f d;lia;refine⟨F,N,_,[],[],a',_,_,O,s3.free js,(s3.trans<|Xq js).free J,E7.symm,E8.symm,Nq,qy (s3.trans s5) o b6,ju,E9,b6 _ _ (by rw[ay Nq,aj];rfl) E7.symm,b6 _ _ (by rw[aj];rfl) E8.symm,Y.trans e2,?_,aJ,aJ,by simp[sz]⟩;have:=Av g f d;have:=Nk (d4 g f d) n;lia;have hn:¬0<n:=λz=>h (Z2 z);have e2:dE (g,f,d) (.k n)=(g,f,d):=Ix hn;refine⟨p,q,g,f,d,G,_,_,O,X,U,R,M,D,j,y,I,B,C,Y.trans e2,(YB l1),(hB l2),(hB l3),ap⟩
 rintro u W ⟨p,q,g,f,d,G,w,x',rfl,X,U,R,M,D,j,y,I,B,C,ef,l1,l2,l3,l4⟩;have e:m.take xs.length=m:=XB ap;rw[e] at ef l4;refine pT _ O _ O ⟨_,O,c,p,q,G,g,f,d,O,y,I,B,C,ap,ap,ap,λv T b3 Aw E6=>?_⟩;refine nT _ O (k c v T (qy j o b3) o Aw ?_);unfold jr;rw[ef];exact E6
noncomputable def A1:Str:=" !\"#$&'()*+,-./0123456789:;<=>?@ABCDEFGHIJKLMNOPQRSTUVWXYZ[\\]^_`"
noncomputable def A2:Str:="abcdefghijklmnopqrstuvwxyz{|}~\n"
noncomputable def A3:Str:="ab\n"
def Ax(a:Str):Prop:=0<a.length/\a.length<=1000/\∀c∈a.cps.toList,SG.cps.contains c=true
theorem Nr(h:(decide (0<al.length) && decide (al.length<=1000) && al.cps.toList.all λc=>SG.cps.contains c)=true):Ax al:=by
 simp only[Zu,KM,Yw] at h;exact⟨h.1.1,h.1.2,h.2⟩
theorem acH:Ax (A1++A2):=Nr (by decide+kernel)
theorem al3:Ax A3:=Nr (by decide+kernel)
theorem acJ:A1.length+A2.length<=sizeLine:=by decide+kernel
abbrev Nt:v4:=[("_law_mixed",EW)]
inductive Ay(vs:ci)(H:Hp)(Q:VK)(E:XK):Prop|i(c n:_)(_:vs=[.i c,.i n])(_:0<=n)(_:n<=1000)(_:∀x Z,good x->x.length=n.toNat->ar H Z->Q (.s x) Z)
def E_(t:Str):Prop:=t.length=1/\∀c∈t.cps.toList,SG.cps.contains c=true
theorem Az:∀(s:bi),(∀t∈s,E_ t)->sz s=s.length
 |[],_=>O
 |t::r,h=>by
  show t.length+sz r=r.length+1;rw[(h t Y1).1,Az r λq a=>h q (yl _ a)];exact zI _ _
theorem acK(h:∀t∈s,E_ t)(b:s.length<=1000):good (Wi s):=by
 refine⟨by rw[EZ,Az s h];exact wO b (XA _ _),λc a=>?_⟩;rw[sN,List.mem_flatten] at a;obtain⟨l,b,a⟩:=a;obtain⟨t,d,rfl⟩:=Yc.mp b;exact(h t d).2 c a
abbrev eN(K:Frag)(E:XK):bu:=aH K Nt [] (E:=E)
theorem acL{K:Frag}(vs:ci)(H:Hp)(Q:VK)(E:XK)(h:Ay vs H Q E):ax (eN K E) MV {nx:=λY Z=>Q .a Z,r:=Q} (XF apR vs) H:=by
 obtain⟨c,n,rfl,R,U,k⟩:=h;have u:∀(f:Str),Ax f->ax (eN K E) [.r<|.w .j (.c<|.s "") [(.C none [("_law_some",2),("_law_cell",0)] .g [.v 1] none<|.i (.v 1)<|.b .Mod (.b .FloorDiv (.l 0 [.v 2,.v 0])<|.c<|.i 7)<|.t .l [.v 1])]]
   {nx:=λY Z=>Q .a Z,r:=Q} [some<|.i c,some<|.i n,some<|.s f] H:=by
  intro f q;refine qH O _ O ⟨n,O,ap,ap,λi m N W=>m=n.toNat - i/\i<=n.toNat/\W=H/\∃o:bi,N=o.map V.s/\o.length=i/\∀t∈o,E_ t,qU _ O (Ww _) O ⟨[],O,O,λt A=>by cases A⟩,?_⟩;rintro i m N W ⟨rfl,T,rfl,o,rfl,F,y⟩;by_cases I:i<n.toNat;refine .inr ⟨I,?_⟩;rintro x X ⟨rfl,rfl⟩;refine pT _ O _ O ⟨_,O,_,_,O, ⟨bc,bc⟩,_,O,cI (by have:=q.2.1;exact wO this (XA _ _)),(by have:=q.1;lia),?_⟩;have S:=ack c (0+(i:Int));have B:0<=mixed c (0+(i:Int)) / 7 % (f.length:Int):=Xk _ (by have:=q.1;lia);have P:mixed c (0+(i:Int)) / 7 % (f.length:Int) < (f.length:Int):=Hd _ (by have:=q.1;lia);obtain⟨j,G⟩:∃j,j=mixed c (0+(i:Int)) / 7 % (f.length:Int):=⟨_,O⟩;rw[<-G] at B P;have D:j.toNat<f.cps.toList.length:=by rw[<-Xz];lia
  refine .inr<|.inr<|.inl ⟨f,j,f.cps.toList[j.toNat],O,(by rw[G]),cI (by have:=q.2.1;exact wO this (XA _ _)),?_,?_,n.toNat - (i+1),ap,O,I,O,o++[⟨#[f.cps.toList[j.toNat]]⟩],(by rw[Z3];rfl),by simp[F],?_⟩;have e:=dv (xs:=f.cps.toList) (j:=j.toNat) (v:=f.cps.toList[j.toNat]) (by simp[D]);rw[show((j.toNat:Nat):Int)=j by lia] at e;exact e;rw[XN];exact cQ ap;intro t A;rcases X0.mp A with z|z
  exact y t z;rw[Yd.mp z];refine⟨O,λd M=>?_⟩;have:d=f.cps.toList[j.toNat]:=by simpa using M
  rw[this];exact q.2.2 _<|List.getElem_mem D;have J:i=n.toNat:=WT T (Zw I)
  refine .inl ⟨by show n.toNat<=i;exact Zw I,λp L=>?_⟩;refine nW o (ah.of aj) (V2 (by rw[Az o y];lia)) ?_;exact k (Wi o) _ (acK y ap) (by rw[EZ,Az o y,F,J])<|Xq L
 refine⟨_,O,acJ,_,O,(by show(0:Int) <3;decide),_,O,?_⟩;refine j8 (λh=>?_)<|λh=>?_;exact u A3 al3;exact u (A1++A2) acH
def fW:Pt->Prop|.k n=>0<=n|.p s=>good s/\s.length<=100000|.c s=>good s/\s.length<=100000
abbrev iY:=Str×Str×Int
abbrev wv:=List iY
noncomputable def my(r:iY):ci:=[.s r.1,.s r.2.1,.i r.2.2]
def Nu(H:Hp)(v:V)(r:iY):Prop:= ∃b,v=.r b/\H b=some (.l<|my r)
abbrev sO(H:Hp):ci->wv->Prop:=Paired (Nu H)
theorem sO.mono:∀{vs:ci}{p:wv},sO H vs p->(∀v∈vs,∀b,v=.r b->∀o,H b=some o->Z b=some o)->sO Z vs p:=by
 intro Y Y h;induction h with
 |nil=>exact λY=>.nil
 |cons x Y i=>
  obtain⟨b,e,h⟩:=x;exact λk=>.cons ⟨b,e,k _ Y1 b e _ h⟩<|i λv a=>k v (yl _ a)
theorem sO.get:∀{vs:ci}{s:wv}{i:Nat}{v:V},sO H vs s->vs[i]?=some v->∃p,s[i]?=some p/\Nu H v p:=by
 intro Y Y i v h;induction h generalizing i with
 |nil=>intro e;simp at e
 |cons x Y c=>
  intro e;cases i with
  |zero=>simp at e;subst e;exact⟨_,O,x⟩
  |succ i=>
   obtain⟨p,a,b⟩:=c (by simpa using e);exact⟨p,by simpa using a,b⟩
noncomputable def bq:wv×iY->Pt->wv×iY
 |(e,r),.k n=>(e,(r.1,r.2.1,r.2.2+n))
 |(e,r),.p s=>if s="" then (e,r) else if 0<r.2.2 then (e++[r],(Str.ofString ""++s,"",0)) else (e,(r.1++s,r.2.1,r.2.2))
 |(e,r),.c s=>if s="" then (e,r) else if 0<r.2.2 then (e++[r],("",Str.ofString ""++s,0)) else (e,(r.1,r.2.1++s,r.2.2))
def eW(r:iY):List Pt:=txt .p r.1++txt .c r.2.1++(if r.2.2=0 then [] else [.k r.2.2])
def cR(r:wv):List Pt:=(r.map eW).flatten
def va(p:List Pt):wv:=let s:=p.foldl bq ([],("","",0));s.1++[s.2]
def fK(p:List Pt):List Pt:=cR (va p)
structure lG(H W:Hp)(R:DL)(rs:ci)(b:DL)(pre:wv)(r:iY):Prop where
 same:ar H W
 lst:W R=some (.l<|rs++[.r b])
 fr:H R=none
 rows:sO W rs pre
 last:W b=some (.l<|my r)
 fb:H b=none
 bX:∀v∈rs,∀x,v=.r x->H x=none/\x≠b/\x≠R
 ne:b≠R
theorem xF(xs:ci)(v:V):fU (xs++[v]) (-1)=some v:=uG xs v
theorem lG.set{b:DL}{r:iY}(S:lG H W R s b p r):lG H (upd W b<|.l<|my r') R s b p r' where
 same:=qy S.same S.fb aE.upd
 lst:=by rw[ay S.ne.symm];exact S.lst
 fr:=S.fr
 rows:=S.rows.mono λv a x e o h=>by rw[ay (S.bX v a x e).2.1];exact h
 last:=aj
 fb:=S.fb
 bX:=S.bX
 ne:=S.ne
theorem lG.grow{b:DL}{r:iY}(S:lG H W R s b c r)(a:W t=none):
  lG H (upd (upd W t<|.l<|my r') R<|.l<|s++[.r b]++[.r t]) R (s++[.r b]) t (c++[r]) r':=by
 have A:t≠R:=λz=>by rw[z,S.lst] at a;cases a
 have f:b≠t:=aQ S.last a;have k:∀x o,W x=some o->x≠R->upd (upd W t<|.l<|my r') R (.l<|s++[.r b]++[.r t]) x=some o:=λx o e n=>by rw[ay n,ay<|aQ e a];exact e
 exact {
  same:=λx o e=>k x o (S.same x o e) (aQ e S.fr)
  lst:=aj
  fr:=S.fr
  rows:=Tm (S.rows.mono λv d x e o h=>k x o h (S.bX v d x e).2.2) ⟨b,O,k b _ S.last S.ne⟩
  last:=by rw[ay A,aj]
  fb:=S.same.free a
  bX:=λv d x e=>by
   rcases X0.mp d with z|z
   obtain⟨w,B,u⟩:=S.bX v z x e;refine⟨w,λq=>?_,u⟩;obtain⟨i,m⟩:=List.getElem?_of_mem z;obtain⟨p,Y,y,j,g⟩:=S.rows.get m;rw[e] at j;cases j;rw[q,a] at g;cases g;rw[Yd.mp z] at e;cases e;exact⟨S.fb,f,S.ne⟩
  ne:=A}
abbrev Dn(Q:VK):ET:={nx:=λ_ Z=>Q .a Z,r:=Q}
abbrev bS(s:Sp)(Γ:XK->bu)(b:gu)(N:bi):Prop:= ∀vs H Q E,s vs H Q E->ax (Γ E) b (Dn Q) (XF N vs) H
inductive Nv(vs:ci)(H:Hp)(Q:VK)(E:XK):Prop|i(a xs p:_)(_:vs=[.r a])(_:H a=some (.l xs))(_:aF H xs p)(_:p.length<=100000)(_:aq p<=100000)(_:∀b Z N,ar H Z->H b=none->Z b=some (.l N)->aF Z N (fK p)->Q (.r b) Z)
theorem AD{K:Frag}{b:DL}{j:ci}{r:iY}{a:DL}{w:Str}{d:v0}(S:lG H W R j b e r)(i:Nat)(C:i<2)(B:(if (w=="cut")=true then 1 else 0:Int)=(i:Int))(o:Str)(A:(my r)[i]?=some (.s o))(z:(my r).set i (.s<|o++s)=my l)(y:o.length+s.length<=sizeLine)(k:∀q,lG H q R j b e l->D.nx [some<|.r a,some<|.r R,some<|.s w,some<|.s s,h,g,f,d,x] q):
  cj (bI K E) (.s (.i (.v 1)<|.n<|.c<|.i 1) (.t .i [(.p .Eq (.v 2)<|.c<|.s "cut")])<|.b .Add (.i (.i (.v 1)<|.n<|.c<|.i 1)<|.t .i [(.p .Eq (.v 2)<|.c<|.s "cut")])<|.v 3) D
   [some<|.r a,some<|.r R,some<|.s w,some<|.s s,h,g,f,d,x] W:=by
 have u:ah K W b (my r):=ah.of S.last;have m:(if (false ^^ decide (V.s w=V.s "cut"))=true then 1 else 0:Int)=(i:Int):=by lia
 refine nT _ O (.inl (oT _ _ _ _ O O (ah.of S.lst) (xF _ _) ⟨_,O,?_⟩));show qr K (aH K [] []).sd (.r b) (.i (if (false ^^ decide (V.s w=V.s "cut"))=true then 1 else 0)) W _;rw[m];refine .inl (oT b _ _ _ O O u (dv A) ⟨_,O,y,_,O,.inl (oT _ _ _ _ O O (ah.of S.lst) (xF _ _) ⟨_,O,?_⟩)⟩);show zM (.r b) (.i (if (false ^^ decide (V.s w=V.s "cut"))=true then 1 else 0)) (.s<|o++s) W _;rw[m];refine oT b (my r) (i:Int) i O O S.last ?_ ?_;unfold gJ;rw[Id (VI _),Id (by show(i:Int) < ((3:Nat):Int);lia)];simp;rw[z];exact k _ S.set
theorem acO{s:wv}{r:iY}(h:s[i]?=some r):cR (s.take<|i+1)=cR (s.take i)++eW r:=by
 unfold cR;rw[YQ,h];simp
theorem Ny{K:Frag}{b:DL}{r:iY}{a:DL}{w:Str}{C B y:v0}(S:lG H W R q b f r)(p:Pt)(x:(p=.p s/\w="put")\/(p=.c s/\w="cut"))(V:s.length<=100000)(Q:r.1.length<=100000)(P:r.2.1.length<=100000)(N:q.length<=100000)(k:∀g I T,lG H g R I T (bq (f,r) p).1 (bq (f,r) p).2->I.length<=q.length+1->D.nx [some<|.r a,some<|.r R,some<|.s w,some<|.s s,F,C,B,A,y] g):
  ax (bI K E) [.i (.p .NotEq (.v 3) (.c (.s ""))) [.i (.p .Gt (.i (.i (.v 1) (.n (.c (.i 1)))) (.c (.i 2))) (.c (.i 0))) [.d (.w .a (.v 1) [(.L [(.c (.s "")),(.c (.s "")),(.c (.i 0))])])] [],
    .s (.i (.v 1) (.n (.c (.i 1)))) (.t .i [(.p .Eq (.v 2) (.c (.s "cut")))]) (.b .Add (.i (.i (.v 1) (.n (.c (.i 1)))) (.t .i [(.p .Eq (.v 2) (.c (.s "cut")))])) (.v 3))] []] D
   [some<|.r a,some<|.r R,some<|.s w,some<|.s s,F,C,B,A,y] W:=by
 refine⟨_,O,_,O,?_⟩;rw[WI,iG];refine j8 (λh=>?_)<|λh=>?_;have u:s≠"":=by simpa using h
 refine nT _ O (.inl (oT _ _ _ _ O O (ah.of S.lst) (xF _ _) (.inl ⟨_,_,_,_,O,O,ah.of S.last,O,trivial,_,O,?_⟩)));have l:∀n:Nat,n<=100000->n+s.length<=sizeLine:=λn N=>cI ap;have J:(Str.ofString "").length=0:=O;refine j8 (λh=>?_)<|λh=>?_;have o:0<r.2.2:=Re h;refine qU _ O (.inl ⟨O,o3 _ (ah.of S.lst)⟩) CM (λt G=>?_);have U:R≠t:=aQ S.lst G;refine nW _ (by rw[ay U];exact S.lst) (cQ (by rw[W0,ZS];lia)) ?_;have M:=S.grow (r':=((Str.ofString "",Str.ofString "",0):iY)) G;rcases x with⟨rfl,rfl⟩|⟨rfl,rfl⟩
 have j:bq (f,r) (.p s)=(f++[r],((Str.ofString ""++s,Str.ofString "",0):iY)):=by show(if s="" then _ else if 0<r.2.2 then _ else _)=_;rw[Ix u,Id o]
 rw[j] at k;exact AD M 0 (Wr _) O "" O O (l _ (by rw[J];exact Ww _)) λg m=>k g _ t m aJ;have j:bq (f,r) (.c s)=(f++[r],((Str.ofString "",Str.ofString ""++s,0):iY)):=by show(if s="" then _ else if 0<r.2.2 then _ else _)=_;rw[Ix u,Id o]
 rw[j] at k;exact AD M 1 (Yq _) O "" O O (l _ (by rw[J];exact Ww _)) λg m=>k g _ t m aJ;have o:¬0<r.2.2:=λz=>h (Z2 z);rcases x with⟨rfl,rfl⟩|⟨rfl,rfl⟩
 have j:bq (f,r) (.p s)=(f,(r.1++s,r.2.1,r.2.2)):=by show(if s="" then _ else if 0<r.2.2 then _ else _)=_;rw[Ix u,Ix o]
 rw[j] at k;exact AD S 0 (Wr _) O r.1 O O (l _ Q) λg m=>k g _ b m (Yr _);have j:bq (f,r) (.c s)=(f,(r.1,r.2.1++s,r.2.2)):=by show(if s="" then _ else if 0<r.2.2 then _ else _)=_;rw[Ix u,Ix o]
 rw[j] at k;exact AD S 1 (Yq _) O r.2.1 O O (l _ P) λg m=>k g _ b m (Yr _);have e:s="":=by simpa using h
 have j:bq (f,r) p=(f,r):=by
  rcases x with⟨rfl,rfl⟩|⟨rfl,rfl⟩
  show(if s="" then _ else _)=_;rw[Id e];show(if s="" then _ else _)=_;rw[Id e]
 rw[j] at k;exact k W q b S (Yr _)
theorem mz(x y:Str):(x++y).length=x.length+y.length:=by rw[Xz,ZC,W0,<-Xz,<-Xz]
theorem acP(e:wv)(r:iY)(p:Pt)(n:Nat)(b:r.1.length<=n)(h:r.2.1.length<=n):(bq (e,r) p).2.1.length<=n+dO p/\(bq (e,r) p).2.2.1.length<=n+dO p:=by
 have a:(Str.ofString "").length=0:=O;cases p with
 |k m=>exact⟨by show r.1.length<=n+0;exact b,by show r.2.1.length<=n+0;exact h⟩
 |p s=>
  show(if s="" then (e,r) else if 0<r.2.2 then (e++[r],((Str.ofString ""++s,Str.ofString "",0):iY)) else (e,(r.1++s,r.2.1,r.2.2))).2.1.length<=n+s.length/\
   (if s="" then (e,r) else if 0<r.2.2 then (e++[r],((Str.ofString ""++s,Str.ofString "",0):iY)) else (e,(r.1++s,r.2.1,r.2.2))).2.2.1.length<=n+s.length
  split;exact⟨(YB b),(YB h)⟩;split;exact⟨by rw[mz,a];exact h_ (Ww _) _,ap⟩;exact⟨by rw[mz];exact h_ b _,(YB h)⟩
 |c s=>
  show(if s="" then (e,r) else if 0<r.2.2 then (e++[r],((Str.ofString "",Str.ofString ""++s,0):iY)) else (e,(r.1,r.2.1++s,r.2.2))).2.1.length<=n+s.length/\
   (if s="" then (e,r) else if 0<r.2.2 then (e++[r],((Str.ofString "",Str.ofString ""++s,0):iY)) else (e,(r.1,r.2.1++s,r.2.2))).2.2.1.length<=n+s.length
  split;exact⟨(YB b),(YB h)⟩;split;exact⟨ap,by rw[mz,a];exact h_ (Ww _) _⟩;exact⟨(YB b),by rw[mz];exact h_ h _⟩
theorem Nz(h:cp Γ.K op x v H Q):ae Γ (.c v) u H λy W=>cp Γ.K op x y W Q:=h
theorem NA{K:Frag}{y:V}(h:m_ x y=true)(q:Q (.b<|true ^^ decide (x=y)) H):cp K .NotEq x y H Q:=by
 show oO true x y H Q;unfold oO;rw[h];exact q
theorem acQ{K:Frag}{r:iY}(Z:H1 l=some (.l [.r t1,.r t2,.r t3]))(h1:H1 t1=some (.t [.s "put",.s r.1]))(h2:H1 t2=some (.t [.s "cut",.s r.2.1]))(h3:H1 t3=some (.t [.s "keep",.i r.2.2]))(F:u[8]?=some (some<|.r l))(k:∀p N,H1 p=none->aF H1 N (eW r)->N.length<=3->R (.r p) (upd H1 p<|.l N)):
  ae (bI K E) (.C none [] .l [.v 8] (some<|.d [(.p .NotEq (.i (.v 0)<|.c<|.i 1)<|.c<|.s ""),(.p .NotEq (.i (.v 0)<|.c<|.i 1)<|.c<|.i 0)])<|.v 0) u H1 R:=by
 have G:ah K H1 l [.r t1,.r t2,.r t3]:=ah.of Z
 let P:Nat->List Pt:=λi=>match i with| 0=>[]| 1=>txt .p r.1| 2=>txt .p r.1++txt .c r.2.1|_=>eW r
 refine qB _ F l O (o3 _ G) ⟨λi m N W=>m=3 - i/\i<=3/\W=H1/\aF H1 N (P i)/\N.length<=i,rZ _ O (Ww _) O .nil (VL _),?_⟩;rintro i m N W ⟨rfl,hi,rfl,J,T⟩;have f:N.length<sizeLine:=cQ ap;have L:∀(t:DL)(p:Pt)(j:Nat),W t=some (.t [.s p.word,p.val])->i=j->j<3->(P (j+1)=P j++[p]/\p.val≠ .s ""/\p.val≠ .i 0\/P (j+1)=P j/\(p.val=.s ""\/p.val=.i 0))->
   (∃s,p.val=.s s)\/(∃n,p.val=.i n)->
   k_ (xj (bI K E).calm<|some<|.d [(.p .NotEq (.i (.v 0)<|.c<|.i 1)<|.c<|.s ""),(.p .NotEq (.i (.v 0)<|.c<|.i 1)<|.c<|.i 0)]) ([V.r t].map some++b_ u []) W λb S=>
    if b=true then ae (bI K E).calm (.v 0) ([V.r t].map some++b_ u []) S λy H6=>N.length<sizeLine/\∃o,o<3 - i/\o=3 - (i+1)/\i+1<=3/\H6=W/\aF W (N++[y]) (P<|i+1)/\(N++[y]).length<=i+1
    else ∃o,o<3 - i/\o=3 - (i+1)/\i+1<=3/\S=W/\aF W N (P<|i+1)/\N.length<=i+1:=by
  intro t p j H ej hj I h;subst ej;have D:m_ p.val (.s "")=true:=by rcases h with⟨s,e⟩|⟨n,e⟩ <;>rw[e] <;>rfl
  have B:m_ p.val (.i 0)=true:=by rcases h with⟨s,e⟩|⟨n,e⟩ <;>rw[e] <;>rfl
  refine nT _ O (.inr<|.inl ⟨_,_,_,_,O,O,aB.of H,O,Nz<|NA D ⟨_,O,?_⟩⟩);by_cases A:p.val=.s "";rw[Z2 A];rcases I with⟨_,z,_⟩|⟨e,_⟩
  exact absurd A z;exact rZ (3 - (i+1)) ap O (X5 hj) O ⟨by rw[e];exact J,(hB T)⟩;rw[VH A];refine nT _ O (.inr<|.inl ⟨_,_,_,_,O,O,aB.of H,O,Nz<|NA B ⟨_,O,?_⟩⟩);by_cases w:p.val=.i 0;rw[Z2 w];rcases I with⟨_,_,z⟩|⟨e,_⟩
  exact absurd w z;exact rZ (3 - (i+1)) ap O (X5 hj) O ⟨by rw[e];exact J,(hB T)⟩;rw[VH w];rcases I with⟨e,_,_⟩|⟨_,z⟩
  refine rP _ O f (3 - (i+1)) ap ⟨O,(X5 hj),O,?_,bd⟩;rw[e];exact aF.snoc J (nT t O H);rcases z with z|z
  exact absurd z A;exact absurd z w
 have Q:∀(a:Str->Pt)(x:Str)(l:List Pt),(a x).val=.s x->(l++txt a x=l++[a x]/\(a x).val≠ .s ""/\(a x).val≠ .i 0\/l++txt a x=l/\((a x).val=.s ""\/(a x).val=.i 0)):=by
  intro a x l h;unfold txt;by_cases e:x="";rw[Id e];exact .inr ⟨aJ,.inl (by rw[h,e])⟩;rw[Ix e];exact .inl ⟨O,by rw[h];exact λz=>e (by injection z),by rw[h];exact λz=>by cases z⟩
 by_cases aD:i<3;refine .inr ⟨pI _ ([V.r t1,V.r t2,V.r t3][i]) G (by simp[aD]),?_⟩;rintro x H3 ⟨rfl,X⟩;have M:=X _ G;have:i=0\/i=1\/i=2:=by lia
 rcases this with rfl|rfl|rfl
 have q:x=.r t1:=by simpa using M.symm
 subst q;exact L t1 (.p r.1) 0 h1 O aD (Q .p r.1 [] O)<|.inl ⟨_,O⟩;have q:x=.r t2:=by simpa using M.symm
 subst q;exact L t2 (.c r.2.1) 1 h2 O aD (Q .c r.2.1 _ O)<|.inl ⟨_,O⟩;have q:x=.r t3:=by simpa using M.symm
 subst q;refine L t3 (.k r.2.2) 2 h3 O aD ?_<|.inr ⟨_,O⟩;by_cases e:r.2.2=0;refine .inr ⟨?_,.inr (by show V.i r.2.2=_;rw[e])⟩;show eW r=txt .p r.1++txt .c r.2.1;unfold eW;rw[Id e,Y3];refine .inl ⟨?_,?_,?_⟩;show eW r=txt .p r.1++txt .c r.2.1++[.k r.2.2];unfold eW;rw[Ix e];intro z;have g:V.i r.2.2=V.s "":=z;cases g;intro z;have g:V.i r.2.2=V.i 0:=z;injection g with g
 exact e g;have U:i=3:=WT hi (Zw aD)
 subst U;refine .inl ⟨nT _ G aJ,λp Y=>?_⟩;exact k p N Y J T
theorem acT{K:Frag}(vs:ci)(H:Hp)(Q:VK)(E:XK)(h:Nv vs H Q E):ax (bI K E) M0 {nx:=λ_ Z=>Q .a Z,r:=Q} (XF MZ vs) H:=by
 obtain⟨a,xs,g,rfl,ha,cw,hl,ht,k⟩:=h;have k':=KB cw;refine⟨CM,λP Fb=>⟨eE,λR X=>?_⟩⟩;have NB:P≠R:=λz=>by rw[<-z,aj] at X;cases X
 have fR:H R=none:=(Xq Fb).free X;have S0:lG H (upd (upd H P<|.l [.s "",.s "",.i 0]) R<|.l [.r P]) R [] P [] ((Str.ofString "",Str.ofString "",0):iY):=
  {same:=(Xq Fb).trans (Xq X),lst:=aj,fr:=fR,rows:=.nil,last:=(by rw[ay NB,aj];rfl),fb:=Fb,bX:=(λv hv=>by cases hv),ne:=NB}
 refine qB _ O a O (o3 _ (ah.of (S0.same _ _ ha))) (kT (K:=K) (a:=a) (xs:=xs) (λi u W=>vI λT v m b d r=>xE (u=[some (.r a),some (.r R),T,v,none,none,none,none,none]) (lG H W R m b d r) ((g.take i).foldl bq ([],((Str.ofString "",Str.ofString "",0):iY))=(d,r)) (m.length<=i) (r.1.length<=aq (g.take i)) (r.2.1.length<=aq (g.take i)))
 ⟨none,none,[],P,[],_,O,S0,O,VL _,Ww _,Ww _⟩ (λi u W _ ⟨_,_,_,_,_,_,_,S,_,_,_,_⟩=>ah.of (S.same _ _ ha)) ?_ ?_)
 rintro i x u W U ⟨T,v,m,b,d,r,rfl,S,Y,l1,l2,l3⟩;obtain⟨pt,iP,jq⟩:=cw.get U;obtain⟨t,rfl,hb⟩:=jq.mono (aX S.same);have dq:i<g.length:=(Wq.mp iP).1;have qD:(g.take<|i+1).foldl bq ([],((Str.ofString "",Str.ofString "",0):iY))=bq (d,r) pt:=by rw[Ni iP,Y]
 have et:=E4 iP;have tb:=Au g i;have l':=Au g (i+1);have sl:=acP d r pt _ l2 l3;refine pX t _ O (.inl<|aB.of hb) O _ _ O _ _ O O ?_;refine⟨_,O,_,O,?_⟩;cases pt with
 |k n=>
  refine nT _ O (.inl (oT _ _ _ _ O O (ah.of S.lst) (xF _ _) (.inl (oT _ _ _ _ O O (ah.of S.last) O ⟨_,O,_,O,.inl (oT _ _ _ _ O O (ah.of S.lst) (xF _ _) ⟨b,my r,2,2,O,O,S.last,O,?_⟩)⟩))));refine⟨_,_,m,b,d,(r.1,r.2.1,r.2.2+n),O,S.set (r':=(r.1,r.2.1,r.2.2+n)),qD,(hB l1),?_,?_⟩;show r.1.length<=_;lia;show r.2.1.length<=_;lia
 |p s=>
  refine Ny S (.p s) (.inl ⟨O,O⟩) ?_ (wO l2 (wO tb ht)) (wO l3 (wO tb ht)) ap λI fO b' S' a'=>⟨_,_,fO,b',_,_,O,S',qD,(wO a' (h_ l1 _)),ap,ap⟩;have:dO (.p s)=s.length:=O;lia
 |c s=>
  refine Ny S (.c s) (.inr ⟨O,O⟩) ?_ (wO l2 (wO tb ht)) (wO l3 (wO tb ht)) ap λI fO b' S' a'=>⟨_,_,fO,b',_,_,O,S',qD,(wO a' (h_ l1 _)),ap,ap⟩;have:dO (.c s)=s.length:=O;lia
 rintro u Hm ⟨T,v,m,b,d,r,rfl,S,Y,l1,l2,l3⟩;have e:g.take xs.length=g:=XB ap;rw[e] at Y;have j':va g=d++[r]:=by
  show(g.foldl bq ([],((Str.ofString "",Str.ofString "",0):iY))).1++[(g.foldl bq ([],((Str.ofString "",Str.ofString "",0):iY))).2]=_;rw[Y]
 have NC:sO Hm (m++[.r b]) (va g):=by rw[j'];exact Tm S.rows (nT b O S.last)
 have ND:=KB NC;refine⟨Ww _,λf0 Fc=>?_⟩;refine qB _ O R O (o3 _ (ah.of (Xq Fc _ _ S.lst))) (kT (K:=K) (a:=R) (xs:=m++[.r b]) (λi u W=>vI λf N p5 p6 p7 p8=>xE (u=[some (.r a),some (.r R),T,v,some (.r f),p5,p6,p7,p8]) (ar Hm W) (H f=none) (W f=some (.l N)) (aF W N (cR ((va g).take i))) (N.length<=3*i))
 ⟨f0,[],none,none,none,none,O,Xq Fc,S.same.free Fc,aj,.nil,VL _⟩ (λi u W _ ⟨_,_,_,_,_,_,_,D,_,_,_,_⟩=>ah.of (D _ _ S.lst)) ?_ ?_)
 rintro i x u W U ⟨f,N,p5,p6,p7,p8,rfl,D,ff,Fd,eJ,vb⟩;obtain⟨j,i',w,rfl,hw⟩:=NC.get U;have d':=D _ _ hw;have dq:i< (m++[V.r b]).length:=(Wq.mp U).1;have kf:m.length<=100000:=by lia
 have qF:i<=100000:=by simp only[W0,ZS] at dq;exact wO (Xe dq) kf
 refine oZ w _ O (.inr<|ah.of d') O ⟨_,_,O,_,_,O,_,_,O,O,?_⟩;refine nW _ O eF (λB kg=>nW _ O eF (λA sQ=>nW _ O eF (λy J=> ⟨CM,λl F=>?_⟩)));have c1:B≠A:=λz=>by rw[<-z,aj] at sQ;cases sQ
 have NF:B≠y:=λz=>by rw[<-z,ay c1,aj] at J;cases J
 have NG:A≠y:=λz=>by rw[<-z,aj] at J;cases J
 have g':B≠l:=λz=>by rw[<-z,ay NF,ay c1,aj] at F;cases F
 have f':A≠l:=λz=>by rw[<-z,ay NG,aj] at F;cases F
 have e':y≠l:=λz=>by rw[<-z,aj] at F;cases F
 have L:=((Xq (o:=.t [.s "put",.s j.1]) kg).trans<|Xq (o:=.t [.s "cut",.s j.2.1]) sQ).trans ((Xq (o:=.t [.s "keep",.i j.2.2]) J).trans<|Xq (o:=.l [.r B,.r A,.r y]) F);refine nT _ O (acQ (r:=j) (l:=l) (t1:=B) (t2:=A) (t3:=y) aj (by rw[ay g',ay NF,ay c1,aj]) (by rw[ay f',ay NG,aj]) (by rw[ay e',aj]) O λp C M NH xG=>?_);generalize wZ:upd (upd (upd (upd W B<|.t [.s "put",.s j.1]) A<|.t [.s "cut",.s j.2.1]) y<|.t [.s "keep",.i j.2.2]) l (.l [.r B,.r A,.r y])=I at L M NH;have NI:=L _ _ Fd;have c':upd I p (.l C) f=some (.l N):=by rw[ay<|aQ NI M];exact NI
 refine .inl (pE f p N C O O c' aj (cI ap) (λq hq=>?_));have s5:ar Hm (upd (upd I p<|.l C) q<|.l<|N++C):=D.trans (L.trans<|(Xq M).trans<|Xq hq);have t5:bR I (upd (upd I p<|.l C) q<|.l<|N++C):=aX ((Xq M).trans<|Xq hq);refine⟨q,N++C,_,_,_,_,O,s5,S.same.free<|(D.trans<|L.trans<|Xq M).free hq,aj,?_,by rw[W0];exact Dy vb xG⟩;rw[acO i'];have h':∀{vs:ci}{as:List Pt}{ws:ci}{bs:List Pt}{G:Hp},aF G vs as->aF G ws bs->aF G (vs++ws) (as++bs):=λ{vs as ws bs G} h1 h2=>by
  induction h1 with
  |nil=>exact h2
  |cons a _ ih=>exact .cons a ih
 exact h' ((eJ.mono<|aX L).mono t5)<|NH.mono t5;rintro u W ⟨f,N,p5,p6,p7,p8,rfl,D,ff,Fd,eJ,vb⟩;have e2:(va g).take (m++[V.r b]).length=va g:=XB ap;rw[e2] at eJ;exact nT _ O (k f W N (S.same.trans D) ff Fd eJ)
theorem AE(a b:wv):cR (a++b)=cR a++cR b:=by simp[cR]
theorem xH(r:iY):cR [r]=eW r:=by simp[cR]
theorem Fe{r:iY}(h:0<r.2.2):eW r=txt .p r.1++txt .c r.2.1++[.k r.2.2]:=by
 unfold eW;rw[Ix (Eo h)]
theorem NJ{r:iY}(h:r.2.2=0):eW r=txt .p r.1++txt .c r.2.1:=by
 unfold eW;rw[Id h,Y3]
noncomputable def NK:Pt->Go|.k _=>true|_=>false
theorem KE(h:∀p,c.getLast?=some p->NK p=false):fg c n=c++[.k n]:=by
 unfold fg;split;rename_i m e;have:=h _ e;cases this;rfl
theorem ac2(c:List Pt)(m n:Int):fg (c++[.k m]) n=c++[.k<|n+m]:=by
 unfold fg;simp
theorem YR(m:Str->Pt):txt m ""=[]:=Id O
theorem lH{x:Str}(h:x≠""):txt m x=[m x]:=Ix h
theorem ac3{r:iY}(h:e≠ []->r.1≠""\/r.2.1≠""):∀p,(cR e++txt .p r.1++txt .c r.2.1).getLast?=some p->NK p=false:=by
 intro p a;by_cases b:r.2.1="";rw[b,YR] at a;by_cases d:r.1="";rw[d,YR] at a;by_cases o:e=[];rw[o] at a;simp[cR] at a;rcases h o with z|z
 cases z d;cases z b;rw[lH d] at a;simp at a;subst a;rfl;rw[lH b] at a;simp at a;subst a;rfl
def Yf(s:NS)(t:wv×iY):Prop:=
 (∀x∈t.1,0<x.2.2)/\(t.1≠ []->t.2.1≠""\/t.2.2.1≠"")/\0<=t.2.2.2/\
  ((t.2.2.2=0/\s.1=cR t.1/\Wi s.2.1=t.2.1/\Wi s.2.2=t.2.2.1)\/(0<t.2.2.2/\s.1=cR (t.1++[t.2])/\Wi s.2.1=""/\Wi s.2.2=""))
theorem qG(a:bi)(s:Str):Wi (a++[s])=Wi a++s:=by rw[acx,acy]
theorem ac4(R:Yf s t)(F:fW p):Yf (dE s p) (bq t p):=by
 obtain⟨m,u,d⟩:=s;obtain⟨a,r⟩:=t;obtain⟨l,w,v,j⟩:=Xn R;simp only at l w v j;cases p with
 |k n=>
  have I:0<=n:=F;by_cases E:0<n;have D:dE (m,u,d) (.k n)=(fg (d4 m u d) n,[],[]):=Id E;rw[D];refine⟨l,w,by show 0<=r.2.2+n;lia,.inr ⟨by show 0<r.2.2+n;lia,?_,O,O⟩⟩;show fg (d4 m u d) n=cR (a++[(r.1,r.2.1,r.2.2+n)]);rw[AE,xH,Fe (r:=(r.1,r.2.1,r.2.2+n)) (by show 0<r.2.2+n;lia)];rcases j with⟨f,b,i,g⟩|⟨f,b,i,g⟩
  have C:d4 m u d=cR a++txt .p r.1++txt .c r.2.1:=by unfold d4;rw[b,i,g]
  rw[C,KE<|ac3 w];show _=cR a++(txt .p r.1++txt .c r.2.1++[.k<|r.2.2+n]);rw[f,Int.zero_add];simp;have C:d4 m u d=cR a++(txt .p r.1++txt .c r.2.1)++[.k r.2.2]:=by
   unfold d4;rw[b,i,g,YR,YR,Y3,Y3,AE,xH,Fe f];simp
  rw[C,ac2];show _=cR a++(txt .p r.1++txt .c r.2.1++[.k<|r.2.2+n]);rw[Int.add_comm n];simp;have G:n=0:=by lia
  have D:dE (m,u,d) (.k n)=(m,u,d):=Ix E;have b:bq (a,r) (.k n)=(a,r):=by show(a,(r.1,r.2.1,r.2.2+n))=_;rw[G,Int.add_zero]
  rw[D,b];exact⟨l,w,v,j⟩
 |p x=>
  show Yf (m,u++[x],d) (bq (a,r)<|.p x);by_cases h:x="";have b:bq (a,r) (.p x)=(a,r):=Id h;rw[b];refine⟨l,w,v,?_⟩;have e:Wi (u++[x])=Wi u:=by rw[qG,h];exact Nc _
  show _\/_;simp only[e];exact j;by_cases o:0<r.2.2;have b:bq (a,r) (.p x)=(a++[r],((Str.ofString ""++x,Str.ofString "",0):iY)):=by show(if x="" then _ else if 0<r.2.2 then _ else _)=_;rw[Ix h,Id o]
  rw[b];rcases j with⟨f,Y⟩|⟨Y,q,i,g⟩
  lia;refine⟨λy B=>?_,λY=>.inl (by rw[uZ];exact h),ZN _,.inl ⟨O,q,?_,g⟩⟩;rcases X0.mp B with z|z
  exact l y z;rw[Yd.mp z];exact o;show Wi (u++[x])=_;rw[qG,i];have b:bq (a,r) (.p x)=(a,(r.1++x,r.2.1,r.2.2)):=by show(if x="" then _ else if 0<r.2.2 then _ else _)=_;rw[Ix h,Ix o]
  rw[b];rcases j with⟨f,q,i,g⟩|⟨f,Y⟩
  refine⟨l,λY=>.inl ?_,v,.inl ⟨f,q,?_,g⟩⟩;intro z;have:=IN Str.length z;rw[mz] at this;have A:(Str.ofString "").length=0:=O;rw[A] at this;have H:x.length=0:=by lia
  exact h<|iO (by rw[Xz] at H;rw[Wo.mp H];rfl);show Wi (u++[x])=_;rw[qG,i];exact (CV _ (BU f (BV o))).elim
 |c x=>
  show Yf (m,u,d++[x]) (bq (a,r)<|.c x);by_cases h:x="";have b:bq (a,r) (.c x)=(a,r):=Id h;rw[b];refine⟨l,w,v,?_⟩;have e:Wi (d++[x])=Wi d:=by rw[qG,h];exact Nc _
  show _\/_;simp only[e];exact j;by_cases o:0<r.2.2;have b:bq (a,r) (.c x)=(a++[r],((Str.ofString "",Str.ofString ""++x,0):iY)):=by show(if x="" then _ else if 0<r.2.2 then _ else _)=_;rw[Ix h,Id o]
  rw[b];rcases j with⟨f,Y⟩|⟨Y,q,i,g⟩
  lia;refine⟨λy B=>?_,λY=>.inr (by rw[uZ];exact h),ZN _,.inl ⟨O,q,i,?_⟩⟩;rcases X0.mp B with z|z
  exact l y z;rw[Yd.mp z];exact o;show Wi (d++[x])=_;rw[qG,g];have b:bq (a,r) (.c x)=(a,(r.1,r.2.1++x,r.2.2)):=by show(if x="" then _ else if 0<r.2.2 then _ else _)=_;rw[Ix h,Ix o]
  rw[b];rcases j with⟨f,q,i,g⟩|⟨f,Y⟩
  refine⟨l,λY=>.inr ?_,v,.inl ⟨f,q,i,?_⟩⟩;intro z;have:=IN Str.length z;rw[mz] at this;have A:(Str.ofString "").length=0:=O;rw[A] at this;have H:x.length=0:=by lia
  exact h<|iO (by rw[Xz] at H;rw[Wo.mp H];rfl);show Wi (d++[x])=_;rw[qG,g];exact (CV _ (BU f (BV o))).elim
theorem NL:∀(a:List Pt)(s:NS)(t:wv×iY),Yf s t->(∀p∈a,fW p)->Yf (a.foldl dE s) (a.foldl bq t)
 |[],s,t,R,_=>R
 |p::r,s,t,R,h=>NL r _ _ (ac4 R<|h p Y1) λq b=>h q (yl _ b)
theorem ac5(s:List Pt)(h:∀p∈s,fW p):Yf (s.foldl dE ([],[],[])) (s.foldl bq ([],((Str.ofString "",Str.ofString "",0):iY))):=
 NL s _ _ ⟨nofun,λz=>absurd O z,ZN _,.inl ⟨O,O,O,O⟩⟩ h
theorem vc(s:List Pt)(h:∀p∈s,fW p):jr s=fK s:=by
 obtain⟨f,d,c,r⟩:=Xn (ac5 s h);show d4 _ _ _=cR (_++[_]);unfold d4;rcases r with⟨k,e,b,a⟩|⟨k,e,b,a⟩
 rw[e,b,a,AE,xH,NJ k];simp;rw[e,b,a,YR,YR];simp
def sg(x:Str):Prop:= ∀c∈x.cps.toList,SG.cps.contains c=true
theorem AF(a:sg x)(b:sg y):sg (x++y):=λc h=>by
 rw[ZC] at h;rcases X0.mp h with z|z
 exact a c z;exact b c z
theorem qI:sg (Str.ofString ""):=λc h=>by cases h
noncomputable def mB(r:iY):Nat:=r.1.length+r.2.1.length
structure RI(n:Nat)(t:wv×iY):Prop where
 pos:∀x∈t.1,0<x.2.2
 nn:0<=t.2.2.2
 s1:∀x∈t.1++[t.2],sg x.1/\sg x.2.1
 tl:∀x∈ (t.1++[t.2]).tail,x.1≠""\/x.2.1≠""
 aq:((t.1++[t.2]).map mB).sum=n
theorem NM{x:Str}(h:x≠""):x++y≠"":=λz=>by
 have:=IN Str.length z;rw[mz] at this;have l:(Str.ofString "").length=0:=O;have q:x.length=0:=by lia
 exact h<|iO (by rw[Wo.mp q];rfl)
theorem NN{c:Type}(l:List c)(a:c):(l++[a]).tail=if l=[] then [] else l.tail++[a]:=by
 cases l with
 |nil=>rfl
 |cons b r=>simp
theorem Ff{r a:iY}(I:RI n (p,r))(e:0<=a.2.2)(d:sg a.1/\sg a.2.1)(c:(r.1≠""->a.1≠"")/\(r.2.1≠""->a.2.1≠""))(f:mB a=mB r+m):RI (n+m) (p,a):=by
 refine⟨I.pos,e,λx h=>?_,λx h=>?_,?_⟩;rcases X0.mp h with z|z
 exact I.s1 x (Wu _ z);rw[Yd.mp z];exact d;have t:=I.tl;rw[NN] at h t;by_cases b:p=[];rw[Id b] at h;cases h;rw[Ix b] at h t;rcases X0.mp h with z|z
 exact t x (Wu _ z);rw[Yd.mp z];rcases t r aJ with q|q
 exact .inl (c.1 q);exact .inr (c.2 q);have:=I.aq;simp at this⊢;lia
theorem NO{r a:iY}(I:RI n (p,r))(k:0<r.2.2)(d:0<=a.2.2)(c:sg a.1/\sg a.2.1)(b:a.1≠""\/a.2.1≠"")(e:mB a=m):RI (n+m) (p++[r],a):=by
 refine⟨λx h=>?_,d,λx h=>?_,λx h=>?_,?_⟩;rcases X0.mp h with z|z
 exact I.pos x z;rw[Yd.mp z];exact k;rcases X0.mp h with z|z
 exact I.s1 x z;rw[Yd.mp z];exact c;have t:=I.tl;rw[NN,Ix aJ] at h;rcases X0.mp h with z|z
 exact t x z;rw[Yd.mp z];exact b;have:=I.aq;simp at this⊢;lia
theorem ac6(I:RI n t)(d:fW p):RI (n+dO p) (bq t p):=by
 obtain⟨e,r⟩:=t;have s:=I.s1 r aJ;have N:=I.nn;have i:(Str.ofString "").length=0:=O;cases p with
 |k m=>exact Ff I (by have:0<=m:=d;lia) s ⟨λz=>z,λz=>z⟩ O
 |p x=>
  have g:sg x:=d.1.2;by_cases h:x="";have a:bq (e,r) (.p x)=(e,r):=Id h;have f:dO (.p x)=0:=by rw[h];rfl
  rw[a,f];exact I;by_cases b:0<r.2.2;have a:bq (e,r) (.p x)=(e++[r],((Str.ofString ""++x,Str.ofString "",0):iY)):=by show(if x="" then _ else if 0<r.2.2 then _ else _)=_;rw[Ix h,Id b]
  rw[a];refine NO I b (ZN _) ⟨AF qI g,qI⟩ (.inl (by rw[uZ];exact h)) ?_;show(Str.ofString ""++x).length+(Str.ofString "").length=x.length;rw[mz,i];exact VF _;have a:bq (e,r) (.p x)=(e,(r.1++x,r.2.1,r.2.2)):=by show(if x="" then _ else if 0<r.2.2 then _ else _)=_;rw[Ix h,Ix b]
  rw[a];refine Ff I N ⟨AF s.1 g,s.2⟩ ⟨NM,λz=>z⟩ ?_;show(r.1++x).length+r.2.1.length=r.1.length+r.2.1.length+x.length;rw[mz];lia
 |c x=>
  have g:sg x:=d.1.2;by_cases h:x="";have a:bq (e,r) (.c x)=(e,r):=Id h;have f:dO (.c x)=0:=by show x.length=0;rw[h];rfl
  rw[a,f];exact I;by_cases b:0<r.2.2;have a:bq (e,r) (.c x)=(e++[r],((Str.ofString "",Str.ofString ""++x,0):iY)):=by show(if x="" then _ else if 0<r.2.2 then _ else _)=_;rw[Ix h,Id b]
  rw[a];refine NO I b (ZN _) ⟨qI,AF qI g⟩ (.inr (by rw[uZ];exact h)) ?_;show(Str.ofString "").length+(Str.ofString ""++x).length=x.length;rw[mz,i];lia;have a:bq (e,r) (.c x)=(e,(r.1,r.2.1++x,r.2.2)):=by show(if x="" then _ else if 0<r.2.2 then _ else _)=_;rw[Ix h,Ix b]
  rw[a];refine Ff I N ⟨s.1,AF s.2 g⟩ ⟨λz=>z,NM⟩ ?_;show r.1.length+(r.2.1++x).length=r.1.length+r.2.1.length+x.length;rw[mz];lia
theorem Fh:∀(s:List Pt)(n:Nat)(t:wv×iY),RI n t->(∀p∈s,fW p)->RI (n+aq s) (s.foldl bq t)
 |[],n,t,I,_=>I
 |p::r,n,t,I,h=>by
  have:=Fh r _ _ (ac6 I<|h p Y1) λq a=>h q (yl _ a);have e:n+dO p+aq r=n+aq (p::r):=by show _=n+(dO p+aq r);exact Nat.add_assoc _ _ _
  rw[e] at this;exact this
theorem NQ{r:iY}{a:Str}(d:a=""\/(a="keep"/\(r.1≠""\/r.2.1≠"")))(k:0<r.2.2)(h:YU "keep" P'=true):YU a (eW r++P')=true:=by
 rw[Fe k];by_cases c:r.1="" <;>by_cases b:r.2.1=""
 rw[c,b];rcases d with rfl|⟨Y,z|z⟩
 exact h;cases z c;cases z b;rw[c,lH b];rcases d with rfl|⟨rfl,Y⟩ <;>exact h
 rw[b,lH c];rcases d with rfl|⟨rfl,Y⟩ <;>exact h
 rw[lH c,lH b];rcases d with rfl|⟨rfl,Y⟩ <;>exact h
theorem chain_last{r:iY}{a:Str}(h:a=""\/(a="keep"/\(r.1≠""\/r.2.1≠"")))(k:0<=r.2.2):YU a (eW r)=true:=by
 by_cases d:0<r.2.2;have:=NQ (P':=[]) h d O;rw[Y3] at this;exact this;rw[NJ ap];by_cases c:r.1="" <;>by_cases b:r.2.1=""
 rw[c,b];rfl;rw[c,lH b];rcases h with rfl|⟨rfl,Y⟩ <;>rfl
 rw[b,lH c];rcases h with rfl|⟨rfl,Y⟩ <;>rfl
 rw[lH c,lH b];rcases h with rfl|⟨rfl,Y⟩ <;>rfl
theorem NT:∀(p:wv)(r:iY)(a:Str),(∀x∈p,0<x.2.2)->0<=r.2.2->(a=""\/(a="keep"/\∀x,(p++[r]).head?=some x->x.1≠""\/x.2.1≠""))->(∀x∈ (p++[r]).tail,x.1≠""\/x.2.1≠"")->
  YU a (cR<|p++[r])=true
 |[],r,a,_,k,b,_=>by
  rw[X3,xH];exact chain_last (b.imp id λ⟨x,y⟩=>⟨x,y r O⟩) k
 |q::p,r,a,c,k,b,t=>by
  exact NQ (b.imp id λ⟨x,y⟩=>⟨x,y q O⟩) (c q Y1) (NT p r "keep" (λx h=>c x<|yl _ h) k (.inr ⟨O,λx h=>t x (List.mem_of_mem_head? h)⟩) λx h=>t x (vC h))
theorem ac7{r:iY}(s:sg r.1/\sg r.2.1)(l:mB r<=1000000)(k:0<=r.2.2)(h:p∈eW r):aZ p:=by
 unfold eW txt at h;unfold mB at l;rcases X0.mp h with h|h
 rcases X0.mp h with h|h
 split at h;cases h;rename_i ne;rw[Yd.mp h];exact⟨⟨(wO (j9 _ _) l),s.1⟩,ne⟩;split at h;cases h;rename_i ne;rw[Yd.mp h];exact⟨⟨(wO (XA _ _) l),s.2⟩,ne⟩;split at h;cases h;rw[Yd.mp h];show 1<=r.2.2;lia
theorem ac8(r:iY):aq (eW r)=mB r:=by
 have d:∀(m:Str->Pt)(x:Str),(∀y,dO (m y)=y.length)->aq (txt m x)=x.length:=by
  intro m x h;unfold txt;by_cases e:x="";rw[e];rfl;rw[Ix e];show dO (m x)+0=_;rw[h,Nat.add_zero]
 have t:∀a b:List Pt,aq (a++b)=aq a+aq b:=λa b=>by simp[aq]
 unfold eW mB;rw[t,t,d .p _ λY=>O,d .c _ λY=>O];split;rfl;rfl
theorem Fi:∀s:wv,aq (cR s)=(s.map mB).sum
 |[]=>O
 |r::s=>by
  have e:cR (r::s)=eW r++cR s:=O;have t:∀a b:List Pt,aq (a++b)=aq a+aq b:=λa b=>by simp[aq]
  rw[e,t,ac8,Fi s];rfl
theorem ac9{l:wv}(h:x∈l):mB x<= (l.map mB).sum:=by
 induction l with
 |nil=>cases h
 |cons a l i=>
  rw[AP,y0];rcases xW.mp h with rfl|h
  exact j9 _ _;lia
theorem AG(s:List Pt)(h:∀p∈s,fW p)(d:aq s<=100000):YU "" (fK s)=true/\(∀p∈fK s,aZ p)/\aq (fK s)<=100000:=by
 have I:=Fh s 0 ([],((Str.ofString "",Str.ofString "",0):iY)) ⟨nofun,ZN _,(λx a=>by rw[Yd.mp a];exact⟨qI,qI⟩),nofun,O⟩ h;rw[VF] at I;have e:fK s=cR ((s.foldl bq ([],((Str.ofString "",Str.ofString "",0):iY))).1++[(s.foldl bq ([],((Str.ofString "",Str.ofString "",0):iY))).2]):=O;rw[e];generalize s.foldl bq ([],((Str.ofString "",Str.ofString "",0):iY))=t at I;refine⟨NT t.1 t.2 "" I.pos I.nn (.inl O) I.tl,λp b=>?_,by rw[Fi,I.aq];exact d⟩;unfold cR at b;rw[List.mem_flatten] at b;obtain⟨l,f,b⟩:=b;obtain⟨x,a,rfl⟩:=Yc.mp f;have c:=ac9 a;rw[I.aq] at c;refine ac7 (I.s1 x a) ap ?_ b;rcases X0.mp a with z|z
 have:=I.pos x z;exact Int.le_of_lt this;rw[Yd.mp z];exact I.nn
theorem xI(a:List Pt):(jr a).length<=3*a.length+2:=by
 have g:∀(l:List Pt)(s:NS),(l.foldl dE s).1.length<=s.1.length+3*l.length:=by
  intro l;induction l with
  |nil=>intro s;simp
  |cons p l i=>
   intro s;have e:=i (dE s p);have f:(dE s p).1.length<=s.1.length+3:=by
    obtain⟨h,u,b⟩:=s;cases p with
    |k n=>
     by_cases d:0<n;have j:dE (h,u,b) (.k n)=(fg (d4 h u b) n,[],[]):=Id d;have:=Av h u b;have:=Nk (d4 h u b) n;lia;have j:dE (h,u,b) (.k n)=(h,u,b):=Ix d;lia
    |p x=>show h.length<=h.length+3;exact j9 _ _
    |c x=>show h.length<=h.length+3;exact j9 _ _
   rw[YF,d_];lia
 have e:=g a ([],[],[]);have f:=Av (a.foldl dE ([],[],[])).1 (a.foldl dE ([],[],[])).2.1 (a.foldl dE ([],[],[])).2.2;show(d4 _ _ _).length<=_;simp at e;exact wO f (h_ e _)
def NU:Pt->Prop|.k _=>True|.p s=>sg s|.c s=>sg s
theorem ac_(h:sg x):PyData.strOk x=true:=by
 have s:∀c,SG.cps.contains c=true->c<0x110000:=by
  have l:SG.cps.toList.all (λc=>decide<|c<0x110000)=true:=O;intro c a;have m:c∈SG.cps.toList:=by simpa using a
  exact Re<|Yw.mp l c m
 unfold PyData.strOk;rw[Array.all_eq_true'];intro c a;exact Z2<|s c<|h c (by simpa using a)
noncomputable def Pt.qJ:Pt->Pt|.k n=>.k n|.p s=>.c s|.c s=>.p s
abbrev bn:=List Pt
def dy(p:bn):bn:=p.map Pt.qJ
theorem ada(h:∀p∈s,fW p):∀p∈dy s,fW p:=by
 intro p b;obtain⟨q,a,rfl⟩:=Yc.mp b;have:=h q a;cases q<;>exact this
theorem Fj(s:bn):aq (dy s)=aq s:=by
 unfold aq dy;rw[XE];congr 1;refine Xi λp Y=>?_;cases p<;>rfl
theorem adb(s:bn)(h:∀p∈s,fW p):RI (aq s) (s.foldl bq ([],((Str.ofString "",Str.ofString "",0):iY))):=by
 have I:=Fh s 0 ([],((Str.ofString "",Str.ofString "",0):iY)) ⟨nofun,ZN _,(λx a=>by rw[Yd.mp a];exact⟨qI,qI⟩),nofun,O⟩ h
 rwa [VF] at I
theorem ade(h:aZ p)(t:dO p<=100000):fW p:=by
 cases p with
 |k n=>exact Int.le_trans (VI _) (show(1:Int)<=n from h)
 |p s=>exact⟨h.1,t⟩
 |c s=>exact⟨h.1,t⟩
theorem adf(h:p∈s):dO p<=aq s:=by
 induction s with
 |nil=>cases h
 |cons q s i=>
  have e:aq (q::s)=dO q+aq s:=O;rcases xW.mp h with rfl|h
  lia;lia
theorem Fm(h:∀p∈s,aZ p)(t:aq s<=100000):∀p∈s,fW p:=λp a=>ade (h p a) (wO (adf a) t)
inductive ym:am->bn->am->Prop
 |N:ym [] [] []
 |k {a l r:am}{n:Int}{b:bn}:n=a.length->ym l b r->ym (a++l) (.k n::b) (a++r)
 |t {s:Str}{l r:am}{b:bn}:ym l b r->ym l (.p s::b) (s.cps.toList++r)
 |C {s:Str}{l r:am}{b:bn}:ym l b r->ym (s.cps.toList++l) (.c s::b) r
theorem ym.qJ(h:ym l p r):ym r (dy p) l:=by
 induction h with
 |N=>exact .N
 |k e Y i=>exact .k e i
 |t Y i=>exact .C i
 |C Y i=>exact .t i
theorem ym.app(h:ym l p r)(c:ym l' q r'):ym (l++l') (p++q) (r++r'):=by
 induction h with
 |N=>exact c
 |k e Y i=>rw[VD,VD];exact .k e i
 |t Y i=>rw[VD];exact .t i
 |C Y i=>rw[VD];exact .C i
theorem ym.over{b:bn}(h:ym l b r):(WD b).sum=l.length:=by
 induction h with
 |N=>rfl
 | @k a l r n b e _ i=>
  have d:WD (.k n::b)=n::WD b:=O;rw[d,y0,i,e];simp
 | @t s l r b _ i=>
  have d:WD (.p s::b)=WD b:=O;rw[d,i]
 | @C s l r b _ i=>
  have d:WD (.c s::b)=(s.length:Int)::WD b:=O;rw[d,y0,i,Xz];simp
def sT(r:iY)(l q:am):Prop:= ∃k:am,r.2.2=k.length/\l=r.2.1.cps.toList++k/\q=r.1.cps.toList++k
inductive o9:wv->am->am->Prop
 |nil:o9 [] [] []
 |snoc {a:wv}{r:iY}{l q c b:am}:o9 a l q->sT r c b->o9 (a++[r]) (l++c) (q++b)
theorem NV:ym [] (txt .p s) s.cps.toList:=by
 by_cases h:s="";rw[h];exact .N;rw[lH h];have:=ym.t (s:=s) ym.N
 rwa [Y3] at this
theorem adg:ym s.cps.toList (txt .c s) []:=by
 have:=(NV (s:=s)).qJ;have e:dy (txt .p s)=txt .c s:=by
  unfold txt;split<;>rfl
 rwa [e] at this
theorem sT.run{r:iY}(h:sT r l q):ym l (eW r) q:=by
 obtain⟨k,a,rfl,rfl⟩:=h;have b:ym k (if r.2.2=0 then [] else [.k r.2.2]) k:=by
  split;rename_i h;have:k=[]:=Wo.mp ap;rw[this];exact .N;have:=ym.k a ym.N
  rwa [Y3] at this
 have:=((NV (s:=r.1)).app<|adg (s:=r.2.1)).app b;simpa[eW] using this
theorem o9.run(h:o9 rs l q):ym l (cR rs) q:=by
 induction h with
 |nil=>exact .N
 |snoc Y a i=>rw[AE,xH];exact i.app a.run
def Dv:Pt->am->am->Prop
 |.k n,l,q=>l=q/\n=l.length
 |.p s,l,q=>l=[]/\q=s.cps.toList
 |.c s,l,q=>l=s.cps.toList/\q=[]
theorem Fn{s:bn}(h:ym l (p::s) q):∃l1 l2 b a,l=l1++l2/\q=b++a/\ym l2 s a/\
  Dv p l1 b:=by
 cases h with
 |k e h=>exact oT _ _ _ _ O O h O e
 |t h=>exact oT [] _ _ _ O O h O O
 |C h=>exact oT _ _ [] _ O O h O O
theorem adh{r:iY}{l1 l2 j:am}(f:o9 pre l q)(d:sT r l1 g)(i:Dv p l2 j):
  ∃U V I W,o9 (bq (pre,r) p).1 U V/\sT (bq (pre,r) p).2 I W/\l++l1++l2=U++I/\q++g++j=V++W:=by
 cases p with
 |k n=>
  obtain⟨rfl,rfl⟩:=i;obtain⟨k,b,rfl,rfl⟩:=d;refine p4 l q _ _ f (nW (k++l2) ?_ O O) (by simp[bq]) (by simp[bq]);show r.2.2+(l2.length:Int)=_;rw[b,W0];simp
 |p s=>
  obtain⟨rfl,rfl⟩:=i;by_cases h:s="";have e:bq (pre,r) (.p s)=(pre,r):=by simp only[bq,Id h]
  rw[e];refine p4 l q l1 g f d aJ ?_;rw[h];rw[wV];simp;by_cases b:0<r.2.2;have e:bq (pre,r) (.p s)=(pre++[r],((Str.ofString ""++s,"",0):iY)):=by simp only[bq,Ix h,Id b]
  rw[e];refine p4 _ _ [] s.cps.toList (f.snoc d) (nW [] O O ?_) aJ aJ;rw[uZ];simp;have e:bq (pre,r) (.p s)=(pre,(r.1++s,r.2.1,r.2.2)):=by simp only[bq,Ix h,Ix b]
  rw[e];obtain⟨k,m,rfl,rfl⟩:=d;have:k=[]:=Wo.mp ap;subst this;refine p4 l q r.2.1.cps.toList (r.1.cps.toList++s.cps.toList) f (nW [] m aJ (by simp[ZC])) aJ aJ
 |c s=>
  obtain⟨rfl,rfl⟩:=i;by_cases h:s="";have e:bq (pre,r) (.c s)=(pre,r):=by simp only[bq,Id h]
  rw[e];refine p4 l q l1 g f d ?_ aJ;rw[h];rw[wV];simp;by_cases b:0<r.2.2;have e:bq (pre,r) (.c s)=(pre++[r],(("",Str.ofString ""++s,0):iY)):=by simp only[bq,Ix h,Id b]
  rw[e];refine p4 _ _ s.cps.toList [] (f.snoc d) (nW [] O ?_ O) aJ aJ;show s.cps.toList=(Str.ofString ""++s).cps.toList++[];rw[uZ];simp;have e:bq (pre,r) (.c s)=(pre,(r.1,r.2.1++s,r.2.2)):=by simp only[bq,Ix h,Ix b]
  rw[e];obtain⟨k,m,rfl,rfl⟩:=d;have:k=[]:=Wo.mp ap;subst this;refine p4 l q (r.2.1.cps.toList++s.cps.toList) r.1.cps.toList f (nW [] m (by simp[ZC]) aJ) aJ aJ
theorem adi:∀(s:bn)(e:wv)(r:iY)(l f l1 q l2 g:am),o9 e l f->sT r l1 q->ym l2 s g->
  ∃U V I W,o9 (s.foldl bq (e,r)).1 U V/\sT (s.foldl bq (e,r)).2 I W/\l++l1++l2=U++I/\f++q++g=V++W:=by
 intro s;induction s with
 |nil=>
  intro e r l f l1 q l2 g j i h;cases h;exact p4 l f l1 q j i aJ aJ
 |cons p s t=>
  intro e r l f l1 q l2 g j i h;obtain⟨a,b,c,d,zq⟩:=ZO (Fn h);obtain⟨rfl,rfl,v,u⟩:=Xn zq;obtain⟨U,V,I,W,zq⟩:=ZO (adh j i u);obtain⟨x,w,D,C⟩:=Xn zq;obtain⟨o,k,m,n,zq⟩:=ZO (t _ _ U V I W b d x w v);obtain⟨z,y,B,A⟩:=Xn zq;refine p4 o k m n z y ?_ ?_;rw[<-B,<-D];simp;rw[<-A,<-C];simp
theorem AH(h:ym l p q):ym l (fK p) q:=by
 obtain⟨g,f,l1,d,zq⟩:=ZO (adi p [] ("","",0) [] [] [] [] l q .nil ⟨[],O,O,O⟩ h);obtain⟨b,a,c,e⟩:=Xn zq;have:=(b.snoc a).run;rw[<-c,<-e] at this;exact this
noncomputable def WB:ii:=[(.inr "keep",.s "keep"),(.inr "cut",.s "put"),(.inr "put",.s "cut")]
abbrev ado:v4:=[("need_change",EY),("neat",mw)]
inductive vd(vs:ci)(H:Hp)(Q:VK)(E:XK):Prop|i(a xs s:_)(_:vs=[.r a])(_:H a=some (.l xs))(_:aF H xs s)(_:(∀p∈s,aZ p))(_:YU "" s=true)(_:s.length<=100000)(_:aq s<=100000)(_:∀b Z N,ar H Z->H b=none->Z b=some (.l N)->aF Z N (jr<|dy s)->Q (.r b) Z)
abbrev aqB(K:Frag)(p:DL)(E:XK):bu:=aH K ado [("WAYS_BACK",.r p)] [(p,WB)] (E:=E)
theorem adp{K:Frag}(vs:ci)(H:Hp)(Q:VK)(E:XK)(h:vd vs H Q E):ax (aqB K p E) MQ {nx:=λ_ Z=>Q .a Z,r:=Q} (XF MP vs) H:=by
 obtain⟨a,xs,d,rfl,j,w,U,T,X,M,q⟩:=h;refine nT _ O ⟨a,xs,d,O,j,w,U,T,λH1 v=>?_⟩;have n:=KB w;refine qB _ O a O (o3 _ (ah.of<|v _ _ j)) ⟨λi m N W=>m=xs.length - i/\i<=xs.length/\ar H W/\aF W N (dy<|d.take i), ⟨_,O,Ww _,v,.nil⟩,?_⟩;rintro i m N W ⟨rfl,Y,f,y⟩;by_cases D:i<xs.length;refine .inr ⟨pI xs (xs[i]) (ah.of<|f _ _ j) (by simp[D]),?_⟩;rintro x A ⟨rfl,J⟩;obtain⟨g,P,F⟩:=w.get (J xs (ah.of<|f _ _ j));obtain⟨b,rfl,u⟩:=F.mono (aX f);have V:=KB y;have L:oV WB (.inr g.word)=some (.s g.qJ.word):=by
  cases g<;>first|rfl| (decide+kernel)
 refine oZ b _ O (aB.of u) O ⟨_,O,.inr<|.inr<|.inr ⟨p,WB,.inr g.word,_,O,O,Yd.2 O,L,?_⟩⟩;refine nW _ O (by show 2<=sizeLine;decide) (λt z=>qH ?_ (xs.length - (i+1)) ap ⟨O,D,f.trans<|Xq z,?_⟩);have:(dy<|d.take i).length=i:=by simp[dy];lia
 exact cQ ap;have e:dy (d.take<|i+1)=dy (d.take i)++[g.qJ]:=by
  rw[YQ,P];simp[dy]
 rw[e];refine(y.mono<|aX<|Xq z).snoc ⟨t,O,?_⟩;rw[aj];cases g<;>rfl
 have G:i=xs.length:=WT Y (Zw D)
 subst G;refine .inl ⟨nT xs (ah.of<|f _ _ j) (VL _),λb u=>?_⟩;have e:dy (d.take xs.length)=dy d:=by rw[n,Xg]
 rw[e] at y;have k:=Xq (o:=.l N) u;refine⟨b,N,dy d,O,aj,y.mono<|aX k,by simp[dy];exact wO X (XA _ _),by rw[Fj];exact M,λc A B C R S I=>?_⟩;exact q c A B (f.trans<|k.trans C) ((f.trans k).free R) S I
theorem adq{a b:am}(h:x.cps.toList=a++(b++c))(n:Int)(f:n=b.length):oQ x (some (a.length:Int)) (some<|(a.length:Int)+n)=⟨b.toArray⟩:=by
 have e:(a.length:Int)+n=((a.length+b.length:Nat):Int):=by lia
 unfold oQ oP;rw[e,HT.ni,HT.ni,h];have l1:(a++(b++c)).length=a.length+(b.length+c.length):=by simp
 rw[l1];have d:min a.length (a.length+(b.length+c.length))=a.length:=by lia
 have m:min (a.length+b.length) (a.length+(b.length+c.length))=a.length+b.length:=by lia
 rw[d,m,Xh,show a.length+b.length - a.length=b.length by lia,XT]
theorem asC(x:Str):(⟨x.cps.toList.toArray⟩:Str)=x:=O
theorem ads(j:Int)(a:0<=j)(h:j<6):∃n:Int,fU [V.i 1,V.i 2,V.i 0,V.i 3,V.i 5,V.i 40] j=some (.i n)/\0<=n/\n<=40:=by
 obtain rfl|rfl|rfl|rfl|rfl|rfl:j=0\/j=1\/j=2\/j=3\/j=4\/j=5:=by lia
 all_goals exact nW _ O ap ap
theorem Fp(a b:bn):aq (a++b)=aq a+aq b:=by simp[aq]
abbrev adt:v4:=[("_law_mixed",EW),("_law_text",Ay)]
theorem xJ(s:bn)(h:∀p∈s,fW p):aq (fK s)=aq s:=by
 have e:fK s=cR ((s.foldl bq ([],((Str.ofString "",Str.ofString "",0):iY))).1++[(s.foldl bq ([],((Str.ofString "",Str.ofString "",0):iY))).2]):=O;rw[e,Fi,(adb s h).aq]
section
variable{f:bu}{D:ET}{u:St}{H:Hp}{r:gu}{Q:VK}{k:ci->Hp->Prop}{g:wl}
theorem af(h:u[i]?=some (some v))(q:Q v H):ae f (.v i) u H Q:=⟨_,h,q⟩
theorem aC(q:Q v H):ae f (.c v) u H Q:=q
theorem c7(h:ae f a u H λx H1=>ae f b u H1 λy W=>sv f.K op x y W Q):ae f (.b op a b) u H Q:=h
theorem xM(h:ae f a u H λx H1=>ae f b u H1 λy W=>cp f.K op x y W Q):ae f (.p op a b) u H Q:=h
theorem bh(h:ae f a u H λx H1=>ae f b u H1 λy W=>qr f.K f.sd x y W Q):ae f (.i a b) u H Q:=h
theorem adu(h:aP f as u H λvs H1=>f.fs j (vs++[]) H1 Q f.E):ae f (.l j as) u H Q:=h
theorem bE(s:Sp)(a:f.fs j=s)(h:aP f as u H λvs H1=>s vs H1 Q f.E):ae f (.l j as) u H Q:=by
 subst a;refine adu ?_;have e:(fun(vs:ci)(H1:Hp)=>f.fs j (vs++[]) H1 Q f.E)=λvs H1=>f.fs j vs H1 Q f.E:=by
  funext vs H1;rw[Y3]
 rw[e];exact h
theorem NW{b:oR}(h:aP f as u H λvs H1=>oU f.K b vs H1 Q):ae f (.t b as) u H Q:=h
theorem Fq(h:aP f as u H λxs H1=>xs.length<=sizeLine/\∀p,H1 p=none->Q (.r p) (upd H1 p<|.t xs)):ae f (.T as) u H Q:=h
theorem d5(h:aP f as u H λxs H1=>xs.length<=sizeLine/\∀p,H1 p=none->Q (.r p) (upd H1 p<|.l xs)):ae f (.L as) u H Q:=h
theorem aI(q:k [] H):aP f [] u H k:=q
theorem av(h:ae f a u H λx H1=>aP f as u H1 λxs W=>k (x::xs) W):aP f (a::as) u H k:=h
theorem aN(h:ae f e u H λx H1=>ax f r D (u.set i<|some x) H1):ax f (.a i e::r) D u H:=h
theorem dP(h:ae f e u H λY H1=>ax f r D u H1):ax f (.d e::r) D u H:=h
theorem di(h:ae f e u H D.r):ax f (.r e::r) D u H:=h
theorem qK{K:Frag}{b:Go}{Q:Go->Prop}(h:Q b):oS K (.b b) H Q:=h
theorem qL(h:aR f a u H λb H1=>g (!b) H1):aR f (.N a) u H g:=h
theorem sX(s:Sp)(a:f.fs j=s)(h:aP f as u H λvs H1=>s vs H1 (λx W=>oS f.K x W λb=>g b W) f.E):aR f (.l j as) u H g:=by
 subst a;show aP f as u H λvs H1=>f.fs j (vs++[]) H1 (λx W=>oS f.K x W λb=>g b W) f.E;have e:(fun(vs:ci)(H1:Hp)=>f.fs j (vs++[]) H1 (λx W=>oS f.K x W λb=>g b W) f.E)=λvs H1=>f.fs j vs H1 (λx W=>oS f.K x W λb=>g b W) f.E:=by
  funext vs H1;rw[Y3]
 rw[e];exact h
theorem xO(h:aR f a u H λc H1=>if c=true then g true H1 else aR f b u H1 g):aR f (.o [a,b]) u H g:=h
theorem xQ(h:aR f a u H λc H1=>if c=true then aR f b u H1 g else g false H1):aR f (.d [a,b]) u H g:=h
end
theorem AJ{K:Frag}{Q:ci->Hp->DL->Prop}{t:TE}{lo:Int}(A:n<=1000000)(P:Nat->ci->Hp->Prop)(l:P 0 [] H)(c:∀i N W,i<n->ar H W->P i N W->∀g:VK,(∀y a,ar W a->P (i+1) (N++[y]) a->g y a)->t (some (.i<|lo+i)::b_ u fv) W g)(f:∀N W p,ar H W->P n N W->W p=none->Q N W p):∃e:Nat->Nat->ci->Hp->Prop,(∃m,e 0 m [] H)/\∀i m N W,e i m N W->
   ((gH lo n).stop i W/\∀p,W p=none->Q N W p)\/
   ((gH lo n).go i W/\∀x a,(gH lo n).gQ i W x a->jF K none x a λz=>k_ none (z.map some++b_ u fv) a λb h=>
    if b=true then t (z.map some++b_ u fv) h λy w=>N.length<sizeLine/\∃d,d<m/\e (i+1) d (N++[y]) w else ∃d,d<m/\e (i+1) d N h):=by
 refine nT (λi m N W=>m=n - i/\i<=n/\N.length=i/\ar H W/\P i N W) (rZ _ O (Ww _) O (ar.refl _) l) ?_;rintro i m N W zq;obtain⟨rfl,B,r,s,p⟩:=ZE zq;by_cases D:i<n;refine .inr ⟨D,?_⟩;rintro x a ⟨rfl,rfl⟩;exact c i N _ D s p _ λy C j k=>qH (cQ ap) (n - (i+1)) ap ⟨O,D,by simp[r],s.trans j,k⟩;have o:i=n:=WT B (Zw D)
 subst o;exact .inl ⟨VL _,λq v=>f N _ q s p v⟩
inductive At where|K|P (c:Nat)|C (c:Nat)
 deriving DecidableEq
abbrev im:=List At
abbrev Z5:=am×am×List (am×am)
noncomputable def nb:im->Z5
 |[]=>([],[],[])
 |.P c::xs=>(c::(nb xs).1,(nb xs).2.1,(nb xs).2.2)
 |.C c::xs=>((nb xs).1,c::(nb xs).2.1,(nb xs).2.2)
 |.K::xs=>([],[],((nb xs).1,(nb xs).2.1)::(nb xs).2.2)
def ZA:am->im->Prop
 |l,[]=>l=[]
 |l,.P _::xs=>ZA l xs
 |[],.K::_=>False
 |_::l,.K::xs=>ZA l xs
 |[],.C _::_=>False
 |a::l,.C c::xs=>a=c/\ZA l xs
abbrev Sg:=Sum Nat Nat
noncomputable def res(i:Nat):im->List Sg
 |[]=>[]
 |.P c::xs=>.inr c::res i xs
 |.K::xs=>.inl i::res (i+1) xs
 |.C _::xs=>res (i+1) xs
theorem sY:∀(xs:im)(i j:Nat),Sum.inl j∈res i xs->i<=j
 |[],i,j,h=>by cases h
 |.P c::xs,i,j,h=>by
  rcases xW.mp h with z|z
  cases z;exact sY xs i j z
 |.K::xs,i,j,h=>by
  rcases xW.mp h with z|z
  cases z;exact VL _;have:=sY xs (i+1) j z;exact VP this
 |.C c::xs,i,j,h=>by have:=sY xs (i+1) j h;exact VP this
noncomputable def V1:am->im->am
 |l,[]=>[]
 |l,.P c::xs=>c::V1 l xs
 |[],.K::xs=>V1 [] xs
 |a::l,.K::xs=>a::V1 l xs
 |[],.C _::xs=>V1 [] xs
 |_::l,.C _::xs=>V1 l xs
inductive cD:im->im->im->Prop
 |n:cD [] [] []
 |p {c xs N z}:cD xs N z->cD xs (.P c::N) (.P c::z)
 |c {c xs N z}:cD xs N z->cD (.C c::xs) N (.C c::z)
 |kk {xs N z}:cD xs N z->cD (.K::xs) (.K::N) (.K::z)
 |kc {c xs N z}:cD xs N z->cD (.K::xs) (.C c::N) (.C c::z)
 |pk {c xs N z}:cD xs N z->cD (.P c::xs) (.K::N) (.P c::z)
 |pc {c xs N z}:cD xs N z->cD (.P c::xs) (.C c::N) z
noncomputable def sb(r:List Sg)(k:Nat):Sg->Sg
 |.inr c=>.inr c
 |.inl j=>r.getD (j - k) (.inr 0)
def sub(r:List Sg)(k:Nat)(t:List Sg):List Sg:=t.map (sb r k)
theorem AK(x:Sg)(r:List Sg)(k:Nat)(t:List Sg)(h:∀j,Sum.inl j∈t->k+1<=j):sub (x::r) k t=sub r (k+1) t:=by
 refine Xi λy a=>?_;cases y with
 |inr c=>rfl
 |inl j=>
  have:=h j a;simp only[sb];rw[show j - k=(j - (k+1))+1 by lia,List.getD_cons_succ]
theorem adv{xs N:im}(h:cD xs N z):∀(l:am)(i k:Nat),ZA l xs->ZA (V1 l xs) N->ZA l z/\V1 l z=V1 (V1 l xs) N/\res i z=sub (res i xs) k (res k N):=by
 induction h with
 |n=>intro l i k e f;exact⟨e,O,O⟩
 | @p c xs N z _ g=>
  intro l i k e f;obtain⟨a,b,d⟩:=g l i k e f;refine⟨a,?_,?_⟩;show c::V1 l z=c::V1 (V1 l xs) N;rw[b];show Sum.inr c::res i z=_;rw[d];rfl
 | @c c xs N z _ g=>
  intro l i k e f;cases l with
  |nil=>exact e.elim
  |cons a l=>
   obtain⟨rfl,e⟩:=e;obtain⟨q,o,m⟩:=g l (i+1) k e f;exact⟨⟨O,q⟩,o,m⟩
 | @kk xs N z _ g=>
  intro l i k e f;cases l with
  |nil=>exact e.elim
  |cons a l=>
   obtain⟨q,o,m⟩:=g l (i+1) (k+1) e f;refine⟨q,?_,?_⟩;show a::V1 l z=a::V1 (V1 l xs) N;rw[o];show Sum.inl i::res (i+1) z=sub (Sum.inl i::res (i+1) xs) k (Sum.inl k::res (k+1) N);rw[m];show _=sb (Sum.inl i::res (i+1) xs) k (Sum.inl k)::sub (Sum.inl i::res (i+1) xs) k (res (k+1) N);rw[AK _ _ _ _ λj r=>sY N (k+1) j r];simp only[sb];rw[Wg,List.getD_cons_zero]
 | @kc c xs N z _ g=>
  intro l i k e f;cases l with
  |nil=>exact e.elim
  |cons a l=>
   obtain⟨rfl,f⟩:=f;obtain⟨q,o,m⟩:=g l (i+1) (k+1) e f;refine⟨⟨O,q⟩,o,?_⟩;show res (i+1) z=sub (Sum.inl i::res (i+1) xs) k (res (k+1) N);rw[m,AK _ _ _ _ λj r=>sY N (k+1) j r]
 | @pk c xs N z _ g=>
  intro l i k e f;obtain⟨q,o,m⟩:=g l i (k+1) e f;refine⟨q,?_,?_⟩;show c::V1 l z=c::V1 (V1 l xs) N;rw[o];show Sum.inr c::res i z=sub (Sum.inr c::res i xs) k (Sum.inl k::res (k+1) N);rw[m];show _=sb (Sum.inr c::res i xs) k (Sum.inl k)::sub (Sum.inr c::res i xs) k (res (k+1) N);rw[AK _ _ _ _ λj r=>sY N (k+1) j r];simp only[sb];rw[Wg,List.getD_cons_zero]
 | @pc c xs N z _ g=>
  intro l i k e f;obtain⟨Y,f⟩:=f;obtain⟨q,o,m⟩:=g l i (k+1) e f;refine⟨q,o,?_⟩;show res i z=sub (Sum.inr c::res i xs) k (res (k+1) N);rw[m,AK _ _ _ _ λj r=>sY N (k+1) j r]
noncomputable def sw:At->At|.K=>.K|.P c=>.C c|.C c=>.P c
noncomputable def nO:Nat->am->am->List (am×am)->List Sg
 |i,p,q,[]=>p.map .inr
 |i,p,q,(b,a)::r=>p.map .inr++ .inl (i+q.length)::nO (i+q.length+1) b a r
theorem Vx(c:Nat):∀(r:List (am×am))(i:Nat)(p q:am),nO (i+1) p q r=nO i p (c::q) r
 |[],i,p,q=>O
 |(b,a)::r,i,p,q=>by
  simp only[nO,d_];rw[show i+1+q.length=i+(q.length+1) by lia]
theorem adx(c:Nat):∀(r:List (am×am))(i:Nat)(p q:am),nO i (c::p) q r=.inr c::nO i p q r
 |[],i,p,q=>O
 |(b,a)::r,i,p,q=>O
theorem xR:∀(xs:im)(i:Nat),res i xs=nO i (nb xs).1 (nb xs).2.1 (nb xs).2.2
 |[],i=>O
 |.P c::xs,i=>by
  show Sum.inr c::res i xs=nO i (c::(nb xs).1) _ _;rw[xR xs i,adx];rfl
 |.C c::xs,i=>by
  show res (i+1) xs=nO i (nb xs).1 (c::(nb xs).2.1) _;rw[xR xs<|i+1,Vx c];rfl
 |.K::xs,i=>by
  show Sum.inl i::res (i+1) xs=Sum.inl (i+0)::nO (i+0+1) _ _ _;rw[xR xs<|i+1];rfl
theorem ady{xs N:im}(h:nb xs=nb N)(i:Nat):res i xs=res i N:=by rw[xR,xR,h]
noncomputable def ki:am->am->List (am×am)->Z5->Z5
 |p,q,[],F=>(p++F.1,q++F.2.1,F.2.2)
 |p,q,(a,b)::r,F=>(p,q,((ki a b r F).1,(ki a b r F).2.1)::(ki a b r F).2.2)
theorem adz(c:Nat)(p q:am)(r:List (am×am))(F:Z5):ki (c::p) q r F=(c::(ki p q r F).1,(ki p q r F).2.1,(ki p q r F).2.2):=by
 cases r<;>rfl
theorem adA(c:Nat)(p q:am)(r:List (am×am))(F:Z5):ki p (c::q) r F=((ki p q r F).1,c::(ki p q r F).2.1,(ki p q r F).2.2):=by
 cases r<;>rfl
theorem o_:∀(xs N:im),nb (xs++N)=ki (nb xs).1 (nb xs).2.1 (nb xs).2.2 (nb N)
 |[],N=>O
 |.K::xs,N=>by
  simp only[hY,nb,o_ xs N];rfl
 |.P c::xs,N=>by
  simp only[hY,nb,o_ xs N,adz]
 |.C c::xs,N=>by
  simp only[hY,nb,o_ xs N,adA]
theorem Fs{xs b N:im}(h:nb xs=nb b)(a:nb N=nb e):nb (xs++N)=nb (b++e):=by rw[o_,o_,h,a]
theorem Ft:∀(p:am),nb (p.map .P)=(p,[],[])
 |[]=>O
 |c::p=>by simp only[AP,nb,Ft p]
theorem Fu:∀(p:am),nb (p.map .C)=([],p,[])
 |[]=>O
 |c::p=>by simp only[AP,nb,Fu p]
theorem adB(p q:am):nb (q.map .C++p.map .P)=nb (p.map .P++q.map .C):=by
 rw[o_,o_,Ft,Fu];simp[ki]
noncomputable def rK(n:Nat):im:=List.replicate n .K
theorem adC(n:Nat)(xs:im):nb (rK (n+1)++xs)=([],[],List.replicate n ([],[])++((nb xs).1,(nb xs).2.1)::(nb xs).2.2):=by
 induction n with
 |zero=>rfl
 |succ n i=>
  have e:rK (n+1+1)++xs=.K::(rK (n+1)++xs):=O;rw[e];simp only[nb,i];rfl
theorem AL:∀(a l:am)(xs:im),ZA (a++l) (rK a.length++xs)↔ZA l xs
 |[],l,xs=>No
 |c::a,l,xs=>AL a l xs
theorem AM:∀(a l:am)(xs:im),V1 (a++l) (rK a.length++xs)=a++V1 l xs
 |[],l,xs=>O
 |c::a,l,xs=>by
  show c::V1 (a++l) (rK a.length++xs)=_;rw[AM a l xs];rfl
theorem sZ:∀(s l:am)(xs:im),ZA l (s.map .P++xs)↔ZA l xs
 |[],l,xs=>No
 |c::s,l,xs=>sZ s l xs
theorem AN:∀(s l:am)(xs:im),V1 l (s.map .P++xs)=s++V1 l xs
 |[],l,xs=>O
 |c::s,l,xs=>by
  show c::V1 l (s.map .P++xs)=_;rw[AN s l xs];rfl
theorem Fv:∀(s l:am)(xs:im),ZA (s++l) (s.map .C++xs)↔ZA l xs
 |[],l,xs=>No
 |c::s,l,xs=>by
  show c=c/\ZA (s++l) (s.map .C++xs)↔_;rw[Fv s l xs];simp
theorem AO:∀(s l:am)(xs:im),V1 (s++l) (s.map .C++xs)=V1 l xs
 |[],l,xs=>O
 |c::s,l,xs=>AO s l xs
inductive c_:im->im->im->im->Prop
 |n:c_ [] [] [] []
 |p1 {c xs N o t}:c_ xs N o t->c_ (.P c::xs) N (.P c::o) (.K::t)
 |p2 {c xs N o t}:c_ xs N o t->c_ xs (.P c::N) (.K::o) (.P c::t)
 |kk {xs N o t}:c_ xs N o t->c_ (.K::xs) (.K::N) (.K::o) (.K::t)
 |kc {c xs N o t}:c_ xs N o t->c_ (.K::xs) (.C c::N) o (.C c::t)
 |ck {c xs N o t}:c_ xs N o t->c_ (.C c::xs) (.K::N) (.C c::o) t
 |cc {c xs N o t}:c_ xs N o t->c_ (.C c::xs) (.C c::N) o t
theorem c_.fits{xs N o:im}(h:c_ xs N o t):∀l,ZA l xs->ZA l N->ZA (V1 l xs) t/\ZA (V1 l N) o/\V1 (V1 l xs) t=V1 (V1 l N) o:=by
 induction h with
 |n=>intro l e f;cases e;exact⟨O,O,O⟩
 | @p1 c xs N o t _ i=>
  intro l e f;obtain⟨a,b,d⟩:=i l e f;exact⟨a,b,by show c::_=c::_;rw[d]⟩
 | @p2 c xs N o t _ i=>
  intro l e f;obtain⟨a,b,d⟩:=i l e f;exact⟨a,b,by show c::_=c::_;rw[d]⟩
 | @kk xs N o t _ i=>
  intro l e f;cases l with
  |nil=>exact e.elim
  |cons x l=>
   obtain⟨a,b,d⟩:=i l e f;exact⟨a,b,by show x::_=x::_;rw[d]⟩
 | @kc c xs N o t _ i=>
  intro l e f;cases l with
  |nil=>exact e.elim
  |cons x l=>
   obtain⟨rfl,f⟩:=f;obtain⟨a,b,d⟩:=i l e f;exact⟨⟨O,a⟩,b,d⟩
 | @ck c xs N o t _ i=>
  intro l e f;cases l with
  |nil=>exact e.elim
  |cons x l=>
   obtain⟨rfl,e⟩:=e;obtain⟨a,b,d⟩:=i l e f;exact⟨a,⟨O,b⟩,d⟩
 | @cc c xs N o t _ i=>
  intro l e f;cases l with
  |nil=>exact e.elim
  |cons x l=>
   obtain⟨rfl,e⟩:=e;obtain⟨Y,f⟩:=f;exact i l e f
end
variable{ps G':bn}{au:List am}{es gZ:ci}{S:PySem.Addr}
section
open PyProof.Rows
def ba:Pt->im
 |.k n=>rK n.toNat
 |.p s=>s.cps.toList.map .P
 |.c s=>s.cps.toList.map .C
def ak(ps:bn):im:=(ps.map ba).flatten
theorem cJ(p:Pt)(ps:bn):ak (p::ps)=ba p++ak ps:=O
theorem g7(ps q:bn):ak (ps++q)=ak ps++ak q:=by simp[ak]
theorem g8(p:Pt):ak [p]=ba p:=by simp[ak]
def ir:Pt->Prop|.k n=>0<=n|_=>True
theorem NX(h:fW p):ir p:=by cases p<;>first|exact h|trivial
theorem pb(h:aZ p):ir p:=by
 cases p with
 |k n=>exact Int.le_trans (VI _) (show(1:Int)<=n from h)
 |_=>trivial
theorem ym.fits(h:ym l ps r):ZA l (ak ps)/\V1 l (ak ps)=r:=by
 induction h with
 |N=>exact⟨O,O⟩
 | @k a l r n ps e _ i=>
  rw[cJ];have b:ba (.k n)=rK a.length:=by show rK n.toNat=_;rw[e];simp
  rw[b];exact⟨(AL a l _).mpr i.1,by rw[AM,i.2]⟩
 | @t s l r ps _ i=>
  rw[cJ];exact⟨(sZ _ l _).mpr i.1,by show V1 l (s.cps.toList.map .P++_)=_;rw[AN,i.2]⟩
 | @C s l r ps _ i=>
  rw[cJ];exact⟨(Fv _ l _).mpr i.1,by show V1 _ (s.cps.toList.map .C++_)=_;rw[AO,i.2]⟩
theorem NY:∀(n:Nat)(l:am)(xs:im),ZA l (rK n++xs)->∃a b,l=a++b/\a.length=n
 | 0,l,xs,h=>⟨[],l,O,O⟩
 |n+1,[],xs,h=>(show False from h).elim
 |n+1,c::l,xs,h=>by
  obtain⟨a,b,e,d⟩:=NY n l xs h;exact⟨c::a,b,e▸O,by simp[d]⟩
theorem xS:∀(s l:am)(xs:im),ZA l (s.map .C++xs)->∃b,l=s++b
 |[],l,xs,h=>⟨l,O⟩
 |c::s,[],xs,h=>(show False from h).elim
 |c::s,d::l,xs,h=>by
  obtain⟨e,h⟩:=(show d=c/\ZA l (s.map .C++xs) from h);obtain⟨b,a⟩:=xS s l xs h;exact⟨b,by rw[e,a];rfl⟩
theorem ve:∀(ps:bn)(l:am),(∀p∈ps,ir p)->ZA l (ak ps)->ym l ps (V1 l<|ak ps)
 |[],l,_,h=>by
  have:=h;subst this;exact .N
 |.k n::ps,l,d,h=>by
  rw[cJ] at h⊢;obtain⟨a,b,rfl,f⟩:=NY _ _ _ h;have q:0<=n:=d _ (.head _);have g:ba (.k n)=rK a.length:=by show rK n.toNat=_;rw[f]
  rw[g] at h⊢;rw[AM];exact .k ap<|ve ps b (λp e=>d p<|.tail _ e)<|(AL a b _).mp h
 |.p s::ps,l,d,h=>by
  show ym l _ (V1 l<|s.cps.toList.map .P++_);rw[AN];exact .t<|ve ps l (λp e=>d p<|.tail _ e)<|(sZ _ l _).mp h
 |.c s::ps,l,d,h=>by
  obtain⟨b,rfl⟩:=xS _ _ _ h;show ym _ _ (V1 _<|s.cps.toList.map .C++_);rw[AO];exact .C<|ve ps b (λp e=>d p<|.tail _ e)<|(Fv _ b _).mp h
def mE(s:NS):im:=ak s.1++((Wi s.2.1).cps.toList.map .P++(Wi s.2.2).cps.toList.map .C)
theorem NZ(m:Str->Pt)(f:Nat->At)(h:∀s,ba (m s)=s.cps.toList.map f)(x:Str):ak (txt m x)=x.cps.toList.map f:=by
 by_cases a:x="";rw[a];rfl;rw[lH a,g8,h]
theorem N1(h:bn)(p c:bi):ak (d4 h p c)=mE (h,p,c):=by
 unfold d4 mE;rw[g7,g7,NZ .p .P<|λY=>O,NZ .c .C<|λY=>O,VD]
theorem N2(m n:Nat):rK m++rK n=rK (m+n):=by unfold rK;rw[List.replicate_append_replicate]
theorem adD(c:bn)(n:Int)(d:0<=n)(h:∀p∈c,ir p):ak (fg c n)=ak c++rK n.toNat:=by
 unfold fg;split;rename_i m e;have a:=List.mem_of_getLast? e;have A:0<=m:=h _ a;have b:c=c.dropLast++[.k m]:=by
  have i:c≠ []:=by intro z;rw[z] at a;cases a
  rw[List.getLast?_eq_some_getLast i] at e;rw[<-(WV e),List.dropLast_concat_getLast]
 conv=>rhs;rw[b]
 rw[g7,g7,g8,g8,VD];show _++rK (n+m).toNat=_++(rK m.toNat++rK n.toNat);rw[N2,show(n+m).toNat=m.toNat+n.toNat by lia];rw[g7,g8];rfl
theorem N3(h:∀s,ir<|mk s)(x:Str):∀p∈txt mk x,ir p:=by
 intro p a;unfold txt at a;split at a;cases a;rw[Yd.mp a];exact h x
theorem N4(p c:bi)(h:∀p∈ch,ir p):∀q∈d4 ch p c,ir q:=by
 intro q a;rcases X0.mp a with z|z
 rcases X0.mp z with z|z
 exact h q z;exact N3 (mk:=.p) (λY=>trivial) _ q z;exact N3 (mk:=.c) (λY=>trivial) _ q z
theorem adE(b:0<=n)(h:∀p∈c,ir p):∀q∈fg c n,ir q:=by
 intro q a;unfold fg at a;split at a;rename_i m e;rcases X0.mp a with z|z
 exact h q ((List.dropLast_sublist c).subset z);rw[Yd.mp z];have A:0<=m:=h _ (List.mem_of_getLast? e);show 0<=n+m;lia;rcases X0.mp a with z|z
 exact h q z;rw[Yd.mp z];exact b
theorem Qb(s:NS)(p:Pt)(f:ir p)(h:∀q∈s.1,ir q):nb (mE<|dE s p)=nb (mE s++ba p)/\∀q∈ (dE s p).1,ir q:=by
 obtain⟨b,u,a⟩:=s;cases p with
 |p x=>
  refine⟨?_,h⟩;show nb (ak b++((Wi<|u++[x]).cps.toList.map .P++(Wi a).cps.toList.map .C))=nb (ak b++((Wi u).cps.toList.map .P++(Wi a).cps.toList.map .C)++x.cps.toList.map .P);rw[qG,ZC,Z3,VD,VD,VD];exact Fs O<|Fs O ((adB _ _).symm)
 |c x=>
  refine⟨?_,h⟩;show nb (ak b++((Wi u).cps.toList.map .P++(Wi<|a++[x]).cps.toList.map .C))=nb (ak b++((Wi u).cps.toList.map .P++(Wi a).cps.toList.map .C)++x.cps.toList.map .C);rw[qG,ZC,Z3,VD,VD]
 |k n=>
  have E:=f;by_cases d:0<n;have e:dE (b,u,a) (.k n)=(fg (d4 b u a) n,[],[]):=Id d;rw[e];refine⟨?_,adE E<|N4 _ _ h⟩;show nb (ak (fg (d4 b u a) n)++[])=nb (mE (b,u,a)++rK n.toNat);rw[Y3,adD _ _ E<|N4 _ _ h,N1];have e:dE (b,u,a) (.k n)=(b,u,a):=Ix d;rw[e];refine⟨?_,h⟩;show _=nb (mE (b,u,a)++rK n.toNat);rw[show n.toNat=0 by lia];show _=nb (_++[]);rw[Y3]
theorem N5:∀(ps:bn)(s:NS),(∀p∈ps,ir p)->(∀q∈s.1,ir q)->nb (mE<|ps.foldl dE s)=nb (mE s++ak ps)
 |[],s,_,_=>by show nb (mE s)=nb (mE s++[]);rw[Y3]
 |p::ps,s,h,c=>by
  obtain⟨a,b⟩:=Qb s p (h p<|.head _) c;show nb (mE<|ps.foldl dE<|dE s p)=_;rw[N5 ps _ (λq d=>h q<|.tail _ d) b,cJ,<-VD];exact Fs a O
theorem s_(ps:bn)(h:∀p∈ps,ir p):nb (ak<|jr ps)=nb (ak ps):=by
 unfold jr;rw[N1];exact (N5 ps ([],[],[]) h nofun)
theorem kj{s:Str}(h:s≠""):∃c r,s.cps.toList=c::r:=by
 cases e:s.cps.toList with
 |nil=>exact absurd (iO (e▸O)) h
 |cons c r=>exact⟨c,r,O⟩
theorem vf(s:Str)(xs:im):nb (s.cps.toList.map .P++xs)=(s.cps.toList++(nb xs).1,(nb xs).2.1,(nb xs).2.2):=by
 rw[o_,Ft];rfl
theorem tj(s:Str)(xs:im):nb (s.cps.toList.map .C++xs)=((nb xs).1,s.cps.toList++(nb xs).2.1,(nb xs).2.2):=by
 rw[o_,Fu];rfl
theorem tm{n:Int}(h:1<=n)(xs:im):nb (rK n.toNat++xs)=([],[],List.replicate (n.toNat - 1) ([],[])++((nb xs).1,(nb xs).2.1)::(nb xs).2.2):=by
 obtain⟨m,e⟩:∃m,n.toNat=m+1:=⟨n.toNat - 1,ap⟩;rw[e,adC];rfl
theorem N6(h:nJ "put" w=true):w≠"put"/\w≠"cut":=by
 refine⟨λz=>?_,λz=>?_⟩ <;>subst z<;>exact absurd h bc
theorem adG(h:nJ "cut" w=true):w≠"cut":=by
 intro z;subst z;exact absurd h bc
theorem adH(h:nJ "keep" w=true):w≠"keep":=by
 intro z;subst z;exact absurd h bc
theorem qM{ps:bn}{w:Str}(h:YU w ps=true)(o:∀p∈ps,aZ p)(d:w="put"\/w="cut"):(nb<|ak ps).1=[]:=by
 cases ps with
 |nil=>rfl
 |cons p ps=>
  simp only[YU,Zu] at h;have f:=o p (.head _);cases p with
  |k n=>show(nb<|rK n.toNat++_).1=_;rw[tm f]
  |p s=>
   obtain⟨a,b⟩:=N6 h.1;rcases d with z|z
   cases a z;cases b z
  |c s=>
   show(nb<|s.cps.toList.map .C++_).1=_;rw[tj];exact qM h.2 (λq e=>o q<|.tail _ e)<|.inr O
theorem Fx(h:YU "cut" ps=true)(o:∀p∈ps,aZ p):(nb<|ak ps).2.1=[]:=by
 cases ps with
 |nil=>rfl
 |cons p ps=>
  simp only[YU,Zu] at h;have a:=o p (.head _);cases p with
  |k n=>show(nb<|rK n.toNat++_).2.1=_;rw[tm a]
  |p s=>exact absurd O (N6 h.1).2
  |c s=>exact absurd O (adG h.1)
theorem N7(a:YU "keep" ps=true)(o:∀p∈ps,aZ p)(d:(nb<|ak ps).1=[])(b:(nb<|ak ps).2.1=[]):ps=[]:=by
 cases ps with
 |nil=>rfl
 |cons p ps=>
  simp only[YU,Zu] at a;have h:=o p (.head _);cases p with
  |k n=>exact absurd O (adH a.1)
  |p s=>
   obtain⟨c,r,e⟩:=kj h.2;have f:(nb<|s.cps.toList.map .P++ak ps).1=[]:=d;rw[e] at f;cases f
  |c s=>
   obtain⟨c,r,e⟩:=kj h.2;have m:(nb<|s.cps.toList.map .C++ak ps).2.1=[]:=b;rw[e] at m;cases m
theorem N8{a b:am×am}{r:List (am×am)}:∀{m n:Nat},List.replicate m (([],[]):am×am)++a::r=List.replicate n ([],[])++b::s->(m=n/\a=b/\r=s)\/(m<n/\a=([],[])/\r≠ [])\/(n<m/\b=([],[])/\s≠ [])
 | 0,0,h=>by
  injection h with d c
  exact .inl ⟨O,d,c⟩
 | 0,n+1,h=>by
  injection h with d c
  exact .inr<|.inl ⟨(Wr _),d,by rw[c];simp⟩
 |m+1,0,h=>by
  injection h with d c
  exact .inr<|.inr ⟨(Wr _),d.symm,by rw[<-c];simp⟩
 |m+1,n+1,h=>by
  injection h with _ c
  rcases N8 c with⟨x,y⟩|⟨x,y⟩|⟨x,y⟩
  exact .inl ⟨ap,y⟩;exact .inr (.inl ⟨(Er x _),y⟩);exact .inr (.inr ⟨(Er x _),y⟩)
theorem N9(q:Pt)(b:bn)(o:∀p∈q::b,aZ p)(h:([],[],[])=nb (ak (q::b))):False:=by
 have d:=o q (.head _);have f:=h;cases q with
 |k n=>
  have a:([],[],[])=nb (rK n.toNat++ak b):=f;rw[tm d] at a;have:=IN (λx=>x.2.2) a;simp at this
 |p s=>
  obtain⟨c,r,e⟩:=kj d.2;have a:([],[],[])=nb (s.cps.toList.map .P++ak b):=f;rw[vf,e] at a;have:=IN (λx=>x.1) a;simp at this
 |c s=>
  obtain⟨c,r,e⟩:=kj d.2;have a:([],[],[])=nb (s.cps.toList.map .C++ak b):=f;rw[tj,e] at a;have:=IN (λx=>x.2.1) a;simp at this
theorem N_:∀(ps b:bn)(w v:Str),YU w ps=true->YU v b=true->(∀p∈ps,aZ p)->(∀p∈b,aZ p)->nb (ak ps)=nb (ak b)->ps=b
 |[],[],_,_,_,_,_,_,_=>O
 |[],q::b,_,_,_,_,_,A,h=>(N9 q b A h).elim
 |p::ps,[],_,_,_,_,A,_,h=>(N9 p ps A h.symm).elim
 |p::ps,q::b,w,v,z,f,A,J,h=>by
  simp only[YU,Zu] at z f;have E:=A p (.head _);have j:=J q (.head _);have T:∀x∈ps,aZ x:=λx H=>A x (.tail _ H);have i:∀x∈b,aZ x:=λx H=>J x (.tail _ H);rw[cJ,cJ] at h;have l:p=q->nb (ak ps)=nb (ak b)->p::ps=q::b:=λF g=>by
   rw[F,N_ ps b p.word q.word z.2 f.2 T i g]
  cases p with
  |k n=>
   have d:nb (rK n.toNat++ak ps)=nb (ba q++ak b):=h;rw[tm E] at d;cases q with
   |k m=>
    have a:_=nb (rK m.toNat++ak b):=d;rw[tm j] at a;have L:=IN (λx=>x.2.2) a;have N:(1:Int)<=n:=E;have R:(1:Int)<=m:=j;rcases N8 L with⟨F,g,o⟩|⟨F,g,o⟩|⟨F,g,o⟩
    refine l (by congr 1;lia) ?_;have u:=IN Prod.fst g;have t:=IN Prod.snd g;simp only at u t;exact Prod.ext u<|Prod.ext t o;have u:=IN Prod.fst g;have t:=IN Prod.snd g;have:=N7 z.2 T u t;rw[this] at o;exact absurd O o;have u:=IN Prod.fst g;have t:=IN Prod.snd g;have:=N7 f.2 i u t;rw[this] at o;exact absurd O o
   |p s=>
    exfalso;obtain⟨c,r,e⟩:=kj j.2;have a:_=nb (s.cps.toList.map .P++ak b):=d;rw[vf,e] at a;have:=IN (λx=>x.1) a;simp at this
   |c s=>
    exfalso;obtain⟨c,r,e⟩:=kj j.2;have a:_=nb (s.cps.toList.map .C++ak b):=d;rw[tj,e] at a;have:=IN (λx=>x.2.1) a;simp at this
  |p x=>
   obtain⟨M,K,G⟩:=kj E.2;have d:nb (x.cps.toList.map .P++ak ps)=nb (ba q++ak b):=h;rw[vf] at d;have y:=qM z.2 T (.inl O);cases q with
   |k m=>
    exfalso;have a:_=nb (rK m.toNat++ak b):=d;rw[tm j,G] at a;have:=IN (λx=>x.1) a;simp at this
   |p s=>
    have a:_=nb (s.cps.toList.map .P++ak b):=d;rw[vf,y,qM f.2 i<|.inl O,Y3,Y3] at a;have D:=IN (λx=>x.1) a;have B:=IN (λx=>x.2) a;simp only at D B;refine l (by rw[iO D]) ?_;exact Prod.ext (by rw[y,qM f.2 i<|.inl O]) B
   |c s=>
    exfalso;have a:_=nb (s.cps.toList.map .C++ak b):=d;rw[tj,qM f.2 i<|.inr O,G] at a;have:=IN (λx=>x.1) a;simp at this
  |c x=>
   obtain⟨M,K,G⟩:=kj E.2;have d:nb (x.cps.toList.map .C++ak ps)=nb (ba q++ak b):=h;have y:=qM z.2 T (.inr O);have I:=Fx z.2 T;rw[tj] at d;cases q with
   |k m=>
    exfalso;have a:_=nb (rK m.toNat++ak b):=d;rw[tm j,G] at a;have:=IN (λx=>x.2.1) a;simp at this
   |p s=>
    exfalso;obtain⟨c,r,e⟩:=kj j.2;have a:_=nb (s.cps.toList.map .P++ak b):=d;rw[vf,y,e] at a;have:=IN (λx=>x.1) a;simp at this
   |c s=>
    have a:_=nb (s.cps.toList.map .C++ak b):=d;rw[tj,y,I,qM f.2 i<|.inr O,Fx f.2 i,Y3,Y3] at a;have D:=IN (λx=>x.2.1) a;have B:=IN (λx=>x.2.2) a;simp only at D B;refine l (by rw[iO D]) ?_;exact Prod.ext (by rw[y,qM f.2 i<|.inr O])<|Prod.ext (by rw[I,Fx f.2 i]) B
theorem adI{T:Ty}{Q:Go->Prop}(h:cf T v H P)(i:∀b,P b->Q b):cf T v H Q:=by
 cases v with
 |r a=>
  unfold cf at h⊢;simp only at h⊢;split at h
  all_goals first|exact i _ h|exact h.elim
 |a=>exact i _ h
 |b b=>exact i _ h
 |i Y=>exact i _ h
 |s Y=>exact i _ h
 |_=>exact False.elim h
theorem adJ{T:Ty}(h:cf T v H P)(s:ar H Z):cf T v Z P:=by
 cases v with
 |r a=>
  unfold cf at h⊢;simp only at h⊢;cases e:H a with
  |none=>rw[e] at h;cases h
  |some o=>rw[e] at h;rw[s _ _ e];exact h
 |a=>exact h
 |b b=>exact h
 |i Y=>exact h
 |s Y=>exact h
 |_=>exact False.elim h
def lJ(T:Ty)(v:V)(H:Hp):Prop:=cf T v H λb=>b=false
theorem lJ.same{T:Ty}(h:lJ T v H)(s:ar H Z):lJ T v Z:=adJ h s
theorem lJ.go{T:Ty}{Q:Go->Prop}(h:lJ T v H)(q:Q false):cf T v H Q:=adI h λb e=>e▸q
noncomputable def TW(x:Str):Go:=x.cps.toList.all λc=>SG.cps.contains c
theorem Oa{a:Type}(p:a->Go):∀l:List a,l.all p=false->(l.takeWhile p).length<l.length
 |[],h=>by cases h
 |c::l,h=>by
  rw[List.takeWhile_cons];cases b:p c with
  |false=>simp
  |true=>
   rw[ZD,b] at h;have:=Oa p l h;simp;exact this
theorem adL(x y:Str)(h:(x.cps.toList.all λc=>y.cps.contains c)=false):Txt.lstripChars x y≠"":=by
 have l:=Oa _ _ h;have f:stripLo y.cps.contains true x=(x.cps.toList.takeWhile y.cps.contains).length:=by
  unfold stripLo;rw[Id O]
 have e:∀n,stripHi y.cps.contains false x n=x.length:=λn=>O;intro z;have a:=IN Str.length z;unfold Txt.lstripChars Txt.stripBy stripSame stripped at a;have d:x.cps.size=x.cps.toList.length:=O;split at a;have:x.cps.size=0:=a;exact (XH _ (YY l (VN this))).elim;have b:(x.cps.extract (x.cps.toList.takeWhile y.cps.contains).length x.cps.size).size=0:=a;rw[Array.size_extract] at b;lia
def xT(v:V)(H:Hp):Prop:=(∃x,v=.s x/\x.length<=1000000/\TW x=false)\/lJ .s v H
theorem xT.same(h:xT v H)(s:ar H Z):xT v Z:=by
 rcases h with h|h
 exact .inl h;exact .inr (h.same s)
def tw(v:V)(H:Hp):Prop:=(∃b,v=.b b)\/lJ .i v H
theorem tw.same(h:tw v H)(s:ar H Z):tw v Z:=by
 rcases h with h|h
 exact .inl h;exact .inr (h.same s)
inductive qN(vs:ci)(H:Hp)(Q:VK)(E:XK):Prop|i(v:_)(_:vs=[v])(_:((∃i,v=.i i/\Q (.b true) H)\/(tw v H/\Q (.b false) H)))
theorem adM{K:Frag}:bS (qN) (λE=>bI K E) Mz oX:=by
 intro vs H Q E h;obtain⟨v,rfl,⟨i,rfl,q⟩|⟨⟨b,rfl⟩|n,q⟩⟩:=h;exact⟨_,O,O,_,O,gX (nW _ O O q)⟩;exact⟨_,O,O,_,O,gX (nW _ O O q)⟩;exact nW _ O O (n.go (nT _ O (jg q)))
inductive Ob(vs:ci)(H:Hp)(Q:VK)(E:XK):Prop|i(v:_)(_:vs=[v])(_:((∃x,v=.s x/\good x/\Q (.b true) H)\/(xT v H/\Q (.b false) H)))
theorem adN{K:Frag}:bS (Ob) (λE=>bW K E) EO oX:=by
 intro vs H Q E h;obtain⟨v,rfl,⟨x,rfl,a,q⟩|⟨⟨x,rfl,l,a⟩|n,q⟩⟩:=h;exact acp _ _ _ _ ⟨x,O,a,q⟩;refine⟨_,O,O,_,O,gX ⟨_,O,O,cI l,?_⟩⟩;show Q (.b<|false ^^ decide (V.s (Txt.lstripChars x SG)=V.s "")) H;rw[VH<|λz=>adL x SG a ap];exact q;exact nW _ O O (n.go (nT _ O (jg q)))
inductive Oc(K:Frag)(vs:ci)(H:Hp)(Q:VK)(E:XK):Prop|i(v p xs:_)(_:vs=[v,.r p])(_:aB K H p xs)(_:xs.all je=true)(_:((∃w,v=.s w/\Q (.b<|fD (.s w) xs) H)\/(lJ .s v H/\Q (.b false) H)))
theorem adO{K:Frag}:bS (Oc K) (λE=>bI K E) EN EM:=by
 intro vs H Q E h;obtain⟨v,p,xs,rfl,a,f,⟨w,rfl,q⟩|⟨n,q⟩⟩:=h;exact acr _ _ _ _ ⟨w,p,xs,O,a,f,q⟩;exact nW _ O O (n.go (nT _ O (jg q)))
def adP(v:V)(H:Hp):Prop:=lJ .t v H\/∃a xs,v=.r a/\H a=some (.t xs)/\xs.length<=1000000/\(xs.length≠2\/∃w t,xs=[w,t]/\
 (lJ .s w H\/(∃s,w=.s s/\s≠"keep"/\s≠"cut"/\s≠"put")\/(w=.s "keep"/\(tw t H\/∃n,t=.i n/\n<1))\/((w=.s "cut"\/w=.s "put")/\(xT t H\/t=.s ""))))
abbrev AS(K:Frag):v4:=[("is_word",Oc K),("is_whole",qN),("is_text",Ob)]
inductive Od(vs:ci)(H:Hp)(Q:VK)(E:XK):Prop|i(v:_)(_:vs=[v])(_:((∃p,jO H v p/\aZ p/\∀Z,ar H Z->Q (.b true) Z)\/(adP v H/\∀Z,ar H Z->Q (.b false) Z)))
theorem Oe(s t:Str):fD (.s s) [.s t]=(t==s):=by
 show(jf (.s t) (.s s)||false)=_;rw[YO];rfl
abbrev fI(K:Frag)(E:XK):bu:=aH K (AS K) [] (E:=E)
theorem adQ{K:Frag}:bS (Od) (λE=>fI K E) Aq oX:=by
 intro vs H Q E h;have x:∀(a:DL)(w t:V)(N:VK)(H1:Hp)(u:St),u[0]?=some (some<|.r a)->H1 a=some (.t [w,t])->
   (∀(I:DL) W,ar H1 W->∀b:Go,(b=true->w=.s "cut"\/w=.s "put")->(b=false->w≠ .s "cut"/\w≠ .s "put")->N (.b b) W)->(lJ .s w H1\/∃s,w=.s s)->
   ae (fI K E) (.l 0 [(.i (.v 0)<|.c<|.i 0),(.T [(.c<|.s "cut"),(.c<|.s "put")])]) u H1 N:=by
  intro a w t N H1 u h0 j q g;refine nT _ h0 (.inr<|.inl ⟨_,_,_,_,O,O,aB.of j,O,eF,λt ht=>?_⟩);have f:=Xq (o:=.t [V.s "cut",V.s "put"]) ht;refine⟨w,t,_,O,aB.of aj,O,?_⟩;rcases g with g|⟨s,rfl⟩
  refine .inr ⟨g.same f,q t _ f false (λz=>by cases z) λ_=>⟨?_,?_⟩⟩;rintro rfl;cases (show true=false from g);rintro rfl;cases (show true=false from g);refine .inl (nT s O (q t _ f _ (λz=>?_) λz=>?_));have m:((Str.ofString "cut"==s)||((Str.ofString "put"==s)||false))=true:=z;simp only[YO,Bool.or_eq_true,Y4] at m;rcases m with m|m<;>subst m
  exact .inl O;exact .inr O;have m:((Str.ofString "cut"==s)||((Str.ofString "put"==s)||false))=false:=z;simp only[YO,Bool.or_eq_false_iff,beq_eq_false_iff_ne] at m;exact⟨λy=>m.1 (by injection y with y;exact y.symm),λy=>m.2 (by injection y with y;exact y.symm)⟩
 obtain⟨v,rfl,⟨p,⟨a,rfl,j⟩,B,q⟩|⟨Y|⟨a,xs,rfl,j,hl,d⟩,q⟩⟩:=h;refine nW _ O O (M_ j (nT _ O (.inr (pT _ (aB.of j) _ O ?_))));refine nT _ O (.inr<|.inl ⟨_,_,_,_,O,O,aB.of j,O,eE,λA M=>?_⟩);have e:=Xq (o:=.t [V.s "keep"]) M;refine⟨.s p.word,A,[.s "keep"],O,aB.of aj,O,.inl (nT p.word O ?_)⟩;have Z:=e _ _ j;generalize upd H A (.t [V.s "keep"])=H1 at e Z;have C:∀(s:Str),good s->s≠""->H1 a=some (.t [.s p.word,.s s])->p.word="put"\/p.word="cut"->ax (fI K E) (Aq.drop 2) (Dn Q) (XF oX [.r a]) H1:=by
  intro s gs ns X g;refine x a (.s p.word) (.s s) _ H1 _ O X (λI W f b P U=>?_)<|.inr ⟨_,O⟩;have D:b=true:=by
   cases b with
   |true=>rfl
   |false=>
    obtain⟨G,F⟩:=U O;rcases g with z|z
    exact absurd (IN V.s z) F;exact absurd (IN V.s z) G
  subst D;have AV:=f _ _ X;refine nT _ O (gX (nT _ O (.inr<|.inl ⟨_,_,_,_,O,O,aB.of AV,O,.s s,O,.inl ⟨s,O,gs,_,O,?_⟩⟩)));refine gX (nT _ O (.inr<|.inl ⟨_,_,_,_,O,O,aB.of AV,O,?_⟩));show Q (.b<|true ^^ decide (V.s s=V.s "")) _;rw[VH<|λz=>ns (by injection z)];exact q _<|e.trans f
 cases p with
 |k n=>
  refine nT _ O (.inr<|.inl ⟨_,_,_,_,O,O,aB.of Z,O,.i n,O,.inl ⟨n,O,_,O,?_⟩⟩);refine gX (nT _ O (.inr<|.inl ⟨_,_,_,_,O,O,aB.of Z,O,trivial,?_⟩));show Q (.b<|decide<|1<=n) H1;rw[Z2 (show(1:Int)<=n from B)];exact q _ e
 |p s=>
  exact C s B.1 B.2 Z<|.inl O
 |c s=>
  exact C s B.1 B.2 Z<|.inr O
 exact nW _ O O (Y.go<|q _<|ar.refl _);refine nW _ O O (M_ j (nT _ O (.inr (pT _ (aB.of j) _ O ?_))));show if (true ^^ decide (V.i (xs.length:Int)=V.i 2))=true then _ else _
 rcases d with d|⟨w,t,rfl,d⟩
 rw[VH<|λz=>d (by injection z with z;lia)];exact q _<|ar.refl _;refine nT _ O (.inr<|.inl ⟨_,_,_,_,O,O,aB.of j,O,eE,λA M=>?_⟩);have e:=Xq (o:=.t [V.s "keep"]) M;refine⟨w,A,[.s "keep"],O,aB.of aj,O,?_⟩;have Z:=e _ _ j;generalize upd H A (.t [V.s "keep"])=H1 at e Z;have R:(lJ .s w H1\/∃s,w=.s s)->w≠ .s "cut"->w≠ .s "put"->ax (fI K E) (Aq.drop 2) (Dn Q) (XF oX [.r a]) H1:=by
  intro g L J;refine x a w t _ H1 _ O Z (λI W f b P U=>?_) g;have D:b=false:=by
   cases b with
   |false=>rfl
   |true=>rcases P rfl with z|z;exact absurd z L;exact absurd z J
  subst D;exact nT _ O (jg<|q _<|e.trans f)
 rcases d with d|⟨s,rfl,n0,L,J⟩|⟨rfl,d⟩|⟨g,d⟩
 refine .inr ⟨d.same e,R (.inl<|d.same e) ?_ ?_⟩;rintro rfl;cases (show true=false from d);rintro rfl;cases (show true=false from d);refine .inl (nT s O ?_);rw[Oe,beq_eq_false_iff_ne.mpr<|KF n0];exact R (.inr (o3 s O)) (λz=>L (by injection z))<|λz=>J (by injection z);refine .inl (nT _ O ?_);rw[show fD (.s "keep") [.s "keep"]=true by decide];refine nT _ O (.inr<|.inl ⟨_,_,_,_,O,O,aB.of Z,O,t,O,?_⟩);rcases d with d|⟨n,rfl,Y⟩
 exact .inr (qH (d.same e) _ O (jg<|q _ e));refine .inl (pT n O _ O (gX (nT _ O (.inr<|.inl ⟨_,_,_,_,O,O,aB.of Z,O,trivial,?_⟩))));show Q (.b<|decide<|1<=n) H1;rw[VH ap];exact q _ e;have AW:∃s,w=.s s/\(Str.ofString "keep"==s)=false:=by
  rcases g with rfl|rfl
  exact nT _ O bc;exact nT _ O bc
 obtain⟨s,rfl,hk⟩:=AW;refine .inl (nT s O ?_);rw[Oe,hk];refine x a (.s s) t _ H1 _ O Z (λI W f b P U=>?_)<|.inr ⟨s,O⟩;have D:b=true:=by
  cases b with
  |true=>rfl
  |false=>
   obtain⟨G,F⟩:=U O;rcases g with z|z
   exact absurd z G;exact absurd z F
 subst D;have S:=f _ _ Z;refine nT _ O (gX (nT _ O (.inr<|.inl ⟨_,_,_,_,O,O,aB.of S,O,t,O,?_⟩)));rcases d with d|rfl
 exact .inr (qH (d.same<|e.trans f) _ O (jg<|q _<|e.trans f));refine .inl (rP _ O ⟨bc,λc hc=>by cases hc⟩ _ O (gX (nT _ O (.inr<|.inl ⟨_,_,_,_,O,O,aB.of S,O,?_⟩))));exact q _<|e.trans f
theorem adR(h:EX vs H Q E):Od vs H Q E:=by
 obtain⟨v,p,rfl,a,o,q⟩:=h;exact⟨_,O,.inl ⟨p,a,o,q⟩⟩
theorem Paired.app:∀{xs b:List c}{N e:List β},Paired R xs N->Paired R b e->Paired R (xs++b) (N++e):=by
 intro Y Y Y Y h s;induction h with
 |nil=>exact s
 |cons r Y i=>exact .cons r i
theorem ym.good(h:ym l ps r)(a:∀c∈l,SG.cps.contains c=true)(b:∀p∈ps,NU p):∀c∈r,SG.cps.contains c=true:=by
 induction h with
 |N=>exact a
 |k e Y i=>
  intro c g;rcases X0.mp g with z|z
  exact a c (X0.mpr<|.inl z);exact i (λd f=>a d<|X0.mpr<|.inr f) (λp h=>b p<|.tail _ h) c z
 |t Y i=>
  intro c g;rcases X0.mp g with z|z
  exact(b _ (.head _):sg _) c z;exact i a (λp h=>b p<|.tail _ h) c z
 |C Y i=>exact i (λd f=>a d<|X0.mpr<|.inr f) (λp h=>b p<|.tail _ h)
theorem ym.len(h:ym l ps r):r.length<=l.length+aq ps:=by
 induction h with
 |N=>simp
 | @k a l r n ps e _ i=>
  have:aq (.k n::ps)=0+aq ps:=O;simp;lia
 | @t s l r ps _ i=>
  have:aq (.p s::ps)=s.length+aq ps:=O;have e:=Xz s;simp only[W0];lia
 | @C s l r ps _ i=>
  have:aq (.c s::ps)=s.length+aq ps:=O;simp;lia
theorem Fy(k:Nat)(n:Int)(m:Nat)(a:n=m):oQ x (some (k:Int)) (some<|(k:Int)+n)=⟨((x.cps.toList.drop k).take m).toArray⟩:=by
 have e:(k:Int)+n=((k+m:Nat):Int):=by lia
 unfold oQ oP;rw[e,HT.ni,HT.ni];by_cases h:k<=x.cps.toList.length;rw[show min k x.cps.toList.length=k by lia];by_cases b:k+m<=x.cps.toList.length;rw[show min (k+m) x.cps.toList.length=k+m by lia,Nat.add_sub_cancel_left];rw[XB (by rw[Z0];lia),XB (by rw[Z0];lia)];rw[show min k x.cps.toList.length=x.cps.toList.length by lia,vn,sV (Zx (WG h)),XC,XC]
noncomputable def Of:bi:=["_law_text_here"]
noncomputable def Og:gu:=
 [.r<|.C none [("_law_text_here",0)] .g [(.t .l [.v 0])] none<|.T [(.T [(.c<|.s "old"),.v 0]),(.i (.v 1)<|.v 0)]]
noncomputable def Fz:bi:=["_law_rows","_law_change_here","_law_who","_law_found_here","_law_at","_law_many","_law_word_here","_law_thing"]
noncomputable def Oh:gu:=
 [.a 3 (.L []),
 .a 4 (.c<|.i 0),
 .a 5 (.c<|.i 0),
 .l [6,7] .l [.v 1] [.i (.p .Eq (.v 6) (.c (.s "put"))) [.a 3 (.b .Add (.v 3) (.C none [("_law_who",2),("_law_thing",7),("_law_many",5)] .g [(.t .l [.v 7])] none (.T [(.T [.v 1,(.b .Add (.v 3) (.v 0))]),(.i (.v 2) (.v 0))]))),
   .a 5 (.b .Add (.v 5) (.t .l [.v 7]))] [.i (.p .Eq (.v 6) (.c (.s "cut"))) [.a 4 (.b .Add (.v 4) (.t .l [.v 7]))] [.a 3 (.b .Add (.v 3) (.s (.v 0) (some (.v 4)) (some (.b .Add (.v 4) (.v 7))))),
    .a 4 (.b .Add (.v 4) (.v 7))]]],
 .r (.v 3)]
theorem Oi{x:Str}(h:i<x.cps.toList.length):fU x.cps.toList ((i:Nat):Int)=some x.cps.toList[i]:=dv aJ
theorem adS{a b:ci}(h:xs=a++(b++c))(n:Int)(f:n=b.length):c5 xs (some (a.length:Int)) (some<|(a.length:Int)+n)=b:=by
 have e:(a.length:Int)+n=((a.length+b.length:Nat):Int):=by lia
 unfold c5;rw[e,HT.ni,HT.ni,h];have l1:(a++(b++c)).length=a.length+(b.length+c.length):=by simp
 rw[l1];have d:min a.length (a.length+(b.length+c.length))=a.length:=by lia
 have m:min (a.length+b.length) (a.length+(b.length+c.length))=a.length+b.length:=by lia
 rw[d,m,Xh,show a.length+b.length - a.length=b.length by lia,XT]
abbrev cE:=We×Nat×Nat
def fP(H:Hp)(v:V)(r:cE):Prop:= ∃t n,v=.r t/\H t=some (.t [.r n,.s ⟨#[r.2.2]⟩])/\H n=some (.t [kV r.1,.i (r.2.1:Nat)])
abbrev bN(H:Hp):ci->List cE->Prop:=Paired (fP H)
theorem fP.mono{r:cE}(t:bR H Z)(h:fP H v r):fP Z v r:=by
 obtain⟨a,n,e,c,b⟩:=h;exact⟨a,n,e,t _ _ c,t _ _ b⟩
theorem bN.mono(t:bR H Z):∀{vs:ci}{s:List cE},bN H vs s->bN Z vs s
 |_,_,.nil=>.nil
 |_,_,.cons h r=>.cons (h.mono t) (bN.mono t r)
theorem bN.get:∀{vs:ci}{s:List cE}{i:Nat}{v:V},bN H vs s->vs[i]?=some v->∃r,s[i]?=some r/\fP H v r
 |_,_,i,v,.nil,e=>by simp at e
 |_,_,0,v,.cons h r,e=>by simp at e;subst e;exact⟨_,O,h⟩
 |_,_,i+1,v,.cons h r,e=>by
  obtain⟨p,a,b⟩:=bN.get r (by simpa using e);exact⟨p,by simpa using a,b⟩
theorem bN.drop:∀(k:Nat){vs:ci}{s:List cE},bN H vs s->bN H (vs.drop k) (s.drop k)
 | 0,_,_,h=>h
 |k+1,_,_,.nil=>.nil
 |k+1,_,_,.cons _ r=>bN.drop k r
theorem bN.take:∀(k:Nat){vs:ci}{s:List cE},bN H vs s->bN H (vs.take k) (s.take k)
 | 0,_,_,_=>.nil
 |k+1,_,_,.nil=>.nil
 |k+1,_,_,.cons h r=>.cons h (bN.take k r)
noncomputable def gr(w:We):Nat->am->List cE
 |_,[]=>[]
 |m,c::l=>(w,m,c)::gr w (m+1) l
theorem vi(w:We):∀(m:Nat)(l:am),(gr w m l).length=l.length
 |_,[]=>O
 |m,c::l=>by simp[gr,vi w (m+1) l]
theorem Oj(w:We):∀(m:Nat)(l:am)(i c:Nat),l[i]?=some c->(gr w m l)[i]?=some (w,m+i,c)
 |m,[],i,c,h=>by simp at h
 |m,d::l,0,c,h=>by simp at h;subst h;rfl
 |m,d::l,i+1,c,h=>by
  have:=Oj w (m+1) l i c (by simpa using h);show(gr w (m+1) l)[i]?=_;rw[this,show m+1+i=m+(i+1) by lia]
theorem Ol(w:We)(m:Nat)(l:am)(i c:Nat)(h:l[i]?=some c):(gr w m l).take (i+1)=(gr w m l).take i++[(w,m+i,c)]:=by
 rw[YQ,Oj w m l i c h];rfl
noncomputable def bJ(w:We):List cE->Nat->im->List cE
 |_,_,[]=>[]
 |s,m,.P c::xs=>(w,m,c)::bJ w s (m+1) xs
 |r::s,m,.K::xs=>r::bJ w s m xs
 |[],m,.K::xs=>bJ w [] m xs
 |_::s,m,.C _::xs=>bJ w s m xs
 |[],m,.C _::xs=>bJ w [] m xs
theorem FA(w:We)(r:List cE)(xs:im):∀(s:am)(m:Nat),bJ w r m (s.map .P++xs)=gr w m s++bJ w r (m+s.length) xs
 |[],m=>O
 |c::s,m=>by
  show(w,m,c)::bJ w r (m+1) (s.map .P++xs)=_;rw[FA w r xs s<|m+1,show m+1+s.length=m+(s.length+1) by lia];rfl
theorem FC(w:We)(s:List cE)(m:Nat)(xs:im):∀(a:List cE),bJ w (a++s) m (rK a.length++xs)=a++bJ w s m xs
 |[]=>O
 |r::a=>by
  show r::bJ w (a++s) m (rK a.length++xs)=_;rw[FC w s m xs a];rfl
theorem FD(w:We)(b:List cE)(m:Nat)(xs:im):∀(a:List cE)(s:am),a.length=s.length->bJ w (a++b) m (s.map .C++xs)=bJ w b m xs
 |[],[],_=>O
 |r::a,c::s,h=>FD w b m xs a s (by simpa using h)
 |[],c::s,h=>by simp at h
 |r::a,[],h=>by simp at h
inductive FE(vs:ci)(H:Hp)(Q:VK)(E:XK):Prop|i(x:Str)(_:vs=[.s x])(_:x.length<=100000)(_:∀(b:DL)(Z:Hp)(N:ci),ar H Z->H b=none->Z b=some (.l N)->bN Z N (gr (.inr "old") 0 x.cps.toList)->Q (.r b) Z)
theorem adT{K:Frag}(vs:ci)(H:Hp)(Q:VK)(E:XK)(h:FE vs H Q E):ax (bI K E) Og (Dn Q) (XF Of vs) H:=by
 obtain⟨x,rfl,j,q⟩:=h;have l:=Xz x;refine⟨_,O,cI (wO j (XA _ _)),(x.length:Int),O,ap,ap,AJ ap (λi N W=>bN W N<|(gr (.inr "old") 0 x.cps.toList).take i) .nil ?_ ?_⟩;intro i N W k b y m f;have F:i<x.cps.toList.length:=by lia
 refine nW _ O eF (λn g=>pT _ O _ O (.inr<|.inr<|.inl ⟨x,0+(i:Int),x.cps.toList[i],O,O,cI (wO j (XA _ _)),?_,eF,λt e=>?_⟩));rw[show(0:Int)+(i:Int)=((i:Nat):Int) by lia];exact Oi F;have d:=Xq (o:=.t [V.s "old",V.i<|0+(i:Int)]) g;have a:=Xq (o:=.t [V.r n,V.s ⟨#[x.cps.toList[i]]⟩]) e;refine f (.r t) _ (d.trans a) ?_;rw[Ol (.inr "old") 0 _ i _ (Xd F)];refine Tm (y.mono<|aX<|d.trans a) ⟨t,n,O,aj,?_⟩;rw[a _ _ aj];show some (HO.t [V.s "old",V.i<|0+(i:Int)])=some (HO.t [V.s "old",V.i ((0+i:Nat):Int)]);rw[show(0:Int)+(i:Int)=((0+i:Nat):Int) by lia];intro N W p b y c;rw[XB (by rw[vi];lia)] at y;exact q p _ N (b.trans<|Xq c) (b.free c) aj<|y.mono<|aX<|Xq c
inductive xU(vs:ci)(H:Hp)(Q:VK)(E:XK):Prop|i(a b:DL)(w:We)(v xs:ci)(s:List cE)(ps:bn)(l r:am)(_:vs=[.r a,.r b,kV w])(_:H a=some (.l v))(_:bN H v s)(_:H b=some (.l xs))(_:aF H xs ps)(_:(∀p∈ps,aZ p))(_:ym l ps r)(_:l.length=s.length)(_:s.length<=100000)(_:aq ps<=100000)(_:∀(d:DL)(Z:Hp)(N:ci),ar H Z->H d=none->Z d=some (.l N)->bN Z N (bJ w s 0<|ak ps)->Q (.r d) Z)
inductive Om(a b:DL)(H:Hp)(o:We)(g:ci)(s:List cE)(ps:bn)(i:Nat)(u:St)(W:Hp):Prop|i(d:DL)(N c h:ci)(n f e:List cE)(m:Nat)(l2 q:am)(w v:v0)(_:u=[some<|.r a,some<|.r b,some<|kV o,some<|.r d,some<|.i (c.length:Int),some<|.i (m:Int),w,v])(_:ar H W)(_:H d=none)(_:W d=some (.l N))(_:bN W N n)(_:g=c++h)(_:s=f++e)(_:c.length=f.length)(_:bJ o s 0 (ak ps)=n++bJ o e m (ak<|ps.drop i))(_:ym l2 (ps.drop i) q)(_:l2.length=e.length)(_:n.length<=f.length+aq (ps.take i)):Om a b H o g s ps i u W
theorem adU{K:Frag}(vs:ci)(H:Hp)(Q:VK)(E:XK)(h:xU vs H Q E):ax (bI K E) Oh (Dn Q) (XF Fz vs) H:=by
 obtain⟨a,b,f,rv,xs,z,ps,l,r,rfl,ha,vj,hb,cw,az,mG,FG,ND,AX,q⟩:=h;have lx:=KB cw;have lr:=KB vj;refine⟨Ww _,λd0 Ep=>?_⟩;have s0:=Xq (o:=.l []) Ep;refine qB _ O b O (o3 _ (ah.of (s0 _ _ hb))) (kT (K:=K) (a:=b) (xs:=xs) (Om a b H f rv z ps)
 ⟨d0,[],[],rv,[],[],z,0,l,r,none,none,O,s0,Ep,aj,.nil,O,O,O,O,mG,FG,Ww _⟩
  (λi u W _ ⟨_,_,_,_,_,_,_,_,_,_,_,_,_,B,_,_,_,_,_,_,_,_,_,_⟩=>ah.of (B _ _ hb)) ?_ ?_)
 rintro i y u W hi ⟨d,N,A,x,dn,U,g,m,l2,q2,w,v,rfl,B,fd,T,M,I,S,el,F,Z,dm,b'⟩;obtain⟨pt,iP,jq⟩:=cw.get hi;obtain⟨pa,rfl,km⟩:=jq.mono (aX B);have dq:i<ps.length:=(Wq.mp iP).1;have ed:ps.drop i=pt::ps.drop (i+1):=by
  rw[cV dq];congr 1;exact WV<|(Xd dq).symm.trans iP
 rw[ed] at Z F;rw[cJ] at F;have qO:=az pt (Wv iP);have vb:=KB M;have ts:=E4 iP;have tt:=Au ps (i+1);have Oo:z.length=U.length+g.length:=by rw[S,W0]
 refine pX pa _ O (.inl<|aB.of km) O _ _ O _ _ O O ?_;cases pt with
 |p s=>
  have ls:=Xz s;have dB:s.length<=100000:=by have:dO (.p s)=s.length:=O;lia
  refine⟨_,O,_,O,?_⟩;refine⟨_,O,_,O,cI qO.1.1,(s.length:Int),O,ap,ap,AJ (n:=s.length) (wO dB (XA _ _)) (λj J H3=>bN H3 J<|(gr f m s.cps.toList).take j) .nil ?_ ?_⟩;intro j J H3 hj s3 X Q' hq;have qF:j<s.cps.toList.length:=YY hj (VN ls)
  have hc:s.cps.toList[j]?=some s.cps.toList[j]:=Xd qF;refine pT _ O _ O ⟨_,O,eF,λn hn=>pT _ O _ O (.inr<|.inr<|.inl ⟨s,0+(j:Int),s.cps.toList[j],O,O,cI (wO dB (XA _ _)),?_,eF,λt ht=>?_⟩)⟩;rw[show(0:Int)+(j:Int)=((j:Nat):Int) by lia];exact Oi qF;have D:=Xq (o:=.t [kV f,V.i<|(m:Int)+(0+(j:Int))]) hn;have G:=Xq (o:=.t [V.r n,V.s ⟨#[s.cps.toList[j]]⟩]) ht;refine hq (.r t) _ (D.trans G) ?_;rw[Ol f m _ j _ hc];refine Tm (X.mono<|aX<|D.trans G) ⟨t,n,O,aj,?_⟩;rw[G _ _ aj];rw[show(m:Int)+(0+(j:Int))=((m+j:Nat):Int) by lia];intro J H3 p s3 X hp;rw[XB (by rw[vi];lia)] at X;have xG:=KB X;rw[vi] at xG;have D:=Xq (o:=.l J) hp;have c':=D _ _ (s3 _ _ T);refine .inl (pE d p N J O O c' aj (cI ap) (λe Y=>?_));have G:=Xq (o:=.l (N++J)) Y;have R:=s3.trans (D.trans G);refine⟨_,O,_,O,cI qO.1.1,?_⟩;have mH:ym l2 (ps.drop<|i+1) (q2.drop s.cps.toList.length):=by
   cases Z with
   |t hr=>rw[Xh];exact hr
  refine⟨e,N++J,A,x,dn++gr f m s.cps.toList,U,g,m+s.length,l2,_,some<|.s "put",some<|.s s,?_,B.trans R,(B.trans<|s3.trans D).free Y,aj,Paired.app ((M.mono<|aX R))<|X.mono<|aX<|D.trans G,I,S,el,?_,mH,dm,?_⟩;show[_,_,_,_,_,some<|V.i<|(m:Int)+(s.length:Int),_,_]=_;rw[Wl];rfl;rw[F];show dn++bJ f g m (s.cps.toList.map At.P++_)=_;rw[FA,VD,ls];rw[W0,vi,ts];have:dO (.p s)=s.length:=O;lia
 |c s=>
  have ls:=Xz s;obtain⟨la,lb,qa,qb,zq⟩:=ZO (Fn Z);obtain⟨FH,d',FI,L⟩:=Xn zq;obtain⟨o1,o2⟩:=L;have vk:la.length=s.length:=by rw[o1,ls]
  rw[FH,W0] at dm;refine⟨_,O,_,O,_,O,_,O,_,O,_,O,cI qO.1.1,?_⟩;have h1:s.length<=g.length:=by lia
  have a':A.length+x.length=z.length:=by rw[<-lr,I,W0]
  refine⟨d,N,A++x.take s.length,x.drop s.length,dn,U++g.take s.length,g.drop s.length,m,lb,qb,some<|.s "cut",some<|.s s,?_,B,fd,T,M,by rw[VD,Zv];exact I,by rw[VD,Zv];exact S,by simp only[W0,Ye];lia,?_,FI,by rw[Z0];lia,?_⟩;show[_,_,_,_,some<|V.i<|(A.length:Int)+(s.length:Int),_,_,_]=_;rw[W0,Ye,show min s.length x.length=s.length by lia,Wl];rfl;rw[F];congr 1;show bJ f g m (s.cps.toList.map At.C++_)=_;have:=FD f (g.drop s.length) m (ak<|ps.drop<|i+1) (g.take s.length) s.cps.toList (by rw[Ye,<-ls];lia);rw[Zv] at this;exact this;have:dO (.c s)=s.length:=O;simp only[W0,Ye];lia
 |k n=>
  have dN:(1:Int)<=n:=qO;obtain⟨la,lb,qa,qb,zq⟩:=ZO (Fn Z);obtain⟨FH,d',FI,L⟩:=Xn zq;obtain⟨o1,o2⟩:=L;rw[FH,W0] at dm;have h1:n.toNat<=g.length:=by lia
  have a':A.length+x.length=z.length:=by rw[<-lr,I,W0]
  have AY:bN W (x.take n.toNat) (g.take n.toNat):=by
   have:=(vj.mono<|aX B).drop A.length;rw[I,S,Xh,el,Xh] at this;exact this.take n.toNat
  refine⟨_,O,_,O,_,O,_,O,?_⟩;refine⟨_,O,_,O,_,O,_,O,_,O,_,O,_,O,.inl ⟨rv,ah.of<|B _ _ ha,λp hp=>?_⟩⟩;rw[adS (xs:=rv) (a:=A) (b:=x.take n.toNat) (c:=x.drop n.toNat) (by rw[Zv];exact I) n (by rw[Ye];lia)];have D:=Xq (o:=.l (x.take n.toNat)) hp;have aD:(x.take n.toNat).length=n.toNat:=by rw[Ye];lia
  refine .inl ⟨d,p,N,x.take n.toNat,O,O,D _ _ T,aj,cI ap,λe Y=>?_⟩;have G:=Xq (o:=.l (N++x.take n.toNat)) Y;have R:=D.trans G;refine⟨_,O,_,O,?_⟩;refine⟨e,N++x.take n.toNat,A++x.take n.toNat,x.drop n.toNat,dn++g.take n.toNat,U++g.take n.toNat,g.drop n.toNat,m,lb,qb,some<|.s "keep",some<|.i n,?_,B.trans R,(B.trans D).free Y,aj,Paired.app (M.mono<|aX R)<|AY.mono<|aX R,by rw[VD,Zv];exact I,by rw[VD,Zv];exact S,by simp only[W0,Ye];lia,?_,FI,by rw[Z0];lia,?_⟩;show[_,_,_,_,some<|V.i<|(A.length:Int)+n,_,_,_]=_;rw[W0,aD,show(A.length:Int)+n=((A.length+n.toNat:Nat):Int) by lia];rfl;rw[F,VD];congr 1;show bJ f g m (rK n.toNat++_)=_;have:=FC f (g.drop n.toNat) m (ak<|ps.drop<|i+1) (g.take n.toNat);rw[Zv,Ye,show min n.toNat g.length=n.toNat by lia] at this;exact this;have:dO (.k n)=0:=O;simp only[W0,Ye];lia
 rintro u W ⟨d,N,A,x,dn,U,g,m,l2,q2,w,v,rfl,B,fd,T,M,I,S,el,F,Z,dm,b'⟩;rw[lx,vn] at F;have e0:bJ f g m (ak [])=[]:=by cases g<;>rfl
 rw[e0,Y3] at F;rw[<-F] at M;exact⟨_,O,q d W N B fd T M⟩
theorem ph{r:jp}:((k,v)::r).lookup k=some v:=by simp
theorem dQ{j:Str}{r:jp}(h:¬k=j):((j,v)::r).lookup k=r.lookup k:=by
 have:(k==j)=false:=by lia
 simp[List.lookup,this]
theorem acM{r:jp}:bY k v ((k,w)::r)=(k,v)::r:=by simp[bY]
theorem eK{j:Str}{r:jp}(h:¬j=k):bY k v ((j,w)::r)=(j,w)::bY k v r:=by simp[bY,h]
theorem cK{K:Frag}{a:DL}{i:Int}(h:H a=some (.l xs))(e:fU xs i=some v)(q:Q v H):qr K s (.r a) (.i i) H Q:=
 .inl ⟨_,_,_,_,O,O,ah.of h,e,q⟩
noncomputable def vm:bi:=["self","change"]
noncomputable def Oq:gu:=
 [.f (.v 0) "parts" (.t .t [.v 1]),
 .f (.v 0) "passed_by" (.c<|.i 0),
 .f (.v 0) "offset" (.c (.i 0))]
noncomputable def Ot:bi:=["list"]
noncomputable def qP:bi:=["self"]
noncomputable def Ou:gu:=
 [.r<|.M (.p .Lt (.f (.v 0) "passed_by")<|.t .l [(.f (.v 0) "parts")]) (.i (.i (.f (.v 0) "parts")<|.f (.v 0) "passed_by")<|.c<|.i 0)<|.c<|.s ""]
noncomputable def Ov:gu:=
 [.r<|.b .Sub (.l 0 [(.i (.f (.v 0) "parts")<|.f (.v 0) "passed_by")])<|.f (.v 0) "offset"]
noncomputable def Ow:bi:=["part_size"]
noncomputable def Ox:bi:=["self","size","part","begin","end"]
noncomputable def FJ:gu:=
 [.a 2 (.i (.f (.v 0) "parts") (.f (.v 0) "passed_by")),
 .a 3 (.f (.v 0) "offset"),
 .a 4 (.b .Add (.v 3)<|.v 1),
 .f (.v 0) "offset" (.v 4),
 .i (.p .Eq (.a 0 "left" (.v 0) []) (.c (.i 0))) [.f (.v 0) "passed_by" (.b .Add (.f (.v 0) "passed_by") (.c (.i 1))),
  .f (.v 0) "offset" (.c (.i 0))] [],
 .r (.T [(.i (.v 2) (.c (.i 0))),(.M (.p .Eq (.i (.v 2) (.c (.i 0))) (.c (.s "keep"))) (.v 1) (.s (.i (.v 2) (.c (.i 1))) (some (.v 3)) (some (.v 4))))])]
noncomputable def adY:bi:=["left"]
noncomputable def Oy:bi:=["walk","putting","keeping","part"]
noncomputable def Oz:gu:=
 [.a 3 (.a 0 "take" (.v 0) [(.a 1 "left" (.v 0) [])]),
 .d (.w .a (.v 1) [.v 3]),
 .d (.w .a (.v 2) [(.T [(.c (.s "keep")),(.l 0 [.v 3])])])]
noncomputable def adZ:bi:=["take","left"]
noncomputable def OA:bi:=["first","second","ones","others"]
noncomputable def OB:gu:=
 [.i (.d [(.p .Eq (.i (.v 0) (.c (.i 0))) (.c (.s "cut"))),(.p .Eq (.i (.v 1) (.c (.i 0))) (.c (.s "cut")))]) [.i (.p .NotEq (.i (.v 0) (.c (.i 1))) (.i (.v 1) (.c (.i 1)))) [.L 0 [(.c (.s "both changes cut a sign, and tell it otherwise"))]] []] [.i (.p .Eq (.i (.v 1) (.c (.i 0))) (.c (.s "keep"))) [.d (.w .a (.v 2) [.v 0]),
   .i (.p .Eq (.i (.v 0) (.c (.i 0))) (.c (.s "keep"))) [.d (.w .a (.v 3) [.v 1])] []] [.d (.w .a (.v 3) [.v 1])]]]
noncomputable def xX:bi:=["BadFit"]
noncomputable def OC:bi:=["one","other","first","second","ones","others","size"]
noncomputable def OD:gu:=
 [.i (.p .NotEq (.i (.l 0 [.v 0]) (.c (.i 0))) (.i (.l 0 [.v 1]) (.c (.i 0)))) [.L 0 [(.c (.s "the changes are over unlike numbers of signs"))]] [],
 .a 2 (.m 0 [.v 0]),
 .a 3 (.m 0 [.v 1]),
 .a 4 (.L []),
 .a 5 (.L []),
 .m (.o [(.p .NotEq (.a 0 "word" (.v 2) []) (.c (.s ""))),(.p .NotEq (.a 0 "word" (.v 3) []) (.c (.s "")))]) [.i (.p .Eq (.a 0 "word" (.v 2) []) (.c (.s "put"))) [.d (.l 1 [.v 2,.v 4,.v 5])] [.i (.p .Eq (.a 0 "word" (.v 3) []) (.c (.s "put"))) [.d (.l 1 [.v 3,.v 5,.v 4])] [.a 6 (.t .m [(.a 1 "left" (.v 2) []),(.a 1 "left" (.v 3) [])]),
    .d (.l 2 [(.a 2 "take" (.v 2) [.v 6]),(.a 2 "take" (.v 3) [.v 6]),.v 4,.v 5])]]],
 .r (.T [(.l 3 [.v 4]),(.l 3 [.v 5])])]
noncomputable def ad0:bi:=["sizes","put_first","share","neat"]
noncomputable def OE:bi:=["min"]
noncomputable def ad1:bi:=["word","left","take"]
noncomputable def OF:bi:=["Walk"]
noncomputable def OG:bi:=["given","text"]
noncomputable def OH:gu:=
 [.i (.p .Eq (.i (.v 0) (.c (.i 0))) (.c (.s "keep"))) [.r (.L [(.T [(.c (.s "cut")),.v 1])])] [],
 .i (.p .NotEq (.i (.v 0)<|.c<|.i 1)<|.v 1) [.L 0 [(.c<|.s "what the first change puts is cut otherwise")]] [],
 .r (.L [])]
noncomputable def OI:bi:=["walk","part","parts","place","size","given"]
noncomputable def OJ:gu:=
 [.a 2 (.L []),
 .a 3 (.c<|.i 0),
 .m (.p .Lt (.v 3) (.l 0 [.v 1])) [.i (.p .Eq (.a 0 "word" (.v 0) []) (.c (.s "cut"))) [.d (.w .a (.v 2) [(.a 1 "take" (.v 0) [(.a 2 "left" (.v 0) [])])]),
   .c] [],
  .a 4 (.t .m [(.a 2 "left" (.v 0) []),(.b .Sub (.l 0 [.v 1])<|.v 3)]),
  .a 5 (.a 1 "take" (.v 0) [.v 4]),
  .i (.p .Eq (.i (.v 1)<|.c<|.i 0)<|.c<|.s "keep") [.d<|.w .a (.v 2) [.v 5]] [.d<|.w .e (.v 2) [(.l 1 [.v 5,(.s (.i (.v 1)<|.c<|.i 1) (some<|.v 3)<|some<|.b .Add (.v 3)<|.v 4)])]],
  .a 3 (.b .Add (.v 3) (.v 4))],
 .r (.v 2)]
noncomputable def Y9:bi:=["part_size","cut_behind"]
noncomputable def OK:bi:=["word","take","left"]
noncomputable def OL:bi:=["one","other","walk","parts","part"]
noncomputable def OM:gu:=
 [.i (.p .NotEq (.i (.l 0 [.v 0]) (.c (.i 1))) (.i (.l 0 [.v 1]) (.c (.i 0)))) [.L 0 [(.c (.s "the other change is over another number of signs than the first one gives"))]] [],
 .a 2 (.m 0 [.v 0]),
 .a 3 (.L []),
 .j 4 .l [.v 1] [.i (.p .Eq (.i (.v 4)<|.c<|.i 0)<|.c<|.s "put") [.d<|.w .a (.v 3) [.v 4]] [.d<|.w .e (.v 3) [(.l 1 [.v 2,.v 4])]]],
 .m (.p .NotEq (.a 0 "word" (.v 2) [])<|.c<|.s "") [.d<|.w .a (.v 3) [(.a 1 "take" (.v 2) [(.a 2 "left" (.v 2) [])])]],
 .r (.l 2 [.v 3])]
noncomputable def ad3:bi:=["sizes","parts_behind","neat"]
structure qQ(K:Frag)(C:DL):Prop where
 cl:gT K C
 xY:gI K C "parts"
 t:gI K C "passed_by"
 xZ:gI K C "offset"
noncomputable def aL:Pt->Nat|.k n=>n.toNat|.p s=>s.length|.c s=>s.length
noncomputable def cU:Pt->Nat->Pt
 |.k n,o=>.k (n - o)
 |.p s,o=>.p ⟨(s.cps.toList.drop o).toArray⟩
 |.c s,o=>.c ⟨(s.cps.toList.drop o).toArray⟩
noncomputable def aK:Pt->Nat->Pt
 |.k _,o=>.k o
 |.p s,o=>.p ⟨(s.cps.toList.take o).toArray⟩
 |.c s,o=>.c ⟨(s.cps.toList.take o).toArray⟩
theorem ON(p:Pt)(o:Nat):(cU p o).word=p.word:=by cases p<;>rfl
theorem ad4(p:Pt)(o:Nat):(aK p o).word=p.word:=by cases p<;>rfl
theorem lK(h:aZ p):sL p=(aL p:Int)/\1<=aL p:=by
 cases p with
 |k n=>
  have a:(1:Int)<=n:=h;exact⟨by show n=(n.toNat:Int);lia,by show 1<=n.toNat;lia⟩
 |p s=>
  obtain⟨c,r,e⟩:=kj h.2;exact⟨O,by show 1<=s.length;rw[Xz,e];simp⟩
 |c s=>
  obtain⟨c,r,e⟩:=kj h.2;exact⟨O,by show 1<=s.length;rw[Xz,e];simp⟩
theorem mI(l:am):(⟨l.toArray⟩:Str).length=l.length:=O
theorem nQ(p:Pt)(o:Nat)(h:o<=aL p):aL (cU p o)=aL p - o:=by
 cases p with
 |k n=>
  show(n - (o:Int)).toNat=n.toNat - o;lia
 |p s=>show(⟨(s.cps.toList.drop o).toArray⟩:Str).length=s.length - o;rw[mI,Z0,<-Xz]
 |c s=>show(⟨(s.cps.toList.drop o).toArray⟩:Str).length=s.length - o;rw[mI,Z0,<-Xz]
theorem x_(p:Pt)(o:Nat)(h:o<=aL p):aL (aK p o)=o:=by
 cases p with
 |k n=>show((o:Int)).toNat=o;exact m3 _
 |p s=>
  have a:o<=s.length:=h;rw[Xz] at a;show(⟨(s.cps.toList.take o).toArray⟩:Str).length=o;rw[mI,Ye];lia
 |c s=>
  have a:o<=s.length:=h;rw[Xz] at a;show(⟨(s.cps.toList.take o).toArray⟩:Str).length=o;rw[mI,Ye];lia
theorem drop_zero(p:Pt):cU p 0=p:=by
 cases p with
 |k n=>show Pt.k (n - ((0:Nat):Int))=_;rw[show n - ((0:Nat):Int)=n by lia]
 |p s=>show Pt.p ⟨(s.cps.toList.drop 0).toArray⟩=_;rw[XW]
 |c s=>show Pt.c ⟨(s.cps.toList.drop 0).toArray⟩=_;rw[XW]
theorem drop_drop(p:Pt)(a b:Nat):cU (cU p a) b=cU p (a+b):=by
 cases p with
 |k n=>show Pt.k (n - (a:Int) - (b:Int))=Pt.k (n - ((a+b:Nat):Int));lia
 |p s=>show Pt.p ⟨((s.cps.toList.drop a).drop b).toArray⟩=Pt.p ⟨(s.cps.toList.drop<|a+b).toArray⟩;rw[List.drop_drop]
 |c s=>show Pt.c ⟨((s.cps.toList.drop a).drop b).toArray⟩=Pt.c ⟨(s.cps.toList.drop<|a+b).toArray⟩;rw[List.drop_drop]
theorem iI(p:Pt)(h:ir p):aK p (aL p)=p:=by
 cases p with
 |k n=>
  have a:0<=n:=h;show Pt.k ((n.toNat:Nat):Int)=_;rw[show((n.toNat:Nat):Int)=n by lia]
 |p s=>show Pt.p ⟨(s.cps.toList.take s.length).toArray⟩=_;rw[Xz,Xg]
 |c s=>show Pt.c ⟨(s.cps.toList.take s.length).toArray⟩=_;rw[Xz,Xg]
theorem AZ(p:Pt)(o:Nat)(h:o<=aL p):ba p=ba (aK p o)++ba (cU p o):=by
 cases p with
 |k n=>
  have a:o<=n.toNat:=h;show rK n.toNat=rK ((o:Nat):Int).toNat++rK (n - (o:Int)).toNat;rw[N2];congr 1;lia
 |p s=>
  show s.cps.toList.map At.P=(s.cps.toList.take o).map At.P++(s.cps.toList.drop o).map At.P;rw[<-Z3,Zv]
 |c s=>
  show s.cps.toList.map At.C=(s.cps.toList.take o).map At.C++(s.cps.toList.drop o).map At.C;rw[<-Z3,Zv]
theorem A8(h:good s)(l:am)(a:l.length<=s.length)(m:∀c∈l,c∈s.cps.toList):good ⟨l.toArray⟩:=
 ⟨by exact wO a h.1,λc b=>h.2 c<|m c b⟩
theorem A9(h:l≠ []):(⟨l.toArray⟩:Str)≠"":=λz=>h (by have:=IN (λs=>s.cps.toList) z;exact this)
theorem FN{o:Nat}(h:aZ p)(a:o<aL p):aZ (cU p o):=by
 cases p with
 |k n=>
  have d:o<n.toNat:=a;show(1:Int)<=n - (o:Int);lia
 |p s=>
  have d:o<s.cps.toList.length:=by exact a
  exact⟨A8 h.1 _ (by rw[Z0,<-Xz];exact Xr _ _) λc b=>Z6 b,A9 (by intro z;have:=IN List.length z;rw[Z0] at this;have t:s.cps.toList.length - o=0:=this;lia)⟩
 |c s=>
  have d:o<s.cps.toList.length:=by rw[<-Xz];exact a
  exact⟨A8 h.1 _ (by rw[Z0,<-Xz];exact Xr _ _) λc b=>Z6 b,A9 (by intro z;have:=IN List.length z;rw[Z0] at this;have t:s.cps.toList.length - o=0:=this;lia)⟩
theorem A_{o:Nat}(h:aZ p)(e:1<=o)(b:o<=aL p):aZ (aK p o):=by
 cases p with
 |k n=>show(1:Int)<= (o:Int);lia
 |p s=>
  have d:o<=s.cps.toList.length:=by exact b
  exact⟨A8 h.1 _ (by rw[Ye,<-Xz];lia) λc a=>lA a,A9 (by intro z;have:=IN List.length z;rw[Ye] at this;have t:min o s.cps.toList.length=0:=this;lia)⟩
 |c s=>
  have d:o<=s.cps.toList.length:=by rw[<-Xz];exact b
  exact⟨A8 h.1 _ (by rw[Ye,<-Xz];lia) λc a=>lA a,A9 (by intro z;have:=IN List.length z;rw[Ye] at this;have t:min o s.cps.toList.length=0:=this;lia)⟩
noncomputable def wf(L:DL)(i o:Int):jp:=[("parts",.r L),("passed_by",.i i),("offset",.i o)]
theorem Ba{i o:Int}:(wf L i o).lookup ("parts":Str)=some (.r L):=ph
theorem ya{i o:Int}:(wf L i o).lookup ("passed_by":Str)=some (.i i):=O
theorem OO{i o:Int}:(wf L i o).lookup ("offset":Str)=some (.i o):=O
theorem Bb{i o:Int}{m:Str}(b:¬m="parts")(a:¬m="passed_by")(h:¬m="offset"):(wf L i o).lookup m=none:=(dQ b).trans ((dQ a).trans<|(dQ h).trans O)
theorem OP{i o:Int}:bY "offset" (.i k) (wf L i o)=wf L i k:=O
theorem ad5{i o:Int}:bY "passed_by" (.i k) (wf L i o)=wf L k o:=O
theorem ad6:bY "offset" (.i 0) (bY "passed_by" (.i 0)<|bY "parts" (.r L) [])=wf L 0 0:=O
def bO(C:DL)(H:Hp)(w L:DL)(r:bn):Prop:= ∃(dx:DL)(xs:ci)(ps:bn)(i o:Nat),H w=some (.i C dx<|wf L i o)/\H L=some (.l xs)/\aF H xs ps/\(∀p∈ps,aZ p)/\ps.length<=200000/\
 ((ps.drop i=[]/\r=[])\/∃p t,ps.drop i=p::t/\o<aL p/\r=cU p o::t)
theorem bO.keep{r:bn}(h:bO C H w L r)(k:∀b o,H b=some o->b=w\/b=L\/(∃xs,o=.t xs)->Z b=some o):bO C Z w L r:=by
 obtain⟨dx,xs,ps,i,o,zq⟩:=Yj h;obtain⟨f,d,c,a⟩:=Xn zq;exact⟨dx,xs,ps,i,o,k _ _ f<|.inl O,k _ _ d<|.inr<|.inl O,c.mono λb N e=>k _ _ e (.inr<|.inr ⟨N,O⟩),a⟩
theorem bO.same{r:bn}(h:bO C H w L r)(s:ar H Z):bO C Z w L r:=h.keep λb o e Y=>s b o e
theorem bO.but{r:bn}(h:bO C H w L r)(b:aE c H Z)(a:H c=some (.l xs))(n:c≠L):bO C Z w L r:=by
 refine h.keep λd o e z=>b d o e ?_;obtain⟨dx,Y,Y,Y,Y,f,Y⟩:=Yj h;rcases z with rfl|rfl|⟨N,rfl⟩
 exact cA f a ap;exact n.symm;exact cA e a ap
theorem bO.ok{r:bn}(h:bO C H w L r):∀p∈r,aZ p:=by
 obtain⟨dx,xs,ps,i,o,zq⟩:=Yj h;obtain⟨k,j,g,d,f,⟨Y,rfl⟩|⟨p,t,e,c,rfl⟩⟩:=Yk zq;intro p b;cases b;have m:=λq a=>d q (Z6 (by rw[e];exact a));intro q a;rcases xW.mp a with rfl|a
 exact FN (m p<|.head _) c;exact m q (.tail _ a)
noncomputable def qR:bn->Str
 |[]=> ""
 |p::_=>p.word
inductive mJ(C:DL)(vs:ci)(H:Hp)(Q:VK)(E:XK):Prop|i(w dx a:DL)(xs:ci)(ps:bn)(_:vs=[.r w,.r a])(_:H w=some (.i C dx []))(_:H a=some (.l xs))(_:aF H xs ps)(_:(∀p∈ps,aZ p))(_:ps.length<=200000)(_:∀L Z,H L=none->L≠w->aE w H Z->bO C Z w L ps->Q .a Z)
theorem ad7{K:Frag}(T:qQ K C):bS (mJ C) (λE=>bI K E) Oq vm:=by
 intro vs H Q E h;obtain⟨w,dx,a,xs,ps,rfl,f,m,q,z,j,k⟩:=h;refine⟨_,O,xs,.inl<|ah.of m,λL g=>?_⟩;have d:=aQ f g;refine sP _ O w C dx [] O (by rw[ay d];exact f) T.cl T.xY aJ ?_;refine sP _ O w C dx _ O aj T.cl T.t (by show 1<1000;decide) ?_;refine sP _ O w C dx _ O aj T.cl T.xZ (by show 2<1000;decide) ?_;rw[zk,zk];have b:aE w H (upd (upd H L<|.l xs) w<|.i C dx<|bY "offset" (.i 0)<|bY "passed_by" (.i 0)<|bY "parts" (.r L) []):=λc o e n=>by rw[ay n,ay<|aQ e g];exact e
 refine k L _ g d.symm b (p3 dx xs ps 0 0 ?_ ?_ (q.mono ?_) z j ?_);rw[aj];rfl;rw[ay d.symm,aj];intro c N e;exact b c _ e<|cA e f ap;cases ps with
 |nil=>exact .inl ⟨O,O⟩
 |cons p t=>exact .inr (oW p t O ((lK<|z p<|.head _).2) (by rw[drop_zero]))
theorem FO{t:bn}(h:ps.drop i=p::t):ps[i]?=some p/\ps.drop (i+1)=t/\i<ps.length:=by
 have l:i<ps.length:=by
  rcases Nat.lt_or_ge i ps.length with z|z
  exact z;rw[sV z] at h;cases h
 refine⟨?_,?_,l⟩;have:=IN List.head? h;rw[List.head?_drop] at this;simpa using this;rw[<-List.drop_drop,h];rfl
theorem aF.at(h:aF H xs ps)(e:ps[i]?=some p):∃a,xs[i]?=some (.r a)/\H a=some (.t [.s p.word,p.val]):=by
 have f:i<xs.length:=by rw[(KB h)];exact(Wq.mp e).1
 obtain⟨q,b,a,d,c⟩:=h.get (i:=i) (v:=xs[i]) aJ;rw[e] at b;cases b;exact⟨a,by rw[<-d];simp,c⟩
inductive qS(C:DL)(vs:ci)(H:Hp)(Q:VK)(E:XK):Prop|i(w L:DL)(a:bn)(_:vs=[.r w])(_:bO C H w L a)(_:Q (.s<|qR a) H)
theorem ad8{K:Frag}(T:qQ K C):bS (qS C) (λE=>bI K E) Ou qP:=by
 intro vs H Q E h;obtain⟨w,L,r,rfl,⟨dx,xs,ps,i,o,b,d,c,s,n,g⟩,q⟩:=h;have m:=KB c;refine pL _ O w C dx _ _ O b T.cl T.t ya _ O w C dx _ _ O b T.cl T.xY Ba (.inl (rP _ (ah.of d) trivial _ O ?_));rcases g with⟨e,rfl⟩|⟨p,t,e,l,rfl⟩
 have:ps.length<=i:=by
  rcases Nat.lt_or_ge i ps.length with z|z
  rw[cV z] at e;cases e;exact z
 exact iF q<|VH ap;obtain⟨k,v,u⟩:=FO e;obtain⟨a,j,f⟩:=c.at k;refine iT ?_<|Z2 ap;refine pL _ O w C dx _ _ O b T.cl T.xY Ba _ O w C dx _ _ O b T.cl T.t ya (.inl (oT _ _ _ _ O O (ah.of d) (dv j) (.inr<|.inl ⟨_,_,_,_,O,O,aB.of f,O,?_⟩)));rw[show qR (cU p o::t)=p.word from ON p o] at q;exact q
inductive Bc(C:DL)(vs:ci)(H:Hp)(Q:VK)(E:XK):Prop|i(w L dx:DL)(xs:ci)(ps:bn)(i o:Nat)(p:Pt)(_:vs=[.r w])(_:H w=some (.i C dx<|wf L i o))(_:H L=some (.l xs))(_:aF H xs ps)(_:ps[i]?=some p)(_:aZ p)(_:Q (.i<|(aL p:Int) - (o:Int)) H)
abbrev aoU(K:Frag)(E:XK):bu:=aH K [("part_size",qz)] [] (E:=E)
theorem ad9{K:Frag}(T:qQ K C):bS (Bc C) (λE=>aoU K E) Ov qP:=by
 intro vs H Q E h;obtain⟨w,L,dx,xs,ps,i,o,p,rfl,b,f,e,j,c,q⟩:=h;obtain⟨a,g,d⟩:=e.at j;refine pL _ O w C dx _ _ O b T.cl T.xY Ba _ O w C dx _ _ O b T.cl T.t ya (.inl (oT _ _ _ _ O O (ah.of f) (dv g) ⟨_,p,O,nT a O d,Ar c,nT _ O ⟨w,C,dx,_,_,O,b,T.cl,T.xZ,OO,trivial,?_⟩⟩));rw[(lK c).1];exact q
inductive nR(C:DL)(vs:ci)(H:Hp)(Q:VK)(E:XK):Prop|i(w L:DL)(p:Pt)(t:bn)(_:vs=[.r w])(_:bO C H w L (p::t))(_:Q (.i (aL p:Int)) H)
theorem ad_(h:nR C vs H Q E):Bc C vs H Q E:=by
 obtain⟨w,L,p,t,rfl,⟨dx,xs,ps,i,o,g,f,d,c,m,⟨Y,e⟩|⟨a,k,e,l,j⟩⟩,q⟩:=h;cases e;cases j;obtain⟨b,Y,Y⟩:=FO e;refine⟨w,L,dx,xs,ps,i,o,a,O,g,f,d,b,c _<|Wv b,?_⟩;rw[nQ a o (Zx l)] at q;rw[show((aL a:Int) - (o:Int))=((aL a - o:Nat):Int) by lia];exact q
def d6(p:Pt)(t:bn)(k:Nat):bn:=if k=aL p then t else cU p k::t
inductive pj(C:DL)(vs:ci)(H:Hp)(Q:VK)(E:XK):Prop|i(w L:DL)(p:Pt)(t:bn)(k:Nat)(_:vs=[.r w,.i (k:Int)])(_:bO C H w L (p::t))(_:1<=k)(_:k<=aL p)(_:∀r Z,aE w H Z->Z r=some (.t [.s (aK p k).word,(aK p k).val])->H r=none->bO C Z w L (d6 p t k)->Q (.r r) Z)
abbrev fY(K:Frag)(C:DL)(E:XK):bu:=aH K [] [] [] [("left",C,Bc C)] (E:=E)
theorem aea{K:Frag}(T:qQ K C):bS (pj C) (λE=>fY K C E) FJ Ox:=by
 intro vs H Q E h;obtain⟨w,L,p,t,k,rfl,⟨dx,xs,ps,i,o,l,x,P,J,h5,⟨_,e⟩|⟨d,B,e,ho,e'⟩⟩,vo,FP,q⟩:=h;cases e;cases e';obtain⟨S,e2,e3⟩:=FO e;obtain⟨a,ea,X⟩:=P.at S;have I:=J _ (Wv S);rw[nQ d o (Zx ho)] at FP;have OQ:w≠L:=cA l x (by intro z;cases z);have F:a≠w:=cA X l (by intro z;cases z);refine pL _ O w C dx _ _ O l T.cl T.xY Ba _ O w C dx _ _ O l T.cl T.t ya (.inl (oT _ _ _ _ O O (ah.of x) (dv ea) ?_));refine nT _ O ⟨w,C,dx,_,_,O,l,T.cl,T.xZ,OO,?_⟩;refine pT _ O _ O ?_;refine pT _ O _ O ⟨w,C,dx,_,O,l,T.cl,T.xZ,(by show 3<1000;decide),?_⟩;rw[OP,show(o:Int)+(k:Int)=((o+k:Nat):Int) by lia];have A:∀(Y:jp),bR H (upd H w<|.i C dx Y):=λY b N m=>by rw[ay<|cA m l (by intro z;cases z)];exact m
 refine nT _ O ⟨w,dx,_,O,aj,Bb (by decide+kernel) (by decide+kernel) (by decide+kernel),w,L,dx,xs,ps,i,o+k,d,O,aj,(by rw[ay OQ.symm];exact x),P.mono<|A _,S,I,?_⟩;have u:∀(j g:Nat),((ps.drop j=[]/\d6 (cU d o) t k=[])\/∃p B,ps.drop j=p::B/\g<aL p/\d6 (cU d o) t k=cU p g::B)->
   ax (fY K C E) (FJ.drop 5) (Dn Q) [some<|.r w,some<|.i (k:Int),some<|.r a,some<|.i (o:Int),some<|.i ((o+k:Nat):Int)] (upd H w<|.i C dx<|wf L (j:Int) (g:Int)):=by
  intro j g hr;have M:upd H w (.i C dx<|wf L (j:Int) (g:Int)) a=some (.t [.s d.word,d.val]):=by rw[ay F];exact X
  have f:∀v:V,v=(aK (cU d o) k).val->∀r,upd H w (.i C dx<|wf L (j:Int) (g:Int)) r=none->Q (.r r) (upd (upd H w<|.i C dx<|wf L (j:Int) (g:Int)) r<|.t [.s d.word,v]):=by
   rintro v rfl r y;have OR:r≠w:=λz=>by rw[z,aj] at y;cases y
   have Z:H r=none:=by rw[ay OR] at y;exact y
   have U:aE w H (upd (upd H w<|.i C dx<|wf L (j:Int) (g:Int)) r<|.t [.s d.word,(aK (cU d o) k).val]):=λb ob m G=>by rw[ay<|aQ m Z,ay G];exact m
   refine q r _ U (by rw[aj,ad4,ON]) Z (p3 dx xs ps j g ?_ (U _ _ x OQ.symm) (P.mono λb N m=>U b _ m (cA m l (by intro z;cases z))) J h5 hr);rw[ay OR.symm,aj]
  refine nT _ O (.inr<|.inl ⟨_,_,_,_,O,O,aB.of M,O,?_⟩);refine nT _ O (.inr<|.inl ⟨_,_,_,_,O,O,aB.of M,O,_,O,?_⟩);rw[ZP,iG];cases d with
  |k n=>exact gX (nW _ O eF (f _ O))
  |p s=>
   refine jg (nT _ O (.inr<|.inl ⟨_,_,_,_,O,O,aB.of M,O,_,O,_,O,_,O,_,O,cI I.1.1,eF,f _ ?_⟩));show V.s (oQ s (some (o:Int))<|some ((o+k:Nat):Int))=V.s ⟨((s.cps.toList.drop o).take k).toArray⟩;rw[Wl,Fy o (k:Int) k O]
  |c s=>
   refine jg (nT _ O (.inr<|.inl ⟨_,_,_,_,O,O,aB.of M,O,_,O,_,O,_,O,_,O,cI I.1.1,eF,f _ ?_⟩));show V.s (oQ s (some (o:Int))<|some ((o+k:Nat):Int))=V.s ⟨((s.cps.toList.drop o).take k).toArray⟩;rw[Wl,Fy o (k:Int) k O]
 refine nT _ O ?_;rw[ZP];by_cases W:k=aL d - o;refine iT ?_ (Z2 (by congr 1;lia));refine nT _ O ⟨w,C,dx,_,_,O,aj,T.cl,T.t,ya,_,O,w,C,dx,_,O,aj,T.cl,T.t,(by show 3<1000;decide),?_⟩;rw[zk,ad5];refine sP _ O w C dx _ O aj T.cl T.xZ (by show 3<1000;decide) ?_;rw[zk,OP,show(i:Int)+1=((i+1:Nat):Int) by lia];refine u (i+1) 0 ?_;have R:d6 (cU d o) t k=t:=Id (by rw[nQ d o (Zx ho)];exact W);rw[R,e2];cases t with
 |nil=>exact .inl ⟨O,O⟩
 |cons D t2=>
  have hm:aZ D:=J D (Z6 (by rw[e];exact .tail _ (.head _)));exact .inr (oW D t2 O ((lK hm).2) (by rw[drop_zero]))
 refine iF ?_ (VH (by intro z;have z':(aL d:Int) - ((o+k:Nat):Int)=0:=(by injection z);lia));refine u i (o+k)<|.inr ⟨d,t,e,ap,?_⟩;have R:d6 (cU d o) t k=cU (cU d o) k::t:=Ix (by rw[nQ d o (Zx ho)];exact W);rw[R,drop_drop]
theorem cD.app{xs N b a:im}(h:cD xs N z)(d:cD b a e):cD (xs++b) (N++a) (z++e):=by
 induction h with
 |n=>exact d
 |p Y i=>exact .p i
 |c Y i=>exact .c i
 |kk Y i=>exact .kk i
 |kc Y i=>exact .kc i
 |pk Y i=>exact .pk i
 |pc Y i=>exact .pc i
theorem OT:∀s:am,cD [] (s.map .P) (s.map .P)
 |[]=>.n
 |c::s=>.p (OT s)
theorem FQ:∀s:am,cD (s.map .C) [] (s.map .C)
 |[]=>.n
 |c::s=>.c (FQ s)
theorem OU:∀n:Nat,cD (rK n) (rK n) (rK n)
 | 0=>.n
 |n+1=>.kk (OU n)
theorem OV:∀s:am,cD (rK s.length) (s.map .C) (s.map .C)
 |[]=>.n
 |c::s=>.kc (OV s)
theorem OW:∀s:am,cD (s.map .P) (rK s.length) (s.map .P)
 |[]=>.n
 |c::s=>.pk (OW s)
theorem OX:∀s:am,cD (s.map .P) (s.map .C) []
 |[]=>.n
 |c::s=>.pc (OX s)
noncomputable def dF:im->Nat
 |[]=>0
 |.P _::xs=>dF xs
 |.K::xs=>dF xs+1
 |.C _::xs=>dF xs+1
noncomputable def iK:im->Nat
 |[]=>0
 |.P _::xs=>iK xs+1
 |.K::xs=>iK xs+1
 |.C _::xs=>iK xs
noncomputable def cnt:im->Nat
 |[]=>0
 |.K::xs=>cnt xs
 |.P _::xs=>cnt xs+1
 |.C _::xs=>cnt xs+1
theorem nU:∀(xs:im)(l:am),ZA l xs->l.length=dF xs
 |[],l,h=>by cases h;rfl
 |.P c::xs,l,h=>nU xs l h
 |.K::xs,[],h=>h.elim
 |.K::xs,a::l,h=>by simp[dF,nU xs l h]
 |.C c::xs,[],h=>h.elim
 |.C c::xs,a::l,h=>by simp[dF,nU xs l h.2]
theorem Be:∀(xs:im)(l:am),ZA l xs->(V1 l xs).length=iK xs
 |[],l,h=>O
 |.P c::xs,l,h=>by simp[V1,iK,Be xs l h]
 |.K::xs,[],h=>h.elim
 |.K::xs,a::l,h=>by simp[V1,iK,Be xs l h]
 |.C c::xs,[],h=>h.elim
 |.C c::xs,a::l,h=>Be xs l h.2
theorem yb:∀(xs N:im),dF (xs++N)=dF xs+dF N
 |[],N=>by simp[dF]
 |.P c::xs,N=>yb xs N
 |.K::xs,N=>by simp only[hY,dF,yb xs N];lia
 |.C c::xs,N=>by simp only[hY,dF,yb xs N];lia
theorem Bf:∀(xs N:im),cnt (xs++N)=cnt xs+cnt N
 |[],N=>by simp[cnt]
 |.K::xs,N=>Bf xs N
 |.P c::xs,N=>by simp only[hY,cnt,Bf xs N];lia
 |.C c::xs,N=>by simp only[hY,cnt,Bf xs N];lia
theorem cD.cnt{xs N:im}(h:cD xs N z):cnt z<=cnt xs+cnt N:=by
 induction h<;>simp only[Internal.cnt] <;>lia
theorem yc{N:im}:∀(xs:im)(l:am),ZA l (xs++N)->∃l1 l2,l=l1++l2/\ZA l1 xs/\ZA l2 N/\V1 l (xs++N)=V1 l1 xs++V1 l2 N:=by
 intro xs;induction xs with
 |nil=>exact λl h=>oZ [] l O O h O
 |cons x xs i=>
  intro l h;cases x with
  |P c=>
   obtain⟨l1,l2,rfl,a,b,d⟩:=i l h;exact oZ l1 l2 O a b (by show c::V1 _ (xs++N)=c::(V1 l1 xs++V1 l2 N);rw[d])
  |K=>
   cases l with
   |nil=>exact(show False from h).elim
   |cons e l=>
    obtain⟨l1,l2,rfl,a,b,d⟩:=i l h;exact oZ (e::l1) l2 O a b (by show e::V1 _ (xs++N)=e::(V1 l1 xs++V1 l2 N);rw[d])
  |C c=>
   cases l with
   |nil=>exact(show False from h).elim
   |cons e l=>
    obtain⟨f,h⟩:=(show e=c/\ZA l (xs++N) from h);obtain⟨l1,l2,rfl,a,b,d⟩:=i l h;exact oZ (e::l1) l2 O ⟨f,a⟩ b d
theorem OY{a b:am}{N:im}(h:ZA (a++b) (N++z))(l:a.length=dF N):ZA a N/\ZA b z:=by
 obtain⟨l1,l2,e,c,d,Y⟩:=yc N _ h;have:=nU _ _ c;obtain⟨rfl,rfl⟩:=List.append_inj e ap;exact⟨c,d⟩
theorem yd(n:Nat):dF (rK n)=n:=by
 induction n with
 |zero=>rfl
 |succ n i=>show dF (rK n)+1=_;rw[i]
theorem pw(s:am):dF (s.map .C)=s.length:=by
 induction s with
 |nil=>rfl
 |cons c s i=>show dF (s.map .C)+1=_;rw[i];rfl
theorem aed(n:Nat):iK (rK n)=n:=by
 induction n with
 |zero=>rfl
 |succ n i=>show iK (rK n)+1=_;rw[i]
theorem aee(s:am):iK (s.map .P)=s.length:=by
 induction s with
 |nil=>rfl
 |cons c s i=>show iK (s.map .P)+1=_;rw[i];rfl
theorem OZ:∀(xs:im)(l:am),ZA l xs->V1 l xs=[]->∀x∈xs,∃c,x=.C c
 |[],l,_,_,x,b=>by cases b
 |.P c::xs,l,h,e,x,b=>by cases e
 |.K::xs,[],h,_,_,_=>h.elim
 |.K::xs,a::l,h,e,x,b=>by cases e
 |.C c::xs,[],h,_,_,_=>h.elim
 |.C c::xs,a::l,h,e,x,b=>by
  rcases xW.mp b with rfl|b
  exact⟨c,O⟩;exact OZ xs l h.2 e x b
theorem c_.app{xs N o b:im}(h:c_ xs N o t)(a:c_ b e g v):c_ (xs++b) (N++e) (o++g) (t++v):=by
 induction h with
 |n=>exact a
 |p1 Y i=>exact .p1 i
 |p2 Y i=>exact .p2 i
 |kk Y i=>exact .kk i
 |kc Y i=>exact .kc i
 |ck Y i=>exact .ck i
 |cc Y i=>exact .cc i
theorem O0:∀s:am,c_ (s.map .P) [] (s.map .P) (rK s.length)
 |[]=>.n
 |c::s=>.p1 (O0 s)
theorem O1:∀s:am,c_ [] (s.map .P) (rK s.length) (s.map .P)
 |[]=>.n
 |c::s=>.p2 (O1 s)
theorem O2:∀n:Nat,c_ (rK n) (rK n) (rK n) (rK n)
 | 0=>.n
 |n+1=>.kk (O2 n)
theorem O3:∀s:am,c_ (rK s.length) (s.map .C) [] (s.map .C)
 |[]=>.n
 |c::s=>.kc (O3 s)
theorem O4:∀s:am,c_ (s.map .C) (rK s.length) (s.map .C) []
 |[]=>.n
 |c::s=>.ck (O4 s)
theorem O5:∀s:am,c_ (s.map .C) (s.map .C) [] []
 |[]=>.n
 |c::s=>.cc (O5 s)
theorem c_.aef{xs N o:im}(h:c_ xs N o t):cnt o<=cnt xs/\cnt t<=cnt N:=by
 induction h<;>simp only[cnt] <;>lia
section
variable{g:bu}{D:ET}{u:St}{H:Hp}{r:gu}{Q:VK}{QA:ci->Hp->Prop}{l:wl}
theorem tE(C:DL)(s:Sp)(b:g.ms j=(C,s))(h:ae g o u H λx H1=>∃a dx f,x=.r a/\H1 a=some (.i C dx f)/\f.lookup m=none/\s [x] H1 Q g.E):ae g (.a j m o []) u H Q:=by
 show rY (g.ms j).1 m (g.ms j).2 [] g.E (ae g o) (aP g []) u H Q;rw[b];exact h
theorem ko(C:DL)(s:Sp)(b:g.ms j=(C,s))(h:ae g o u H λx H1=>∃p dx f,x=.r p/\H1 p=some (.i C dx f)/\f.lookup m=none/\ae g a u H1 λy W=>s [x,y] W Q g.E):ae g (.a j m o [a]) u H Q:=by
 show rY (g.ms j).1 m (g.ms j).2 [] g.E (ae g o) (aP g [a]) u H Q;rw[b];exact h
theorem Bg(C:DL)(s:Sp)(b:g.kt j=(C,s))(h:ae g a u H λy H1=>∀x dx,H1 x=none->H1 dx=none->dx≠x->s [.r x,y] (upd (upd H1 dx<|.o x) x<|.i C dx []) (λv W=>v=.a/\Q (.r x) W) g.E):ae g (.m j [a]) u H Q:=by
 show Dh (g.kt j).1 (g.kt j).2 [] g.E (aP g [a]) u H Q;rw[b];exact h
theorem qT(W:Nat->St->Hp->Prop)(e:∃m,W m u H)(h:∀m u H,W m u H->aR g c u H λb H1=>if b=true then ∃N:St->Hp->Prop,(∀a Z,N a Z->∃d,d<m/\W d a Z)/\ax g body {{D with nx:=ax g r D} with nx:=N,c:=N,bk:=ax g r D} u H1 else ax g r D u H1):ax g (.m c body::r) D u H:=⟨W,e,h⟩
theorem cx(h:aR g c u H λb H1=>if b=true then ax g t {D with nx:=ax g r D} u H1 else ax g e {D with nx:=ax g r D} u H1):ax g (.i c t e::r) D u H:=h
theorem bf(h:ae g a u H λx H1=>ae g b u H1 λy W=>cp g.K op x y W λz c=>∃k,z=.b k/\l k c):aR g (.p op a b) u H l:=h
theorem cM(h:ae g o u H λx H1=>∃a C dx s v,x=.r a/\H1 a=some (.i C dx s)/\gT g.K C/\gI g.K C f/\s.lookup f=some v/\Q v H1):ae g (.f o f) u H Q:=h
theorem iy(h:ae g o u H λx H1=>uI g.K (xg m) x H1/\ae g a u H1 λy W=>z6 g.K m x [y] W Q):ae g (.w m o [a]) u H Q:=h
theorem lL{K:Frag}(q:Q (.b<|x==y) H):cp K .Eq (.s x) (.s y) H Q:=by
 show Q (.b<|false ^^ decide (V.s x=V.s y)) H;rw[ZP,iG];exact q
theorem tF{K:Frag}(q:Q (.b<|x !=y) H):cp K .NotEq (.s x) (.s y) H Q:=by
 show Q (.b<|true ^^ decide (V.s x=V.s y)) H;rw[WI,iG];exact q
end
theorem bO.ob{r:bn}(h:bO C H w L r):∃(dx:DL)(i o:Int),H w=some (.i C dx<|wf L i o):=by
 obtain⟨dx,xs,ps,i,o,a,Y⟩:=Yj h;exact⟨dx,i,o,a⟩
theorem FR{i o:Int}:(wf L i o).lookup ("word":Str)=none/\(wf L i o).lookup ("left":Str)=none/\(wf L i o).lookup ("take":Str)=none:=
 ⟨Bb (by decide+kernel) (by decide+kernel) (by decide+kernel),Bb (by decide+kernel) (by decide+kernel) (by decide+kernel),Bb (by decide+kernel) (by decide+kernel) (by decide+kernel)⟩
inductive Bh(vs:ci)(H:Hp)(Q:VK)(E:XK):Prop|i(v:V)(p:Pt)(u:Str)(_:vs=[v,.s u])(_:jO H v p)(_:((∃n,p=.k n/\∀c t Z,ar H Z->H c=none->Z c=some (.l [.r t])->Z t=some (.t [.s "cut",.s u])->Q (.r c) Z)\/
 (p=.p u/\∀c Z,ar H Z->H c=none->Z c=some (.l [])->Q (.r c) Z)))
abbrev g0(K:Frag)(et:sK)(E:XK):bu:=aH K [] [] (et:=et) (E:=E)
theorem Jf{K:Frag}:bS (Bh) (λE=>g0 K et E) OH OG:=by
 intro vs H Q E h;obtain⟨v,p,u,rfl,⟨a,rfl,d⟩,⟨n,rfl,q⟩|⟨rfl,q⟩⟩:=h;refine⟨_,O,.inr<|.inl ⟨_,_,_,_,O,O,aB.of d,O,_,O,⟨_,O,eF,λt g=>⟨eE,λc b=>?_⟩⟩⟩⟩;have f:=Xq (o:=.t [V.s "cut",V.s u]) g;have e:=Xq (o:=.l [V.r t]) b;exact q c t _ (f.trans e) (f.free b) aj<|e _ _ aj;refine⟨_,O,.inr<|.inl ⟨_,_,_,_,O,O,aB.of d,O,_,O,⟨_,O,.inr<|.inl ⟨_,_,_,_,O,O,aB.of d,O,_,O,_,O,?_⟩⟩⟩⟩;rw[Z2 (show(Pt.p u).val=V.s u from O)];exact⟨Ww _,λc b=>q c _ (Xq b) b aj⟩
section
variable{f:bu}{u:St}{H:Hp}{Q:VK}{g:wl}{K:Frag}
theorem Bi{r:u8}(h:aR f a u H λc H1=>if c=true then g true H1 else aR f (.o (b::r)) u H1 g):aR f (.o (a::b::r)) u H g:=h
theorem FT(h:aR f a u H g):aR f (.o [a]) u H g:=h
theorem Bj{r:u8}(h:aR f a u H λc H1=>if c=true then aR f (.d (b::r)) u H1 g else g false H1):aR f (.d (a::b::r)) u H g:=h
theorem KY(h:aR f a u H g):aR f (.d [a]) u H g:=h
theorem aei{T:Ty}(h:ae f a u H λx H1=>cf T x H1 λb=>g b H1):aR f (.j T a) u H g:=by
 have e:∀(q:VK),(fun(x:V)(H1:Hp)=>cf T x H1 λb=>q (.b b) H1)=λx H1=>qp T [x,.t T.nm] H1 q:=by
  intro q;simp[qp]
 show ae f a u H λx H1=>qp T [x,.t T.nm] H1 λv W=>oS f.K v W λb=>g b W;rw[<-e];exact h
theorem kq{a:DL}{i:Int}(h:H a=some (.t xs))(e:fU xs i=some v)(q:Q v H):qr K s (.r a) (.i i) H Q:=
 .inr (.inl ⟨_,_,_,_,O,O,aB.of h,e,q⟩)
theorem jP{y:Int}(q:Q (.b<|decide<|x=y) H):cp K .Eq (.i x) (.i y) H Q:=by
 show Q (.b<|false ^^ decide (V.i x=V.i y)) H;rw[ZP,show decide (V.i x=V.i y)=decide (x=y) from decide_eq_decide.mpr ⟨λz=>by lia,λz=>by lia⟩];exact q
theorem tG{y:Int}(q:Q (.b<|!decide (x=y)) H):cp K .NotEq (.i x) (.i y) H Q:=by
 show Q (.b<|true ^^ decide (V.i x=V.i y)) H;rw[WI,show decide (V.i x=V.i y)=decide (x=y) from decide_eq_decide.mpr ⟨λz=>by lia,λz=>by lia⟩];exact q
theorem cnS(q:Q (.b false) H):cp K .NotEq (.s x) (.s x) H Q:=by
 refine tF ?_;rw[show(x !=x)=false by lia];exact q
theorem ltI{y:Int}(q:Q (.b<|decide<|x<y) H):cp K .Lt (.i x) (.i y) H Q:=⟨trivial,q⟩
theorem pz{y:Int}(q:Q (.b<|decide<|y<x) H):cp K .Gt (.i x) (.i y) H Q:=⟨trivial,q⟩
theorem FU{i j:Int}(h:Q (.i<|i+j) H):sv K .Add (.i i) (.i j) H Q:=h
end
theorem FV(p:Pt)(t:bn)(k:Nat):(d6 p t k).length<=t.length+1:=by
 unfold d6;split<;>simp
theorem Bk(t:bn)(a:k<=aL p):ak (p::t)=ba (aK p k)++ak (d6 p t k):=by
 unfold d6;rw[cJ,AZ p k a];split;rename_i e;have:ba (cU p k)=[]:=by
  have h:=nQ p k a;rw[e,Wg] at h;cases p with
  |k n=>
   have o:(n - (k:Int)).toNat=0:=e▸h;show rK (n - (k:Int)).toNat=[];rw[o];rfl
  |p s=>
   rw[<-e] at h;have o:(⟨(s.cps.toList.drop k).toArray⟩:Str).length=0:=h;rw[mI] at o;show(s.cps.toList.drop k).map At.P=[];rw[Wo.mp o];rfl
  |c s=>
   rw[<-e] at h;have o:(⟨(s.cps.toList.drop k).toArray⟩:Str).length=0:=h;rw[mI] at o;show(s.cps.toList.drop k).map At.C=[];rw[Wo.mp o];rfl
 rw[this,Y3];rw[cJ,VD]
theorem vq(p:Pt):(ba p).length=aL p:=by
 cases p with
 |k n=>show(rK n.toNat).length=_;unfold rK;rw[List.length_replicate];rfl
 |p s=>show(s.cps.toList.map At.P).length=_;rw[XN];rfl
 |c s=>show(s.cps.toList.map At.C).length=_;rw[XN];rfl
theorem FW(t:bn)(a:1<=k)(h:k<=aL p):(ak<|d6 p t k).length< (ak (p::t)).length:=by
 rw[Bk t h,W0,vq,x_ p k h];lia
theorem vt(h:Γ.ms j=(C,qS C))(d:u[i]?=some (some<|.r w))(W:bO C H w L c)(q:Q (.s<|qR c) H):ae Γ (.a j "word" (.v i) []) u H Q:=by
 obtain⟨dx,a,b,e⟩:=W.ob;exact tE C (qS C) h<|af d ⟨w,dx,_,O,e,FR.1,w,L,c,O,W,q⟩
theorem vv{t:bn}(h:Γ.ms j=(C,nR C))(c:u[i]?=some (some<|.r w))(W:bO C H w L (p::t))(q:Q (.i (aL p:Int)) H):ae Γ (.a j "left" (.v i) []) u H Q:=by
 obtain⟨dx,a,b,d⟩:=W.ob;exact tE C (nR C) h<|af c ⟨w,dx,_,O,d,FR.2.1,w,L,p,t,O,W,q⟩
theorem vw{t:bn}(h:Γ.ms j=(C,pj C))(e:u[i]?=some (some<|.r w))(W:bO C H w L (p::t))(g:1<=k)(d:k<=aL p)(f:∀c:VK,c (.i (k:Int)) H->ae Γ a u H c)(q:∀r Z,aE w H Z->Z r=some (.t [.s (aK p k).word,(aK p k).val])->H r=none->bO C Z w L (d6 p t k)->Q (.r r) Z):ae Γ (.a j "take" (.v i) [a]) u H Q:=by
 obtain⟨dx,x,b,l⟩:=W.ob;exact ko C (pj C) h<|af e ⟨w,dx,_,O,l,FR.2.2,f _ (⟨w,L,p,t,k,O,W,g,d,q⟩)⟩
inductive Bl(C:DL)(vs:ci)(H:Hp)(Q:VK)(E:XK):Prop|i(w L:DL)(v:V)(b:bn)(t:Pt)(l:am)(N:im)(_:vs=[.r w,v])(_:bO C H w L b)(_:jO H v t)(_:aZ t)(_:(∀s,t≠ .p s))(_:b.length<=200000)(_:ZA l (ak b))(_:ZA (V1 l<|ak b) (ba t++N))(_:∀(c:DL)(Z:Hp)(x:ci)(a f:bn)(d:am)(z:im),aE w H Z->H c=none->Z c=some (.l x)->aF Z x a->(∀p∈a,aZ p)->bO C Z w L f->ak b=z++ak f->cD z (ba t) (ak a)->
  ZA d (ak f)->ZA (V1 d<|ak f) N->a.length+f.length<=b.length+1->Q (.r c) Z)
theorem aE.vx(b:aE w H Z)(h:H w=some (.i C dx f)):bR H Z:=λc xs e=>b c _ e (cA e h ap)
theorem aek:aK (cU (.c s) k) m=.c ⟨((s.cps.toList.drop k).take m).toArray⟩:=O
inductive FX(C w b c L:DL)(H:Hp)(a:bn)(t:Pt)(N:im)(m:Nat)(u:St)(Z:Hp):Prop|i(k:Nat)(g e:v0)(x:ci)(s f:bn)(d:am)(z:im)(_:m=(ak f).length)(_:u=[some<|.r w,some<|.r b,some<|.r c,some<|.i (k:Int),g,e])(_:aE w H Z)(_:Z c=some (.l x))(_:aF Z x s)(_:(∀p∈s,aZ p))(_:bO C Z w L f)(_:ak a=z++ak f)(_:cD z (ba<|aK t k) (ak s))(_:k<=aL t)(_:ZA d (ak f))(_:ZA (V1 d<|ak f) (ba (cU t k)++N))(_:s.length+f.length<=a.length+(if k=aL t then 1 else 0)):FX C w b c L H a t N m u Z
abbrev g_(K:Frag)(C:DL)(E:XK):bu:=aH K [("part_size",qz),("cut_behind",Bh)] [] [] [("word",C,qS C),("take",C,pj C),("left",C,nR C)] (E:=E)
theorem ael{K:Frag}:bS (Bl C) (λE=>g_ K C E) OJ OI:=by
 intro vs H Q E h;obtain⟨w,L,v,rs,f,l,N,rfl,W4,⟨J,rfl,km⟩,az,ye,ND,n',k',q⟩:=h;obtain⟨r',z'⟩:=lK az;refine aN<|d5<|aI ⟨Ww _,λc T=>?_⟩;refine aN<|aC ?_;have b0:aE w H (upd H c<|.l []):=λb o e _=>by rw[ay<|aQ e T];exact e
 obtain⟨y',i0,o0,O6⟩:=W4.ob;have nV:c≠w:=λz=>by rw[z,O6] at T;cases T
 have mK:c≠L:=by
  obtain⟨_,_,_,_,_,zq⟩:=Yj W4;obtain⟨_,hL,_⟩:=Xb zq;exact(aQ hL T).symm
 refine qT (FX C w J c L H rs f N)
  (o3 _ ⟨0,none,none,[],[],rs,l,[],O,O,b0,aj,.nil,(λp hp=>by cases hp),W4.same<|Xq T,O,?_,Ww _,n',by rw[drop_zero];exact k',aJ⟩) ?_
 have e:ba (aK f 0)=[]:=Wo.mp (by rw[vq,x_ f 0<|Ww _]);rw[e];exact .n;rintro m u H1 ⟨k,u4,u5,A,g,fO,l',zs,rfl,rfl,b1,Bm,jv,iz,R,ez,iQ,hk,pA,F,j⟩;have FY:H1 J=some (.t [.s f.word,f.val]):=b1 _ _ km (cA km O6 (by intro z;cases z));have FZ:=KB jv;have sz:∀{u:St}{Q1:VK},u[1]?=some (some<|.r J)->Q1 (.i (aL f:Int)) H1->ae (g_ K C E) (.l 0 [.v 1]) u H1 Q1:=by
  intro u Q1 h1 hq;refine bE qz O<|av<|af h1<|aI ⟨_,f,O,⟨J,O,FY⟩,Ar az,?_⟩;rw[r'];exact hq
 refine bf<|af O<|sz O ⟨trivial,_,O,?_⟩;by_cases kr:k<aL f;refine iT (nT _ (λt' Z z=>z) ?_) (Z2 ap);have v':=FN az kr;have uN:(if k=aL f then 1 else 0)=0:=Ix (ZH kr);rw[uN] at j;cases fO with
 |nil=>
  exfalso;have e1:V1 l' (ak [])=[]:=O;rw[e1] at F;have:=nU _ _ F;rw[yb] at this;have u':dF (ba<|cU f k)=aL f - k:=by
   rw[<-nQ f k hk];cases f with
   |k n=>exact yd _
   |p s=>exact absurd O (ye s)
   |c s=>show dF ((s.cps.toList.drop k).map At.C)=_;rw[pw];show _=(⟨(s.cps.toList.drop k).toArray⟩:Str).length;rw[mI]
  simp only[VO] at this;lia
 |cons p t=>
  have hp:=R.ok p (.head _);obtain⟨O7,yf⟩:=lK hp;refine cx<|bf<|vt (C:=C) O O R<|aC<|lL ⟨_,O,?_⟩;show if ((p.word:Str)=="cut")=true then _ else _
  have b':∀(W:Hp)(G:ci)(a:DL)(pt:Pt),aE w H W->W c=some (.l G)->aF W G g->W a=some (.t [.s pt.word,pt.val])->
    aE w H (upd W c<|.l<|G++[V.r a])/\aF (upd W c<|.l<|G++[V.r a]) (G++[V.r a]) (g++[pt]):=by
   intro W G a pt bb y oY iu;have Y:bR W (upd W c<|.l<|G++[V.r a]):=aE.upd.bB y;exact⟨λb o e n=>by rw[ay<|aQ e T];exact bb b o e n,aF.snoc (oY.mono Y) (nT a O (Y _ _ iu))⟩
  have Bn:∀(W:Hp)(G O8:ci)(F6:bn),W c=some (.l G)->bO C W w L F6->bO C (upd W c<|.l O8) w L F6:=λW G O8 F6 y X=>X.but aE.upd y mK;by_cases mH:p.word="cut"
  
  rw[mH];obtain⟨s,rfl⟩:∃s,p=.c s:=by
   cases p with
   |k n=>exact absurd (show(Str.ofString "keep")="cut" from mH) bc
   |p s=>exact absurd (show(Str.ofString "put")="cut" from mH) bc
   |c s=>exact o3 s O
  have ta:aK (.c s) (aL<|.c s)=.c s:=iI _ trivial;have re:d6 (.c s) t (aL<|.c s)=t:=Id O;refine dP<|iy<|af O ⟨.inl ⟨O,_,ah.of Bm⟩,vw (C:=C) (k:=aL (.c s)) O O R yf (VL _) (λQ' hq=>vv (C:=C) O O R hq) λa W U ha uC X=>?_⟩;rw[ta] at ha;rw[re] at X;have y:W c=some (.l A):=U _ _ Bm nV;obtain⟨p',i1,o1,Bo⟩:=XU R.ob;have oY:aF W A g:=jv.mono (U.vx Bo);obtain⟨bb,pp⟩:=b' W A a (.c s) (b1.trans U) y oY ha;refine nW A y (cQ ap) ?_;rw[cJ] at pA F ez;obtain⟨la,lb,rfl,f1,f2,f3⟩:=yc _ _ pA;have f0:V1 la (ba<|.c s)=[]:=by
   obtain⟨b,rfl⟩:=xS s.cps.toList la [] (by rw[Y3];exact f1);have:=nU _ _ f1;have e1:dF (ba<|.c s)=s.cps.toList.length:=pw _;rw[e1,W0] at this;have:b=[]:=Wo.mp ap;subst this;have:=AO s.cps.toList [] [];simp only[Y3] at this;rw[Y3];exact this
  rw[f3,f0,X3] at F;refine nT _ ?_ ⟨k,u4,u5,A++[V.r a],g++[.c s],t,lb,zs++ba (.c s),O,O,bb,aj,pp,?_,Bn W _ _ _ y X,by rw[ez,VD],?_,hk,f2,F,?_⟩;rw[cJ,W0,vq];lia;intro x hx;rcases X0.mp hx with z|z
  exact iz x z;rw[Yd.mp z];exact hp;have:=iQ.app (FQ s.cps.toList);rw[Y3] at this;rw[g7,g8];exact this;rw[uN];simp only[W0,d_,VO] at j⊢;lia;have iL:((p.word:Str)=="cut")=false:=beq_eq_false_iff_ne.mpr mH;rw[iL];obtain⟨n,hn⟩:∃n,n=min (aL p) (aL f - k):=o3 _ O;have dN:1<=n:=by lia
  have kU:n<=aL p:=by lia
  have w':n<=aL f - k:=by lia
  have c':(if ((aL f:Int) - (k:Int)) < (aL p:Int) then ((aL f:Int) - (k:Int)) else (aL p:Int))=(n:Int):=by
   split<;>lia
  refine aN<|NW<|av<|vv (C:=C) O O R<|av<|c7<|sz O<|af O ⟨trivial,aI ?_⟩;show ax _ _ _ ([some<|.r w,some<|.r J,some<|.r c,some<|.i (k:Int),u4,u5].set 4 (some<|V.i (if ((aL f:Int) - (k:Int)) < (aL p:Int) then ((aL f:Int) - (k:Int)) else (aL p:Int)))) H1;rw[c'];refine aN<|vw (C:=C) (k:=n) O O R dN kU (λQ' hq=>af O hq) λa W U ha uC X=>?_;have y:W c=some (.l A):=U _ _ Bm nV;obtain⟨p',i1,o1,Bo⟩:=R.ob;have oY:aF W A g:=jv.mono (U.vx Bo);have O9:W J=some (.t [.s f.word,f.val]):=U _ _ FY (cA FY Bo (by intro z;cases z));have F7:=b1.trans U;have q':=A_ hp dN kU;have eA:=Bk t kU;have eB:ba (cU f k)=ba (aK (cU f k) n)++ba (cU f<|k+n):=by
   rw[AZ (cU f k) n (by rw[nQ f k hk];exact w'),drop_drop]
  have eC:ba (aK f<|k+n)=ba (aK f k)++ba (aK (cU f k) n):=by
   have h1:=AZ f (k+n) ap;have h2:=AZ f k hk;rw[eB] at h2;rw[h2,<-VD] at h1;exact(List.append_inj_left' h1 O).symm
  rw[eA] at pA F ez;obtain⟨la,lb,rfl,f1,f2,f3⟩:=yc _ _ pA;rw[f3,eB,VD] at F;have d':(V1 la<|ba<|aK p n).length=n:=by
   rw[Be _ _ f1];cases p with
   |k m=>exact aed n
   |p s=>show iK ((s.cps.toList.take n).map At.P)=n;rw[aee,Ye];have hh:n<=s.length:=kU;rw[Xz] at hh;lia
   |c s=>exact absurd O mH
  have F8:dF (ba<|aK (cU f k) n)=n:=by
   have e:aL (aK (cU f k) n)=n:=x_ _ _ (by rw[nQ f k hk];exact w');cases f with
   |k m=>exact yd n
   |p s=>exact absurd O (ye s)
   |c s=>
    have e':(⟨((s.cps.toList.drop k).take n).toArray⟩:Str).length=n:=e;rw[mI] at e';show dF (((s.cps.toList.drop k).take n).map At.C)=n;rw[pw];exact e'
  obtain⟨g1,g2⟩:=OY F (by rw[d',F8]);have a':∀(B:Hp)(lE:ci)(vy:bn),aE w H B->B c=some (.l lE)->aF B lE vy->(∀x∈vy,aZ x)->bO C B w L (d6 p t n)->cD (zs++ba (aK p n)) (ba<|aK f<|k+n) (ak vy)->vy.length<=g.length+1->
    ∃m',m'< (ak (p::t)).length/\FX C w J c L H rs f N m' [some<|V.r w,some<|.r J,some<|.r c,some<|.i<|(k:Int)+(n:Int),some<|.i (n:Int),some<|.r a] B:=by
   intro B lE vy b3 M h' i' W3 sR x';refine nT _ (FW t dN kU) ⟨k+n,some<|.i (n:Int),some<|.r a,lE,vy,d6 p t n,lb,zs++ba (aK p n),O,by rw[Wl],b3,M,h',i',W3,by rw[ez,VD],sR,ap,f2,g2,?_⟩;have r1:=FV p t n;simp only[d_] at j;by_cases hz:n=aL p;have r2:d6 p t n=t:=Id hz;rw[r2];split<;>lia
   rw[Id (show k+n=aL f by lia)];lia
  refine cx<|bf<|bh<|af O<|aC<|.inr<|.inl ⟨_,_,_,_,O,O,aB.of O9,O,aC<|lL ⟨_,O,?_⟩⟩;cases f with
  |p s=>exact absurd O (ye s)
  |k m=>
   refine gX ?_;refine dP<|iy<|af O ⟨.inl ⟨O,_,ah.of y⟩,af O ⟨A,y,cQ ap,?_⟩⟩;obtain⟨bb,pp⟩:=b' W A a (aK p n) F7 y oY ha;refine aN<|c7<|af O<|af O ?_;refine a' _ _ (g++[aK p n]) bb aj pp ?_ (Bn W _ _ _ y X) ?_ aJ;intro x hx;rcases X0.mp hx with z|z
   exact iz x z;rw[Yd.mp z];exact q';rw[eC,g7,g8];refine iQ.app ?_;show cD (ba<|aK p n) (rK ((n:Nat):Int).toNat) (ba<|aK p n);rw[m3];cases p with
   |k m'=>show cD (rK ((n:Nat):Int).toNat) (rK n) (rK ((n:Nat):Int).toNat);rw[m3];exact OU n
   |p s=>
    have:=OW (s.cps.toList.take n);rw[Ye] at this;have hh:n<=s.length:=kU;rw[Xz] at hh;rw[show min n s.cps.toList.length=n by lia] at this;exact this
   |c s=>exact absurd O mH
  |c s=>
   refine jg ?_;have lX:W J=some (.t [.s "cut",.s s]):=O9;refine dP<|iy<|af O ⟨.inl ⟨O,_,ah.of y⟩,bE Bh O<|av<|af O<|av ?_⟩;refine nT _ O (.inr<|.inl ⟨_,_,_,_,O,O,aB.of lX,O,_,O,_,O,_,O,_,O,_,O,cI az.1.1,?_⟩);rw[Fy k (n:Int) n O];generalize hu:((s.cps.toList.drop k).take n)=D at*;have tH:ba (aK (cU (.c s) k) n)=D.map At.C:=by rw[<-hu];rfl
   have f':D.length=n:=by rw[tH,pw] at F8;exact F8
   rw[tH] at g1;refine⟨_,aK p n,⟨D.toArray⟩,O,nT a O ha,?_⟩;cases p with
   |c S=>exact absurd O mH
   |k m=>
    refine .inl (nT _ O (λd Y B I hd F9 g'=>?_));have M:=I _ _ y;refine oZ A [V.r Y] M F9 (cI bd) ?_;obtain⟨bb,pp⟩:=b' B A Y (.c ⟨D.toArray⟩) (λb o e nn=>I b o<|F7 b o e nn) M (oY.mono<|aX I) g';refine aN<|c7<|af O<|af O ?_;refine a' _ _ (g++[.c ⟨D.toArray⟩]) bb aj pp ?_ (Bn B _ _ _ M<|X.same I) ?_ aJ;intro x hx;rcases X0.mp hx with z|z
    exact iz x z;rw[Yd.mp z];have:=A_ (FN az kr) dN (show n<=aL (cU (.c s) k) by rw[nQ _ k hk];exact w');rw[aek,hu] at this;exact this;rw[eC,g7,g8,tH];refine iQ.app ?_;show cD (rK ((n:Nat):Int).toNat) (D.map At.C) (D.map At.C);rw[m3,<-f'];exact OV D
   |p S=>
    have eu:(S.cps.toList.take n)=D:=by
     have o':ZA la ((S.cps.toList.take n).map At.P++[]):=by rw[Y3];exact f1
     have vk:la=[]:=(sZ _ _ _).mp o';subst vk;have o1:V1 [] (ba<|aK (.p S) n)=S.cps.toList.take n:=by
      have:=AN (S.cps.toList.take n) [] [];rw[Y3] at this;exact this.trans<|Y3 _
     rw[o1] at g1;obtain⟨b,e⟩:=xS D _ [] (by rw[Y3];exact g1);have cO:=nU _ _ g1;rw[pw] at cO;rw[e,W0] at cO;have:b=[]:=Wo.mp ap;rw[this,Y3] at e;exact e
    refine .inr ⟨by show Pt.p ⟨(S.cps.toList.take n).toArray⟩=_;rw[eu],λd B I hd F9=>?_⟩;have M:=I _ _ y;refine oZ A [] M F9 (cI bd) ?_;rw[Y3];have Y:bR B (upd B c<|.l A):=aE.upd.bB M;refine aN<|c7<|af O<|af O ?_;refine a' _ _ g (λb o e nn=>by rw[ay<|aQ e T];exact I b o (F7 b o e nn)) aj ((oY.mono<|aX I).mono Y) iz (Bn B _ _ _ M<|X.same I) ?_ (Yr _);rw[eC,tH];have:=iQ.app (OX D);rw[Y3] at this;show cD (zs++(S.cps.toList.take n).map At.P) _ _;rw[eu];exact this
 refine iF ?_ (VH ap);have j':k=aL f:=WT hk (Zw kr)
 subst j';rw[iI f<|pb az] at iQ;have e0:ba (cU f<|aL f)=[]:=Wo.mp (by rw[vq,nQ f _<|VL _,Wg]);rw[e0,X3] at F;rw[Id O] at j;exact di<|af O<|q c H1 A g fO l' zs b1 T Bm jv iz R ez iQ pA F j
theorem aey(ps:bn):qA ps=WD (dy ps):=by
 unfold qA WD dy;rw[List.filter_map,XE];congr 1;funext p;cases p<;>rfl
 congr 1;funext p;cases p with
 |k n=>show(decide<|(Str.ofString "keep")≠"cut")=decide ((Str.ofString "keep")≠"put");decide
 |p n=>show(decide<|(Str.ofString "put")≠"cut")=decide ((Str.ofString "cut")≠"put");decide
 |c n=>show(decide<|(Str.ofString "cut")≠"cut")=decide ((Str.ofString "put")≠"put");decide
theorem ym.gives(h:ym l ps r):(qA ps).sum=r.length:=by
 rw[aey];exact h.qJ.over
theorem aez(p:Pt):cnt (ba p)=dO p:=by
 cases p with
 |k n=>
  have:∀m,cnt (rK m)=0:=λm=>by
   induction m with
   |zero=>rfl
   |succ m i=>exact i
  exact this _
 |p s=>
  show cnt (s.cps.toList.map At.P)=s.length;rw[Xz];induction s.cps.toList with
  |nil=>rfl
  |cons c t i=>show cnt (t.map At.P)+1=_;rw[i];rfl
 |c s=>
  show cnt (s.cps.toList.map At.C)=s.length;rw[Xz];induction s.cps.toList with
  |nil=>rfl
  |cons c t i=>show cnt (t.map At.C)+1=_;rw[i];rfl
theorem vz(ps:bn):cnt (ak ps)=aq ps:=by
 induction ps with
 |nil=>rfl
 |cons p ps i=>
  rw[cJ,Bf,aez,i];simp[aq]
theorem O_(h:ps[i]?=some p):ak (ps.take<|i+1)=ak (ps.take i)++ba p:=by
 rw[YQ,h];simp[ak]
theorem akD(h:ps[i]?=some p):ps.drop i=p::ps.drop (i+1):=by
 have a:=(Wq.mp h).1;rw[cV a];congr 1;exact WV<|(Xd a).symm.trans h
structure pB(one G' ps:bn)(l r:am):Prop where
 ok:∀p∈ps,aZ p
 ch:YU "" ps=true
 run:ym l ps r
 res:res 0 (ak ps)=sub (res 0<|ak one) 0 (res 0<|ak G')
 len:ps.length<=3* (one.length+G'.length)+2
 aq:aq ps<=aq one+aq G'
 aA:∃zs,cD (ak one) (ak G') zs/\nb (ak ps)=nb zs
inductive tJ(vs:ci)(H:Hp)(Q:VK)(E:XK):Prop|i(a b:DL)(xs N:ci)(o G':bn)(l m r:am)(_:vs=[.r a,.r b])(_:H a=some (.l xs))(_:H b=some (.l N))(_:aF H xs o)(_:aF H N G')(_:(∀p∈o,aZ p))(_:(∀p∈G',aZ p))(_:YU "" o=true)(_:YU "" G'=true)(_:o.length+G'.length<=180000)(_:aq o+aq G'<=100000)(_:ym l o m)(_:ym m G' r)(_:∀(c:DL)(Z:Hp)(z:ci)(ps:bn),ar H Z->H c=none->Z c=some (.l z)->aF Z z ps->pB o G' ps l r->Q (.r c) Z)
theorem aeA(g:ym l one m)(e:ym m G' r)(b:∀p∈s,aZ p)(w:s.length<=one.length+G'.length)(v:aq one+aq G'<=100000)(h:cD (ak one) (ak G') (ak s)):pB one G' (jr s) l r/\aq s<=100000:=by
 have F:=by
  have:=h.cnt;rw[vz,vz,vz] at this;exact this
 have E:=Fm b (wO F v);have q:=vc s E;obtain⟨x,i,Y⟩:=AG s E (wO F v);obtain⟨k,j⟩:=g.fits;obtain⟨c,f⟩:=e.fits;rw[<-j] at c f;obtain⟨u,t,n⟩:=adv h l 0 0 k c;have y:=s_ s λp a=>pb (b p a);have G:=by
  have:=ve s l (λp a=>pb<|b p a) u;rw[t,f] at this;exact this
 have d:=xI s;refine⟨⟨q▸i,ap,q▸AH G,by rw[ady y,n],ap,by rw[q,xJ s E];exact F,_,h,y⟩,(wO F v)⟩
inductive Ga(C a b w c L:DL)(H:Hp)(o G':bn)(i:Nat)(u:St)(e:Hp):Prop|i(g:v0)(N:ci)(s d:bn)(f:am)(z:im)(_:u=[some<|.r a,some<|.r b,some<|.r w,some<|.r c,g])(_:ar H e)(_:e c=some (.l N))(_:aF e N s)(_:(∀p∈s,aZ p))(_:bO C e w L d)(_:ak o=z++ak d)(_:cD z (ak<|G'.take i) (ak s))(_:ZA f (ak d))(_:ZA (V1 f<|ak d) (ak<|G'.drop i))(_:s.length+d.length<=o.length+i):Ga C a b w c L H o G' i u e
inductive Pa(C a b w c L:DL)(f:v0)(H:Hp)(o G':bn)(m:Nat)(u:St)(e:Hp):Prop|i(N:ci)(s d:bn)(g:am)(z:im)(_:m=d.length)(_:u=[some<|.r a,some<|.r b,some<|.r w,some<|.r c,f])(_:ar H e)(_:e c=some (.l N))(_:aF e N s)(_:(∀p∈s,aZ p))(_:bO C e w L d)(_:ak o=z++ak d)(_:cD z (ak G') (ak s))(_:ZA g (ak d))(_:V1 g (ak d)=[])(_:s.length+d.length<=o.length+G'.length):Pa C a b w c L f H o G' m u e
abbrev hA(K:Frag)(C:DL)(et:sK)(E:XK):bu:=aH K [("sizes",ig),("parts_behind",Bl C),("neat",mw)] [] [] [("word",C,qS C),("take",C,pj C),("left",C,nR C)] [("Walk",C,mJ C)] (et:=et) (E:=E)
theorem aeB{K:Frag}(T:qQ K C):bS (tJ) (λE=>hA K C et E) OM OL:=by
 intro vs H Q E h;obtain⟨a,b,xs,N,j,G',l,m,r,rfl,ha,hb,jH,eJ,mq,jD,eV,dH,o',AX,tK,f_,q⟩:=h;have lx:=KB jH;have ly:=KB eJ;obtain⟨f1,f2⟩:=tK.fits;obtain⟨f3,f4⟩:=f_.fits;rw[<-f2] at f3;refine cx<|bf<|bh<|bE ig O<|av<|af O<|aI ⟨a,xs,j,O,ha,jH,mq,eV,ap,λt1 H1 s1 kg=>?_⟩;refine aC<|.inr<|.inl ⟨_,_,_,_,O,O,aB.of kg,O,?_⟩;refine bh<|bE ig O<|av<|af O<|aI ⟨b,N,G',O,s1 _ _ hb,eJ.mono<|aX s1,jD,dH,ap,λt2 W s2 sQ=>?_⟩;refine aC<|.inr<|.inl ⟨_,_,_,_,O,O,aB.of sQ,O,?_⟩;refine nT _ O ?_;rw[tK.gives,f_.over,Z2 O];have iR:=s1.trans s2;refine aN<|Bg C (mJ C) O<|af O λw dx hw Gb iL=>?_;have s3:ar W (upd (upd W dx<|.o w) w<|.i C dx []):=λb o e=>by rw[ay<|aQ e hw,ay<|aQ e Gb];exact e
 have tL:=iR.trans s3;refine⟨w,dx,a,xs,j,O,aj,tL _ _ ha,jH.mono<|aX tL,mq,ap,λL H3 hL q' b3 W1=>⟨O,?_⟩⟩;have tM:ar H H3:=λb o e=>b3 b o (tL b o e) (aQ (iR b o e) hw);have fw:H w=none:=iR.free hw;refine aN<|d5<|aI ⟨Ww _,λc hc=>?_⟩;have fc:H c=none:=tM.free hc;have mK:c≠L:=by
  obtain⟨_,_,_,_,_,zq⟩:=Yj W1;obtain⟨_,g',_⟩:=Xb zq;exact(aQ g' hc).symm
 have nV:c≠w:=by
  obtain⟨_,_,_,hW⟩:=W1.ob;exact(aQ hW hc).symm
 have Pb:∀{A H5:Hp},ar H A->aE w A H5->ar H H5:=λs b d o e=>b d o (s d o e) (aQ e fw);have Gd:∀{A:Hp}{o:HO},ar H A->ar H (upd A c o):=λs d o e=>by rw[ay<|aQ e fc];exact s d o e
 refine qB _ O b O (o3 _ (ah.of ((Xq (o:=.l []) hc) _ _ (tM _ _ hb)))) (kT (K:=K) (a:=b) (xs:=N) (Ga C a b w c L H j G')
 ⟨none,[],[],j,l,[],O,tM.trans<|Xq hc,aj,.nil,(λp hp=>by cases hp),W1.same<|Xq hc,O,.n,f1,f3,aJ⟩
  (λi u A _ ⟨_,_,_,_,_,_,_,S,_,_,_,_,_,_,_,_,_⟩=>ah.of (S _ _ hb)) ?_ ?_)
 rintro i y u A hi ⟨u0,g,f,U,l',Y,rfl,S,G,D,X,W4,F,I,M,fb,Pc⟩;obtain⟨p,hp,jq⟩:=eJ.get hi;obtain⟨B,rfl,km⟩:=jq.mono (aX S);have dq:i<G'.length:=(Wq.mp hp).1;have iS:=jD p (Wv hp);have xG:=KB D;rw[akD hp,cJ] at fb;refine cx<|bf<|bh<|af O<|aC<|.inr<|.inl ⟨_,_,_,_,O,O,aB.of km,O,aC<|lL ⟨_,O,?_⟩⟩;have P':(∀s,p≠ .p s)->ax (hA K C et E) [.d<|.w .e (.v 3) [(.l 1 [.v 2,.v 4])]]
   {nx:=Ga C a b w c L H j G' (i+1),r:=Q} [some<|.r a,some<|.r b,some<|.r w,some<|.r c,some<|.r B] A:=by
  intro ye;refine dP<|iy<|af O ⟨.inl ⟨O,_,ah.of G⟩,bE (Bl C) O<|av<|af O<|av<|af O<|aI ?_⟩;refine⟨w,L,_,U,p,l',_,O,W4,nT B O km,iS,ye,ap,M,fb,λd H5 Ge n' b' l5 a' b5 hd h' Pd m' W5 k' d' j' i' Bp=>?_⟩;have o7:H5 c=some (.l g):=b5 _ _ G nV;obtain⟨_,_,_,f'⟩:=W4.ob;have r':=KB Pd;refine oZ g Ge o7 h' (cI ap) ?_;have R:bR H5 (upd H5 c<|.l<|g++Ge):=aE.upd.bB o7;refine⟨some<|.r B,g++Ge,f++n',b',l5,Y++a',O,Gd<|Pb S b5,aj,Paired.app ((D.mono<|b5.vx f').mono R)<|Pd.mono R,?_,W5.but aE.upd o7 mK,by rw[F,k',VD],?_,j',i',?_⟩;intro x hx;rcases X0.mp hx with z|z
  exact X x z;exact m' x z;rw[O_ hp,g7];exact I.app d';simp only[W0];lia
 cases p with
 |p s=>
  refine gX ?_;refine dP<|iy<|af O ⟨.inl ⟨O,_,ah.of G⟩,af O ⟨g,G,cQ ap,?_⟩⟩;have R:bR A (upd A c<|.l<|g++[V.r B]):=aE.upd.bB G;refine⟨some<|.r B,g++[V.r B],f++[.p s],U,l',Y,O,Gd S,aj,aF.snoc (D.mono R) (nT B O (R _ _ km)),?_,W4.but aE.upd G mK,F,?_,M,(sZ _ _ _).mp fb,bd⟩;intro x hx;rcases X0.mp hx with z|z
  exact X x z;rw[Yd.mp z];exact iS;rw[O_ hp,g7,g8];have:=I.app (OT s.cps.toList);rw[Y3] at this;exact this
 |k n=>exact jg (P' λs z=>by cases z)
 |c s=>exact jg (P' λs z=>by cases z)
 rintro u A ⟨u0,g,f,U,l',Y,rfl,S,G,D,X,W4,F,I,M,fb,Pc⟩;rw[ly,Xg] at I;rw[ly,vn] at fb;have oe:V1 l' (ak U)=[]:=fb;refine qT (Pa C a b w c L u0 H j G')
  (o3 _ ⟨g,f,U,l',Y,O,O,S,G,D,X,W4,F,I,M,oe,ap⟩) ?_
 clear I M oe fb F W4 D X G S Pc f U l' Y g A;rintro mm u H5 ⟨g,f,U,l',Y,rfl,rfl,s5,o7,D,X,W5,F,I,M,oe,Bp⟩;have xG:=KB D;refine bf<|vt (C:=C) O O W5<|aC<|tF ⟨_,O,?_⟩;cases U with
 |nil=>
  refine iF ?_ O;rw[show ak []=[] from O,Y3] at F;subst F;obtain⟨J,F_⟩:=aeA tK f_ X (by simp at Bp;exact Bp) AX I;refine di<|bE mw O<|av<|af O<|aI ⟨c,g,f,O,o7,D,by simp at Bp;lia,F_,λd H6 ws s6 hd h6 ku=>?_⟩;exact q d H6 ws _ (s5.trans s6) (s5.free hd) h6 ku J
 |cons p t=>
  have iS:=W5.ok p (.head _);obtain⟨O7,yf⟩:=lK iS;have mH:∃s,p=.c s:=by
   have qj:=OZ _ _ M oe;cases p with
   |c s=>exact o3 s O
   |k n=>
    exfalso;have dN:(1:Int)<=n:=iS;obtain⟨c',e⟩:=qj .K (by rw[cJ];refine Wu _ ?_;show At.K∈rK n.toNat;unfold rK;rw[List.mem_replicate];exact⟨ap,O⟩);cases e
   |p s=>
    exfalso;obtain⟨c0,r0,e0⟩:=kj iS.2;obtain⟨c',e⟩:=qj (.P c0) (by rw[cJ];refine Wu _ ?_;show At.P c0∈s.cps.toList.map At.P;rw[e0];exact .head _);cases e
  obtain⟨s,rfl⟩:=mH;have ta:aK (.c s) (aL<|.c s)=.c s:=iI _ trivial;have re:d6 (.c s) t (aL<|.c s)=t:=Id O;refine iT (nT _ (λp' Z z=>z) ?_) O;refine dP<|iy<|af O ⟨.inl ⟨O,_,ah.of o7⟩,vw (C:=C) (k:=aL (.c s)) O O W5 yf (VL _) (λQ' hq=>vv (C:=C) O O W5 hq) λB H6 b6 km uC W6=>?_⟩;rw[ta] at km;rw[re] at W6;have ju:H6 c=some (.l g):=b6 _ _ o7 nV;obtain⟨_,_,_,e'⟩:=XU W5.ob;simp only[d_] at Bp;refine nW g ju (cQ ap) ?_;have R:bR H6 (upd H6 c<|.l<|g++[V.r B]):=aE.upd.bB ju;rw[cJ] at M oe F;obtain⟨la,lb,zq⟩:=XU (yc _ _ M);obtain⟨rfl,g1,g2,g3⟩:=Xn zq;rw[g3] at oe;refine nT t.length aJ ⟨g++[V.r B],f++[.c s],t,lb,Y++ba (.c s),O,O,Gd<|Pb s5 b6,aj,aF.snoc ((D.mono<|b6.vx e').mono R) ⟨B,O,R _ _ km⟩,?_,W6.but aE.upd ju mK,by rw[F,VD],?_,g2,(List.append_eq_nil_iff.mp oe).2,bd⟩;intro x hx;rcases X0.mp hx with z|z
  exact X x z;rw[Yd.mp z];exact iS;rw[g7,g8];have:=I.app (FQ s.cps.toList);rw[Y3] at this;exact this
def yh(w c d:DL)(H Z:Hp):Prop:= ∀b o,H b=some o->b≠w->b≠c->b≠d->Z b=some o
theorem bO.Pe{d:DL}{r:bn}(h:bO C H w L r)(b:yh v c d H Z)(j:H c=some (.l xs))(g:H d=some (.l N))(s:c≠L)(q:d≠L)(n:w≠v)(p:∃m dx x,H v=some (.i m dx x)):bO C Z w L r:=by
 obtain⟨m,G,u,f⟩:=p;refine h.keep λe o a z=>b e o a ?_ ?_ ?_
 all_goals obtain⟨dx,Y,Y,Y,Y,zq⟩:=Yj h;obtain⟨k,t,Y⟩:=Xb zq
 rcases z with rfl|rfl|⟨N,rfl⟩
 exact n;exact cA t f ap;exact cA a f ap;rcases z with rfl|rfl|⟨N,rfl⟩
 exact cA k j ap;exact s.symm;exact cA a j ap;rcases z with rfl|rfl|⟨N,rfl⟩
 exact cA k g ap;exact q.symm;exact cA a g ap
inductive Bq(C:DL)(vs:ci)(H:Hp)(Q:VK)(E:XK):Prop|i(w L c d:DL)(s:Str)(t:bn)(xs N:ci)(_:vs=[.r w,.r c,.r d])(_:bO C H w L (.p s::t))(_:H c=some (.l xs))(_:H d=some (.l N))(_:c≠d)(_:c≠L)(_:d≠L)(_:xs.length<=100000)(_:N.length<=100000)(_:∀(a b:DL)(Z:Hp),yh w c d H Z->Z c=some (.l<|xs++[.r a])->Z d=some (.l<|N++[.r b])->Z a=some (.t [.s "put",.s s])->Z b=some (.t [.s "keep",.i (s.length:Int)])->bO C Z w L t->Q .a Z)
abbrev aiW(K:Frag)(C:DL)(E:XK):bu:=aH K [("part_size",qz)] [] [] [("take",C,pj C),("left",C,nR C)] (E:=E)
theorem aeP{K:Frag}:bS (Bq C) (λE=>aiW K C E) Oz Oy:=by
 intro vs H Q E h;obtain⟨w,L,c,d,s,t,xs,N,rfl,W,D,B,M,Z,G,lx,ly,q⟩:=h;have S:=W.ok _ (.head _);obtain⟨O7,I⟩:=lK S;have J:aK (.p s) (aL<|.p s)=.p s:=iI _ trivial;have R:d6 (.p s) t (aL<|.p s)=t:=Id O;refine aN<|vw (C:=C) O O W I (VL _) (λQ' hq=>vv (C:=C) O O W hq) λa H1 m n uC F=>?_;rw[J] at n;rw[R] at F;obtain⟨_,_,_,A⟩:=W.ob;have T:c≠w:=cA D A ap;have Br:d≠w:=cA B A ap;have k:=m _ _ D T;have U:=m _ _ B Br;refine dP<|iy<|af O ⟨.inl ⟨O,_,ah.of k⟩,af O ⟨xs,k,cQ (wO lx (XA _ _)),?_⟩⟩;have f:upd H1 c (.l<|xs++[V.r a]) d=some (.l N):=by rw[ay M.symm];exact U
 have u:upd H1 c (.l<|xs++[V.r a]) a=some (.t [.s "put",.s s]):=by rw[ay<|cA n k ap];exact n
 refine dP<|iy<|af O ⟨.inl ⟨O,_,ah.of f⟩,Fq<|av<|aC<|av<|bE qz O<|av<|af O<|aI ⟨_,.p s,O,⟨a,O,u⟩,Ar S,aI ⟨eF,λj g=>?_⟩⟩⟩;have y:upd (upd H1 c<|.l<|xs++[V.r a]) j (.t [.s "keep",.i<|sL<|.p s]) d=some (.l N):=by rw[ay<|aQ f g];exact f
 refine nW N y (cQ (wO ly (XA _ _))) ?_;have P:c≠j:=λz=>by rw[<-z,aj] at g;cases g
 have v:d≠j:=aQ f g;have f2:H1 j=none:=by rw[ay P.symm] at g;exact g
 refine q a j _ ?_ ?_ aj ?_ ?_ ?_;intro b o e x Y X;rw[ay X,ay<|aQ (m b o e x) f2,ay Y];exact m b o e x;rw[ay M,ay P,aj];rw[ay<|cA u f (by intro z;cases z),ay<|aQ u g];exact u;rw[ay v.symm,aj];rfl;refine((F.but aE.upd k Z).same<|Xq g).but aE.upd y G
inductive Gg(vs:ci)(H:Hp)(Q:VK)(E:XK):Prop|i(g v:V)(c d:DL)(f e:Pt)(xs N:ci)(_:vs=[g,v,.r c,.r d])(_:jO H g f)(_:jO H v e)(_:(∀s,f≠ .p s))(_:(∀s,e≠ .p s))(_:(∀s h,f=.c s->e=.c h->s=h))(_:H c=some (.l xs))(_:H d=some (.l N))(_:c≠d)(_:xs.length<=100000)(_:N.length<=100000)(_:∀(Z:Hp),(∀b o,H b=some o->b≠c->b≠d->Z b=some o)->Z c=some (.l<|xs++if NK e then [g] else [])->Z d=some (.l<|N++if NK f then [v] else [])->Q .a Z)
theorem UE{K:Frag}:bS (Gg) (λE=>g0 K et E) OB OA:=by
 intro vs H Q E h;obtain⟨S,L,c,d,F,C,xs,N,rfl,⟨v,rfl,g⟩,⟨W,rfl,u⟩,J,P,y,f,j,M,U,T,q⟩:=h;have R:∀a,upd H c (.l a) d=some (.l N):=λa=>by rw[ay M.symm];exact j
 have I:∀a b o,H b=some o->b≠c->b≠d->upd H c (.l a) b=some o:=λa b o e x Y=>by rw[ay x];exact e
 have G:∀a b o,H b=some o->b≠c->b≠d->upd H d (.l a) b=some o:=λa b o e Y w=>by rw[ay w];exact e
 have A:∀a B b o,H b=some o->b≠c->b≠d->upd (upd H c<|.l a) d (.l B) b=some o:=λa B b o e x w=>by rw[ay w,ay x];exact e
 cases F with
 |p s=>exact absurd O (J s)
 |k n=>
  refine nT _ O (.inr<|.inl ⟨_,_,_,_,O,O,aB.of g,O,_,O,?_⟩);refine nT _ O (.inr<|.inl ⟨_,_,_,_,O,O,aB.of u,O,_,O,?_⟩);cases C with
  |p s=>exact absurd O (P s)
  |k m=>
   refine rP _ O (.inl ⟨O,o3 _ (ah.of f)⟩) _ O ⟨xs,f,cQ (wO U (XA _ _)),?_⟩;have X:upd H c (.l<|xs++[V.r v]) v=some (.t [.s "keep",.i n]):=by rw[ay<|cA g f (by intro z;cases z)];exact g
   refine nT _ O (.inr<|.inl ⟨_,_,_,_,O,O,aB.of X,O,_,O,?_⟩);refine rP _ O (.inl ⟨O,o3 _ (ah.of<|R _)⟩) _ O ⟨N,R _,cQ (wO T (XA _ _)),?_⟩;exact q _ (A _ _) (by rw[ay M,aj];rfl) (by rw[aj];rfl)
  |c s=>
   refine rP _ O (.inl ⟨O,o3 _ (ah.of j)⟩) _ O ⟨N,j,cQ (wO T (XA _ _)),?_⟩;exact q _ (G _) (by rw[ay M,f];simp[NK]) (by rw[aj];rfl)
 |c s=>
  refine nT _ O (.inr<|.inl ⟨_,_,_,_,O,O,aB.of g,O,_,O,?_⟩);refine nT _ O (.inr<|.inl ⟨_,_,_,_,O,O,aB.of u,O,_,O,?_⟩);cases C with
  |p s=>exact absurd O (P s)
  |k m=>
   refine nT _ O (.inr<|.inl ⟨_,_,_,_,O,O,aB.of u,O,_,O,?_⟩);refine rP _ O (.inl ⟨O,o3 _ (ah.of f)⟩) _ O ⟨xs,f,cQ (wO U (XA _ _)),?_⟩;have X:upd H c (.l<|xs++[V.r v]) v=some (.t [.s "cut",.s s]):=by rw[ay<|cA g f (by intro z;cases z)];exact g
   refine nT _ O (.inr<|.inl ⟨_,_,_,_,O,O,aB.of X,O,_,O,?_⟩);exact q _ (I _) (by rw[aj];rfl) (by rw[R];simp[NK])
  |c D=>
   have e:=y s D O O;subst e;refine nT _ O (.inr<|.inl ⟨_,_,_,_,O,O,aB.of g,O,_,O,.inr<|.inl ⟨_,_,_,_,O,O,aB.of u,O,_,O,?_⟩⟩);rw[WI,Z2 (show(Pt.c s).val=(Pt.c s).val from O)];exact q _ (λb o e Y Y=>e) (by rw[f];simp[NK]) (by rw[j];simp[NK])
theorem aeT(h:aR Γ a u H λc H1=>if c=true then QT true H1 else aR Γ b u H1 QT):aR Γ (.o [a,b]) u H QT:=h
inductive fi:im->im->im->im->Prop
 |nil:fi [] [] [] []
 |p1 {c xs N o t}:fi xs N o t->fi (.P c::xs) N (.P c::o) (.K::t)
 |p2 {c xs N o t}:(∀d z,xs≠ .P d::z)->fi xs N o t->fi xs (.P c::N) (.K::o) (.P c::t)
 |kk {xs N o t}:fi xs N o t->fi (.K::xs) (.K::N) (.K::o) (.K::t)
 |kc {c xs N o t}:fi xs N o t->fi (.K::xs) (.C c::N) o (.C c::t)
 |ck {c xs N o t}:fi xs N o t->fi (.C c::xs) (.K::N) (.C c::o) t
 |cc {c xs N o t}:fi xs N o t->fi (.C c::xs) (.C c::N) o t
def Ja(a b o t:im):Prop:=c_ a b o t/\∀xs N c s,fi xs N c s->fi (a++xs) (b++N) (o++c) (t++s)
theorem aeU(s:am):Ja (s.map .P) [] (s.map .P) (rK s.length):=⟨O0 s,by
 induction s with
 |nil=>intro xs N o t h;exact h
 |cons c s i=>intro xs N o t h;exact .p1 (i xs N o t h)⟩
theorem aeV(n:Nat):Ja (rK n) (rK n) (rK n) (rK n):=⟨O2 n,by
 induction n with
 |zero=>intro xs N o t h;exact h
 |succ n i=>intro xs N o t h;exact .kk (i xs N o t h)⟩
theorem aeW(s:am):Ja (rK s.length) (s.map .C) [] (s.map .C):=⟨O3 s,by
 induction s with
 |nil=>intro xs N o t h;exact h
 |cons c s i=>intro xs N o t h;exact .kc (i xs N o t h)⟩
theorem aeX(s:am):Ja (s.map .C) (rK s.length) (s.map .C) []:=⟨O4 s,by
 induction s with
 |nil=>intro xs N o t h;exact h
 |cons c s i=>intro xs N o t h;exact .ck (i xs N o t h)⟩
theorem aeY(s:am):Ja (s.map .C) (s.map .C) [] []:=⟨O5 s,by
 induction s with
 |nil=>intro xs N o t h;exact h
 |cons c s i=>intro xs N o t h;exact .cc (i xs N o t h)⟩
theorem Ph{xs N o:im}(n:∀d z,xs≠ .P d::z)(h:fi xs N o t):∀s:am,fi xs (s.map .P++N) (rK s.length++o) (s.map .P++t)
 |[]=>h
 |c::s=>.p2 n (Ph n h s)
def nX(xs N a b d z o t:im):Prop:=c_ d z o t/\∀c s,fi a b c s->fi xs N (o++c) (t++s)
theorem nX.seg{xs N a b d o:im}(h:nX xs N (c++a) (b1++b) d z o t)(s:Ja c b1 f e):nX xs N a b (d++c) (z++b1) (o++f) (t++e):=
 ⟨h.1.app s.1,λi g p=>by rw[VD,VD];exact h.2 _ _ (s.2 _ _ _ _ p)⟩
theorem nX.p2{xs N a b c z o t:im}{s:am}(n:∀d e,a≠ .P d::e)(h:nX xs N a (s.map .P++b) c z o t):nX xs N a b c (z++s.map .P) (o++rK s.length) (t++s.map .P):=
 ⟨by have:=h.1.app (O1 s);rw[Y3] at this;exact this,λg f p=>by rw[VD,VD];exact h.2 _ _ (Ph n p s)⟩
theorem aeZ(o:∀p∈ps,aZ p)(h:qR ps≠"put"):∀d a,ak ps≠ .P d::a:=by
 intro d a;cases ps with
 |nil=>intro z;cases z
 |cons p t=>
  have b:=o p (.head _);cases p with
  |p s=>exact absurd O h
  |k n=>
   obtain⟨m,e⟩:∃m,n.toNat=m+1:=⟨n.toNat - 1,by have:1<=n:=b;lia⟩;show rK n.toNat++_≠_;rw[e];intro z;cases z
  |c s=>
   obtain⟨c,r,e⟩:=kj b.2;show s.cps.toList.map At.C++_≠_;rw[e];intro z;cases z
structure fN(one G' ps qs:bn)(l m n:am):Prop where
 lN:∀p∈ps,aZ p
 nY:∀p∈qs,aZ p
 Gi:YU "" ps=true
 Pj:YU "" qs=true
 s:∃r,ym n ps r/\ym m qs r
 yj:ps.length<=3* (one.length+G'.length)+2
 yk:qs.length<=3* (one.length+G'.length)+2
 ae0:aq ps<=aq one
 Pk:aq qs<=aq G'
 pas:∃os ts,c_ (ak one) (ak G') os ts/\nb (ak ps)=nb os/\nb (ak qs)=nb ts
 Pl:∃os ts,fi (ak one) (ak G') os ts/\nb (ak ps)=nb os/\nb (ak qs)=nb ts
theorem Pm(o:∀p∈ps,aZ p)(t:aq ps<=100000)(h:ZA l (ak ps)):(∀p∈jr ps,aZ p)/\YU "" (jr ps)=true/\ym l (jr ps) (V1 l<|ak ps)/\aq (jr ps)=aq ps:=by
 have E:=Fm o t;obtain⟨b,g,Y⟩:=AG ps E t;rw[(vc ps E)];exact⟨g,b,AH<|ve ps l (λp a=>pb<|o p a) h,xJ ps E⟩
theorem ae2(k:ym l one m)(j:ym l G' n)(d:∀p∈r1,aZ p)(c:∀p∈r2,aZ p)(l1:r1.length<=one.length+G'.length)(l2:r2.length<=one.length+G'.length)(E:aq one+aq G'<=100000)(h:c_ (ak one) (ak G') (ak r1) (ak r2))(i:fi (ak one) (ak G') (ak r1) (ak r2)):fN one G' (jr r1) (jr r2) l m n/\aq r1<=100000/\aq r2<=100000:=by
 obtain⟨w,v⟩:=h.aef;rw[vz,vz] at w v;obtain⟨u,t⟩:=k.fits;obtain⟨s,q⟩:=j.fits;obtain⟨f,e,g⟩:=h.fits l u s;rw[t] at f g;rw[q] at e g;obtain⟨B,A,z,H⟩:=Pm d (wO (YB w) E) e;obtain⟨y,x,G,F⟩:=Pm c (wO (uU v) E) f;have D:=xI r1;have C:=xI r2;refine⟨⟨B,y,A,x,nT _ z ap,ap,ap,(wO (VN H) w),(wO (VN F) v),oW _ _ h (s_ r1 λp b=>pb (d p b)) (s_ r2 λp b=>pb (c p b)),oW _ _ i (s_ r1 λp b=>pb (d p b)) (s_ r2 λp b=>pb (c p b))⟩,(wO (YB w) E),(wO (uU v) E)⟩
inductive Bs(vs:ci)(H:Hp)(Q:VK)(E:XK):Prop|i(a b:DL)(xs N:ci)(o G':bn)(l m n:am)(_:vs=[.r a,.r b])(_:H a=some (.l xs))(_:H b=some (.l N))(_:aF H xs o)(_:aF H N G')(_:(∀p∈o,aZ p))(_:(∀p∈G',aZ p))(_:YU "" o=true)(_:YU "" G'=true)(_:o.length+G'.length<=30000)(_:aq o+aq G'<=100000)(_:ym l o m)(_:ym l G' n)(_:∀(t c d:DL)(Z:Hp)(z w:ci)(ps q:bn),ar H Z->H c=none->H d=none->c≠d->Z t=some (.t [.r c,.r d])->Z c=some (.l z)->Z d=some (.l w)->aF Z z ps->aF Z w q->fN o G' ps q l m n->Q (.r t) Z)
abbrev agP(C:DL):v4:=[("sizes",ig),("put_first",Bq C),("share",Gg),("neat",mw)]
abbrev acS(C:DL):List (Str×DL×Sp):=[("word",C,qS C),("left",C,nR C),("take",C,pj C)]
theorem Pn{t:bn}:(qR (p::t) !="")=true:=by
 cases p<;>rfl
inductive Gj(C a b w v c d L M:DL)(H:Hp)(o G':bn)(n:Nat)(u:St)(e:Hp):Prop|i(t:v0)(z s:ci)(j h g f:bn)(m k:im)(q:am)(_:n=(ak g).length+(ak f).length)(_:u=[some<|.r a,some<|.r b,some<|.r w,some<|.r v,some<|.r c,some<|.r d,t])(_:ar H e)(_:e c=some (.l z))(_:e d=some (.l s))(_:aF e z j)(_:aF e s h)(_:(∀p∈j,aZ p))(_:(∀p∈h,aZ p))(_:bO C e w L g)(_:bO C e v M f)(_:ak o=m++ak g)(_:ak G'=k++ak f)(_:nX (ak o) (ak G') (ak g) (ak f) m k (ak j) (ak h))(_:ZA q (ak g))(_:ZA q (ak f))(_:j.length+g.length+f.length<=o.length+G'.length)(_:h.length+g.length+f.length<=o.length+G'.length):Gj C a b w v c d L M H o G' n u e
abbrev hG(K:Frag)(C:DL)(et:sK)(E:XK):bu:=aH K (agP C) [] [] (acS C) [("Walk",C,mJ C)] (et:=et) (E:=E)
theorem ae3{K:Frag}(T:qQ K C):bS (Bs) (λE=>hG K C et E) OD OC:=by
 intro vs H Q E h;obtain⟨a,b,xs,N,B,G',l,m,n,rfl,ha,hb,jH,eJ,mq,jD,eV,dH,H',AX,tK,f_,q⟩:=h;have lx:=KB jH;have ly:=KB eJ;obtain⟨f1,f2⟩:=tK.fits;obtain⟨f3,f4⟩:=f_.fits;refine cx<|bf<|bh<|bE ig O<|av<|af O<|aI ⟨a,xs,B,O,ha,jH,mq,eV,ap,λt1 H1 s1 kg=>?_⟩;refine aC<|.inr<|.inl ⟨_,_,_,_,O,O,aB.of kg,O,?_⟩;refine bh<|bE ig O<|av<|af O<|aI ⟨b,N,G',O,s1 _ _ hb,eJ.mono<|aX s1,jD,dH,ap,λt2 W s2 sQ=>?_⟩;refine aC<|.inr<|.inl ⟨_,_,_,_,O,O,aB.of sQ,O,?_⟩;show ∃k,V.b (true ^^ decide (V.i (WD B).sum=V.i (WD G').sum))=V.b k/\_;refine nT _ O ?_;rw[tK.over,f_.over,Z2 O];have iR:=s1.trans s2;refine aN<|Bg C (mJ C) O<|af O λw dx hw Gb iL=>?_;have s3:ar W (upd (upd W dx<|.o w) w<|.i C dx []):=λb o e=>by rw[ay<|aQ e hw,ay<|aQ e Gb];exact e
 have tL:=iR.trans s3;refine⟨w,dx,a,xs,B,O,aj,tL _ _ ha,jH.mono<|aX tL,mq,ap,λL H3 hL U' b3 W1=>⟨O,?_⟩⟩;have tM:ar H H3:=λb o e=>b3 b o (tL b o e) (aQ (iR b o e) hw);have fw:H w=none:=iR.free hw;refine aN<|Bg C (mJ C) O<|af O λv Gk hv F' Y'=>?_;have s4:ar H3 (upd (upd H3 Gk<|.o v) v<|.i C Gk []):=λb o e=>by rw[ay<|aQ e hv,ay<|aQ e F'];exact e
 have kx:=tM.trans s4;refine⟨v,Gk,b,N,G',O,aj,kx _ _ hb,eJ.mono<|aX kx,jD,ap,λM H5 hM S' b5 V5=>⟨O,?_⟩⟩;have Po:ar H3 H5:=λb o e=>b5 b o (s4 b o e) (aQ e hv);have Gm:=tM.trans Po;have fv:H v=none:=tM.free hv;have W5:=W1.same Po;obtain⟨_,_,_,Gn⟩:=W1.ob;have Bt:w≠v:=aQ Gn hv;refine aN<|d5<|aI ⟨Ww _,λc hc=>?_⟩;refine aN<|d5<|aI ⟨Ww _,λd hd=>?_⟩;have lM:c≠d:=λz=>by rw[<-z,aj] at hd;cases hd
 have Gp:H5 d=none:=by rw[ay lM.symm] at hd;exact hd
 have fc:H c=none:=Gm.free hc;have fd:H d=none:=Gm.free Gp;have D:∀{H4:Hp}{w' L':DL}{rs:bn},bO C H4 w' L' rs->∃I,H4 L'=some (.l I):=λ⟨_,I,_,_,_,_,h,_⟩=>o3 I h;obtain⟨_,Pp⟩:=D W5;obtain⟨_,Pq⟩:=D V5;have mK:c≠L:=(aQ Pp hc).symm;have mM:c≠M:=(aQ Pq hc).symm;have yi:d≠L:=(aQ Pp Gp).symm;have Gq:d≠M:=(aQ Pq Gp).symm;have s6:ar H5 (upd (upd H5 c<|.l []) d<|.l []):=(Xq hc).trans (Xq hd);refine qT (Gj C a b w v c d L M H B G')
  (o3 _ ⟨none,[],[],[],[],B,G',[],[],l,O,O,Gm.trans s6,(by rw[ay lM,aj]),aj,.nil,.nil,(λp hp=>by cases hp),(λp hp=>by cases hp),W5.same s6,V5.same s6,O,O, ⟨.n,λ_ _ h=>h⟩,f1,f3,aJ,aJ⟩) ?_
 rintro mm u H6 ⟨Y,I,ws,r1,r2,P,G,z1,z2,l',rfl,rfl,yp,ju,pF,hz,ku,o1,o2,U,X,e1,e2,nZ,fa,fb,yj,yk⟩;have xG:=KB hz;have zQ:=KB ku;obtain⟨W',iw,ow,tN⟩:=U.ob;obtain⟨X',iv,ov,Bu⟩:=X.ob;have nV:c≠w:=cA ju tN (by intro z;cases z);have Pw:c≠v:=cA ju Bu (by intro z;cases z);have Br:d≠w:=cA pF tN (by intro z;cases z);have Px:d≠v:=cA pF Bu (by intro z;cases z);have y':P=[]->G=[]->ax (hG K C et E) [.r<|.T [(.l 3 [.v 4]),(.l 3 [.v 5])]] (Dn Q) [some<|.r a,some<|.r b,some<|.r w,some<|.r v,some<|.r c,some<|.r d,Y] H6:=by
  rintro rfl rfl;rw[show ak []=[] from O,Y3] at e1 e2;subst e1 e2;simp only[VO] at yj yk;have hO:=nZ.2 [] [] .nil;rw[Y3,Y3] at hO;have nZ:=nZ.1;obtain⟨J,t1,t2⟩:=ae2 tK f_ o1 o2 yj yk AX nZ hO;refine di<|Fq<|av<|bE mw O<|av<|af O<|aI ⟨c,I,r1,O,ju,hz,ap,t1,λe A g' s7 f h7 r'=>?_⟩;refine av<|bE mw O<|av<|af O<|aI ⟨d,ws,r2,O,s7 _ _ pF,ku.mono<|aX s7,ap,t2,λg H8 f' s8 hg h8 q'=>?_⟩;refine aI ⟨eF,λt ht=>?_⟩;have s9:=Xq (o:=.t [V.r e,V.r g]) ht;have p':e≠g:=aQ h7 hg;exact q t e g _ g' f' _ _ (yp.trans<|s7.trans<|s8.trans s9) (yp.free f) ((yp.trans s7).free hg) p' aj (s9 _ _<|s8 _ _ h7) (s9 _ _ h8) ((r'.mono<|aX s8).mono<|aX s9) (q'.mono<|aX s9) J
 have a':(P≠ []\/G≠ [])->∃N0:St->Hp->Prop,(∀b' Z,N0 b' Z->∃m',m'< (ak P).length+(ak G).length/\Gj C a b w v c d L M H B G' m' b' Z)/\
   ax (hG K C et E) [.i (.p .Eq (.a 0 "word" (.v 2) []) (.c (.s "put"))) [.d (.l 1 [.v 2,.v 4,.v 5])] [.i (.p .Eq (.a 0 "word" (.v 3) []) (.c (.s "put"))) [.d (.l 1 [.v 3,.v 5,.v 4])] [.a 6 (.t .m [(.a 1 "left" (.v 2) []),(.a 1 "left" (.v 3) [])]),
    .d (.l 2 [(.a 2 "take" (.v 2) [.v 6]),(.a 2 "take" (.v 3) [.v 6]),.v 4,.v 5])]]]
    {{Dn Q with nx:=ax (hG K C et E) [.r<|.T [(.l 3 [.v 4]),(.l 3 [.v 5])]] (Dn Q)} with nx:=N0,c:=N0,bk:=ax (hG K C et E) [.r<|.T [(.l 3 [.v 4]),(.l 3 [.v 5])]] (Dn Q)} [some<|.r a,some<|.r b,some<|.r w,some<|.r v,some<|.r c,some<|.r d,Y] H6:=by
  intro E';refine nT _ (λb' Z z=>z) ?_;have Py:∀{A:Hp}{x:DL},H x=none->yh x c d H6 A->ar H A:=λ{A x} hx b e o f=>b e o (yp e o f) (aQ f hx) (aQ f fc) (aQ f fd);have Pz:∀{A:Hp}{x:DL}{C' Gf c'},H6 x=some (.i C' Gf c')->yh x c d H6 A->bR H6 A:=λ{A x C' Gf c'} hx b e vs f=>b e _ f (cA f hx (by intro z;cases z)) (cA f ju (by intro z;cases z)) (cA f pF (by intro z;cases z));have vA:∀{r:bn}{x:Pt},(∀p∈r,aZ p)->aZ x->∀p∈r++[x],aZ p:=λ{r x} h hx p hp=>by
   rcases X0.mp hp with z|z
   exact h p z;rw[Yd.mp z];exact hx
  refine cx<|bf<|vt (C:=C) O O U<|aC<|lL ⟨_,O,?_⟩;by_cases js:qR P="put";obtain⟨s,t,rfl⟩:∃s t,P=.p s::t:=by
   cases P with
   |nil=>exact absurd (show(Str.ofString "")="put" from js) bc
   |cons p t=>
    cases p with
    |p s=>exact o3 s ⟨t,O⟩
    |k n=>exact absurd (show(Str.ofString "keep")="put" from js) bc
    |c n=>exact absurd (show(Str.ofString "cut")="put" from js) bc
  have iS:=U.ok _ (.head _);refine iT ?_ O;refine dP<|bE (Bq C) O<|av<|af O<|av<|af O<|av<|af O<|aI ?_;simp only[d_] at yj yk;refine⟨w,L,c,d,s,t,I,ws,O,U,ju,pF,lM,mK,yi,ap,ap,λS R A F Gr Gs Gu Gv W7=>?_⟩;have tt:=Pz tN F;have V7:bO C A v M G:=X.Pe F ju pF mM Gq Bt.symm (o3 _ ⟨_,_,tN⟩);rw[cJ] at e1 fa;have cO:=vq (.p s);have xC:=(lK iS).2;refine nT _ ?_ ⟨Y,I++[V.r S],ws++[V.r R],r1++[.p s],r2++[.k (s.length:Int)],t,G,z1++ba (.p s),z2,l',O,O,Py fw F,Gr,Gs,aF.snoc (p:=.p s) (hz.mono tt) (nT S O Gu),aF.snoc (p:=.k (s.length:Int)) (ku.mono tt) (nT R O Gv),vA o1 iS,vA (x:=.k (s.length:Int)) o2 (show(1:Int)<= (s.length:Int) by have:1<=s.length:=xC;lia),W7,V7,by rw[e1,VD],e2,?_,(sZ _ _ _).mp fa,fb,bd,bd⟩;rw[cJ,W0];lia;rw[cJ] at nZ;have:=nX.seg (b1:=[]) nZ (aeU s.cps.toList);rw[Y3] at this;rw[g7,g7,g8,g8];have ek:ba (.k (s.length:Int))=rK s.cps.toList.length:=by show rK ((s.length:Int)).toNat=_;rw[m3,Xz]
  rw[ek];exact this;refine iF ?_ (beq_eq_false_iff_ne.mpr js);refine cx<|bf<|vt (C:=C) O O X<|aC<|lL ⟨_,O,?_⟩;by_cases kZ:qR G="put";obtain⟨s,t,rfl⟩:∃s t,G=.p s::t:=by
   cases G with
   |nil=>exact absurd (show(Str.ofString "")="put" from kZ) bc
   |cons p t=>
    cases p with
    |p s=>exact o3 s ⟨t,O⟩
    |k n=>exact absurd (show(Str.ofString "keep")="put" from kZ) bc
    |c n=>exact absurd (show(Str.ofString "cut")="put" from kZ) bc
  have iS:=X.ok _ (.head _);refine iT ?_ O;refine dP<|bE (Bq C) O<|av<|af O<|av<|af O<|av<|af O<|aI ?_;simp only[d_] at yj yk;refine⟨v,M,d,c,s,t,ws,I,O,X,pF,ju,lM.symm,Gq,mM,ap,ap,λS R A A' Gs Gr Gu Gv V7=>?_⟩;have F:yh v c d H6 A:=λe o f n1 n2 n3=>A' e o f n1 n3 n2;have tt:=Pz Bu F;have W7:bO C A w L P:=U.Pe F ju pF mK yi Bt (o3 _ ⟨_,_,Bu⟩);rw[cJ] at e2 fb;have cO:=vq (.p s);have xC:=(lK iS).2;refine nT _ ?_ ⟨Y,I++[V.r R],ws++[V.r S],r1++[.k (s.length:Int)],r2++[.p s],P,t,z1,z2++ba (.p s),l',O,O,Py fv F,Gr,Gs,aF.snoc (p:=.k (s.length:Int)) (hz.mono tt) (nT R O Gv),aF.snoc (p:=.p s) (ku.mono tt) (nT S O Gu),vA (x:=.k (s.length:Int)) o1 (show(1:Int)<= (s.length:Int) by have:1<=s.length:=xC;lia),vA o2 iS,W7,V7,e1,by rw[e2,VD],?_,fa,(sZ _ _ _).mp fb,bd,bd⟩;rw[cJ,W0];lia;rw[cJ] at nZ;have:=nX.p2 (s:=s.cps.toList) (aeZ U.ok js) nZ;rw[g7,g7,g8,g8];have ek:ba (.k (s.length:Int))=rK s.cps.toList.length:=by show rK ((s.length:Int)).toNat=_;rw[m3,Xz]
  rw[ek];exact this;refine iF ?_ (beq_eq_false_iff_ne.mpr kZ);have Bv:∀{p:Pt}{t:bn},qR (p::t)≠"put"->∀s,p≠ .p s:=λ{p t} h s z=>by subst z;exact h O
  have PB:∀{p:Pt}{t:bn},aZ p->(∀s,p≠ .p s)-> ¬ZA [] (ak (p::t)):=by
   intro p t hp hn hf;have hl:=nU _ _ hf;rw[cJ,yb] at hl;have h1:=(lK hp).2;have:dF (ba p)=aL p:=by
    cases p with
    |k n=>exact yd _
    |p s=>exact absurd O (hn s)
    |c s=>show dF (s.cps.toList.map At.C)=s.length;rw[pw,Xz]
   simp only[VO] at hl;lia
  obtain⟨x,t,ex⟩:∃x t,P=x::t:=by
   cases P with
   |cons x t=>exact o3 x ⟨t,O⟩
   |nil=>
    exfalso;have fG:l'=[]:=fa;subst fG;cases G with
    |nil=>rcases E' with z|z<;>exact z O
    |cons y j=>exact PB (X.ok y<|.head _) (Bv kZ) fb
  subst ex;obtain⟨y,j,ey⟩:∃y j,G=y::j:=by
   cases G with
   |cons y j=>exact o3 y ⟨j,O⟩
   |nil=>
    exfalso;have fG:l'=[]:=fb;subst fG;exact PB (U.ok x<|.head _) (Bv js) fa
  subst ey;have nx:=Bv js;have ny:=Bv kZ;have PD:=U.ok x (.head _);have PF:=X.ok y (.head _);obtain⟨M',K'⟩:=lK PD;obtain⟨J',I'⟩:=lK PF;obtain⟨k,hk⟩:∃k,k=min (aL x) (aL y):=o3 _ O;have k1:1<=k:=by lia
  have k2:k<=aL x:=by lia
  have k3:k<=aL y:=by lia
  have d':(if (aL y:Int) < (aL x:Int) then (aL y:Int) else (aL x:Int))=(k:Int):=by split<;>lia
  refine aN<|NW<|av<|vv (C:=C) O O U<|av<|vv (C:=C) O O X<|aI ?_;show ax _ _ _ ([some<|.r a,some<|.r b,some<|.r w,some<|.r v,some<|.r c,some<|.r d,Y].set 6 (some<|V.i (if (aL y:Int) < (aL x:Int) then (aL y:Int) else (aL x:Int)))) H6;rw[d'];refine dP<|bE Gg O<|av<|vw (C:=C) (k:=k) O O U k1 k2 (λQ' hq=>af O hq) λS A F fZ N' W7=>?_;have V7:bO C A v M (y::j):=X.keep λe o f z=>F e o f (by
   rcases z with rfl|rfl|⟨_,rfl⟩
   exact Bt.symm;obtain⟨_,u'⟩:=D X;exact cA u' tN (by intro z;cases z);exact cA f tN (by intro z;cases z))
  refine av<|vw (C:=C) (k:=k) O O V7 k1 k3 (λQ' hq=>af O hq) λR H8 b8 iu PH V8=>?_;obtain⟨_,_,_,P'⟩:=W7.ob;obtain⟨_,_,_,Bw⟩:=XU V7.ob;have W8:bO C H8 w L (d6 x t k):=W7.keep λe o f z=>b8 e o f (by
   rcases z with rfl|rfl|⟨_,rfl⟩
   exact Bt;obtain⟨_,Bx⟩:=D W7;exact cA Bx Bw (by intro z;cases z);exact cA f Bw (by intro z;cases z))
  have PJ:=b8 _ _ fZ (cA fZ Bw (by intro z;cases z));have PK:=b8 _ _ (F _ _ ju nV) Pw;have PL:=b8 _ _ (F _ _ pF Br) Px;have h':bR H6 H8:=(F.vx tN).trans (b8.vx Bw);refine av<|af O<|av<|af O<|aI ?_;have eA:=Bk t k2;have eB:=Bk j k3;rw[eA] at fa;rw[eB] at fb;obtain⟨la,lb,rfl,g1,g2,g3⟩:=yc _ _ fa;have vk:la.length=k:=by
   rw[nU _ _ g1];have e:=x_ x k k2;cases x with
   |k n=>exact yd k
   |p s=>exact absurd O (nx s)
   |c s=>
    have e':(⟨(s.cps.toList.take k).toArray⟩:Str).length=k:=e;rw[mI] at e';show dF ((s.cps.toList.take k).map At.C)=k;rw[pw];exact e'
  have j':dF (ba<|aK y k)=k:=by
   have e:=x_ y k k3;cases y with
   |k n=>exact yd k
   |p s=>exact absurd O (ny s)
   |c s=>
    have e':(⟨(s.cps.toList.take k).toArray⟩:Str).length=k:=e;rw[mI] at e';show dF ((s.cps.toList.take k).map At.C)=k;rw[pw];exact e'
  obtain⟨g4,g5⟩:=OY fb (by rw[vk,j']);have yq:∀{s:Str}{Y:am},ZA Y (ba<|.c s)->s.cps.toList=Y:=by
   intro s Y hu;obtain⟨b,rfl⟩:=xS s.cps.toList Y [] (by rw[Y3];exact hu);have h1:=nU _ _ hu;have e1:dF (ba<|.c s)=s.cps.toList.length:=pw _;rw[e1,W0] at h1;have:b=[]:=Wo.mp ap;rw[this,Y3]
  have o':=A_ PD k1 k2;have k':=A_ PF k1 k3;simp only[d_] at yj yk;refine⟨.r S,.r R,c,d,aK x k,aK y k,I,ws,O,nT S O PJ,nT R O iu,?_,?_,?_,PK,PL,lM,ap,ap,λH9 b9 x' v'=>?_⟩;intro s z;cases x<;>first|exact absurd O (nx _)|cases z
  intro s z;cases y<;>first|exact absurd O (ny _)|cases z
  intro s s' z z';rw[z] at g1;rw[z'] at g4;exact iO<|(yq g1).trans (yq g4).symm;have yr:∀{e:DL}{o:HO},H8 e=some o->(e=w\/e=L\/e=v\/e=M\/∃vs,o=.t vs)->H9 e=some o:=by
   intro e o f z;obtain⟨_,V'⟩:=D W8;obtain⟨_,T'⟩:=D V8;obtain⟨_,_,_,O'⟩:=W8.ob;obtain⟨_,_,_,R'⟩:=V8.ob;refine b9 e o f ?_ ?_;rcases z with rfl|rfl|rfl|rfl|⟨vs,rfl⟩
   exact nV.symm;exact mK.symm;exact Pw.symm;exact mM.symm;exact cA f PK (by intro z;cases z);rcases z with rfl|rfl|rfl|rfl|⟨vs,rfl⟩
   exact Br.symm;exact yi.symm;exact Px.symm;exact Gq.symm;exact cA f PL (by intro z;cases z)
  have W9:bO C H9 w L (d6 x t k):=W8.keep λe o f z=>yr f (by
   rcases z with z|z|z
   exact .inl z;exact .inr (.inl z);exact .inr (.inr (.inr (.inr z))))
  have V9:bO C H9 v M (d6 y j k):=V8.keep λe o f z=>yr f (by
   rcases z with z|z|z
   exact .inr (.inr<|.inl z);exact .inr (.inr<|.inr<|.inl z);exact .inr (.inr (.inr (.inr z))))
  have By:bR H6 H9:=λe vs f=>yr (h' e vs f) (.inr<|.inr<|.inr<|.inr ⟨vs,O⟩);have D':H9 S=some (.t [.s (aK x k).word,(aK x k).val]):=yr PJ (.inr<|.inr<|.inr<|.inr ⟨_,O⟩);have B':H9 R=some (.t [.s (aK y k).word,(aK y k).val]):=yr iu (.inr<|.inr<|.inr<|.inr ⟨_,O⟩);have i':ar H H9:=λe o f=>b9 e o (b8 e o (F e o (yp e o f)<|aQ f fw)<|aQ f fv) (aQ f fc) (aQ f fd);have D7:=FW t k1 k2;have z_:=FW j k1 k3;have cC:(d6 x t k).length+(d6 y j k).length<=t.length+j.length+1:=by
   have r1:=FV x t k;have r2:=FV y j k;by_cases hz:k=aL x;have e:d6 x t k=t:=Id hz;rw[e];lia;have E3:k=aL y:=by lia
   have e:d6 y j k=j:=Id E3;rw[e];lia
  refine nT _ (Nat.add_lt_add D7 z_) ⟨some<|.i (k:Int),I++(if NK (aK y k) then [V.r S] else []),ws++(if NK (aK x k) then [V.r R] else []),r1++(if NK (aK y k) then [aK x k] else []),r2++(if NK (aK x k) then [aK y k] else []),d6 x t k,d6 y j k,z1++ba (aK x k),z2++ba (aK y k),lb,O,O,i',x',v',?_,?_,?_,?_,W9,V9,by rw[e1,eA,VD],by rw[e2,eB,VD],?_,g2,g5,?_,?_⟩;split;exact aF.snoc (hz.mono By) (nT S O D');rw[Y3,Y3];exact hz.mono By;split;exact aF.snoc (ku.mono By) (nT R O B');rw[Y3,Y3];exact ku.mono By;split;exact vA o1 o';rw[Y3];exact o1;split;exact vA o2 k';rw[Y3];exact o2;rw[g7,g7];rw[eA,eB] at nZ;refine nX.seg nZ ?_;cases x with
  |p s=>exact absurd O (nx s)
  |k n=>
   have PM:ba (aK (.k n) k)=rK k:=by show rK ((k:Nat):Int).toNat=_;rw[m3]
   cases y with
   |p s=>exact absurd O (ny s)
   |k n'=>
    have Gw:ba (aK (.k n') k)=rK k:=by show rK ((k:Nat):Int).toNat=_;rw[m3]
    rw[show(if NK (aK (.k n') k)=true then [aK (.k n) k] else [])=[aK (.k n) k] from O,show(if NK (aK (.k n) k)=true then [aK (.k n') k] else [])=[aK (.k n') k] from O,g8,g8,PM,Gw];exact aeV k
   |c s=>
    rw[show(if NK (aK (.c s) k)=true then [aK (.k n) k] else [])=[] from O,show(if NK (aK (.k n) k)=true then [aK (.c s) k] else [])=[aK (.c s) k] from O,g8,PM];have ec:ba (aK (.c s) k)=la.map At.C:=by
     have:=yq (s:=⟨(s.cps.toList.take k).toArray⟩) g4;show(s.cps.toList.take k).map At.C=_;rw[show s.cps.toList.take k=la from this]
    rw[ec,<-vk];exact aeW la
  |c s=>
   have ec:ba (aK (.c s) k)=la.map At.C:=by
    have:=yq (s:=⟨(s.cps.toList.take k).toArray⟩) g1;show(s.cps.toList.take k).map At.C=_;rw[show s.cps.toList.take k=la from this]
   cases y with
   |p s=>exact absurd O (ny s)
   |k n'=>
    have Gw:ba (aK (.k n') k)=rK k:=by show rK ((k:Nat):Int).toNat=_;rw[m3]
    rw[show(if NK (aK (.k n') k)=true then [aK (.c s) k] else [])=[aK (.c s) k] from O,show(if NK (aK (.c s) k)=true then [aK (.k n') k] else [])=[] from O,g8,Gw,ec,<-vk];exact aeX la
   |c s'=>
    have Gx:ba (aK (.c s') k)=la.map At.C:=by
     have:=yq (s:=⟨(s'.cps.toList.take k).toArray⟩) g4;show(s'.cps.toList.take k).map At.C=_;rw[show s'.cps.toList.take k=la from this]
    rw[show(if NK (aK (.c s') k)=true then [aK (.c s) k] else [])=[] from O,show(if NK (aK (.c s) k)=true then [aK (.c s') k] else [])=[] from O,ec,Gx];exact aeY la
  have:(r1++(if NK (aK y k) then [aK x k] else [])).length<=r1.length+1:=by rw[W0];split<;>simp
  lia;have:(r2++(if NK (aK x k) then [aK y k] else [])).length<=r2.length+1:=by rw[W0];split<;>simp
  lia
 refine aeT<|bf<|vt (C:=C) O O U<|aC<|tF ⟨_,O,?_⟩;cases P with
 |cons x t=>exact iT (iT (a'<|.inl aJ) O) Pn
 |nil=>
  refine iF ?_ O;refine bf<|vt (C:=C) O O X<|aC<|tF ⟨_,O,?_⟩;cases G with
  |cons x t=>exact iT (a'<|.inr aJ) Pn
  |nil=>exact iF (y' O O) O
theorem afk(ps:bn):ak (dy ps)=(ak ps).map sw:=by
 induction ps with
 |nil=>rfl
 |cons p ps i=>
  have e:dy (p::ps)=p.qJ::dy ps:=O;rw[e,cJ,cJ,Z3];congr 1;cases p with
  |k n=>show rK n.toNat=(rK n.toNat).map sw;unfold rK;rw[List.map_replicate];rfl
  |p s=>show s.cps.toList.map At.C=(s.cps.toList.map At.P).map sw;rw[XE];rfl
  |c s=>show s.cps.toList.map At.P=(s.cps.toList.map At.C).map sw;rw[XE];rfl
structure iU(ps:bn)(l r:am):Prop where
 ok:∀p∈ps,aZ p
 c:YU "" ps=true
 run:ym l ps r
def bk(ps:bn):bn:=jr (dy ps)
theorem iU.bk(h:iU ps l r)(t:aq ps<=100000):iU (bk ps) r l/\aq (bk ps)=aq ps/\(bk ps).length<=3*ps.length+2/\nb (ak<|bk ps)=nb ((ak ps).map sw):=by
 have k:=ada (Fm h.ok t);have n:aq (dy ps)<=100000:=by rw[Fj];exact t
 obtain⟨b,g,Y⟩:=AG (dy ps) k n;have q:=vc (dy ps) k;have c:=xI (dy ps);have B:(dy ps).length=ps.length:=by simp[dy]
 have y:=s_ (dy ps) λp a=>NX (k p a);rw[afk] at y;refine⟨⟨?_,?_,?_⟩,?_,?_,y⟩;unfold Internal.bk;rw[q];exact g;unfold Internal.bk;rw[q];exact b;unfold Internal.bk;rw[q];exact AH h.run.qJ;unfold Internal.bk;rw[q,xJ _ k,Fj];unfold Internal.bk;lia
theorem pB.chg(h:pB one G' ps l r):iU ps l r:=⟨h.ok,h.ch,h.run⟩
theorem afl{n:Nat}:ak (fK [.k (n:Int)])=rK n/\(∀p∈fK [.k (n:Int)],aZ p)/\YU "" (fK [.k (n:Int)])=true/\(fK [.k (n:Int)]).length<=1/\aq (fK [.k (n:Int)])=0:=by
 have r:∀p∈ [Pt.k (n:Int)],fW p:=λp a=>by rw[Yd.mp a];show(0:Int)<= (n:Int);exact VI _
 have e:fK [.k (n:Int)]=if n=0 then [] else [.k (n:Int)]:=by
  have b:fK [.k (n:Int)]=txt .p ""++txt .c ""++(if ((0:Int)+(n:Int))=0 then [] else [.k<|(0:Int)+(n:Int)]):=by
   show cR [("","",(0:Int)+(n:Int))]=_;simp[cR,eW]
  rw[b,Int.zero_add];by_cases h:n=0;rw[Id h,Id ap];rfl;rw[Ix h,Ix ap];rfl
 rw[e];by_cases h:n=0;rw[h];exact⟨O,nofun,O,Ww _,O⟩;rw[Ix h];refine⟨by rw[g8];show rK ((n:Int)).toNat=_;rw[m3],(λp a=>?_),?_,VL _,O⟩;rw[Yd.mp a];show(1:Int)<= (n:Int);lia;show(nJ "keep" "" && true)=true;decide
theorem Qv:iU (fK [.k (l.length:Int)]) l l:=by
 obtain⟨e,o,c,Y,Y⟩:=ZE afl;refine⟨o,c,?_⟩;have f:ZA l (ak<|fK [.k (l.length:Int)]):=by
  rw[e];have:=(AL l [] []).mpr O;rw[Y3,Y3] at this;exact this
 have:=ve _ l (λp a=>pb<|o p a) f;rw[e] at this;have h:=AM l [] [];rw[Y3,Y3] at h;have b:V1 [] ([]:im)=[]:=O;rw[h,b,Y3] at this;exact this
def bK(H:Hp)(b:DL)(ps:bn)(l r:am):Prop:= ∃xs,H b=some (.l xs)/\aF H xs ps/\iU ps l r
theorem bK.same{b:DL}(h:bK H b ps l r)(s:ar H Z):bK Z b ps l r:=by
 obtain⟨xs,d,c,a⟩:=h;exact⟨xs,s _ _ d,c.mono<|aX s,a⟩
theorem bK.keep{b:DL}(h:bK H b ps l r)(a:∀o,H b=some o->Z b=some o)(t:bR H Z):bK Z b ps l r:=by
 obtain⟨xs,e,d,c⟩:=h;exact⟨xs,a _ e,d.mono t,c⟩
theorem bK.chg{b:DL}(h:bK H b ps l r):iU ps l r:=by
 obtain⟨Y,Y,Y,h⟩:=h;exact h
section
variable{H:Hp}{Q:VK}{E:XK}
theorem PN{a b:DL}{o:bn}(n:bK H a o l m)(k:bK H b G' m r)(f:o.length+G'.length<=180000)(h:aq o+aq G'<=100000)(q:∀(c:DL)(Z:Hp)(ps:bn),ar H Z->H c=none->bK Z c ps l r->pB o G' ps l r->Q (.r c) Z):tJ [.r a,.r b] H Q E:=by
 obtain⟨xs,v,u,e⟩:=n;obtain⟨N,t,p,d⟩:=k;exact⟨a,b,xs,N,o,G',l,m,r,O,v,t,u,p,e.ok,d.ok,e.c,d.c,f,h,e.run,d.run,λc Z z ps s g j i J=>q c Z ps s g ⟨z,j,i,J.chg⟩ J⟩
theorem PQ{a:DL}(h:bK H a ps l r)(j:ps.length<=30000)(t:aq ps<=100000)(q:∀(c:DL)(Z:Hp),ar H Z->H c=none->bK Z c (bk ps) r l->Q (.r c) Z):vd [.r a] H Q E:=by
 obtain⟨xs,i,g,b⟩:=h;exact⟨a,xs,ps,O,i,g,b.ok,b.c,(wO j (XA _ _)),t,λc Z N s d f e=>q c Z s d ⟨N,f,e,(b.bk t).1⟩⟩
end
section
variable{H:Hp}{Q:VK}{E:XK}
theorem afn{a b:DL}{o:bn}(D:bK H a o l m)(C:bK H b G' l n)(k:o.length+G'.length<=30000)(j:aq o+aq G'<=100000)(q:∀(t c d:DL)(Z:Hp)(ps e:bn)(r:am),ar H Z->H c=none->H d=none->Z t=some (.t [.r c,.r d])->bK Z c ps n r->bK Z d e m r->fN o G' ps e l m n->Q (.r t) Z):Bs [.r a,.r b] H Q E:=by
 obtain⟨xs,J,I,g⟩:=D;obtain⟨N,G,F,f⟩:=C;refine⟨a,b,xs,N,o,G',l,m,n,O,J,G,I,F,g.ok,f.ok,g.c,f.c,k,j,g.run,f.run,λt c d Z z w ps e s u p Y B A y x v P=>?_⟩;obtain⟨r,i,h⟩:=P.s;exact q t c d Z ps e r s u p B ⟨z,A,x,P.lN,P.Gi,i⟩ ⟨w,y,v,P.nY,P.Pj,h⟩ P
end
noncomputable def nm(r:cE):We×Nat:=(r.1,r.2.1)
theorem yt(w:We):∀(s:am)(m:Nat)(r:cE),r∈gr w m s->r.1=w/\m<=r.2.1/\r.2.1<m+s.length
 |[],m,r,h=>by cases h
 |c::s,m,r,h=>by
  rcases xW.mp h with rfl|h
  exact⟨O,VL _,aJ⟩;obtain⟨a,d,b⟩:=yt w s (m+1) r h;exact⟨a,(VP d),by rw[d_];lia⟩
theorem Gy(w:We):∀(s:am)(m:Nat),((gr w m s).map nm).Nodup
 |[],m=>WQ
 |c::s,m=>by
  refine Y8.mpr ⟨λh=>?_,Gy w s<|m+1⟩;obtain⟨r,a,e⟩:=Yc.mp h;have:=(yt w s (m+1) r a).2.1;have b:r.2.1=m:=IN (λp:We×Nat=>p.2) e;lia
theorem afo(h:ym l ps r)(o:We):∀(b:List cE)(m:Nat),l.length=b.length->(b.map nm).Nodup->(∀w∈b,w.1≠o)->
  ((bJ o b m<|ak ps).map nm).Nodup/\∀w∈bJ o b m (ak ps),w∈b\/(w.1=o/\m<=w.2.1):=by
 induction h with
 |N=>
  intro b m j n f;exact⟨WQ,nofun⟩
 | @k a l r k ps e _ u=>
  intro b m j n f;have L:ba (.k k)=rK k.toNat:=O;have M:k.toNat=a.length:=by lia
  rw[W0] at j;have F:(b.take a.length).length=a.length:=by rw[Ye];lia
  have v:=FC o (b.drop a.length) m (ak ps) (b.take a.length);rw[F,Zv] at v;rw[<-Zv a.length b,Z3,Y0] at n;obtain⟨I,B,H⟩:=n;obtain⟨z,g⟩:=u (b.drop a.length) m (by rw[Z0];lia) B (λw d=>f w<|Z6 d);rw[cJ,L,M,v];refine⟨?_,λw d=>?_⟩;rw[Z3,Y0];refine⟨I,z,λx A y D e=>?_⟩;obtain⟨q,G,rfl⟩:=Yc.mp A;obtain⟨i,Z,rfl⟩:=Yc.mp D;rcases g i Z with c|c
  exact H _ A _ (ZF c) e;exact f q (lA G) ((IN (λp:We×Nat=>p.1) e).trans c.1);rcases X0.mp d with d|d
  exact .inl (lA d);rcases g w d with c|c
  exact .inl (Z6 c);exact .inr c
 | @t s l r ps _ u=>
  intro b m j n f;have J:=Xz s;obtain⟨z,g⟩:=u b (m+s.length) j n f;rw[cJ];show((bJ o b m<|s.cps.toList.map At.P++ak ps).map nm).Nodup/\∀w∈bJ o b m (s.cps.toList.map At.P++ak ps),_;rw[FA,<-J];refine⟨?_,λw d=>?_⟩;rw[Z3,Y0];refine⟨Gy o _ m,z,λx A y D e=>?_⟩;obtain⟨q,G,rfl⟩:=Yc.mp A;obtain⟨i,Z,rfl⟩:=Yc.mp D;obtain⟨E,K,R⟩:=yt o _ m q G;have Q:q.1=i.1:=IN (λp:We×Nat=>p.1) e;have S:q.2.1=i.2.1:=IN (λp:We×Nat=>p.2) e;rcases g i Z with c|c
  exact f i c (Q.symm.trans E);lia;rcases X0.mp d with d|d
  obtain⟨E,K,R⟩:=yt o _ m w d;exact .inr ⟨E,K⟩;rcases g w d with c|c
  exact .inl c;exact .inr ⟨c.1,ap⟩
 | @C s l r ps _ u=>
  intro b m j n f;have J:=Xz s;rw[W0] at j;have F:(b.take s.length).length=s.cps.toList.length:=by rw[Ye];lia
  have v:=FD o (b.drop s.length) m (ak ps) (b.take s.length) s.cps.toList F;rw[Zv] at v;rw[<-Zv s.length b,Z3,Y0] at n;obtain⟨I,B,H⟩:=n;obtain⟨z,g⟩:=u (b.drop s.length) m (by rw[Z0];lia) B (λw d=>f w<|Z6 d);rw[cJ];show((bJ o b m<|s.cps.toList.map At.C++ak ps).map nm).Nodup/\∀w∈bJ o b m (s.cps.toList.map At.C++ak ps),_;rw[v];refine⟨z,λw d=>?_⟩;rcases g w d with c|c
  exact .inl (Z6 c);exact .inr c
section
variable{X:Cx}
end
section
variable{X:Cx}
end
end
namespace PR
open PySem PySem.W PyProof.Rows
section
variable{n:Nat}{lt:Nat->Nat->Go}{p:Array Nat}
variable{cmp:Nat->Nat->(Go->Ev->Prop)->Ev->Prop}{R:Ev->Prop}
end
end PR
section
open PyProof.Rows PySem.W
end
section
open PyProof.Rows
def yu:List (TE×TE)->St->Hp->(Cl->Hp->Prop)->Prop
 |[],_,H,Q=>Q [] H
 |(k,t)::r,u,H,Q=>k u H λx H1=>t u H1 λy W=>yu r u W λps a=>Q ((x,y)::ps) a
abbrev VV:Cl->List (EQ×EQ)->Prop:=Paired λp q=>mL p.1 q.1/\mL p.2 q.2
def qW(X:Cx)(p:Pos)(k:List (Option Expr))(v:on)(G:List (TE×TE)):Prop:=
 ∀(E:cy)(s:Ev)(u:St)(H:Hp)(Q:Cl->Hp->Prop),Ut X E u H s->yu G u H Q->
  wpAny (model X.prog X.w) X.A (evalPairs<|pairTrees k v X.env p) (λvs a=>∃ps Z,Ut X E u Z a/\VV ps vs/\Q ps Z) X.xe s
theorem afp:qW X p [] [] []:=λE s u H Q I h=>pairTrees_nil_walk ⟨[],H,I,.nil,h⟩
theorem Kl{b:List (Option Expr)}{vs:on}{a:TE}(m:PE X k a)(j:PE X v t)(l:qW X p b vs G):
  qW X p (some k::b) (v::vs) ((a,t)::G):=λE s u H Q I h=>
 pairTrees_cons_walk (aA (m E s u H _ I h) λC d ⟨x,H1,w,f,i⟩=>aA (j E d u H1 _ w i) λB c ⟨y,W,o,e,g⟩=>
  aA (l E c u W _ o g) λA D ⟨ps,z,n,r,q⟩=>oW ((x,y)::ps) z n (.cons ⟨f,e⟩ r) q)
def ky(N m:ii):ii:=m.foldl (λZ k=>Yx Z k.1 k.2) N
theorem KV.merge:∀{m:ii}{s:wE}{N:ii}{vs:wE},KV m s->KV N vs->KV (ky N m) (merged vs s):=by
 intro m s N vs r;induction r generalizing N vs with
 |nil=>intro q;exact q
 | @cons p q ps b h t i=>
  intro a;have e:KV (Yx N p.1 p.2) (stored vs q.1 q.2):=by
   have:=a.put p.1 h.2;rw[<-h.1];exact this
  exact i e
theorem PU:∀(m N:ii),(ky N m).length<=N.length+m.length
 |[],N=>by show N.length<=N.length+0;exact VL _
 |p::r,N=>by
  have a:=PU r (Yx N p.1 p.2);have h:=DE N p.1 p.2;show(ky (Yx N p.1 p.2) r).length<=_;rw[d_];lia
theorem PV:∀{N:ii}{d:List (EQ×EQ)},VV (N.map λk=>(kV k.1,k.2)) d->∃s,Carries (c9 P w) d s/\KV N s
 |[],_,r=>by cases r;exact⟨[],True.intro,.nil⟩
 |p::N,_,r=>by
  cases r with
  | @cons a b as f h t=>
   obtain⟨s,c,q⟩:=PV t;obtain⟨g,e⟩:=b;exact⟨(p.1,e)::s,⟨uK h.1,O,c⟩,.cons ⟨O,h.2⟩ q⟩
def GA(G:List (TE×TE)):TE:=λu H Q=>∀p,H p=none->yu G u (upd H p<|.d []) λps W=>W p=some (.d [])/\∃N:ii,ps=N.map (λk=>(kV k.1,k.2))/\N.length<=15/\Q (.r p) (upd W p<|.d<|ky [] N)
theorem afr(h:qW X p k v G)(m:k.all (·.isSome)=true)(y:k.length=v.length)(D:k≠ [])(a:k.length<=15):PE X (.Dict k v p) (GA G):=by
 intro K s u H Q I q;refine wpAny_Dict_walk (knd:=c9 X.prog X.w) m y D a<|aA (h K _ u _ _ (I.laid (λY Y q=>KK _ q) (VL _) (KP s.heap I.big))<|q _ (I.az.fresh (VL s.heap.objs.size))) λL M ⟨ps,W,d,l,e,N,F,P,n⟩=>?_;subst F;obtain⟨g,c,i⟩:=PV l;obtain⟨z,B,f,j,J⟩:=KI d.az e;cases j;refine⟨g,c,J,λE b t=>⟨.r s.heap.objs.size,_,?_,O,n⟩⟩;have o:(ky [] N).length<=sizeLine:=by
  have C:=PU N [];rw[VO] at C;rw[sizeLine_eq];lia
 have A:∃q,E.get? s.heap.objs.size=some q:=let ⟨q,_,_,x,_⟩:=b;⟨q,x⟩;exact DG d (e▸True.intro) t A<|KJ o B (i.merge .nil) b
def tO:ii->ci
 |[]=>[]
 |k::r=>kV k.1::k.2::tO r
noncomputable def tP:Cl->ci
 |[]=>[]
 |p::r=>p.1::p.2::tP r
def tQ:Frag->TA->TE:=λ_ t u H Q=>∀p,H p=none->t u (upd H p<|.d []) λvs W=>W p=some (.d [])/\∃N:ii,vs=tO N/\N.length<=15/\Q (.r p) (upd W p<|.d<|ky [] N)
def qX(Γ:bu):u8->List (TE×TE)
 |a::b::r=>(ae Γ a,ae Γ b)::qX Γ r
 |_=>[]
theorem GB:∀(s:u8)(H:Hp)(Q:ci->Hp->Prop),s.length % 2=0->aP Γ s u H Q=yu (qX Γ s) u H λps W=>Q (tP ps) W
 |[],H,Q,_=>O
 |[a],H,Q,e=>absurd e aJ
 |a::b::r,H,Q,e=>by
  have d:r.length % 2=0:=by
   have:(r.length+1+1) % 2=0:=e;lia
  show(ae Γ a u H λx H1=>ae Γ b u H1 λy W=>aP Γ r u W λvs c=>Q (x::y::vs) c)=ae Γ a u H λx H1=>ae Γ b u H1 λy W=>yu (qX Γ r) u W λps c=>Q (x::y::tP ps) c;congr 1;funext x H1;congr 1;funext y W;exact GB r W (λvs c=>Q (x::y::vs) c) d
theorem BA:∀(ps:Cl)(N:ii),tP ps=tO N↔ps=N.map λk=>(kV k.1,k.2)
 |[],[]=>⟨λY=>O,λY=>O⟩
 |[],k::r=>⟨nofun,nofun⟩
 |p::ps,[]=>⟨nofun,nofun⟩
 |p::ps,k::r=>by
  constructor;intro h;have b:=(Nb h).1;have a:=(Nb (Nb h).2).1;rw[((BA ps r).mp (Nb (Nb h).2).2),AP,<-b,<-a];intro h;obtain⟨b,a⟩:=Nb h;show p.1::p.2::tP ps=kV k.1::k.2::tO r;rw[(BA ps r).mpr a,b]
theorem YP{K:Frag}(s:u8)(e:s.length % 2=0):tQ K (aP Γ s)=GA (qX Γ s):=by
 funext u H Q;apply propext;constructor;intro h p a;have:=h p a;rw[GB s _ _ e] at this;have b:(fun(ps:Cl)(W:Hp)=>W p=some (.d [])/\∃N:ii,tP ps=tO N/\N.length<=15/\Q (.r p) (upd W p<|.d<|ky [] N))=λps W=>W p=some (.d [])/\∃N:ii,ps=N.map (λk=>(kV k.1,k.2))/\N.length<=15/\Q (.r p) (upd W p<|.d<|ky [] N):=by
  simp only[BA]
 rw[b] at this;exact this;intro h p a;have:=h p a;rw[GB s _ _ e];have b:(fun(ps:Cl)(W:Hp)=>W p=some (.d [])/\∃N:ii,tP ps=tO N/\N.length<=15/\Q (.r p) (upd W p<|.d<|ky [] N))=λps W=>W p=some (.d [])/\∃N:ii,ps=N.map (λk=>(kV k.1,k.2))/\N.length<=15/\Q (.r p) (upd W p<|.d<|ky [] N):=by
  funext ps W;simp only[BA]
 rw[b];exact this
section
variable{CX:cZ}{S:dJ}{c:bu}{X:Cx}{f:Pos}{k v:Expr}{g:List (Option Expr)}{l:on}{m n:RE}{e:u8}
theorem GC:qW X f [] [] (qX c []):=afp
theorem vB(b:PE X k (ae c m))(a:PE X v (ae c n))(h:qW X f g l (qX c e)):qW X f (some k::g) (v::l) (qX c (m::n::e)):=Kl b a h
noncomputable def PX(k:List (Option Expr))(v:on)(e:u8):Go:=k.all (·.isSome) && decide (k.length=v.length) && decide (k.length≠0) && decide (k.length<=15) && decide (e.length % 2=0)
theorem GD(p:qW X f g l (qX c e))(h:autoParam (PX g l e=true) ee):PE X (.Dict g l f) (ae c<|.x tQ e):=by
 simp only[PX,Zu,KM] at h;obtain⟨⟨⟨⟨j,i⟩,d⟩,b⟩,a⟩:=h;show PE X _ (tQ c.K<|aP c e);rw[YP e a];exact afr p j i (λz=>d (z▸O)) b
end
noncomputable def pH(xs:ci)(lo h s:tz):ci:=(sliceRange (sliceBounds lo h s xs.length).1 (sliceBounds lo h s xs.length).2.1 (sliceBounds lo h s xs.length).2.2).filterMap (xs[·]?)
def qY(K:Frag):V->tz->tz->tz->Hp->VK->Prop:=λx lo h s H Q=>∃a xs,x=.r a/\ah K H a xs/\s≠some 0/\∀p,H p=none->Q (.r p) (upd H p<|.l<|pH xs lo h s)
theorem PY{u:ga}(r:ZT xs u):∀(s:am),ZT (s.filterMap (xs[·]?)) (s.filterMap (u.toArray[·]?))
 |[]=>.nil
 |i::s=>by
  have b:=PY r s;by_cases h:i<xs.length;obtain⟨w,d,c⟩:=r.get (i:=i) (x:=xs[i]) aJ;have a:xs[i]?=some xs[i]:=by simp
  have e:u.toArray[i]?=some w:=by simpa using d
  rw[I0 a,I0 e];exact .cons c b;have l:=r.length;have a:xs[i]?=none:=by simp;exact Zw h
  have e:u.toArray[i]?=none:=by simp;lia
  rw[List.filterMap_cons_none a,List.filterMap_cons_none e];exact b
section
variable{X:Cx}{e g el m:Expr}{f n c:TE}{p2 pos:Pos}
theorem afu{l c vs:EQ}{lo i k:tz}{d:DL}(I:Ut X E u H s)(j:mL x v)(z:s.heap.IsSliceOf d l c vs)(m:IsPart l lo)(p:IsPart c i)(ps:IsPart vs k)(h:qY X.K x lo i k H Q):
  ∃T o,typeLookup (.type T) "__getitem__"=pure (some<|.builtin o)/\s.TypeIs v T/\wpAny (model X.prog X.w) X.A (getItem v<|.ref d) (EP X E u Q) X.xe s:=by
 obtain⟨a,xs,zq⟩:=XU h;obtain⟨rfl,y,C,q⟩:=Xn zq;cases j;obtain⟨g,r,t,F⟩:=I.list y;have n:=r.length;refine oW ("list") _ slot_list_getitem.lookup t.isList.typeIs (wpAny_getItem_list_slice t.isList z m p ps C ?_ (by rw[Xm] <;>lia));have B:=slicePick_size_le g.toArray lo i k;refine⟨.r s.heap.objs.size,_,I.laid (λb D q=>KK _ q) (VL _) ?_,O,q _<|I.az.fresh<|VL _⟩;have f:=PY r (sliceRange (sliceBounds lo i k xs.length).1 (sliceBounds lo i k xs.length).2.1 (sliceBounds lo i k xs.length).2.2);have e:(slicePick g.toArray lo i k)=((sliceRange (sliceBounds lo i k xs.length).1 (sliceBounds lo i k xs.length).2.1 (sliceBounds lo i k xs.length).2.2).filterMap (g.toArray[·]?)).toArray:=by
  unfold slicePick;rw[Xm,<-n]
 refine rS ?_ _ 0 f (e▸On _ O);have:=f.length;unfold pH;rw[this,<-Xm];have G:g.toArray.size=g.length:=Xm;lia
def GG(K:Frag)(f:TE)(n t c:TO):TE:=λu H Q=>f u H λx H1=>n u H1 λl W=>t u W λa d=>c u d λk b=>qY K x l a k b Q
theorem PZ{lo i:Option Expr}{o c:TO}(N:PE X g f)(L:PO X lo o)(F:PO X i t)(J:PO X (some m) c):PE X (.Subscript g (.Slice lo i (some m) p2) pos) (GG X.K f o t c):=by
 intro E s u H Q I h;refine Subscript_<|aA (N E s u H _ I h) λv p ⟨x,H1,Y,r,A⟩=>wpAny_Slice<|aA (L E p u H1 _ Y A) λe n ⟨l,W,V,C,z⟩=>aA (F E n u W _ V z) λd j ⟨u0,H3,U,B,y⟩=>aA (J E j u H3 _ U y) λvs a ⟨k,Z,S,D,w⟩=>?_;have R:Ut X E u Z {a with heap:=a.heap.push {cls:=.type "slice",data:=.fields #[e,d,vs]}}:=S.kept λb ob q=>KK _ q;obtain⟨T,id,zq⟩:=XU (afu R r (Heap.IsSliceOf.new ..) C B D w);obtain⟨P,G,M⟩:=Xb zq;exact tail_any G P M (O)
end
def n_(lo:tz)(k:Int):Frag->TA->TE:=λK t u H Q=>t u H λvs H1=>match vs with
 |[x]=>qY K x lo none (some k) H1 Q
 |_=>False
theorem afv{K:Frag}{r:RE}{i:Int}(l:∀u H Q,ae Γ rl u H Q=Q (.i i) H)(s:∀u H Q,ae Γ rs u H Q=Q (.i k) H):n_ (some i) k K (aP Γ [r])=GG K (ae Γ r) (r_<|ae Γ rl) wI (r_<|ae Γ rs):=by
 funext u H Q;show(ae Γ r u H λx H1=>qY K x (some i) none (some k) H1 Q)=ae Γ r u H λx H1=>ae Γ rl u H1 λy W=>∃b,y=V.i b/\ae Γ rs u W λz c=>∃a,z=V.i a/\qY K x (some b) none (some a) c Q;congr 1;funext x H1;rw[l];apply propext;constructor;intro h;refine⟨i,O,?_⟩;rw[s];exact⟨k,O,h⟩;rintro⟨b,e,h⟩;cases e;rw[s] at h;obtain⟨a,e,h⟩:=h;cases e;exact h
theorem afw{K:Frag}{r:RE}(b:∀u H Q,ae Γ s u H Q=Q (.i k) H):n_ none k K (aP Γ [r])=GG K (ae Γ r) wI wI (r_<|ae Γ s):=by
 funext u H Q;show(ae Γ r u H λx H1=>qY K x none none (some k) H1 Q)=ae Γ r u H λx H1=>ae Γ s u H1 λz c=>∃a,z=V.i a/\qY K x none none (some a) c Q;congr 1;funext x H1;rw[b];apply propext;constructor;intro h;exact⟨k,O,h⟩;rintro⟨a,e,h⟩;cases e;exact h
section
variable{g:cZ}{S:dJ}{c:bu}{X:Cx}{a:Expr}{e:RE}{p q l f m:Pos}
theorem GH{i:Int}{b}(G:Good g S c X)(h:PE X a (ae c e))(m:PE X (.Constant (.int i) d l) (ae c<|.c<|.i i))(j:PE X (.Constant (.int k) b f) (ae c<|.c<|.i k)):PE X (.Subscript a (.Slice (some<|.Constant (.int i) d l) none (some<|.Constant (.int k) b f) q) p) (ae c<|.x (n_ (some i) k) [e]):=by
 show PE X _ (n_ (some i) k c.K<|aP c [e]);rw[afv (rl:=.c (.i i)) (rs:=.c (.i k)) (λY Y Y=>O)<|λY Y Y=>O,<-G.K];exact PZ h (zK m) zJ<|zK j
theorem afx{b}(G:Good g S c X)(d:PE X a (ae c e))(j:PE X (.UnaryOp .USub (.Constant (.int k) b f) m) (ae c<|.n<|.c<|.i k)):PE X (.Subscript a (.Slice none none (some<|.UnaryOp .USub (.Constant (.int k) b f) m) q) p) (ae c<|.x (n_ none<|-k) [e]):=by
 show PE X _ (n_ none (-k) c.K<|aP c [e]);rw[afw (k:= -k) ?_,<-G.K];exact PZ d zJ zJ (zK j);intro u H Q;apply propext;constructor;intro h;exact h;intro h;exact h
end
theorem afy:typeLookup (.type "list_reverseiterator") "__len__"=pure none:=O
theorem afz:typeLookup (.type "list_reverseiterator") "__length_hint__"=pure (some<|.builtin "list_reverseiterator.__length_hint__"):=O
section
variable{c:Fa}{w:Fk}{A:Gc}{E:cr}{s:Ev}
theorem afA{Q:Go->Ev->Prop}(T:s.TypeIs (.ref I) "list_reverseiterator")(h:Q false s):wpAny (model c w) A (Builtin.List.listLengthHint<|.ref I) Q E s:=by
 refine GT<|Uf T afy ?_;refine GT<|Uf T afz ?_;generalize P0:("list_reverseiterator.__length_hint__":GM)=i;subst P0;refine GT<|wpAny_isInstance T (O) (AI (λf=>absurd f bc)<|λY=>?_);refine AI (λY=>AI (λf=>absurd f bc)<|λY=>?_)<|λf=>absurd (O) f;exact IO h
theorem afC{Q:cr}{I l:DL}{a:lc}(U:A.handled=none)(t:s.heap.IsRevIter I l ((a.size:Int) - 1))(B:s.heap.IsList l a)(N:l≠I)(R:a.size<=sizeLine)(V:∀f K n x,(∀b o,b≠I->s.heap.get? b=some o->f.get? b=some o)->
   f.get? s.heap.objs.size=some {cls:=.type "list",dict:=none,data:=.seq n x,slots:= #[]}->ItemsOf (λi v=>a[a.size - 1 - i]?=some v) n a.size->Q (.ref s.heap.objs.size) {s with heap:=f,toks:=K}):
  wpAny (model c w) A (call (.type "list") [.ref I]) Q E s:=by
 have X:I<s.heap.objs.size:=by obtain⟨o,p,_⟩:=t;exact IR p
 have aD:l<s.heap.objs.size:=by obtain⟨o,p,_⟩:=B;exact IR p
 refine callType_codes (Q₁:=λj W=>j=.ref s.heap.objs.size/\W={s with heap:=s.heap.push {cls:=.type "list",data:=.seq #[]}}) F.called_list (F.typeCall_list_1 _) F.entry_list_init
  (code_list_new _ ⟨O,O⟩) λj W d=>?_
 obtain⟨rfl,rfl⟩:=d;have g:(s.heap.push {cls:=.type "list",data:=.seq #[]}).get? s.heap.objs.size=some {cls:=.type "list",data:=.seq #[]}:=On _ O;refine⟨⟨_,g,O⟩,F.args_list_init_2 _ _,?_⟩;have D:(s.heap.push {cls:=.type "list",data:=.seq #[]}).IsRevIter I l ((a.size:Int) - 1):=t.at λo e=>KK _ e;have cO:(s.heap.push {cls:=.type "list",data:=.seq #[]}).IsList l a:=B.at λo e=>KK _ e;have k:∀b o,s.heap.get? b=some o->(s.heap.push {cls:=.type "list",data:=.seq #[]}).get? b=some o:=λb o e=>KK _ e;have C:∀b o,s.heap.get? b=some o->b≠s.heap.objs.size:=λb o e=>ZH (IR e);generalize hS0:s.heap.objs.size=S at*;generalize s.heap.push {cls:=.type "list",data:=.seq #[]}=h1 at*;refine GT ?_;unfold Builtin.List.listItems;refine GT<|ZB g O<|IO ?_;refine GT<|Yg g O ?_;have H:=SB (Obj.mapSeq<|λ_=>(#[]:lc)) g O;have m:∀b o,b≠S->h1.get? b=some o->(h1.update S<|Obj.mapSeq<|λ_=>(#[]:lc)).get? b=some o:=
  λb o q e=>(Ps _ _<|KF q).trans e
 have y:I≠S:=ZH X;have P:l≠S:=ZH aD;have J:=D.at (h':=h1.update S (Obj.mapSeq<|λ_=>(#[]:lc))) λo e=>m I o y e;have dm:=cO.at (h':=h1.update S (Obj.mapSeq<|λ_=>(#[]:lc))) λo e=>m l o P e;refine GT<|wpAny_letGo ?_;generalize h1.update S (Obj.mapSeq<|λ_=>(#[]:lc))=h2 at*;have T:=J.typeIs (s:={s with heap:=h2});unfold Builtin.List.listExtendWith;refine GT<|Wp T ?_;have fX:Builtin.List.listSameRef (.ref S) (.ref I)=false:=by simp[Builtin.List.listSameRef,KF y]
 have L:(Value.type "list_reverseiterator"==Value.type "list")=false:=by decide
 have u:(Value.type "list_reverseiterator"==Value.type "tuple")=false:=by decide
 simp only[fX,L,u,YO,jK,Tl];refine GT<|wpAny_pyIter_revIter J ?_;refine GT<|NE<|afA T ?_;have W1:=(Walks.listRev (prog:=c) (w:=w) (A:=A.in1.in1) U I l N a).toS;have r:S∉ [I,l]:=λh=>by
  rcases xW.mp h with e|h
  exact y e.symm;exact P (Yd.mp h).symm
 refine AI (λY=>absurd Y bc)<|λ_=>IO ⟨cB F.plain_extend_loop _,?_⟩;refine codeAny_extend_loopS W1 R S r _ a.size 0 _ #[] _ O (Ww _) ⟨Ww _,?_,dm⟩ H (ItemsOf.nil _) λz n x h Z M=>?_;have e:(a.size:Int) - 1 - ((0:Nat):Int)=(a.size:Int) - 1:=by lia
 rw[e];exact J;rw[Moved.eq_with h];refine⟨O,V z.heap z.toks n x (λb o q e=>h.heap b o (λG=>?_)<|m b o (C b o e)<|k b o e) Z M⟩;rcases xW.mp G with e'|G
 exact C b o e e';exact q (Yd.mp G)
end
theorem afH{a:EQ}(r:mL x a):∀{xs:ci}{u:ga},ZT xs u->ZT (xs++[x]) (u++[a]):=λh=>ZT.append h (.cons r .nil)
theorem QB:∀{xs:ci}{u:ga},ZT xs u->ZT xs.reverse u.reverse:=by
 intro Y Y h;induction h with
 |nil=>exact .nil
 |cons r Y i=>rw[CR,CR];exact afH r i
theorem Xt{a:ga}{Z:lc}(h:ItemsOf (λi v=>a.toArray[a.toArray.size - 1 - i]?=some v) Z a.toArray.size):Z.toList=a.reverse:=by
 obtain⟨c,d⟩:=h;refine Xw λi=>?_;by_cases b:i<a.length;have s:i<Z.size:=by rw[c];simpa using b
 rw[List.getElem?_reverse b];have e:Z.toList[i]?=some Z[i]:=by simp
 rw[e];simpa using (d i Z[i] (Yo s)).symm;have s:Z.toList.length=a.length:=by simpa using c
 rw[WL ap,WL (by rw[Yb];exact Zw b)]
def BB(K:Frag):ci->Hp->VK->Prop:=λxs H Q=>∃p N,xs=[.r p]/\ah K H p N/\∀l,H l=none->Q (.r l) (upd H l<|.l N.reverse)
def GN:Frag->TA->TE:=λK t=>gU (BB K) t
theorem aeI:bootBuiltins "reversed"=some (.type "reversed"):=O
section
variable{CX:cZ}{S:dJ}{c:bu}{X:Cx}{e:Expr}{es:on}{x y:Str}{p g k f:Pos}{r:RE}{rs:u8}
theorem afK(J:X.calm=true)(R:Gl X "list")(A:X.mg "list"=none)(P:Gl X "reversed")(z:X.mg "reversed"=none)(L:PA X [e] t)(E:starEach [e] X.env=[(false,eval e X.env)]):
  PE X (.Call (.Name "list" p) [.Call (.Name "reversed" g) [e] [] f] [] k) (gU (BB X.K) t):=by
 intro U s u H Q I h;refine Sc<|m6 I R A Em ?_ bc (O);refine Rs (u9 (Sc<|m6 I P z aeI ?_ bc (O))) O O;refine Rs (aA (L f U s u H _ I h) λV i ⟨vs,H1,c,m,n⟩=>?_) E O;obtain⟨l,N,rfl,F,q⟩:=n;obtain⟨W,rfl,j⟩:=VZ m;cases j;obtain⟨Z,v,x,D⟩:=c.list F;have a:=x.isList;have T:l<i.heap.objs.size:=by obtain⟨o,G,_⟩:=a;exact IR G
 refine call_reversed_list a (v3 ?_);have P4:=v.length;refine afC (I.ok.hd J) (nW _ (On _ O) O O) (a.push _) (ZH T) bd λM Y y S B e C=>?_;refine⟨.r _,_,c.laid (λb o d=>B b o (ZH (IR d)) (KK _ d)) aJ
  (show cT X.prog X.w _ M _ (.l N.reverse) from(rS (by rw[Yb];exact D) y.toList S ((Xt C)▸QB v) (by simpa using e))),O,q _ (c.az.fresh aJ)⟩
theorem afL(G:Good CX S c X)(A:PA X [e] (aP c [r]))(h:autoParam (kB S x "list"=true) ee)(a:autoParam (kB S y "reversed"=true) ee)(n:autoParam (ib [e]=true) ee)(q:autoParam (S.m=0) dh):PE X (.Call (.Name x p) [.Call (.Name y g) [e] [] f] [] k) (ae c<|.x GN [r]):=by
 simp only[kB,Zu,KM] at h a;obtain⟨⟨rfl,j⟩,i⟩:=h;obtain⟨⟨rfl,d⟩,b⟩:=a;show PE X _ (gU (BB c.K)<|aP c [r]);rw[<-G.K];exact afK (G.calm q) (G.gl j) (G.jo _ i) (G.gl d) (G.jo _ b) A<|eI (e_ n).1
end
noncomputable def P5:bi:=["changes","pairs"]
noncomputable def P6:gu:=
 [.m (.p .Gt (.t .l [.v 0]) (.c (.i 1))) [.uQ 1 (.C (some 2) [] .z [(.x (n_ (some 0) 2) [.v 0]),(.x (n_ (some 1) 2) [.v 0])] none (.l 0 [.v 0,.v 1])),
  .a 0 (.b .Add (.v 1) (.s (.v 0) (some (.b .Mult (.c (.i 2)) (.t .l [.v 1]))) none))],
 .r (.i (.v 0) (.c (.i 0)))]
noncomputable def afM:bi:=["then"]
noncomputable def afN:bi:=["len","zip"]
noncomputable def P7:bi:=["self","size"]
noncomputable def P8:gu:=
 [.i (.o [(.N (.l 0 [.v 1])),(.p .Lt (.v 1) (.c (.i 0)))]) [.L 0 [(.c (.s "a text has no such number of signs"))]] [],
 .f (.v 0) "here" (.c<|.i 0),
 .f (.v 0) "lengths" (.L [.v 1]),
 .f (.v 0) "parents" (.L [.c .a]),
 .f (.v 0) "edges" (.L [.c .a]),
 .f (.v 0) "below" (.L [(.L [])]),
 .f (.v 0) "last_gone" (.L [.c .a])]
noncomputable def afO:bi:=["NoPlace"]
noncomputable def vD:bi:=["self","node"]
noncomputable def P9:gu:=
 [.i (.N<|.l 0 [.v 1,(.c<|.i 0),(.b .Sub (.a 0 "many" (.v 0) [])<|.c<|.i 1)]) [.L 0 [(.c<|.s "there is no such node")]] []]
noncomputable def afP:bi:=["is_between"]
noncomputable def afQ:bi:=["many"]
noncomputable def GO:bi:=["NoNode"]
noncomputable def P_:gu:=
 [.i (.p .NotEq (.i (.l 0 [.v 1])<|.c<|.i 0)<|.i (.f (.v 0) "lengths")<|.f (.v 0) "here") [.L 0 [(.c<|.s "the change is over a text of another number of signs")]] []]
noncomputable def Qa:bi:=["sizes"]
noncomputable def Qc:gu:=
 [.r<|.t .l [(.f (.v 0) "parents")]]
noncomputable def Qd:gu:=
 [.d (.a 0 "need_node" (.v 0) [.v 1]),
 .r (.i (.f (.v 0) "lengths") (.v 1))]
noncomputable def afR:bi:=["need_node"]
noncomputable def Qe:bi:=["self","change","node"]
noncomputable def Qf:gu:=
 [.d (.a 0 "need_over" (.v 0) [.v 1]),
 .a 2 (.a 1 "many" (.v 0) []),
 .d (.w .a (.f (.v 0) "parents") [(.f (.v 0) "here")]),
 .d (.w .a (.f (.v 0) "edges") [(.t .t [.v 1])]),
 .d (.w .a (.f (.v 0) "lengths") [(.i (.l 0 [.v 1])<|.c<|.i 1)]),
 .d (.w .a (.f (.v 0) "below") [(.L [])]),
 .d (.w .a (.f (.v 0) "last_gone") [.c .a]),
 .d (.w .a (.i (.f (.v 0) "below")<|.f (.v 0) "here") [.v 2]),
 .f (.v 0) "here" (.v 2),
 .r (.v 2)]
noncomputable def afS:bi:=["need_over","many"]
noncomputable def Qg:gu:=
 [.d (.a 0 "need_over" (.v 0) [.v 1]),
 .i (.o [(.p .Eq (.f (.v 0) "here")<|.c<|.i 0),(.p .NotEq (.f (.v 0) "here")<|.b .Sub (.a 1 "many" (.v 0) [])<|.c<|.i 1)]) [.r<|.a 2 "do" (.v 0) [.v 1]] [],
 .s (.f (.v 0) "edges") (.f (.v 0) "here") (.l 0 [(.i (.f (.v 0) "edges")<|.f (.v 0) "here"),.v 1]),
 .s (.f (.v 0) "lengths") (.f (.v 0) "here") (.i (.l 1 [.v 1])<|.c<|.i 1),
 .r (.f (.v 0) "here")]
noncomputable def afT:bi:=["then","sizes"]
noncomputable def Zy:bi:=["need_over","many","do"]
noncomputable def Qh:bi:=["self","node","other"]
noncomputable def Qi:gu:=
 [.r<|.M (.p .Eq (.i (.f (.v 0) "parents")<|.v 2)<|.v 1) (.i (.f (.v 0) "edges")<|.v 2)<|.l 0 [(.i (.f (.v 0) "edges")<|.v 1)]]
noncomputable def afV:bi:=["back"]
noncomputable def Qj:gu:=
 [.i (.p .Eq (.f (.v 0) "here") (.c (.i 0))) [.L 0 [(.c (.s "the root has no parent"))]] [],
 .r (.a 0 "along" (.v 0) [(.L [(.f (.v 0) "here"),(.i (.f (.v 0) "parents") (.f (.v 0) "here"))])])]
noncomputable def Qk:bi:=["along"]
noncomputable def Ql:bi:=["self","child"]
noncomputable def Qm:gu:=
 [.a 1 (.i (.f (.v 0) "last_gone") (.f (.v 0) "here")),
 .i (.p .Is (.v 1)<|.c .a) [.L 0 [(.c<|.s "this node has no child")]] [],
 .r (.a 0 "along" (.v 0) [(.L [(.f (.v 0) "here"),.v 1])])]
noncomputable def Qn:gu:=
 [.r<|.a 0 "along" (.v 0) [(.a 1 "way" (.v 0) [(.f (.v 0) "here"),.v 1])]]
noncomputable def afW:bi:=["along","way"]
noncomputable def Qo:bi:=["self","node","row"]
noncomputable def Qp:gu:=
 [.a 2 (.L [.v 1]),
 .m (.p .NotEq (.i (.v 2)<|.n<|.c<|.i 1)<|.c<|.i 0) [.d<|.w .a (.v 2) [(.i (.f (.v 0) "parents")<|.i (.v 2)<|.n<|.c<|.i 1)]],
 .r (.v 2)]
noncomputable def Qq:bi:=["self","one","other","ups","downs"]
noncomputable def GP:gu:=
 [.d (.a 0 "need_node" (.v 0) [.v 1]),
 .d (.a 0 "need_node" (.v 0) [.v 2]),
 .a 3 (.a 1 "upward" (.v 0) [.v 1]),
 .a 4 (.a 1 "upward" (.v 0) [.v 2]),
 .m (.d [(.p .Gt (.t .l [.v 3]) (.c (.i 1))),(.p .Gt (.t .l [.v 4]) (.c (.i 1))),(.p .Eq (.i (.v 3) (.n (.c (.i 2)))) (.i (.v 4) (.n (.c (.i 2)))))]) [.d (.w .p (.v 3) []),
  .d (.w .p (.v 4) [])],
 .r (.b .Add (.v 3) (.x GN [(.s (.v 4) none (some (.n (.c (.i 1)))))]))]
noncomputable def afX:bi:=["len","list","reversed"]
noncomputable def afY:bi:=["need_node","upward"]
noncomputable def Qr:bi:=["self","node","above"]
noncomputable def Qs:gu:=
 [.a 2 (.M (.p .Eq (.v 1) (.c (.i 0))) (.L []) (.L [(.i (.f (.v 0) "parents") (.v 1))])),
 .r (.b .Add (.v 2) (.i (.f (.v 0) "below") (.v 1)))]
structure gM(K:Frag)(C:DL):Prop where
 cl:gT K C
 g:gI K C "here"
 t:gI K C "lengths"
 p:gI K C "parents"
 q:gI K C "edges"
 BC:gI K C "below"
 BD:gI K C "last_gone"
end
theorem afZ(n:Nat):sliceRange ((n:Int) - 1) (-1) (-1)=(List.range n).map λk=>n - 1 - k:=by
 unfold sliceRange;have a:¬((-1:Int) >0):=by lia
 simp only[a,Tl];have e:(if (n:Int) - 1> -1 then ((n:Int) - 1 - -1 - -1 - 1) / (- -1) else 0).toNat=n:=by
  by_cases z:n=0;subst z;rfl;rw[Id ap];have:((n:Int) - 1 - -1 - -1 - 1) / (- -1)=n:=by
   have h:(n:Int) - 1 - -1 - -1 - 1=n:=by lia
   rw[h];exact Int.ediv_one _
  lia
 rw[e];refine Xi λk b=>?_;lia
theorem af0(xs:ci):pH xs none none (some<|-1)=xs.reverse:=by
 show(sliceRange ((xs.length:Int) - 1) (-1)<|-1).filterMap (xs[·]?)=xs.reverse;rw[afZ,Xv];refine Xw λi=>?_;have e:(List.range xs.length).filterMap ((λx=>xs[x]?)∘λk=>xs.length - 1 - k)=xs.reverse:=by
  have:∀m,m<=xs.length->(List.range m).filterMap ((λx=>xs[x]?)∘λk=>xs.length - 1 - k)=xs.reverse.take m:=by
   intro m;induction m with
   |zero=>intro Y;rfl
   |succ m h=>
    intro a;rw[YL,List.filterMap_append,h (VP a),YQ,List.getElem?_reverse (FB a)];rfl
  rw[this xs.length<|VL _,XB aJ]
 rw[e]
noncomputable def dR:ci->ci
 |[]=>[]
 |[x]=>[x]
 |x::_::r=>x::dR r
theorem Qt(a n:Nat)(c:a<=n):sliceRange (a:Int) (n:Int) 2=(List.range<|(n - a+1) / 2).map λk=>a+2*k:=by
 unfold sliceRange;have h:(2:Int) >0:=by lia
 simp only[h,if_true];have e:(if (a:Int) < (n:Int) then ((n:Int) - (a:Int)+2 - 1) / 2 else 0).toNat=(n - a+1) / 2:=by
  by_cases z:a<n;lia;lia
 rw[e];refine Xi λk b=>?_;lia
theorem GQ:∀(xs:ci),((List.range<|(xs.length+1) / 2).map λk=>2*k).filterMap (xs[·]?)=dR xs
 |[]=>O
 |[x]=>by
  simp[dR]
 |x::y::r=>by
  have e:((x::y::r).length+1) / 2=(r.length+1) / 2+1:=by
   show(r.length+1+1+1) / 2=_;lia
  rw[e,List.range_succ_eq_map,AP,XE];show x::List.filterMap _ _=x::dR r;rw[<-(GQ r),Xv,Xv];congr 1
theorem af1(xs:ci):pH xs (some 0) none (some 2)=dR xs:=by
 unfold pH;have e:sliceBounds (some 0) none (some 2) xs.length=(((0:Nat):Int),(xs.length:Int),2):=by
  unfold sliceBounds;simp;lia
 rw[e];rw[Qt 0 _<|Ww _,<-GQ xs];congr 1;refine Xi λk Y=>?_;exact zI _ _
theorem af2(xs:ci):pH xs (some 1) none (some 2)=dR (xs.drop 1):=by
 unfold pH;cases xs with
 |nil=>rfl
 |cons x r=>
  have e:sliceBounds (some 1) none (some 2) (x::r).length=(((1:Nat):Int),((x::r).length:Int),2):=by
   unfold sliceBounds;simp;lia
  rw[e];rw[Qt 1 _ aJ];show _=dR r;rw[<-GQ r,Xv,Xv];congr 1;funext k;show(x::r)[1+2*k]?=r[2*k]?;rw[Nat.add_comm 1<|2*k,Xo]
section
open PySem.StrLaws
end
section
open PyProof.Rows
theorem q_{p:α->Prop}:∀x∈ ([]:List α),p x:=nofun
theorem rf{p:α->Prop}{a:α}(h:p a)(t:∀x∈l,p x):∀x∈a::l,p x:=List.forall_mem_cons.2 ⟨h,t⟩
inductive lO(w:Fk):List DictEntry->ii->wE->Prop
 |n:lO w [] [] []
 |c {x:Str}{t:Tok}{v:V}{u:EQ}{es:List DictEntry}{N:ii}{vs:wE}:mL v u->lO w es N vs->
   lO w (⟨PyData.keyHash w.params x,.str x t,u⟩::es) ((.inr x,v)::N) ((.inr x,u)::vs)
section
variable{P:Fa}{w:Fk}{K:Frag}
theorem lO.kv{es:List DictEntry}{N:ii}{vs:wE}(h:lO w es N vs):KV N vs:=by
 induction h with
 |n=>exact .nil
 |c r Y i=>exact .cons ⟨O,r⟩ i
theorem lO.pairs{es:List DictEntry}{N:ii}{vs:wE}(h:lO w es N vs):Pairs (c9 P w) es vs:=by
 induction h with
 |n=>exact .nil
 |c r Y i=>exact .cons (zj P w _ _) O i
theorem lO.keys{es:List DictEntry}{N:ii}{vs:wE}(h:lO w es N vs):∀e∈es,∃k,(c9 P w).is k e.key=true/\e.hash=(c9 P w).hash k:=by
 induction h with
 |n=>intro e a;cases a
 | @c x t v u es N vs r _ i=>
  intro e a;rcases xW.mp a with rfl|a
  exact⟨.inr x,zj P w _ _,O⟩;exact i e a
theorem lO.same{es:List DictEntry}{N:ii}{vs:wE}(h:lO w es N vs):vs.map (·.1)=N.map (·.1):=by
 induction h with
 |n=>rfl
 |c r Y i=>simp only[AP,i]
theorem af3{es:Array DictEntry}{N:ii}{vs:wE}(l:K.lookup p=some ⟨.type "dict",none,.dict es n,#[]⟩)(k:lO w es.toList N vs)(d:(N.map (·.1)).Nodup):An P w K (p,N):=λh X=>
 ⟨vs,k.kv,_,es,n,X p _ l,⟨O,O,O⟩,O,(λe a=>k.keys e (by simpa using a)),k.pairs,k.same▸d⟩
variable{l:ge}{g:FS}{k:Nat}
theorem dD.weak{d:GE}{ps:bi}{a b:Sp}(A:dD P w K l g CX k f d ps b)(h:∀vs H Q E,a vs H Q E->b vs H Q E):dD P w K l g CX k f d ps a:=
 ⟨λvs H Q E q=>A.len vs H Q E<|h _ _ _ _ q,λm o s H c u vs Q E r j i v e=>A.run m o s H c u vs Q E r j i v<|h _ _ _ _ e⟩
theorem nG.weak{a b:Sp}(T:nG P w K l g k x b)(h:∀vs H Q E,a vs H Q E->b vs H Q E):nG P w K l g k x a:=by
 obtain⟨f,d,ps,F,r⟩:=T;exact⟨f,d,ps,F.weak h,r⟩
theorem nI.weak{a b:Sp}(T:nI P w K l g k (x,C,b))(h:∀vs H Q E,a vs H Q E->b vs H Q E):nI P w K l g k (x,C,a):=by
 obtain⟨c,f,d,ps,m,F,r⟩:=T;exact⟨c,f,d,ps,m,F.weak h,r⟩
open PySem.W in
theorem af4{x:Str}(X:K.In g)(G:g.Ns mainGlobals l)(e:nsIn K mainGlobals x=some (some<|.ref C))(q:excIn K C [.type "ValueError",.type "Exception",.type "BaseException",.type "object"] "ValueError.__new__"=true):Ap l g (x,C):=by
 refine⟨_,_,_,_,⟨mg_of X G e,?_⟩,PySem.F.excBase_ValueError⟩;unfold excIn at q;split at q;rename_i dd cd sl ho;split at q;rename_i C' bm k0 k1 k2 k3 n k5 hm hs;simp only[Zu,Y4,ZJ] at q;obtain⟨⟨⟨⟨⟨rfl,rfl⟩,Qu⟩,ht⟩,az⟩,Ab⟩:=q;obtain⟨nm,bs,mro,ns,qn,hd,sn,sub,ab,col,del⟩:=cd;dsimp only at hm Qu az Ab;subst hm Qu;obtain⟨sl⟩:=sl;have AV:sl=_:=hs;subst AV;exact⟨bm,ns,nm,qn,bs,hd,sn,sub,ab,col,dd,k0,k1,k2,k3,k5,_,X _ _ ho,.of_isNs<|isNs_of_in X az,nsMap_none_of_in X az Ab,tail_of_in X ht⟩;cases q;cases q
end
def Qw(v:V)(lo h:Int)(H:Hp):Prop:=tw v H\/∃i,v=.i i/\(i<lo\/h<i)
inductive GR(vs:ci)(H:Hp)(Q:VK)(E:XK):Prop|i(v:V)(lo h:Int)(_:vs=[v,.i lo,.i h])(_:((∃i,v=.i i/\lo<=i/\i<=h/\Q (.b true) H)\/(Qw v lo h H/\Q (.b false) H)))
abbrev hV(K:Frag)(E:XK):bu:=aH K [("is_whole",qN)] [] (E:=E)
theorem af5{K:Frag}:bS (GR) (λE=>hV K E) M6 M5:=by
 intro vs H Q E h;have c:∀(i lo a:Int)(b:Go)(H:Hp),decide (lo<=i/\i<=a)=b->Q (.b b) H->ae (aH K [("is_whole",qN)] []) (.A .LtE .LtE (.v 1) (.v 0)<|.v 2) [some<|.i i,some<|.i lo,some<|.i a] H Q:=by
  intro i lo a b H f q;refine⟨_,O,_,O,trivial,_,O,j8 (λd=>?_)<|λd=>?_⟩;refine⟨_,O,trivial,?_⟩;have e:decide (i<=a)=b:=by lia
  show Q (.b<|decide<|i<=a) H;rw[e];exact q;have e:b=false:=by lia
  rw[e] at q
  first
   |exact q
   | (rw[e2];exact q)
 obtain⟨v,lo,a,rfl,⟨i,rfl,d,g,q⟩|⟨n|⟨i,rfl,f⟩,q⟩⟩:=h;exact nT _ O ⟨_,O,.inl (pT i O _ O (gX<|c i lo a true H ap q))⟩;exact nT _ O ⟨_,O,.inr (qH n _ O (jg q))⟩;exact nT _ O ⟨_,O,.inl (pT i O _ O (gX<|c i lo a false H ap q))⟩
end
theorem d9{r:gu}(h:ax Γ r D u H):ax Γ [] {D with nx:=ax Γ r D} u H:=h
section
variable{c:bu}{D:ET}{u:St}{H:Hp}{r:gu}{Q:VK}
theorem BE(A B:VK)(f:∀v H1,A v H1↔B v H1)(h:ae c x u H A):ae c x u H B:=by
 have:=funext λx=>funext λH1=>propext (f x H1);rw[<-this];exact h
theorem GS(C:DL)(s:Sp)(d:c.ms j=(C,s))(h:ae c o u H λx H1=>∃p dx f,x=.r p/\H1 p=some (.i C dx f)/\f.lookup m=none/\ae c a u H1 λy W=>ae c b u W λz e=>s [x,y,z] e Q c.E):ae c (.a j m o [a,b]) u H Q:=by
 show rY (c.ms j).1 m (c.ms j).2 [] c.E (ae c o) (aP c [a,b]) u H Q;rw[d];exact h
theorem gw(h:ae c x u H λv H1=>wL c.K v H1 λn=>Q (.i n) H1):ae c (.t .l [x]) u H Q:=h
variable{QT:wl}
theorem oh(h:ae c e u H λv H1=>ae c o u H1 λx W=>∃a C dx s,x=.r a/\W a=some (.i C dx s)/\gT c.K C/\gI c.K C f/\s.length<1000/\ax c r D u (upd W a<|.i C dx<|bY f v s)):ax c (.f o f e::r) D u H:=h
end
theorem GU{r:gu}(h:ae Γ x u H λv H1=>∃a,v=.r a/\(∃xs,ah Γ.K H1 a xs)/\∃e:Nat->Nat->St->Hp->Prop,(∃m,e 0 m u H1)/\∀j m u H,e j m u H->
  ((eZ Γ.K a).stop j H/\({D with nx:=ax Γ r D}:ET).nx u H)\/((eZ Γ.K a).go j H/\∃N:St->Hp->Prop,(∀b Z,N b Z->∃f,f<m/\e (j+1) f b Z)/\∀x Z,(eZ Γ.K a).gQ j H x Z->gG i x u Z λd W=>ax Γ body {({D with nx:=ax Γ r D}:ET) with nx:=N,c:=N,bk:=({D with nx:=ax Γ r D}:ET).nx} d W)):
  ax Γ (.j i .l [x] body::r) D u H:=BE _ _ (λY Y=>No) h
section
variable{c:bu}{D:ET}{u:St}{H:Hp}{r:gu}{Q:VK}
theorem rg{i:Int}(h:Q (.i<|-i) H):ae c (.n<|.c<|.i i) u H Q:=h
theorem pJ(h:ae c e u H λv H1=>ae c o u H1 λx W=>ae c ix u W λy b=>zM x y v b λa=>ax c r D u a):ax c (.s o ix e::r) D u H:=h
theorem GV(h:ae c x u H λv H1=>∃a,v=.r a/\(∃xs,ah c.K H1 a xs)/\∃e:Nat->Nat->St->Hp->Prop,(∃m,e 0 m u H1)/\∀j m u H,e j m u H->
  ((eZ c.K a).stop j H/\({D with nx:=ax c r D}:ET).nx u H)\/((eZ c.K a).go j H/\∃N:St->Hp->Prop,(∀b Z,N b Z->∃f,f<m/\e (j+1) f b Z)/\∀x Z,(eZ c.K a).gQ j H x Z->xr c.K is.length (uV is) x u Z λd W=>ax c body {({D with nx:=ax c r D}:ET) with nx:=N,c:=N,bk:=({D with nx:=ax c r D}:ET).nx} d W)):
  ax c (.l is .l [x] body::r) D u H:=BE _ _ (λY Y=>No) h
end
theorem Qx(h:aZ p):NU p:=by
 cases p with
 |k n=>trivial
 |p s=>exact h.1.2
 |c s=>exact h.1.2
theorem UH{y:Int}(q:Q (.b<|decide<|y<x) H):cp K .Gt (.i x) (.i y) H Q:=⟨trivial,q⟩
section
variable{c:bu}{D:ET}{u:St}{H:Hp}{r:gu}{Q:VK}
theorem GW{lo:RE}(h:ae c a u H λx H1=>ae c lo u H1 λi W=>∃d:Int,i=.i d/\ae c e u W λj f=>∃b:Int,j=.i b/\sA c.K x (some d) (some b) f Q):ae c (.s a (some lo)<|some e) u H Q:=h
theorem af6(h:ae c x u H λv H1=>∃n:Int,[v]=[.i n]/\ -(2 ^ 62)<=n/\n<2 ^ 62/\∃d:Nat->Nat->St->Hp->Prop,(∃m,d 0 m u H1)/\∀j m u H,d j m u H->
  ((gH 0 n.toNat).stop j H/\({D with nx:=ax c r D}:ET).nx u H)\/((gH 0 n.toNat).go j H/\∃N:St->Hp->Prop,(∀a Z,N a Z->∃e,e<m/\d (j+1) e a Z)/\∀x Z,(gH 0 n.toNat).gQ j H x Z->gG i x u Z λb W=>ax c body {({D with nx:=ax c r D}:ET) with nx:=N,c:=N,bk:=({D with nx:=ax c r D}:ET).nx} b W)):
  ax c (.j i .g [x] body::r) D u H:=BE _ _ (λY Y=>No) h
end
theorem GX{i j:Int}(h:Q (.i<|i - j) H):sv K .Sub (.i i) (.i j) H Q:=⟨trivial,h⟩
theorem AU{y:Int}(q:Q (.b<|decide<|x<y) H):cp K .Lt (.i x) (.i y) H Q:=⟨trivial,q⟩
theorem BF(h:aR Γ t u H λc H1=>if c=true then ae Γ a u H1 Q else ae Γ b u H1 Q):ae Γ (.M t a b) u H Q:=h
theorem af7(xs:ci)(i j:Nat):c5 xs (some (i:Int)) (some (j:Int))=(xs.drop i).take (j - i):=by
 unfold c5;rw[HT.ni,HT.ni];by_cases h:i<=xs.length;by_cases a:j<=xs.length;rw[show min i xs.length=i by lia,show min j xs.length=j by lia];rw[show min i xs.length=i by lia,XB (by rw[Z0];lia),XB (by rw[Z0];lia)];rw[sV ap,sV (Zx (WG h)),XC,XC]
section
variable{K:Frag}{H:Hp}{Q:VK}{c:bu}{u:St}{D:ET}
theorem af8{d:RE}(h:ae c a u H λx H1=>ae c b u H1 λy W=>cp c.K op x y W λz e=>∃k,z=.b k/\(if k=true then ae c d u e λw f=>cp c.K cY y w f Q else Q (.b false) e)):ae c (.A op cY a b d) u H Q:=h
theorem af9{d:RE}{Q:wl}(h:ae c (.A op cY a b d) u H λz e=>∃k,z=.b k/\Q k e):aR c (.A op cY a b d) u H Q:=h
end
noncomputable def gV:xz->V
 |none=>.a
 |some n=>.i n
section
variable{K:Frag}
end
theorem af_(h:ae Γ a u H λx H1=>ae Γ c u H1 λj d=>∃b:Int,j=.i b/\sA Γ.K x none (some b) d Q):ae Γ (.s a none<|some c) u H Q:=h
theorem Ng(xs:ci)(n:Nat):c5 xs none (some (n:Int))=xs.take n:=by
 unfold c5;rw[HT.Dk,HT.ni];rw[XW,Nat.sub_zero];by_cases h:n<=xs.length;rw[Nat.min_eq_left h];rw[Nat.min_eq_right (Zx (WG h)),XB<|VL _,XB (Zx (WG h))]
section
variable{K:Frag}
theorem GY{r:gu}(h:ae Γ e u H λv H1=>ax Γ r D (u.set i<|some v) H1):ax Γ (.uQ i e::r) D u H:=h
end
theorem tS:∀{xs:List α}{N:List c}{i:Nat}{x:α},Paired R xs N->xs[i]?=some x->∃y,N[i]?=some y/\R x y
 |[],[],i,x,.nil,h=>by simp at h
 |x::xs,y::N,0,w,.cons a r,h=>by cases h;exact⟨y,O,a⟩
 |x::xs,y::N,i+1,w,.cons a r,h=>tS (i:=i) r (by simpa using h)
theorem vE{a:Type}{l:List a}{x:a}(h:l[i]?=some x):l.take (i+1)=l.take i++[x]:=by
 rw[List.take_succ_eq_append_getElem ((Wq.mp h).1),(Wq.mp h).2]
section
variable{K:Frag}
end
theorem agb{Q:ci->Hp->DL->Prop}{A:TE}{a b:DL}(k:H a=some (.l xs))(j:H b=some (.l N))(X:xs.length<=1000000)(P:Nat->ci->Hp->Prop)(G:P 0 [] H)(E:∀i c W d,P i c W->ar W d->P i c d)(e:∀i x y c W,xs[i]?=some x->N[i]?=some y->ar H W->P i c W->∀B:VK,(∀z d,ar W d->P (i+1) (c++[z]) d->B z d)->A (some x::some y::b_ u fv) W B)(v:∀c W p,ar H W->P (min xs.length N.length) c W->W p=none->Q c W p):∃g:Nat->Nat->ci->Hp->Prop,(∃m,g 0 m [] H)/\∀i m c W,g i m c W->
   ((xh K a b).stop i W/\∀p,W p=none->Q c W p)\/
   ((xh K a b).go i W/\∀x d,(xh K a b).gQ i W x d->jF K (some 2) x d λw=>k_ none (w.map some++b_ u fv) d λb C=>
    if b=true then A (w.map some++b_ u fv) C λy V=>c.length<sizeLine/\∃f,f<m/\g (i+1) f (c++[y]) V else ∃f,f<m/\g (i+1) f c C):=by
 refine nT (λi m c W=>m=min xs.length N.length - i/\i<=min xs.length N.length/\c.length=i/\ar H W/\P i c W) (rZ _ O (Ww _) O (ar.refl _) G) ?_;rintro i m c W zq;obtain⟨rfl,Y,J,s,p⟩:=ZE zq;by_cases U:i<min xs.length N.length;have r:i<xs.length:=by lia
 have n:i<N.length:=by lia
 refine .inr ⟨oZ xs N (ah.of<|s _ _ k) (ah.of<|s _ _ j) r n,?_⟩;rintro x d ⟨T,R,rfl,L⟩;have S:=L xs N xs[i] N[i] (ah.of<|s _ _ k) (ah.of<|s _ _ j) (Xd r) (Xd n);subst S;have h:=Xq (o:=.t [xs[i],N[i]]) R;exact oZ T _ O (aB.of aj) O (e i xs[i] N[i] c _ (Xd r) (Xd n) (s.trans h) (E _ _ _ _ p h) _ λy Z D F=>qH (cQ ap) (min xs.length N.length - (i+1)) ap ⟨O,U,by simp[J],(s.trans h).trans D,F⟩);have I:i=min xs.length N.length:=WT Y (Zw U)
 subst I;exact .inl ⟨oW xs N (ah.of<|s _ _ k) (ah.of<|s _ _ j) O,λq M=>v c _ q s p M⟩
section
variable{K:Frag}
end
section
variable{c:bu}{u:St}{n:Nat}{H0:Hp}
theorem Qy{lo:RE}(h:ae c a u H λx H1=>ae c lo u H1 λj d=>∃b:Int,j=.i b/\sA c.K x (some b) none d Q):ae c (.s a (some lo) none) u H Q:=h
theorem agc(h:aP c as u H λvs H1=>BB c.K vs H1 Q):ae c (.x GN as) u H Q:=h
theorem GZ(xs:ci)(i:Nat):c5 xs (some (i:Int)) none=xs.drop i:=by
 unfold c5;rw[HT.ni,HT.Dk];by_cases z:i<=xs.length;rw[Nat.min_eq_left z,XB aJ];rw[Nat.min_eq_right (Zx (WG z)),List.drop_eq_nil_of_le<|VL _,List.drop_eq_nil_of_le (Zx (WG z)),XC]
end
theorem Qz{s:Str}(h:s.length=0):s="":=by
 exact iO ((x4 (by exact h))▸O)
theorem lP:∀(ps:bn)(a:Str),(∀p∈ps,aZ p)->YU a ps=true->ps.length<=2*aq ps+(if a="keep" then 0 else 1)
 |[],a,_,_=>Ww _
 |p::r,a,o,g=>by
  have f:(nJ p.word a && YU p.word r)=true:=g;rw[Zu] at f;have i:=lP r p.word (λq d=>o q<|.tail _ d) f.2;have t:aq (p::r)=dO p+aq r:=O;have h:=o p (.head _);rw[d_];cases p with
  |k n=>
   have e:(Pt.k n).word=("keep":Str):=O;have j:a≠"keep":=by
    intro z;rw[e,z] at f;have:=f.1
    revert this
    decide+kernel
   lia
  |p s=>
   have e:(Pt.p s).word≠ ("keep":Str):=by show("put":Str)≠"keep";decide
   have b:1<=s.length:=by
    have:=h.2;by_cases z:s.length=0;cases this (Qz z);exact X5 (WY z)
   show r.length+1<=2* (s.length+aq r)+_;lia
  |c s=>
   have e:(Pt.c s).word≠ ("keep":Str):=by show("cut":Str)≠"keep";decide
   rw[Ix e] at i;have b:1<=s.length:=by
    have:=h.2;by_cases z:s.length=0;exact absurd (Qz z) this;exact X5 (WY z)
   show r.length+1<=2* (s.length+aq r)+_;lia
theorem QC:∀(xs:ci)(i:Nat),(dR xs)[i]?=xs[2*i]?
 |[],i=>O
 |[x],0=>O
 |[x],i+1=>by
  simp[dR]
 |x::y::r,0=>O
 |x::y::r,i+1=>by
  have:2* (i+1)=(2*i)+1+1:=O;rw[this,Xo,Xo,<-QC r i];simp[dR]
theorem G0:∀(xs:ci),(dR xs).length=(xs.length+1) / 2
 |[]=>O
 |[x]=>by simp[dR]
 |x::y::r=>by
  have e:dR (x::y::r)=x::dR r:=O;rw[e,d_,G0 r];show _=(r.length+1+1+1) / 2;lia
def G1(H:Hp)(xs:ci):Prop:= ∃c r,xs=V.r c::r/\H c=none
theorem agd{H:Hp}{y:V}(a:xs[2*i]?=some x)(h:xs[2*i+1]?=some y):xs.drop (2*i)=x::y::xs.drop (2* (i+1)):=by
 obtain⟨c,d⟩:=Wq.mp a;obtain⟨b,e⟩:=Wq.mp h;rw[cV c,cV b,d,e,show 2* (i+1)=2*i+1+1 by lia]
noncomputable def h6(B:Int)(lo p e be lg:DL):jp:=[("here",.i B),("lengths",.r lo),("parents",.r p),("edges",.r e),("below",.r be),("last_gone",.r lg)]
section
variable{B:Int}{f c e k l:DL}
theorem jw:(h6 B f c e k l).lookup ("here":Str)=some (V.i B):=ph
theorem yv:(h6 B f c e k l).lookup ("lengths":Str)=some (V.r f):=O
theorem rm:(h6 B f c e k l).lookup ("parents":Str)=some (V.r c):=O
theorem vF:(h6 B f c e k l).lookup ("edges":Str)=some (V.r e):=O
theorem G3:(h6 B f c e k l).lookup ("below":Str)=some (V.r k):=O
theorem G4:(h6 B f c e k l).lookup ("last_gone":Str)=some (V.r l):=O
theorem G5{m:Str}(i:¬m="here")(g:¬m="lengths")(d:¬m="parents")(b:¬m="edges")(a:¬m="below")(h:¬m="last_gone"):(h6 B f c e k l).lookup m=none:=
 (dQ i).trans ((dQ g).trans<|(dQ d).trans<|(dQ b).trans<|(dQ a).trans<|(dQ h).trans O)
noncomputable def mO:bi:=["here","lengths","parents","edges","below","last_gone"]
theorem hX(h:autoParam (mO.all (λx=>decide<|¬m=x)=true) fe):(h6 B f c e k l).lookup m=none:=by
 have g:=λx a=>Re (Yw.mp h x a);exact G5 (g _ (by unfold mO;simp)) (g _ (by unfold mO;simp)) (g _ (by unfold mO;simp)) (g _ (by unfold mO;simp)) (g _ (by unfold mO;simp))<|g _ (by unfold mO;simp)
end
structure bD(Y:ac):Prop where
 r:Y[0]?=some none
 up:∀i,0<i->i<Y.length->∃j,Y[i]?=some (some j)/\j<i
structure gN(C:DL)(H:Hp)(p dx lo pa ed be lg:DL)(B:Nat)(cC:am)(Y:ac):Prop where
 ob:H p=some (.i C dx<|h6 (B:Nat) lo pa ed be lg)
 d:H lo=some (.l<|cC.map λn=>V.i (n:Nat))
 c:H pa=some (.l<|Y.map gV)
 l:cC.length=Y.length
 tr:bD Y
 r:B<Y.length
 sz:Y.length<=100000
theorem gN.same(A:gN C H p dx lo pa e be lg B cC Y)(s:ar H Z):gN C Z p dx lo pa e be lg B cC Y:=⟨s _ _ A.ob,s _ _ A.d,s _ _ A.c,A.l,A.tr,A.r,A.sz⟩
section
variable{K:Frag}{C c:DL}
inductive pK(C:DL)(vs:ci)(H:Hp)(Q:VK)(E:XK):Prop|i(p dx lo a e be lg:DL)(B:Nat)(cC:am)(Y:ac)(_:vs=[.r p])(_:gN C H p dx lo a e be lg B cC Y)(_:Q (.i (Y.length:Nat)) H)
theorem agf(T:gM K C):bS (pK C) (λE=>bI K E) Qc qP:=by
 intro vs H Q E h;obtain⟨p,dx,lo,a,e,be,lg,B,cC,Y,rfl,A,q⟩:=h;refine di<|gw<|cM<|af O ⟨p,C,dx,_,_,O,A.ob,T.cl,T.p,rm,.inl ⟨_,ah.of A.c,?_⟩⟩;rw[XN];exact q
inductive tU(C c:DL)(vs:ci)(H:Hp)(Q:VK)(E:XK):Prop|i(p dx lo b e be lg:DL)(B:Nat)(cC:am)(Y:ac)(v:V)(_:vs=[.r p,v])(_:gN C H p dx lo b e be lg B cC Y)(_:((∃n:Nat,v=.i n/\n<Y.length/\Q .a H)\/(Qw v 0 ((Y.length:Nat) - 1:Int) H/\E (.ref c) none H)))
abbrev aoA(K:Frag)(C:DL)(c:DL)(E:XK):bu:=aH K [("is_between",GR)] [] [] [("many",C,pK C)] (et:=[("NoNode",c)]) (E:=E)
theorem agg:bS (tU C c) (λE=>aoA K C c E) P9 vD:=by
 intro vs H Q E h;obtain⟨p,dx,lo,b,e,be,lg,B,cC,Y,v,rfl,A,h⟩:=h;refine cx<|qL<|sX GR O<|av<|af O<|av<|aC<|av<|c7<|tE C (pK C) O<|af O ⟨p,dx,_,O,A.ob,hX,p,dx,lo,b,e,be,lg,B,cC,Y,O,A,aC ⟨trivial,aI ⟨_,_,_,O,?_⟩⟩⟩;rcases h with⟨n,rfl,a,q⟩|⟨a,q⟩
 exact .inl ⟨_,O,(VI _),ap,qK<|iF (d9 q) O⟩;exact .inr ⟨a,qK<|iT ⟨eE,q⟩ O⟩
inductive G6(C:DL)(vs:ci)(H:Hp)(Q:VK)(E:XK):Prop|i(p dx lo a e be lg:DL)(B:Nat)(cC:am)(Y:ac)(n k:Nat)(_:vs=[.r p,.i n])(_:gN C H p dx lo a e be lg B cC Y)(_:cC[n]?=some k)(_:Q (.i (k:Nat)) H)
abbrev akO(K:Frag)(C:DL)(c:DL)(E:XK):bu:=aH K [] [] [] [("need_node",C,tU C c)] (E:=E)
theorem agh(T:gM K C):bS (G6 C) (λE=>akO K C c E) Qd vD:=by
 intro vs H Q E h;obtain⟨p,dx,lo,b,e,be,lg,B,cC,Y,n,k,rfl,A,a,q⟩:=h;have g:=(Wq.mp a).1;have f:=A.l;refine dP<|ko C (tU C c) O<|af O ⟨p,dx,_,O,A.ob,hX,af O ⟨p,dx,lo,b,e,be,lg,B,cC,Y,_,O,A,.inl ⟨n,O,(YY g (VN f)),?_⟩⟩⟩;exact di<|bh<|cM<|af O ⟨p,C,dx,_,_,O,A.ob,T.cl,T.t,yv,af O<|cK A.d (dv (by rw[ZW,a];rfl)) q⟩
end
noncomputable def ups(Y:ac):Nat->Nat->am
 | 0,n=>[n]
 |f+1,n=>match Y[n]? with
  |some (some j)=>n::ups Y f j
  |_=>[n]
theorem agi(T:bD Y):∀(n f:Nat),n<Y.length->n<=f->ups Y f n=ups Y n n:=by
 intro n;induction n using Nat.strongRecOn with
 |ind n i=>
  intro f a b;cases n with
  |zero=>
   cases f with
   |zero=>rfl
   |succ f=>
    unfold ups;rw[T.r]
  |succ n=>
   cases f with
   |zero=>exact absurd b ((XH _ (FB b)).elim)
   |succ f=>
    obtain⟨j,h,D⟩:=T.up (n+1) (Wr _) a;have c:ups Y (f+1) (n+1)=(n+1)::ups Y f j:=by
     show(match Y[n+1]? with|some (some j)=>(n+1)::ups Y f j|_=>[n+1])=_;rw[h]
    have e:ups Y (n+1) (n+1)=(n+1)::ups Y n j:=by
     show(match Y[n+1]? with|some (some j)=>(n+1)::ups Y n j|_=>[n+1])=_;rw[h]
    rw[c,e,i j D f (Xf D a) (Xe (YY D b)),i j D n (Xf D a) (Xe D)]
theorem QD:ups Y 0 0=[0]:=O
theorem kz(T:bD Y)(a:0<n)(b:n<Y.length):∃j,Y[n]?=some (some j)/\j<n/\ups Y n n=n::ups Y j j:=by
 obtain⟨j,h,D⟩:=T.up n a b;refine⟨j,h,D,?_⟩;cases n with
 |zero=>exact absurd a ((XD _ a).elim)
 |succ n=>
  have e:ups Y (n+1) (n+1)=(n+1)::ups Y n j:=by
   show(match Y[n+1]? with|some (some j)=>(n+1)::ups Y n j|_=>[n+1])=_;rw[h]
  rw[e,agi T j n (Xf D b) (Xe D)]
theorem rn(T:bD Y):∀(n:Nat),n<Y.length->(ups Y n n).length<=n+1:=by
 intro n;induction n using Nat.strongRecOn with
 |ind n i=>
  intro h;by_cases z:n=0;subst z;exact VL _;obtain⟨j,Z,a,e⟩:=kz T (WY z) h;have:=i j a (Xf a h);rw[e,d_];lia
section
variable{K:Frag}{C CN:DL}
inductive yw(C:DL)(vs:ci)(H:Hp)(Q:VK)(E:XK):Prop|i(p dx lo a e be lg:DL)(B:Nat)(cC:am)(Y:ac)(n:Nat)(_:vs=[.r p,.i n])(_:gN C H p dx lo a e be lg B cC Y)(_:n<Y.length)(_:∀b Z,ar H Z->H b=none->Z b=some (.l<|(ups Y n n).map λk=>V.i (k:Nat))->Q (.r b) Z)
theorem agj(T:gM K C):bS (yw C) (λE=>bI K E) Qp Qo:=by
 intro vs H Q E h;obtain⟨p,dx,lo,M,R,be,lg,B,cC,Y,n,rfl,A,w,q⟩:=h;have J:=A.sz;refine aN<|d5<|av<|af O<|aI ⟨eE,λL f=>?_⟩;refine qT (λm u W=>∃(a:am)(k:Nat),m=k/\u=[some<|.r p,some<|.i (n:Nat),some<|.r L]/\ar H W/\W L=some (.l<|(a.map λk=>V.i (k:Nat))++[V.i (k:Nat)])/\k<Y.length/\a.length+k<=n/\ups Y n n=a++ups Y k k)
  (rR n [] n O O (Xq f) aj w aJ O) ?_
 rintro m u W zq;obtain⟨a,k,zq⟩:=XU zq;obtain⟨rfl,rfl,s,d,x,N,t⟩:=ZV zq;refine bf<|bh<|af O<|rg<|.inl ⟨L,_, -1,_,O,O,ah.of d,uG _ _,aC<|tG ⟨_,O,?_⟩⟩;by_cases z:m=0;subst z;refine iF ?_ (O);refine di<|af O<|q L W s f ?_;rw[t,QD,Z3];exact d;refine iT ?_ ap;obtain⟨j,y,F,es⟩:=kz A.tr (WY z) x;refine⟨λb Z=>∃(a:am)(k:Nat),k<m/\b=[some<|.r p,some<|.i (n:Nat),some<|.r L]/\ar H Z/\Z L=some (.l<|(a.map λk=>V.i (k:Nat))++[V.i (k:Nat)])/\k<Y.length/\a.length+k<=n/\ups Y n n=a++ups Y k k,?_,?_⟩;rintro b Z ⟨I,g,G,e,P⟩;exact nT g G ⟨I,g,O,e,P⟩;have v:=A.same s;refine dP<|iy<|af O ⟨.inl ⟨O,_,ah.of d⟩,bh<|cM<|af O ⟨p,C,dx,_,_,O,v.ob,T.cl,T.p,rm,bh<|af O<|rg<|.inl ⟨L,_, -1,_,O,O,ah.of d,uG _ _,?_⟩⟩⟩;refine cK v.c (dv (by rw[ZW,y];rfl)) ?_;refine nW _ d (cQ (by rw[W0,XN];show a.length+1<=1000000;lia)) ?_;have D:aE L W (upd W L<|.l<|((a.map λk=>V.i (k:Nat))++[V.i (m:Nat)])++[gV<|some j]):=aE.upd;refine o4 (a++[m]) j F O (λc o e=>D c o (s _ _ e)<|aQ e f) ?_ ⟨(Xf F x),by rw[W0];show a.length+1+j<=n;lia,by rw[t,es,VD];rfl⟩;rw[aj,Z3];rfl
end
noncomputable def V0:am->am->am×am
 |r::a::as,s::b::c=>if a=b then V0 (a::as) (b::c) else (r::a::as,s::b::c)
 |x,y=>(x,y)
def dz(Y:ac)(o G':Nat):am:=(V0 (ups Y o o).reverse (ups Y G' G').reverse).1.reverse++(V0 (ups Y o o).reverse (ups Y G' G').reverse).2.tail
abbrev iV(l:am):ci:=l.map λk=>V.i (k:Nat)
theorem QE(xs:List α)(v w:α):fU (xs++[v,w]) (-2)=some v:=by
 have l:(xs++[v,w]).length=xs.length+2:=by simp
 unfold fU gJ;have h:¬(0:Int)<= -2:=by lia
 rw[Ix h,Id ap];have e:(-2+((xs.length:Int)+2)).toNat=xs.length:=by lia
 simp[e]
theorem rq(r:Nat)(l:am):iV (r::l).reverse=iV l.reverse++[V.i (r:Nat)]:=by simp
theorem vG(r:Nat)(y:am):V0 [r] y=([r],y):=O
theorem BG(x:am)(s:Nat):V0 x [s]=(x,[s]):=by
 unfold V0;simp
theorem BH{r a b:Nat}{as c:am}(h:a≠b):V0 (r::a::as) (s::b::c)=(r::a::as,s::b::c):=by
 unfold V0;rw[Ix h]
theorem ZR{r a:Nat}{as b:am}:V0 (r::a::as) (s::a::b)=V0 (a::as) (a::b):=by
 conv=>lhs;unfold V0
 rw[Id O]
theorem QF(l:am):iV l.reverse=(iV l).reverse:=by simp
section
variable{K:Frag}{C f:DL}
inductive G9(C:DL)(vs:ci)(H:Hp)(Q:VK)(E:XK):Prop|i(p dx lo a e be lg:DL)(B:Nat)(cC:am)(Y:ac)(n m:Nat)(_:vs=[.r p,.i n,.i m])(_:gN C H p dx lo a e be lg B cC Y)(_:n<Y.length)(_:m<Y.length)(_:∀b Z,ar H Z->H b=none->Z b=some (.l<|iV<|dz Y n m)->Q (.r b) Z)
inductive QG(p b d:DL)(H:Hp)(n m:Nat)(Y:ac)(c:Nat)(u:St)(a:Hp):Prop|i(x y:am)(_:c=x.length)(_:u=[some<|.r p,some<|.i (n:Nat),some<|.i (m:Nat),some<|.r b,some<|.r d])(_:ar H a)(_:a b=some (.l<|iV x.reverse))(_:a d=some (.l<|iV y.reverse))(_:x≠ [])(_:y≠ [])(_:x.length<=n+1)(_:y.length<=m+1)(_:V0 (ups Y n n).reverse (ups Y m m).reverse=V0 x y):QG p b d H n m Y c u a
abbrev iA(K:Frag)(C:DL)(f:DL)(E:XK):bu:=aH K [] [] [] [("need_node",C,tU C f),("upward",C,yw C)] (E:=E)
theorem agk:bS (G9 C) (λE=>iA K C f E) GP Qq:=by
 intro vs H Q E h;obtain⟨p,dx,lo,S,ed,be,lg,B,cC,Y,n,m,rfl,A,X,hm,q⟩:=h;have sz:=A.sz;refine dP<|ko C (tU C f) O<|af O ⟨p,dx,_,O,A.ob,hX,af O ⟨p,dx,lo,S,ed,be,lg,B,cC,Y,_,O,A,.inl (nW n O X ?_)⟩⟩;refine dP<|ko C (tU C f) O<|af O ⟨p,dx,_,O,A.ob,hX,af O ⟨p,dx,lo,S,ed,be,lg,B,cC,Y,_,O,A,.inl (nW m O hm ?_)⟩⟩;refine aN<|ko C (yw C) O<|af O ⟨p,dx,_,O,A.ob,hX,af O ⟨p,dx,lo,S,ed,be,lg,B,cC,Y,n,O,A,X,λD H1 s1 fu hu=>?_⟩⟩;have A1:=A.same s1;refine aN<|ko C (yw C) O<|af O ⟨p,dx,_,O,A1.ob,hX,af O ⟨p,dx,lo,S,ed,be,lg,B,cC,Y,m,O,A1,hm,λd W s2 fd hd=>?_⟩⟩;have a':=s2 _ _ hu;have QH:d≠D:=λz=>by rw[z,hu] at fd;cases fd
 have iR:=s1.trans s2;have b':=s1.free fd;have lu:=rn A.tr n X;have ld:=rn A.tr m hm;have ne:∀k,k<Y.length->(ups Y k k).reverse≠ []:=by
  intro k hk z;have z':=List.reverse_eq_nil_iff.mp z;by_cases k0:k=0;subst k0;cases z';obtain⟨j,_,_,e⟩:=kz A.tr (WY k0) hk;rw[e] at z';cases z'
 refine qT (QG p D d H n m Y)
  (o3 _ ⟨(ups Y n n).reverse,(ups Y m m).reverse,O,O,iR,by rw[X4];exact a',by rw[X4];exact hd,ne n X,ne m hm,by rw[Yb];exact lu,by rw[Yb];exact ld,O⟩) ?_
 rintro mm u M ⟨x,y,rfl,rfl,s3,L,F,nx,ny,U,T,es⟩;have R:(iV x.reverse).length=x.length:=by rw[XN,Yb]
 have P:(iV y.reverse).length=y.length:=by rw[XN,Yb]
 have g:V0 x y=(x,y)->ax (iA K C f E) (GP.drop 5) (Dn Q) [some<|.r p,some<|.i (n:Nat),some<|.i (m:Nat),some<|.r D,some<|.r d] M:=by
  intro e;refine di<|c7<|af O<|agc<|av<|af_<|af O<|rg ⟨_,O,.inl ⟨_,ah.of F,λw fw=>aI (oW w _ O (ah.of aj) (λv fv=>?_))⟩⟩;have J:=Xq (o:=.l (c5 (iV y.reverse) none<|some<|-1)) fw;have s5:=Xq (o:=.l (c5 (iV y.reverse) none<|some<|-1).reverse) fv;have ec:(c5 (iV y.reverse) none<|some<|-1).reverse=iV y.tail:=by
   cases y with
   |nil=>exact absurd O ny
   |cons b t=>
    have e1:iV (b::t).reverse=iV t.reverse++[V.i (b:Nat)]:=by
     show List.map _ (b::t).reverse=_;rw[CR,Z3];rfl
    rw[e1];unfold c5;rw[HT.Dk];have e2:HT.aV (iV t.reverse++[V.i (b:Nat)]).length (iV t.reverse++[V.i (b:Nat)]).length (some<|-1)=(iV t.reverse).length:=by
     have hl:(iV t.reverse++[V.i (b:Nat)]).length=(iV t.reverse).length+1:=by rw[W0];rfl
     rw[hl];unfold HT.aV;simp;lia
    rw[e2,XW,Nat.sub_zero,XT,QF,X4];rfl
  refine .inl (pE D v _ _ O O ((J.trans s5) _ _ L) aj (cI (by rw[Yb];have:=Dp (iV y.reverse) none (some<|-1);lia)) (λb fb=>?_));have s6:=Xq (o:=.l (iV x.reverse++(c5 (iV y.reverse) none<|some<|-1).reverse)) fb;refine q b _ (s3.trans<|(J.trans s5).trans s6) (s3.free<|(J.trans s5).free fb) ?_;rw[aj,ec];unfold dz;rw[es,e];show some (HO.l<|iV x.reverse++iV y.tail)=some (HO.l<|iV<|x.reverse++y.tail);unfold iV;rw[Z3]
 match x,nx,U,es,g,L,R with
 |[r],_,U,es,g,L,R=>
  refine Bj<|bf<|gw<|af O<|.inl ⟨_,ah.of L,aC<|pz ⟨_,O,iF (iF (g<|vG r y) O)<|VH (by rw[R];show ¬((1:Nat):Int) >1;decide)⟩⟩
 |r::a::as,_,U,es,g,L,R=>
  refine Bj<|bf<|gw<|af O<|.inl ⟨_,ah.of L,aC<|pz ⟨_,O,iT ?_<|Z2 (by rw[R,d_,d_];lia)⟩⟩;match y,ny,T,es,g,F,P with
  |[s],_,T,es,g,F,P=>
   refine Bj<|bf<|gw<|af O<|.inl ⟨_,ah.of F,aC<|pz ⟨_,O,iF (iF (g<|BG _ s) O)<|VH (by rw[P];show ¬((1:Nat):Int) >1;decide)⟩⟩
  |s::b::t,_,T,es,g,F,P=>
   refine Bj<|bf<|gw<|af O<|.inl ⟨_,ah.of F,aC<|pz ⟨_,O,iT ?_<|Z2 (by rw[P,d_,d_];lia)⟩⟩;have ex:iV (r::a::as).reverse=iV as.reverse++[V.i (a:Nat),V.i (r:Nat)]:=by rw[rq,rq,VD];rfl
   have ey:iV (s::b::t).reverse=iV t.reverse++[V.i (b:Nat),V.i (s:Nat)]:=by rw[rq,rq,VD];rfl
   refine KY<|bf<|bh<|af O<|rg<|cK L (by rw[ex];exact QE _ _ _)<|bh<|af O<|rg<|cK F (by rw[ey];exact QE _ _ _)<|jP ⟨_,O,?_⟩;by_cases z:a=b;subst z;refine iT ?_ aJ;refine⟨λN Z=>∃(G I:am),G.length< (r::a::as).length/\N=[some<|.r p,some<|.i (n:Nat),some<|.i (m:Nat),some<|.r D,some<|.r d]/\ar H Z/\Z D=some (.l<|iV G.reverse)/\Z d=some (.l<|iV I.reverse)/\G≠ []/\I≠ []/\G.length<=n+1/\I.length<=m+1/\V0 (ups Y n n).reverse (ups Y m m).reverse=V0 G I,?_,?_⟩;rintro N Z zq;obtain⟨G,I,zq⟩:=XU zq;obtain⟨aD,i1,i2,i3,i4,i5,i6,i7,i8,i9⟩:=apC zq;exact nT _ aD ⟨G,I,O,i1,i2,i3,i4,i5,i6,i7,i8,i9⟩;have e1:(iV (r::a::as).reverse).dropLast=iV (a::as).reverse:=by rw[rq,xV]
   have e2:(iV (s::a::t).reverse).dropLast=iV (a::t).reverse:=by rw[rq,xV]
   refine nW _ O (.inl ⟨O,o3 _ (ah.of L)⟩) ⟨_,V.i (r:Nat),L,aJ,?_⟩;rw[e1];have b1:aE D M (upd M D<|.l<|iV (a::as).reverse):=aE.upd;have QI:upd M D (.l<|iV (a::as).reverse) D=some (.l<|iV (a::as).reverse):=aj;have pM:=b1 _ _ F QH;have J:ar H (upd M D<|.l<|iV (a::as).reverse):=λc o e=>b1 c o (s3 _ _ e) (aQ e fu);generalize upd M D (.l<|iV (a::as).reverse)=H4 at b1 QI pM J⊢;refine nW _ O (.inl ⟨O,o3 _ (ah.of pM)⟩) ⟨_,V.i (s:Nat),pM,(by rw[rq,W0];show(iV (a::t).reverse++[V.i (s:Nat)])[(iV (a::t).reverse).length+1 - 1]?=_;simp),?_⟩;rw[e2];have b2:aE d H4 (upd H4 d<|.l<|iV (a::t).reverse):=aE.upd;have d':as.length+1+1<=n+1:=U;have c':t.length+1+1<=m+1:=T;exact o4 (a::as) (a::t) (by show as.length+1<as.length+1+1;exact Yq _) O (λc o e=>b2 c o (J _ _ e)<|aQ e b') (b2 _ _ QI<|KF QH) ⟨aj,aJ,aJ,by show as.length+1<=_;exact VP d',by show t.length+1<=_;exact VP c',by rw[es,ZR]⟩;exact iF (g<|BH z) bd
end
def oi(H:Hp)(es:ci)(Y:ac)(au:List am)(T:Nat):Prop:= ∀(i j:Nat),Y[i]?=some (some j)->∃(a:DL)(ps:bn)(l b:am),es[i]?=some (V.r a)/\au[j]?=some l/\au[i]?=some b/\bK H a ps l b/\aq ps<=T
theorem oi.same(h:oi H es Y au T)(s:ar H Z):oi Z es Y au T:=λi j e=>by
 obtain⟨a,ps,l,b,zq⟩:=ZO (h i j e);obtain⟨k,g,f,d,c⟩:=ZE zq;exact oT a ps l b k g f (d.same s) c
section
variable{K:Frag}{C CN:DL}
theorem G_{o:xz}(q:Q (.b<|decide<|o=some n) H):cp K .Eq (gV o) (.i (n:Nat)) H Q:=by
 cases o with
 |none=>
  first
   |exact q
   |exact⟨.none,.int (n:Nat),O,O,O,O,q⟩
 |some k=>
  refine jP ?_;by_cases z:k=n;subst z;have e:decide (some k=some k)=true:=by lia
  simpa using q;have e:decide (some k=some n)=false:=by lia
  rw[e] at q;have a:decide (((k:Nat):Int)=((n:Nat):Int))=false:=by lia
  rw[a];exact q
variable{f:DL}
inductive tV(C f:DL)(vs:ci)(H:Hp)(Q:VK)(E:XK):Prop|i(p dx lo b e be lg:DL)(B:Nat)(cC:am)(Y:ac)(c:DL)(ps:bn)(l r:am)(k:Nat)(_:vs=[.r p,.r c])(_:gN C H p dx lo b e be lg B cC Y)(_:bK H c ps l r)(_:aq ps<=100000)(_:cC[B]?=some k)(_:((l.length=k/\∀Z,ar H Z->Q .a Z)\/(l.length≠k/\∀Z,ar H Z->E (.ref f) none Z)))
abbrev aqT(K:Frag)(f:DL)(E:XK):bu:=aH K [("sizes",ig)] [] (et:=[("BadFit",f)]) (E:=E)
theorem agn(T:gM K C):bS (tV C f) (λE=>aqT K f E) P_ vm:=by
 intro vs H Q E h;obtain⟨p,dx,lo,o,v,be,lg,B,cC,Y,c,ps,l,r,k,rfl,A,⟨xs,n,m,a⟩,u,j,h⟩:=h;have w:=lP ps "" a.ok a.c;refine cx<|bf<|bh<|bE ig O<|av<|af O<|aI ⟨c,xs,ps,O,n,m,a.ok,a.c,ap,λt Z s i=>aC<|kq i O ?_⟩;have b:=A.same s;refine bh<|cM<|af O ⟨p,C,dx,_,_,O,b.ob,T.cl,T.t,yv,cM<|af O ⟨p,C,dx,_,_,O,b.ob,T.cl,T.g,jw,cK b.d (dv (by rw[ZW,j];rfl)) ?_⟩⟩;have e:=a.run.over;rw[e];refine tG ⟨_,O,?_⟩;rcases h with⟨e,q⟩|⟨e,q⟩
 subst e;exact iF (d9<|q _ s) ap;refine iT ⟨eE,q _ s⟩ ?_;have:decide (((l.length:Nat):Int)=((k:Nat):Int))=false:=by lia
 rw[this];rfl
end
namespace ZL
open PySem
abbrev tW(h:FS)(z T b a:DL)(f:Go):Prop:=
 h.get? z=some {cls:=.type "zip",dict:=none,data:=.fields #[rawInt a,.bool f,.bool false,.ref T,.ref b],slots:= #[]}
section
variable{g:Fa}{w:Fk}{A:Gc}{E:cr}{s:Ev}
theorem akS{a:DL}{o:Obj}{Q:Option Obj->Ev->Prop}(c:s.heap.get? a=some o)(h:Q (some o) s):wpAny (model g w) A (loadIfAlive a) Q E s:=by
 have b:Q (s.heap.get? a) s:=by lia
 exact λY Y Y=>b
theorem Dw{a:DL}{o:Obj}{Q:Go->Ev->Prop}(b:tW s.heap z T9 T8 a f)(e:s.heap.get? a=some o)(d:∀c,tW c z T9 T8 a true->Heap.SameBut z s.heap c->Q false {s with heap:=c}):wpAny (model g w) A (Builtin.SmallTypes.ownedTupleIsFree<|.ref z) Q E s:=by
 refine GT<|PP b O O (GT<|akS e (GT<|PP b O O ?_));cases f with
 |true=>
  exact IO<|d _ b ⟨O,λY Y=>O⟩
 |false=>
  refine GT<|wpAny_setField_rec b aJ λh B i=>?_;exact IO<|d h B i
theorem ago{a:DL}{r:Nat}{xs N:lc}{y:EQ}{Q:cr}(D:ZipApart z T9 I n m l1 l2)(t:tW s.heap z T9 I a f)(P:s.heap.get? a=some K)(W:IsPair s.heap T9 (.ref n) (.ref m))(U:s.heap.IsListIter n l1 r)(S:s.heap.IsListIter m l2 p)(X:s.heap.IsList l1 xs)(V:s.heap.IsList l2 N)(M:xs[r]?=some x)(L:N[p]?=some y)(R:∀j,tW j z T9 I a true->j.IsListIter n l1 (r+1)->j.IsListIter m l2 (p+1)->IsPair j s.heap.objs.size x y->j.objs.size=s.heap.objs.size+1->
   (∀c o,c≠z->c≠n->c≠m->s.heap.get? c=some o->j.get? c=some o)->Q (.ref s.heap.objs.size) {s with heap:=j}):
  wpAny (model g w) A (Builtin.«zip.__next__» ⟨[.ref z],[]⟩) (λu J=>∃v,u=.done (.ret v)/\Q v J) E s:=by
 show wpAny _ _ (field (.ref z) 2>>=_) _ _ _;refine GT<|PP t O O ?_;refine GT<|PP t O (x:=.ref T9) O ?_;refine GT<|ZB W O ?_;refine GT<|Dw t P λH BI k=>?_;refine GT ?_;refine GT<|GT<|NE ?_;refine GT<|t6 (U.extBut k.extBut D.i1z) (X.extBut k.extBut D.l1z) M λG QJ l=>IO (IO ?_);refine GT<|GT<|NE ?_;refine GT (t6 ((S.extBut k.extBut D.i2z).extBut l.extBut D.i12.symm)
  ((V.extBut k.extBut D.l2z).extBut l.extBut D.l2i1) L λh i B=>IO (IO (IO ?_)))
 refine GT<|wpAny_newTuple (hsz:=eF) ?_;have b:h.objs.size=s.heap.objs.size:=by rw[B.1,l.1,k.1]
 have d:∀c o,c≠z->c≠n->c≠m->s.heap.get? c=some o->h.get? c=some o:=λc o F C Y e=>B.extBut _ _ Y (l.extBut _ _ C<|k.extBut _ _ F e);refine IO ⟨_,O,?_⟩;have q:=R (h.push {cls:=.type "tuple",data:=.seq #[x,y]}) (KK _ (B.extBut _ _ D.i2z.symm (l.extBut _ _ D.i1z.symm BI))) ((QJ.extBut B.extBut D.i12).at λo e=>KK _ e) (i.at λo e=>KK _ e) (by rw[<-b];exact On _ O) (by rw[Tk,b]) λc o F Z C e=>KK _ (d c o F Z C e);rw[<-b] at q;exact q
theorem Rx{a:DL}{H:Obj}{xs N:lc}{Q:Fin->Ev->Prop}(B:A.handled=none)(D:ZipApart z T9 R n m l1 l2)(p:tW s.heap z T9 R a f)(J:s.heap.get? a=some H)(M:IsPair s.heap T9 (.ref n) (.ref m))(F:s.heap.IsListIter n l1 l)(K:s.heap.IsListIter m l2 k)(G:s.heap.IsList l1 xs)(L:s.heap.IsList l2 N)(S:xs[l]?=none\/N[k]?=none)(C:∀r e,(∀c o,c≠z->c≠n->c≠m->s.heap.get? c=some o->r.get? c=some o)->(∃o,r.get? e=some o/\o.cls=.type "StopIteration")->E (.ref e) {s with heap:=r}):
  wpAny (model g w) A (Builtin.«zip.__next__» ⟨[.ref z],[]⟩) Q E s:=by
 show wpAny _ _ (field (.ref z) 2>>=_) _ _ _;refine GT<|PP p O O (GT<|PP p O O (GT<|ZB M O (GT<|Dw p J λv V b=>GT (GT<|GT<|NE ?_))));cases y:xs[l]? with
 |none=>
  exact GT<|wpAny_nextOf_list_end B (F.extBut b.extBut D.i1z) (G.extBut b.extBut D.l1z) y λh e j q=>C h e (λc o u t Y x=>j _ _ t<|b.extBut _ _ u x) q
 |some x=>
  have I:N[k]?=none:=by lia
  refine GT<|t6 (F.extBut b.extBut D.i1z) (G.extBut b.extBut D.l1z) y λh U j=>IO (IO (GT<|GT<|NE ?_));exact GT (wpAny_nextOf_list_end B ((K.extBut b.extBut D.i2z).extBut j.extBut D.i12.symm)
   ((L.extBut b.extBut D.l2z).extBut j.extBut D.l2i1) I λi e d q=>C i e (λc o u t P x=>d _ _ P (j.extBut _ _ t (b.extBut _ _ u x))) q)
theorem agu:typeLookup (.type "zip") "__len__"=pure none:=O
theorem agv:typeLookup (.type "zip") "__length_hint__"=pure none:=O
theorem agw{r:DL}(T:s.TypeIs (.ref r) "zip"){Q:Go->Ev->Prop}(h:Q true s):wpAny (model g w) A (Builtin.List.listLengthHint<|.ref r) Q E s:=by
 exact GT<|Uf T agu (GT<|Uf T agv (IO h))
def rz(h:FS)(z e T d c l1 l2 S:DL)(i:Nat):Prop:=IsPair h e (.ref d) (.ref c)/\h.IsListIter d l1 i/\h.IsListIter c l2 i/\
 ((IsZip h z e T .none/\∃a b,IsPair h T a b)\/∃a f o,tW h z e T a f/\h.get? a=some o/\a≠z/\a≠T/\a≠d/\a≠c/\a≠S)
theorem agx{xs N:lc}{y:EQ}{Q:AT->Ev->Prop}(D:ZipApart z T9 T8 p n l1 l2)(W:rz s.heap z T9 T8 p n l1 l2 S i)(hS:S<s.heap.objs.size)(U:s.heap.IsList l1 xs)(R:s.heap.IsList l2 N)(J:xs[i]?=some x)(I:N[i]?=some y)(M:∀h,rz h z T9 T8 p n l1 l2 S (i+1)->IsPair h s.heap.objs.size x y->h.objs.size=s.heap.objs.size+1->(∀c o,c≠z->c≠T8->c≠p->c≠n->s.heap.get? c=some o->h.get? c=some o)->Q (some<|.ref s.heap.objs.size) {s with heap:=h}):
  wpAny (model g w) A (pyNext<|.ref z) Q E s:=by
 obtain⟨k,r,q,⟨j,a,b,P⟩|⟨a,f,X,j,K,H,Z,G,C,Y⟩⟩:=Xn W;have l:∀{c o},s.heap.get? c=some o->s.heap.objs.size≠c:=λe=>Ya (IR e);refine wpAny_pyNext_zip_item D j k P r q U R J I λh B a2 v u m t d=>M h ⟨d _ _ D.TIz D.TITO D.TIi1 D.TIi2 k,v,u,.inr (rR _ false _ B m (l j) (l P) ?_ ?_ (Ya hS))⟩ m t d;obtain⟨V,e,V⟩:=r;exact l e;obtain⟨V,e,V⟩:=q;exact l e;have L:s.TypeIs (.ref z) "zip":=nT _ j O;exact GT (wpAny_attempt (xD L YZ
  (wpAny_call_entry YZ L F.entry_zip_next
   (ago D j K k r q U R J I λh B v u m t d=>IO (M h ⟨d _ _ D.TIz D.TIi1 D.TIi2 k,v,u,.inr (rR a true X B (d _ _ H G C K) H Z G C Y)⟩ m t λc o c1 V c3 c4 e=>d c o c1 c3 c4 e)) (F.args_zip_next_1 _))))
theorem agy{xs N:lc}{Q:AT->Ev->Prop}(l:A.handled=none)(D:ZipApart z T9 T8 k i2 l1 l2)(x:rz s.heap z T9 T8 k i2 l1 l2 S i)(t:s.heap.IsList l1 xs)(q:s.heap.IsList l2 N)(v:xs[i]?=none\/N[i]?=none)(m:∀d,(∀c o,c≠z->c≠T8->c≠k->c≠i2->s.heap.get? c=some o->d.get? c=some o)->Q none {s with heap:=d}):wpAny (model g w) A (pyNext<|.ref z) Q E s:=by
 obtain⟨r,p,n,⟨h,a,b,I⟩|⟨a,f,P,h,H,X,W,V,U,R⟩⟩:=Xn x;exact wpAny_pyNext_zip_end l D h r I p n t q v m;have T:s.TypeIs (.ref z) "zip":=⟨_,h,O⟩;refine GT (wpAny_attempt (xD T YZ
  (wpAny_call_entry YZ T F.entry_zip_next (Rx l D h H r p n t q v λd e B C=>?_) (F.args_zip_next_1 _))))
 obtain⟨o,y,G⟩:=C;exact GT<|wpAny_isInstance ⟨o,y,G⟩ isSubtype_stop (IO<|m _ λc o L Y K J e=>B c o L K J e)
theorem rz.keep{T j d:DL}(s:rz h z T j d c l1 l2 S i)(k:∀b o,b≠S->h.get? b=some o->h'.get? b=some o)(n:z≠S/\T≠S/\j≠S/\d≠S/\c≠S):rz h' z T j d c l1 l2 S i:=by
 obtain⟨q,p,m,⟨g,a,b,A⟩|⟨a,f,r,g,x,w,v,u,t,l⟩⟩:=Xn s;exact⟨k _ _ n.2.1 q,p.at λo e=>k _ o n.2.2.2.1 e,m.at λo e=>k _ o n.2.2.2.2 e,.inl ⟨k _ _ n.1 g,o3 a ⟨b,k _ _ n.2.2.1 A⟩⟩⟩;exact⟨k _ _ n.2.1 q,p.at λo e=>k _ o n.2.2.2.1 e,m.at λo e=>k _ o n.2.2.2.2 e,.inr (rR a f r (k _ _ n.1 g) (k _ _ l x) w v u t l)⟩
variable{R:Result->Ev->Prop}{f N:lc}
structure ZG(f N:lc)(lo:Nat)(h:FS)(as:db):Prop where
 rise:as.Pairwise (· < ·)
 above:∀a∈as,@LE.le Nat _ lo a
 pairs:∀(j:Nat)(a:DL),as[j]?=some a->∃x y,f[j]?=some x/\N[j]?=some y/\IsPair h a x y
theorem agz{lo:Nat}(hh:A.handled=none)(D:ZipApart z T9 T8 i1 p l1 l2)(n:z≠S/\T9≠S/\T8≠S/\i1≠S/\p≠S)(hl: @LT.lt Nat _ z lo/\ @LT.lt Nat _ T8 lo/\ @LT.lt Nat _ i1 lo/\ @LT.lt Nat _ p lo/\ @LT.lt Nat _ S lo)(n1:l1≠S)(n2:l2≠S)(hn:min f.size N.size<=sizeLine)(B:EQ){h₁:FS}(hR:∀l t Z c as,(∀b o,b≠S->b≠z->b≠T8->b≠i1->b≠p->h₁.get? b=some o->l.get? b=some o)->l.get? S=some {cls:=.type "list",dict:=none,data:=.seq Z c,slots:= #[]}->as.length=min f.size N.size->ZG f N lo l as->
   Z.toList=as.map Value.ref->R (.ok (.ret B)) {s with heap:=l,toks:=t}):
  ∀(k i:Nat)(h:FS)(t c:Nat)(Z:lc)(as:db),min f.size N.size - i=k->i<=min f.size N.size->rz h z T9 T8 i1 p l1 l2 S i->h.IsList l1 f->h.IsList l2 N->(∀b o,b≠S->b≠z->b≠T8->b≠i1->b≠p->h₁.get? b=some o->h.get? b=some o)->
   h.get? S=some {cls:=.type "list",dict:=none,data:=.seq Z c,slots:= #[]}->Z.toList=as.map Value.ref->as.length=i->ZG f N lo h as-> @LE.le Nat _ lo h.objs.size->
   codeAny (model g w) A (.builtin "list.extend.loop" ⟨[.ref S,.ref z,B],[]⟩) R {s with heap:=h,toks:=t}:=by
 obtain⟨q1,q2,q3,q4,q5⟩:=ZE hl;have QK:∀{a:DL},@LE.le Nat _ lo a->a≠z/\a≠T8/\a≠i1/\a≠p/\a≠S:=λh=>⟨Ya<|YY q1 h,Ya<|YY q2 h,Ya<|YY q3 h,Ya<|YY q4 h,Ya<|YY q5 h⟩;intro k;induction k with
 |zero=>
  intro i h t c Z as hk hi dB Q P Y H U M G X;have uT:i=min f.size N.size:=by lia
  refine WU PySem.F.entry_extend_loop ?_;rw[xN x9 _];show wpAny _ A.in1 (pyNext (.ref z) >>=_) _ _ _;have vH:f[i]?=none\/N[i]?=none:=by
   rcases Nat.le_total f.size N.size with q|q
   exact .inl (Array.getElem?_eq_none ap);exact .inr (Array.getElem?_eq_none ap)
  refine GT<|agy (s:={s with heap:=h,toks:=t}) (A:=A.in1) hh D dB Q P vH λl he=>?_;refine IO<|hR l t Z c as (λb o W L K J I e=>he b o L K J I<|Y b o W L K J I e) (he S _ n.1.symm n.2.2.1.symm n.2.2.2.1.symm n.2.2.2.2.symm H) ap ⟨G.rise,G.above,λj a d=>?_⟩ U;obtain⟨x,y,e1,e2,e3⟩:=G.pairs j a d;obtain⟨f1,f2,f3,f4,f5⟩:=ZE (QK (G.above a<|Wv d));exact oW x y e1 e2 (he a _ f1 f2 f3 f4 e3)
 |succ k ih=>
  intro i h t c Z as hk hi dB Q P Y H U M G X;have vJ:i<f.size:=by lia
  have BK:i<N.size:=by lia
  have C:Z.size=i:=by rw[<-G2,U,XN,M]
  refine WU PySem.F.entry_extend_loop ?_;rw[xN x9 _];show wpAny _ A.in1 (pyNext (.ref z) >>=_) _ _ _;refine GT<|agx (s:={s with heap:=h,toks:=t}) (S:=S) D dB (IR H) Q P (Yo vJ) (Yo BK) λl Ha ht hz v=>?_;dsimp only at ht hz v⊢;have qZ:=v S _ n.1.symm n.2.2.1.symm n.2.2.2.1.symm n.2.2.2.2.symm H;have u:∀b o,b≠S->l.get? b=some o->(l.update S (Obj.mapSeq (·.push (Value.ref h.objs.size)))).get? b=some o:=λb o E e=>(Ps _ _<|KF E).trans e;have QL:S<h.objs.size:=IR H;show wpAny _ A.in1 (updateSeq S (·.push (Value.ref h.objs.size)) >>=_) _ _ _;refine GT ?_;refine Yg qZ O (IO ⟨cB x9 _,ih (i+1) _ t _ (Z.push (Value.ref h.objs.size)) (as++[h.objs.size]) ap ap (Ha.keep u n) (Q.at λo e=>u l1 o n1 (v l1 o D.l1z D.l1TO D.l1i1 D.l1i2 e)) (P.at λo e=>u l2 o n2 (v l2 o D.l2z D.l2TO D.l2i1 D.l2i2 e))
   (λb o W L K J I e=>u b o W (v b o L K J I (Y b o W L K J I e))) (SB _ qZ O) (by rw[Array.toList_push,U,Z3];rfl) (by rw[W0,M];rfl) ⟨?_,?_,?_⟩ ?_⟩) (by rw[C];exact wO hi hn) (by show(Z.push (Value.ref h.objs.size)).size<=sizeLine+1;rw[Array.size_push,C];exact h_ (wO hi hn) _)
  refine XI.mpr ⟨G.rise,List.pairwise_singleton _ _,λa m b E=>?_⟩;rw[Yd.mp E];obtain⟨j,d⟩:=WM.mp m;obtain⟨T,T,T,T,e⟩:=G.pairs j a d;exact IR e;intro a m;rcases X0.mp m with m|m
  exact G.above a m;rw[Yd.mp m];exact X;intro j b d;rcases Nat.lt_trichotomy j as.length with V|V|V
  rw[XG V] at d;obtain⟨x',y',e1,e2,e3⟩:=G.pairs j b d;obtain⟨f1,f2,f3,f4,f5⟩:=ZE (QK (G.above b<|Wv d));exact oW x' y' e1 e2 (u b _ f5<|v b _ f1 f2 f3 f4 e3);subst V;have E:h.objs.size=b:=by simpa using d
  subst E;refine oW (f[as.length]) (N[as.length]) ?_ ?_ (u _ _ (Ya QL) ?_);exact Yo (Wn (VN M) vJ);exact Yo (Wn (VN M) BK);subst M;exact ht;have a':(as++[h.objs.size])[j]?=none:=WL (by rw[W0,ZS];exact X5 V);rw[a'] at d;cases d;have e:(l.update S (Obj.mapSeq (·.push (Value.ref h.objs.size)))).get? h.objs.size=_:=u _ _ (Ya QL) ht;exact Zx<|Wn X<|IR e
end
section
variable{h:Fa}{w:Fk}{A:Gc}{E:cr}{s:Ev}{g N:lc}
theorem QQ{R:Result->Ev->Prop}(U:A.handled=none)(D:ZipApart z T9 T8 q p l1 l2)(v:z≠S/\T9≠S/\T8≠S/\q≠S/\p≠S)(G:l1≠S)(E:l2≠S)(P:min g.size N.size<=sizeLine)(i:IsZip s.heap z T9 T8 .none)(dg:IsPair s.heap T9 (.ref q) (.ref p))(u:∃a b,IsPair s.heap T8 a b)(K:s.heap.IsListIter q l1 0)(J:s.heap.IsListIter p l2 0)(cO:s.heap.IsList l1 g)(dm:s.heap.IsList l2 N)(r:EQ)(k:Nat)(x:s.heap.get? S=some {cls:=.type "list",data:=.seq #[] k})(W:∀t M Z c as,(∀b o,b≠S->b≠z->b≠T8->b≠q->b≠p->s.heap.get? b=some o->t.get? b=some o)->t.get? S=some {cls:=.type "list",dict:=none,data:=.seq Z c,slots:= #[]}->as.length=min g.size N.size->ZG g N s.heap.objs.size t as->
   Z.toList=as.map Value.ref->R (.ok (.ret r)) {s with heap:=t,toks:=M}):
  wpAny (model h w) A.in1 (Builtin.List.listExtendWith (.ref S) (.ref z) r)
   (λy m=>match y with|.done f=>R (.ok f) m|.again L=>L.quiet=true/\codeAny (model h w) A L R m) (λe m=>R (.error e) m) s:=by
 have I:s.TypeIs (.ref z) "zip":=⟨_,i,O⟩;unfold Builtin.List.listExtendWith;refine GT<|Wp I ?_;have e1:Builtin.List.listSameRef (.ref S) (.ref z)=false:=by simp[Builtin.List.listSameRef,v.1.symm]
 have Y:(Value.type "zip"==Value.type "list")=false:=by decide
 have X:(Value.type "zip"==Value.type "tuple")=false:=by decide
 simp only[e1,Y,X,YO,jK,Tl];refine GT<|wpAny_pyIter_zip i ?_;refine GT<|NE<|agw I ?_;refine GT<|wpAny_rule ?_;refine GT ?_;refine GT<|Yg x O ?_;have C:=SB (Obj.mapSeq (·.push Value.none)) x O;refine Yg (hz:=by seq_fits) C O ?_;have d:=SB (Obj.mapSeq (·.pop)) C O;have n:∀b o,b≠S->s.heap.get? b=some o->((s.heap.update S (Obj.mapSeq (·.push Value.none))).update S (Obj.mapSeq (·.pop))).get? b=some o:=
  λb o H e=>(Ps _ _<|KF H).trans ((Ps _ _<|KF H).trans e)
 have l:∀{c o},s.heap.get? c=some o-> @LT.lt Nat _ c s.heap.objs.size:=λe=>IR e;obtain⟨a,b,u⟩:=u;refine IO ⟨cB F.plain_extend_loop _,agz (s:=s) (h₁:=s.heap) (lo:=s.heap.objs.size) U D v ⟨l i,l u,?_,?_,l x⟩ G E P r W _ 0 _ _ _ _ [] O (Ww _)
  (rz.keep ⟨dg,K,J,.inl ⟨i,a,b,u⟩⟩ n v) (cO.at λo e=>n l1 o G e) (dm.at λo e=>n l2 o E e) (λb o b0 T T T T e=>n b o b0 e) d O O ⟨List.Pairwise.nil,(λT V=>nomatch V),(λj a Q=>by simp at Q)⟩ ?_⟩
 obtain⟨T,e,T⟩:=K;exact l e;obtain⟨T,e,T⟩:=J;exact l e;rw[Heap.size_update,Heap.size_update];exact VL _
theorem agD{R:Result->Ev->Prop}(K:A.handled=none)(D:ZipApart z q T8 l k l1 l2)(n:z≠S/\q≠S/\T8≠S/\l≠S/\k≠S)(v:l1≠S)(u:l2≠S)(H:min g.size N.size<=sizeLine)(F:IsZip s.heap z q T8 .none)(V:IsPair s.heap q (.ref l) (.ref k))(r:∃a b,IsPair s.heap T8 a b)(Q:s.heap.IsListIter l l1 0)(P:s.heap.IsListIter k l2 0)(W:s.heap.IsList l1 g)(U:s.heap.IsList l2 N)(m:s.heap.get? S=some {cls:=.type "list",data:=.seq #[]})(M:∀d t Z c as,(∀b o,b≠S->b≠z->b≠T8->b≠l->b≠k->s.heap.get? b=some o->d.get? b=some o)->d.get? S=some {cls:=.type "list",dict:=none,data:=.seq Z c,slots:= #[]}->as.length=min g.size N.size->ZG g N s.heap.objs.size d as->
   Z.toList=as.map Value.ref->R (.ok (.ret .none)) {s with heap:=d,toks:=t}):
  wpAny (model h w) A.in1 (Builtin.«list.__init__» ⟨[.ref S,.ref z],[]⟩)
   (λp j=>match p with|.done f=>R (.ok f) j|.again x=>x.quiet=true/\codeAny (model h w) A x R j) (λe j=>R (.error e) j) s:=by
 refine GT ?_;unfold Builtin.List.listItems;refine GT<|ZB m O<|IO ?_;refine GT<|Yg m O ?_;have C:=SB (Obj.mapSeq<|λT=>(#[]:lc)) m O;have i:∀b o,b≠S->s.heap.get? b=some o->(s.heap.update S<|Obj.mapSeq<|λT=>(#[]:lc)).get? b=some o:=
  λb o L e=>(Ps _ _<|KF L).trans e
 refine GT<|wpAny_letGo ?_;obtain⟨a,b,r⟩:=r;refine QQ K D n v u H (i _ _ n.1 F) (i _ _ n.2.1 V) ⟨a,b,i _ _ n.2.2.1 r⟩ (Q.at λo e=>i _ o n.2.2.2.1 e) (P.at λo e=>i _ o n.2.2.2.2 e) (W.at λo e=>i l1 o v e) (U.at λo e=>i l2 o u e) .none _ C λd t Z c as J B I G E=>?_;rw[Heap.size_update] at G;exact M d t Z c as (λb o y b1 b2 Y X e=>J b o y b1 b2 Y X<|i b o y e) B I G E
theorem agE{Q:cr}(K:A.handled=none)(D:ZipApart z T9 T8 k i2 l1 l2)(H:min g.size N.size<=sizeLine)(l:IsZip s.heap z T9 T8 .none)(v:IsPair s.heap T9 (.ref k) (.ref i2))(r:∃a b,IsPair s.heap T8 a b)(q:s.heap.IsListIter k l1 0)(m:s.heap.IsListIter i2 l2 0)(x:s.heap.IsList l1 g)(u:s.heap.IsList l2 N)(L:∀d t Z c as,(∀b o,b≠z->b≠T8->b≠k->b≠i2->s.heap.get? b=some o->d.get? b=some o)->d.get? s.heap.objs.size=some {cls:=.type "list",dict:=none,data:=.seq Z c,slots:= #[]}->as.length=min g.size N.size->ZG g N (s.heap.objs.size+1) d as->
   Z.toList=as.map Value.ref->Q (.ref s.heap.objs.size) {s with heap:=d,toks:=t}):
  wpAny (model h w) A (call (.type "list") [.ref z]) Q E s:=by
 refine callType_codes (Q₁:=λj W=>j=.ref s.heap.objs.size/\W={s with heap:=s.heap.push {cls:=.type "list",data:=.seq #[]}}) PySem.F.called_list (PySem.F.typeCall_list_1 _) PySem.F.entry_list_init
  (code_list_new _ ⟨O,O⟩) λj W f=>?_
 obtain⟨rfl,rfl⟩:=f;have S:(s.heap.push {cls:=.type "list",data:=.seq #[]}).get? s.heap.objs.size=some {cls:=.type "list",data:=.seq #[]}:=On _ O;have n:∀{c o},s.heap.get? c=some o->c≠s.heap.objs.size:=λe=>ZH (IR e);obtain⟨a,b,r⟩:=r;have p:∀c o,s.heap.get? c=some o->(s.heap.push {cls:=.type "list",data:=.seq #[]}).get? c=some o:=λc o e=>KK _ e;refine⟨⟨_,S,O⟩,PySem.F.args_list_init_2 _ _,agD K D ⟨n l,n v,n r,?_,?_⟩ ?_ ?_ H (p _ _ l) (p _ _ v) ⟨a,b,p _ _ r⟩ (q.at λo e=>p _ o e) (m.at λo e=>p _ o e) (x.at λo e=>p _ o e) (u.at λo e=>p _ o e) S λd t Z c as J B I G C=>?_⟩;obtain⟨Y,e,Y⟩:=q;exact n e;obtain⟨Y,e,Y⟩:=m;exact n e;obtain⟨Y,e,Y⟩:=x;exact n e;obtain⟨Y,e,Y⟩:=u;exact n e;rw[Tk] at G;exact⟨O,L d t Z c as (λb o U R P M e=>J b o (n e) U R P M<|p b o e) B I G C⟩
end
end ZL
section
open PyProof.Rows
def Hb(K:Frag):ci->Hp->VK->Prop:=λvs H Q=>∃a b xs N,vs=[.r a,.r b]/\ah K H a xs/\ah K H b N/\∀(s:db)(l:DL)(Z:Hp),s.length=min xs.length N.length->ar H Z->(∀t∈s,H t=none)->H l=none->
 (∀(i:Nat)(t:DL),s[i]?=some t->∃u v,xs[i]?=some u/\N[i]?=some v/\Z t=some (.t [u,v]))->Z l=some (.l<|s.map V.r)->Q (.r l) Z
def QM:Frag->TA->TE:=λK t=>gU (Hb K) t
section
variable{X:Cx}{f:cy}{u:St}{H:Hp}{s g:Ev}
theorem QN(k:Ut X f u H0 g):∀(i:db){H:Hp},Ut X f u H s->(∀t∈i,g.heap.objs.size<=t/\H t=none/\∃d v a b,mL a d/\mL b v/\s.heap.IsTuple t #[d,v])->i.Nodup->
  ∃Z,Ut X f u Z s/\ar H Z/\(∀t∈i,∃d v a b,mL a d/\mL b v/\s.heap.IsTuple t #[d,v]/\Z t=some (.t [a,b]))/\∀c,c∉i->Z c=H c
 |[],H,I,_,_=>qU H I (λY Y e=>e) (λY h=>nomatch h) (λY Y=>O)
 |T::i,H,I,h,y=>by
  obtain⟨m,K,d,v,a,b,n,r,l⟩:=h T Y1;have M:Ut X f u (upd H T<|.t [a,b]) s:=by
   refine Ut.zT I K (wO k.sz m) (Ya<|YY k.lt m) (λx c e q=>?_) (λp J q=>?_) (qH (by show 2<=sizeLine;decide) [d,v] (.cons n<|.cons r .nil) l);obtain⟨P,G⟩:=k.cell x c e;have:=G.lt;rw[q] at this;cases XD _ (YY this m);have:=IR (k.pin p J).1;rw[q] at this;cases XD _ (YY this m)
  have A:=(Y8.mp y).1;obtain⟨Z,N,C,L,w⟩:=QN k i M (λt j=>by
   obtain⟨F,E,D⟩:=h t (yl _ j);exact⟨F,by rw[ay (show t≠T from λe=>A ap)];exact E,D⟩) (Y8.mp y).2
  refine qU Z N (λc o e=>C _ _ (by rw[ay (λz=>by lia)];exact e)) (λt j=>?_) (λc B=>?_);rcases xW.mp j with rfl|j
  exact p4 d v a b n r l (by rw[w _ A,aj]);exact L t j;rw[w c<|λq=>B<|yl _ q,ay (show c≠T from λe=>B (e▸Y1))]
end
section
variable{CX:cZ}{S:dJ}{m:bu}{X:Cx}{k f:Expr}{es:on}{x y:Str}{p l F A:Pos}{w E:RE}{rs:u8}
theorem agF(hc:X.calm=true)(g1:Gl X "list")(m1:X.mg "list"=none)(g2:Gl X "zip")(m2:X.mg "zip"=none)(ha:PA X [k,f] t)(hs:starEach [k,f] X.env=(false,eval k X.env)::starEach [f] X.env)(jd:(backTo A<|starEach [f] X.env).any (·.1)=false):
  PE X (.Call (.Name "list" p) [.Call (.Name "zip" l) [k,f] [] A] [] F) (gU (Hb X.K) t):=by
 intro U s u H Q I h;refine Sc<|m6 I g1 m1 Em ?_ bc bc;refine Rs ?_ O O;refine u9 ?_;refine Sc<|m6 I g2 m2 G7 ?_ bc bc;refine Rs ?_ hs jd;refine aA (ha A U s u H _ I h) λus d ⟨vs,H1,m,w,C⟩=>?_;obtain⟨l1,l2,xs,N,zq⟩:=ZO C;obtain⟨rfl,hx,hy,q⟩:=Xn zq;obtain⟨B,v,rfl,ru,rv⟩:=YX w;cases ru;cases rv;obtain⟨mi,Y,p1,z1⟩:=m.list hx;obtain⟨gm,W,l,z2⟩:=m.list hy;have cO:=Y.length;have dm:=W.length;refine call_zip_2 p1.isList l.isList λh' a1 a2 a3 a4 a5 a6 hk=>?_;refine v3 ?_;have D7: @LT.lt Nat _ l1 d.heap.objs.size:=by obtain⟨_,e,_⟩:=p1.isList;exact IR e
 have z_: @LT.lt Nat _ l2 d.heap.objs.size:=by obtain⟨_,e,_⟩:=l.isList;exact IR e
 have D:ZipApart (d.heap.objs.size+4) (d.heap.objs.size+2) (d.heap.objs.size+3) d.heap.objs.size (d.heap.objs.size+1) l1 l2:=by
  constructor<;>(show @Ne Nat _ _;lia)
 refine ZL.agE (s:={d with heap:=h'}) (g:=mi.toArray) (N:=gm.toArray) (I.ok.hd hc) D (by simp only[Xm];lia) a1 a2 ⟨_,_,a3⟩ a4 a5 (p1.isList.at λo e=>hk _ o e) (l.isList.at λo e=>hk _ o e) λT tk Z' c as kp eS pO G ic=>?_;dsimp only at kp eS G⊢;rw[a6] at G eS;have kk:∀b o,d.heap.get? b=some o->T.get? b=some o:=λb o e=>by
  have lt: @LT.lt Nat _ b d.heap.objs.size:=IR e;refine kp b o ?_ ?_ ?_ ?_ (hk b o e) <;>(show @Ne Nat _ _;lia)
 have I2:Ut X U u H1 {d with heap:=T,toks:=tk}:=m.kept kk;have P:∀t∈as,@LE.le Nat _ (d.heap.objs.size+6) t:=λt y=>G.above t y;have yz:∀t∈as,∃B v a b,mL a B/\mL b v/\T.IsTuple t #[B,v]:=λt y=>by
  obtain⟨j,hj⟩:=WM.mp y;obtain⟨B,v,k,f,e3⟩:=G.pairs j t hj;have k:mi[j]?=some B:=by simpa using k
  have f:gm[j]?=some v:=by simpa using f
  have S:j<xs.length:=by have:=(Wq.mp k).1;lia
  have R:j<N.length:=by have:=(Wq.mp f).1;lia
  obtain⟨u',C,q2⟩:=Y.get (i:=j) (x:=xs[j]) (by simp[S]);obtain⟨M,J,q4⟩:=W.get (i:=j) (x:=N[j]) (by simp[R]);rw[k] at C;cases C;rw[f] at J;cases J;exact⟨B,v,_,_,q2,q4,⟨_,e3,O,_,O⟩⟩
 have nd:as.Nodup:=G.rise.imp λh=>ZH h;have fr:∀t∈as,H1 t=none:=λt y=>m.az.fresh (wO (j9 _ 6)<|P t y);obtain⟨Z,I3,sm,al,ot⟩:=QN m as I2 (λt y=>⟨wO (j9 _ 6)<|P t y,fr t y,yz t y⟩) nd;have nl:d.heap.objs.size+5∉as:=λq=>absurd (P _ q) (Nat.not_le_of_gt (Yq _));have E:d.heap.objs.size<=d.heap.objs.size+5:=j9 _ 5;have fl:H1 (d.heap.objs.size+5)=none:=m.az.fresh E;have rl:ZT (as.map V.r) Z'.toList:=by
  rw[ic];clear ic G pO yz nd fr al ot nl P;induction as with
  |nil=>exact .nil
  |cons t ts ih=>exact .cons O ih
 have ml:min xs.length N.length<=sizeLine:=by lia
 have QO:as.length=min xs.length N.length:=by rw[pO];simp only[Xm];lia
 have I4:Ut X U u (upd Z (d.heap.objs.size+5)<|.l<|as.map V.r) {d with heap:=T,toks:=tk}:=by
  refine Ut.zT I3 (by rw[ot _ nl];exact fl) (wO m.sz E) (Ya<|YY m.lt E) (λx c e q=>?_) (λp hp q=>?_) ⟨by rw[XN,QO];exact ml,Z'.toList,c,rl,by simpa using eS⟩;obtain⟨M,q'⟩:=m.cell x c e;have:=q'.lt;rw[q] at this;exact absurd (YY this E)<|XD _;have:=IR (m.pin p hp).1;rw[q] at this;exact absurd (YY this E)<|XD _
 show EP X U u Q (.ref h'.objs.size) _;rw[a6];refine⟨.r<|d.heap.objs.size+5,_,I4,O,q as (d.heap.objs.size+5) _ QO (λb o e=>?_) fr fl (λi t hi=>?_) aj⟩;rw[ay (λz=>by rw[z,fl] at e;cases e)];exact sm _ _ e;obtain⟨B,v,k,f,e3⟩:=G.pairs i t hi;obtain⟨u',M,a,b,zq⟩:=ZO (al t (Wv hi));obtain⟨ra,rb,tT,e⟩:=Xn zq;have eu:u'=B/\M=v:=by
  obtain⟨o,ho,_,n,L⟩:=tT;rw[e3] at ho;cases ho;injection L with L
  simp at L;exact⟨L.1.symm,L.2.symm⟩
 obtain⟨rfl,rfl⟩:=eu;have k:mi[i]?=some u':=by simpa using k
 have f:gm[i]?=some M:=by simpa using f
 have S:i<xs.length:=by have:=(Wq.mp k).1;lia
 have R:i<N.length:=by have:=(Wq.mp f).1;lia
 obtain⟨u2,C,q2⟩:=Y.get (i:=i) (x:=xs[i]) (by simp[S]);obtain⟨v2,J,q4⟩:=W.get (i:=i) (x:=N[i]) (by simp[R]);rw[k] at C;cases C;rw[f] at J;cases J;refine⟨xs[i],N[i],by simp[S],by simp[R],?_⟩;rw[ay (show t≠d.heap.objs.size+5 from λz=>nl (by rw[<-z];exact Wv hi)),e,ra.inj q2,rb.inj q4]
theorem agG(G:Good CX S m X)(c:PA X [k,f] (aP m [w,E]))(h:autoParam (kB S x "list"=true) ee)(a:autoParam (kB S y "zip"=true) ee)(b:autoParam (ib [k,f]=true) ee)(q:autoParam (S.m=0) dh):PE X (.Call (.Name x p) [.Call (.Name y l) [k,f] [] A] [] F) (ae m<|.x QM [w,E]):=by
 simp only[kB,Zu,KM] at h a;obtain⟨⟨rfl,i⟩,g⟩:=h;obtain⟨⟨rfl,e⟩,d⟩:=a;show PE X _ (gU (Hb m.K)<|aP m [w,E]);rw[<-G.K];have n:=e_ b;exact agF (G.calm q) (G.gl i) (G.jo _ g) (G.gl e) (G.jo _ d) c (eI n.1)<|mv _ _ _ n.2
end
end
noncomputable def WX(Y:ac)(i:Nat):am:=(List.range Y.length).filter λj=>Y[j]?==some (some i)
def aS(M:db)(H Z:Hp):Prop:= ∀b o,H b=some o->b∉M->Z b=some o
theorem aS.trans(a:aS M H H1)(b:aS M H1 W):aS M H W:=λc o e n=>b c o (a c o e n) n
theorem aS.of(s:ar H Z):aS M H Z:=λc o e Y=>s c o e
theorem aS.upd{o:HO}(h:c∈M):aS M H (upd H c o):=λb u e n=>by rw[ay (show b≠c from λz=>n (z▸h))];exact e
theorem aY{a b:DL}{o:HO}(n:a≠b)(h:H a=some o):upd H b c a=some o:=by rw[ay n];exact h
def jQ(M:db)(H:Hp):Prop:= ∀x∈M,∃o,H x=some o/\∀N,o≠ .t N
theorem jQ.same(h:jQ M H)(s:ar H Z):jQ M Z:=λx a=>(h x a).imp λo e=>⟨s _ _ e.1,e.2⟩
theorem jQ.upd(h:jQ M H):jQ M (upd H c<|.l xs):=λx a=>by
 by_cases z:x=c;subst z;exact⟨_,aj,nofun⟩;rw[ay z];exact h x a
theorem jQ.no{a:DL}(h:jQ M H)(f:H a=none):a∉M:=λq=>by
 obtain⟨o,e,Y⟩:=h a q;rw[f] at e;cases e
theorem jQ.bB(h:jQ M H)(b:aS M H Z):bR H Z:=λc xs e=>b c _ e λq=>by
 obtain⟨o,a,n⟩:=h c q;rw[a] at e;exact n xs<|WV e
structure BL(p lo pa ed be lg:DL)(bs:db):Prop where
 nd:(p::lo::pa::ed::be::lg::bs).Nodup
section
variable{p e f g k m:DL}{c:db}
theorem BL.l(A:BL p e f g k m c):(p≠e/\p≠f/\p≠g/\p≠k/\p≠m/\p∉c)/\(e≠f/\e≠g/\e≠k/\e≠m/\e∉c)/\(f≠g/\f≠k/\f≠m/\f∉c)/\(g≠k/\g≠m/\g∉c)/\(k≠m/\k∉c)/\m∉c/\c.Nodup:=by
 have h:=A.nd;simp at h;exact⟨⟨h.1.1,h.1.2.1,h.1.2.2.1,h.1.2.2.2.1,h.1.2.2.2.2.1,h.1.2.2.2.2.2⟩,⟨h.2.1.1,h.2.1.2.1,h.2.1.2.2.1,h.2.1.2.2.2.1,h.2.1.2.2.2.2⟩,⟨h.2.2.1.1,h.2.2.1.2.1,h.2.2.1.2.2.1,h.2.2.1.2.2.2⟩,⟨h.2.2.2.1.1,h.2.2.2.1.2.1,h.2.2.2.1.2.2⟩,⟨h.2.2.2.2.1.1,h.2.2.2.2.1.2⟩,h.2.2.2.2.2.1,h.2.2.2.2.2.2⟩
end
noncomputable def pP(es:ci):db:=es.filterMap λv=>match v with|.r a=>some a|_=>none
structure fQ(C:DL)(H:Hp)(p:DL)(M Ed:db)(B:Nat)(Y:ac)(au:List am)(last:ac)(T:Nat)(dx lo pa ed be lg:DL)(bs:db)(es:ci):Prop where
 ob:gN C H p dx lo pa ed be lg B (au.map List.length) Y
 K:M=p::lo::pa::ed::be::lg::bs
 u:BL p lo pa ed be lg bs
 R:H ed=some (.l es)
 le:es.length=Y.length
 U:pP es=Ed
 S:es[0]?=some .a
 ev:oi H es Y au T
 en:∀(i:Nat)(a:DL),es[i]?=some (V.r a)->a∉M
 D:H be=some (.l<|bs.map V.r)
 P:bs.length=Y.length
 hk:∀(i:Nat)(b:DL),bs[i]?=some b->H b=some (.l<|iV<|WX Y i)
 y:H lg=some (.l<|last.map gV)
 Q:last.length=Y.length
def aM(C:DL)(H:Hp)(p:DL)(M Ed:db)(B:Nat)(Y:ac)(au:List am)(l:ac)(T:Nat):Prop:= ∃dx lo a e be lg b es,fQ C H p M Ed B Y au l T dx lo a e be lg b es
section
variable{C:DL}{H Z:Hp}{p:DL}{M c:db}{B:Nat}{Y:ac}{g:List am}{m:ac}{T:Nat}{n q w E F G:DL}{I:db}{l:ci}
theorem fQ.same(A:fQ C H p M c B Y g m T n q w E F G I l)(s:ar H Z):fQ C Z p M c B Y g m T n q w E F G I l:=
 ⟨A.ob.same s,A.K,A.u,s _ _ A.R,A.le,A.U,A.S,A.ev.same s,A.en,s _ _ A.D,A.P,λi b e=>s _ _<|A.hk i b e,s _ _ A.y,A.Q⟩
theorem aM.same(A:aM C H p M c B Y g m T)(s:ar H Z):aM C Z p M c B Y g m T:=by
 obtain⟨n,q,w,E,F,G,I,l,A⟩:=X9 A;exact⟨n,q,w,E,F,G,I,l,A.same s⟩
theorem fQ.live(A:fQ C H p M c B Y g m T n q w E F G I l):jQ M H:=λx h=>by
 rw[A.K] at h;rcases xW.mp h with rfl|h
 exact nT _ A.ob.ob nofun;rcases xW.mp h with rfl|h
 exact nT _ A.ob.d nofun;rcases xW.mp h with rfl|h
 exact nT _ A.ob.c nofun;rcases xW.mp h with rfl|h
 exact nT _ A.R nofun;rcases xW.mp h with rfl|h
 exact nT _ A.D nofun;rcases xW.mp h with rfl|h
 exact nT _ A.y nofun;obtain⟨i,a⟩:=WM.mp h;exact nT _ (A.hk i x a) nofun
theorem fQ.agH(A:fQ C H p M c B Y g m T n q w E F G I l){a:DL}(h:a∈c):∃xs,H a=some (.l xs):=by
 rw[<-A.U] at h;obtain⟨v,k,e⟩:=VG.mp h;obtain⟨i,d⟩:=WM.mp k;have e:v=.r a:=by
  cases v with
  |r b=>exact IN V.r (WV e)
  |_=>cases e
 subst e;have u:i≠0:=λz=>by rw[z,A.S] at d;cases d
 obtain⟨j,o,Z⟩:=A.ob.tr.up i (WY u) (by rw[<-A.le];exact(Wq.mp d).1);obtain⟨y,ps,s,t,zq⟩:=ZO (A.ev i j o);obtain⟨f,Z,Z,⟨xs,x,Z⟩,Z⟩:=ZE zq;rw[d] at f;cases f;exact⟨xs,x⟩
theorem fQ.keep(A:fQ C H p M c B Y g m T n q w E F G I l)(k:∀b o,b∈M\/b∈c->H b=some o->Z b=some o)(t:bR H Z):fQ C Z p M c B Y g m T n q w E F G I l:=by
 have f:=λb o h e=>k b o (.inl (A.K▸h)) e;refine⟨⟨f _ _ aJ A.ob.ob,f _ _ aJ A.ob.d,f _ _ aJ A.ob.c,A.ob.l,A.ob.tr,A.ob.r,A.ob.sz⟩,A.K,A.u,f _ _ aJ A.R,A.le,A.U,A.S,λi j e=>?_,A.en,f _ _ aJ A.D,A.P,λi b e=>f _ _ (by simp[Wv e])<|A.hk i b e,f _ _ aJ A.y,A.Q⟩;obtain⟨a,ps,v,x,zq⟩:=ZO (A.ev i j e);obtain⟨s,N,L,J,z⟩:=ZE zq;refine oT a ps v x s N L (J.keep (λo e=>k a o (.inr ?_) e) t) z;rw[<-A.U];exact VG.mpr (nT _ (Wv s) O)
theorem aM.keep(A:aM C H p M c B Y g m T)(k:∀b o,b∈M\/b∈c->H b=some o->Z b=some o)(t:bR H Z):aM C Z p M c B Y g m T:=by
 obtain⟨n,q,w,E,F,G,I,l,A⟩:=A;exact qC n q w E F G I l (A.keep k t)
theorem aM.own(A:aM C H p M c B Y g m T){a:DL}(f:H a=none):a∉M/\a∉c:=by
 obtain⟨n,q,w,E,F,G,I,l,A⟩:=X9 A;refine⟨A.live.no f,λh=>?_⟩;obtain⟨xs,e⟩:=A.agH h;rw[f] at e;cases e
theorem fQ.BM(A:fQ C H p M c B Y g m T n q w E F G I l)(b:aS M H Z):oi Z l Y g T:=λi j e=>by
 obtain⟨a,ps,d,f,zq⟩:=ZO (A.ev i j e);obtain⟨h,t,s,r,k⟩:=ZE zq;exact oT a ps d f h t s (r.keep (λo e=>b a o e<|A.en i a h)<|A.live.bB b) k
end
theorem Hc(T:bD Y):WX (Y++[some h]) i=WX Y i++(if h=i then [Y.length] else []):=by
 unfold WX;rw[W0,ZS,YL,YM];congr 1;refine Z1 λj a=>?_;rw[XG<|Yt.mp a];by_cases z:h=i;subst z;simp;simp[z]
theorem P2(T:bD Y)(h:Y.length<=i):WX Y i=[]:=by
 refine Wj.mpr λj a=>?_;have a:=Yt.mp a;intro e;have e:=by simpa using e
 by_cases z:j=0;subst z;rw[T.r] at e;cases e;obtain⟨k,b,c⟩:=T.up j (WY z) a;rw[b] at e;cases e;exact (XD _ (YY (Xf c a) h)).elim
section
variable{e:bu}{D:ET}{u:St}{H:Hp}{r:gu}{C p k l:DL}{g:jp}{f:Str}{rA:ci}
theorem QP(h:ae e x u H λv H1=>oU e.K .t [v] H1 Q):ae e (.t .t [x]) u H Q:=h
theorem yB(b:u[0]?=some (some<|.r p))(j:H p=some (.i C k g))(o:g.lookup f=some (.r l))(c:gT e.K C)(n:gI e.K C f)(m:H l=some (.l rA))(h:ae e a u H λy W=>∃xs,W l=some (.l xs)/\xs.length<sizeLine/\ax e r D u (upd W l<|.l<|xs++[y])):
  ax e (.d (.w .a (.f (.v 0) f) [a])::r) D u H:=
 dP (iy<|cM<|af b ⟨p,C,k,g,_,O,j,c,n,o,.inl ⟨O,_,ah.of m⟩,h⟩)
end
theorem He(T:bD Y)(b:h<Y.length):bD (Y++[some h]):=by
 refine⟨by rw[XG (Wn (Ww _) b)];exact T.r,λi c a=>?_⟩;rw[W0,ZS] at a;by_cases z:i<Y.length;rw[XG z];exact T.up i c z;have:i=Y.length:=by lia
 subst this;exact⟨h,aJ,b⟩
theorem QR{B:Int}:bY "here" (V.i k) (h6 B lo p e be lg)=h6 k lo p e be lg:=acM
structure kA(C:DL)(H:Hp)(p dx lo pa ed be lg:DL)(bs:db)(hv:Int)(ls ps es bv gs:ci)(ks:Nat->ci):Prop where
 a:H p=some (.i C dx<|h6 hv lo pa ed be lg)
 o:H lo=some (.l ls)
 r:H pa=some (.l ps)
 d:H ed=some (.l es)
 j:H be=some (.l bv)
 u:H lg=some (.l gs)
 h7:∀i b,bs[i]?=some b->H b=some (.l<|ks i)
section
variable{C:DL}{H Z:Hp}{p v g l m n q:DL}{f:db}{w:Int}{x E F G I xs:ci}{t:Nat->ci}
theorem kA.same(R:kA C H p v g l m n q f w x E F G I t)(s:ar H Z):kA C Z p v g l m n q f w x E F G I t:=
 ⟨s _ _ R.a,s _ _ R.o,s _ _ R.r,s _ _ R.d,s _ _ R.j,s _ _ R.u,λi b e=>s _ _<|R.h7 i b e⟩
theorem kA.set(A:BL p g l m n q f)(R:kA C H p v g l m n q f w x E F G I t):
  kA C (upd H g<|.l xs) p v g l m n q f w xs E F G I t/\kA C (upd H l<|.l xs) p v g l m n q f w x xs F G I t/\kA C (upd H m<|.l xs) p v g l m n q f w x E xs G I t/\kA C (upd H n<|.l xs) p v g l m n q f w x E F xs I t/\kA C (upd H q<|.l xs) p v g l m n q f w x E F G xs t:=by
 obtain⟨⟨a1,Z,Y,X,W,a6⟩,⟨P,N,M,L,V⟩,⟨K,J,D,U⟩,⟨B,y,T⟩,⟨s,S⟩,Q,g2⟩:=ZV A.l;have k:∀{c:DL},c∉f->∀i b,f[i]?=some b->upd H c (.l xs) b=some (.l<|t i):=λh i b e=>aY (λz=>h (z▸Wv e)) (R.h7 i b e);exact⟨⟨aY a1 R.a,aj,aY P.symm R.r,aY N.symm R.d,aY M.symm R.j,aY L.symm R.u,k V⟩,⟨aY Z R.a,aY P R.o,aj,aY K.symm R.d,aY J.symm R.j,aY D.symm R.u,k U⟩,⟨aY Y R.a,aY N R.o,aY K R.r,aj,aY B.symm R.j,aY y.symm R.u,k T⟩,⟨aY X R.a,aY M R.o,aY J R.r,aY B R.d,aj,aY s.symm R.u,k S⟩,aY W R.a,aY L R.o,aY D R.r,aY y R.d,aY s R.j,aj,k Q⟩
end
section
variable{K:Frag}{C f:DL}
inductive yC(C:DL)(vs:ci)(H:Hp)(Q:VK)(E:XK):Prop|i(p:DL)(M Ed:db)(B:Nat)(Y:ac)(au:List am)(t:ac)(T:Nat)(c:DL)(ps:bn)(l r:am)(_:vs=[.r p,.r c])(_:aM C H p M Ed B Y au t T)(_:bK H c ps l r)(_:c∉M)(_:au[B]?=some l)(_:aq ps<=T)(_:T<=100000)(_:Y.length<100000)(_:∀(b a:DL)(Z:Hp),aS M H Z->H b=none->H a=none->aM C Z p (M++[b]) (Ed++[a]) Y.length (Y++[some B]) (au++[r]) (t++[none]) T->(∃xs,Z a=some (.l xs)/\aF Z xs ps)->Q (.i (Y.length:Nat)) Z)
abbrev jJ(K:Frag)(C:DL)(f:DL)(E:XK):bu:=aH K [("sizes",ig)] [] [] [("need_over",C,tV C f),("many",C,pK C)] (E:=E)
theorem agJ(X:gM K C):bS (yC C) (λE=>jJ K C f E) Qf Qe:=by
 intro vs H Q E h;obtain⟨p,M,Ed,B,Y,au,k,T,c,ps,l,r,rfl,⟨dx,lo,F,v,be,lg,s,es,A⟩,hc,mM,hl,ht,hT,hn,q⟩:=h;have kE:(au.map List.length)[B]?=some l.length:=by rw[ZW,hl];rfl
 refine dP<|ko C (tV C f) O<|af O ⟨p,dx,_,O,A.ob.ob,hX,af O ⟨p,dx,lo,F,v,be,lg,B,_,Y,c,ps,l,r,l.length,O,A.ob,hc,(wO ht hT),kE,.inl ⟨O,λH1 s1=>?_⟩⟩⟩;have I:=A.same s1;have eV:=hc.same s1;refine aN<|tE C (pK C) O<|af O ⟨p,dx,_,O,I.ob.ob,hX,p,dx,lo,F,v,be,lg,B,_,Y,O,I.ob,?_⟩;obtain⟨⟨a1,a2,a3,a4,a5,a6⟩,⟨b1,b2,b3,b4,b5⟩,⟨c1,c2,c3,c4⟩,⟨d1,d2,d3⟩,⟨e1,e2⟩,g1,g2⟩:=ZV A.u.l;have eM:=A.K;have oq:p∈M/\lo∈M/\F∈M/\v∈M/\be∈M/\lg∈M/\∀b∈s,b∈M:=by rw[eM];simp;exact λb hb=>.inr (.inr<|.inr<|.inr<|.inr<|.inr hb)
 obtain⟨mp,ml,c',me,mb,mg,d'⟩:=ZV oq;have R1:kA C H1 p dx lo F v be lg s B _ _ es _ _ λi=>iV (WX Y i):=⟨I.ob.ob,I.ob.d,I.ob.c,I.R,I.D,I.y,I.hk⟩;have sz:=A.ob.sz;have vL:(au.map List.length).length=Y.length:=A.ob.l;have kI:au.length=Y.length:=by rw[<-vL,XN]
 have w:∀{n:Nat},n<=100000->n<sizeLine:=λh=>cQ (wO h (XA _ _));have tY:=I.live;refine yB O R1.a rm X.cl X.p R1.r<|cM<|af O ⟨p,C,dx,_,_,O,R1.a,X.cl,X.g,jw,_,R1.r,w (by rw[XN];exact sz),?_⟩;have ep:Y.map gV++[V.i (B:Nat)]=(Y++[some B]).map gV:=by rw[Z3];rfl
 rw[ep];have k2:aS M H1 (upd H1 F<|.l<|(Y++[some B]).map gV):=aS.upd c';have R2:=(R1.set (xs:=(Y++[some B]).map gV) A.u).2.1;have rB:=tY.upd (c:=F) (xs:=(Y++[some B]).map gV);have QS:=eV.keep (λo e=>k2 c o e mM) (tY.bB k2);generalize upd H1 F (.l<|(Y++[some B]).map gV)=W at k2 R2 QS rB⊢;obtain⟨xs,m,jH,iW⟩:=QS;refine yB O R2.a vF X.cl X.q R2.d<|QP<|af O ⟨xs,.inl<|ah.of m,λa fa=>nW _ (aY (λz=>by have:=R2.d;rw[z,fa] at this;cases this) R2.d) (w (by rw[A.le];exact sz)) ?_⟩;have s3:=Xq (o:=.l xs) fa;have J:a∉M:=rB.no fa;have vM:=(rB.same s3).upd (c:=v) (xs:=es++[V.r a]);have b':a≠v:=λz=>J (by rw[z];exact me);have k3:aS M W (upd (upd W a<|.l xs) v<|.l<|es++[V.r a]):=(aS.of s3).trans (aS.upd me);have vN:upd (upd W a<|.l xs) v (.l<|es++[V.r a]) a=some (.l xs):=aY b' aj;have R3:=((R2.same s3).set (xs:=es++[V.r a]) A.u).2.2.1;have QU:=k3 _ _ m mM;have Hf:=jH.mono (rB.bB k3);generalize upd (upd W a<|.l xs) v (.l<|es++[V.r a])=H3 at k3 vN R3 QU Hf vM⊢;have h':=k2.trans k3;have cl:ps.length<=2*aq ps+1:=lP ps "" iW.ok iW.c;refine yB O R3.a yv X.cl X.t R3.o<|bh<|bE ig O<|av<|af O<|aI ⟨c,xs,ps,O,QU,Hf,iW.ok,iW.c,ap,λt H4 s4 vO=>aC<|kq vO O ⟨_,s4 _ _ R3.o,w (by rw[XN];exact wO (VN vL) sz),?_⟩⟩;have eg:(qA ps).sum=r.length:=iW.run.gives;rw[eg];have el:(au.map List.length).map (λn=>V.i (n:Nat))++[V.i (r.length:Nat)]=((au++[r]).map List.length).map (λn=>V.i (n:Nat)):=by rw[Z3,Z3];rfl
 rw[el];generalize eL:((au++[r]).map List.length).map (λn=>V.i (n:Nat))=ll;have k5:aS M H3 (upd H4 lo<|.l ll):=(aS.of s4).trans (aS.upd ml);have BN:=k5 _ _ vN J;have R5:=((R3.same s4).set (xs:=ll) A.u).1;have BO:=(vM.same s4).upd (c:=lo) (xs:=ll);have QV:=Hf.mono (vM.bB k5);generalize upd H4 lo (.l ll)=H5 at k5 BN R5 BO QV⊢;have Hg:=h'.trans k5;refine yB O R5.a G3 X.cl X.BC R5.j<|d5<|aI ⟨I_,λb fb=>nW _ (aY (λz=>by have:=R5.j;rw[z,fb] at this;cases this) R5.j) (w (by rw[XN,A.P];exact sz)) ?_⟩;have s6:=Xq (o:=.l []) fb;have vP:b∉M:=BO.no fb;have nb:b≠be:=λz=>vP (by rw[z];exact mb);have eb:s.map V.r++[V.r b]=(s++[b]).map V.r:=by rw[Z3];rfl
 rw[eb];have na:a≠b:=λz=>by rw[z,fb] at BN;cases BN
 have k6:aS M H5 (upd (upd H5 b<|.l []) be<|.l<|(s++[b]).map V.r):=(aS.of s6).trans (aS.upd mb);have QW:upd (upd H5 b<|.l []) be (.l<|(s++[b]).map V.r) b=some (.l []):=aY nb aj;have yD:=k6 _ _ BN J;have R6:=((R5.same s6).set (xs:=(s++[b]).map V.r) A.u).2.2.2.1;have Hh:=(BO.same s6).upd (c:=be) (xs:=(s++[b]).map V.r);have QX:=QV.mono (BO.bB k6);generalize upd (upd H5 b<|.l []) be (.l<|(s++[b]).map V.r)=H6 at k6 QW yD R6 Hh QX⊢;have g':=Hg.trans k6;refine yB O R6.a G4 X.cl X.BD R6.u<|aC ⟨_,R6.u,w (by rw[XN,A.Q];exact sz),?_⟩;have k':k.map gV++[V.a]=(k++[none]).map gV:=by rw[Z3];rfl
 rw[k'];have k7:aS M H6 (upd H6 lg<|.l<|(k++[none]).map gV):=aS.upd mg;have QY:=k7 _ _ QW vP;have QZ:=k7 _ _ yD J;have G:=(R6.set (xs:=(k++[none]).map gV) A.u).2.2.2.2;have Hi:=Hh.upd (c:=lg) (xs:=(k++[none]).map gV);have Q0:=QX.mono (Hh.bB k7);generalize upd H6 lg (.l<|(k++[none]).map gV)=H7 at k7 QY QZ G Hi Q0⊢;have f':=g'.trans k7;have Hj:=A.ob.r;have Q2:B<s.length:=by rw[A.P];exact Hj
 have eh:s[B]?=some s[B]:=Xd Q2;have qh:=G.h7 B _ eh;have mh:s[B]∈M:=d' _ (Wv eh);have l':(iV<|WX Y B).length<=100000:=by
  rw[XN];have:=jL (λj=>Y[j]?==some (some B)) (List.range Y.length);rw[Wd] at this;exact wO this sz
 have ai:fU ((s++[b]).map V.r) ((B:Nat):Int)=some (V.r s[B]):=dv (by rw[ZW,XG Q2,eh];rfl);refine dP<|iy<|bh<|cM<|af O ⟨p,C,dx,_,_,O,G.a,X.cl,X.BC,G3,cM<|af O ⟨p,C,dx,_,_,O,G.a,X.cl,X.g,jw,cK G.j ai ⟨.inl ⟨O,_,ah.of qh⟩,af O (nW _ qh (w l') ?_)⟩⟩⟩;have j':iV (WX Y B)++[V.i (Y.length:Nat)]=iV (WX (Y++[some B]) B):=by rw[Hc A.ob.tr,Id O];unfold iV;rw[Z3];rfl
 rw[j'];have k8:aS M H7 (upd H7 s[B] (.l<|iV<|WX (Y++[some B]) B)):=aS.upd mh;have nh:∀{x:DL},x∉s->x≠s[B]:=λh z=>h (by rw[z];exact Wv eh);have yE:=k8 _ _ QY vP;have Hk:=k8 _ _ QZ J;have q8:∀(i:Nat)(x:DL),s[i]?=some x->upd H7 s[B] (.l<|iV<|WX (Y++[some B]) B) x=some (.l<|iV<|WX (Y++[some B]) i):=λi x hi=>by
  by_cases z:i=B;subst z;rw[eh] at hi;cases hi;exact aj;have iL:x≠s[B]:=λZ=>z ((List.getElem?_inj (Wq.mp hi).1 g2).mp (by rw[hi,eh,Z]));rw[ay iL,G.h7 i x hi,Hc A.ob.tr,Ix<|λe=>z e.symm,Y3]
 have L:kA C (upd H7 s[B] (.l<|iV<|WX (Y++[some B]) B)) p dx lo F v be lg s B ll _ _ _ _ λi=>iV (WX (Y++[some B]) i):=⟨aY (nh a6) G.a,aY (nh b5) G.o,aY (nh c4) G.r,aY (nh d3) G.d,aY (nh e2) G.j,aY (nh g1) G.u,q8⟩;have Q3:=Hi.upd (c:=s[B]) (xs:=iV (WX (Y++[some B]) B));have Q4:=Q0.mono (Hi.bB k8);generalize upd H7 s[B] (.l<|iV<|WX (Y++[some B]) B)=H8 at k8 yE Hk L Q3 Q4⊢;have e':=f'.trans k8;refine oh<|af O<|af O ⟨p,C,dx,_,O,L.a,X.cl,X.g,(by show 6<1000;decide),?_⟩;rw[QR];have k9:aS M H8 (upd H8 p<|.i C dx<|h6 (Y.length:Nat) lo F v be lg):=aS.upd mp;have Q5:=e'.trans k9;have i':oi (upd H8 p<|.i C dx<|h6 (Y.length:Nat) lo F v be lg) es Y au T:=I.BM Q5;have Q6:=Q4.mono (Q3.bB k9);refine di<|af O<|q b a _ ((aS.of s1).trans Q5) ?_ ?_ ⟨dx,lo,F,v,be,lg,s++[b],es++[V.r a],?_⟩ (nT xs (aY (λz=>J (by rw[z];exact mp)) Hk) Q6);cases hz:H b with
 |none=>rfl
 |some o=>
  have h5:=Hg b o (s1 _ _ hz) vP;rw[fb] at h5;cases h5
 cases hz:H a with
 |none=>rfl
 |some o=>
  have h5:=k2 a o (s1 _ _ hz) J;rw[fa] at h5;cases h5
 have Gh:Y.length+1<=100000:=hn;refine⟨⟨aj,(by rw[eL];exact aY (KF a1) L.o),aY (KF a2) L.r,?_,He A.ob.tr Hj,?_,?_⟩,?_,⟨?_⟩,aY (KF a3) L.d,?_,(by unfold pP;rw[List.filterMap_append];show pP es++[a]=_;rw[A.U]),(by rw[XG (by rw[A.le];exact Wn (Ww _) Hj)];exact A.S),?_,?_,aY (KF a4) L.j,?_,?_,aY (KF a5) L.u,?_⟩;rw[XN,W0,W0,kI];rfl;rw[W0];exact Yq _;rw[W0];exact Gh;rw[eM];rfl;have h:=A.u.nd;rw[<-eM] at h;have:p::lo::F::v::be::lg::(s++[b])=M++[b]:=by rw[eM];rfl
 rw[this];exact Y0.mpr ⟨h,aJ,λx m y hy e=>vP (by rw[<-Yd.mp hy,<-e];exact m)⟩;rw[W0,W0,A.le];rfl;intro i j BP;by_cases z:i<Y.length;rw[XG z] at BP;obtain⟨a',iN,lj,li,zq⟩:=ZO (i' i j BP);obtain⟨h1,h2,h3,h4,h5⟩:=ZE zq;have jl:=(Wq.mp h2).1;exact oT a' iN lj li (by rw[XG (by rw[A.le];exact z)];exact h1) (by rw[XG jl];exact h2) (by rw[XG (by rw[kI];exact z)];exact h3) h4 h5;have zi:i=Y.length:=by
  have:=(Wq.mp BP).1;rw[W0,ZS] at this;lia
 subst zi;have:B=j:=by simpa using BP
 subst this;exact oT a ps l r (by rw[<-A.le];simp) (by rw[XG (by rw[kI];exact Hj)];exact hl) (by rw[<-kI];simp) (nW xs (aY (λz=>J (by rw[z];exact mp)) Hk) Q6 iW) ht;intro i x m;have nx:x∉M/\x≠b:=by
  by_cases z:i<es.length;rw[XG z] at m;have h1:=A.en i x m;refine⟨h1,λZ=>?_⟩;obtain⟨j,hj⟩:∃j,Y[i]?=some (some j):=by
   by_cases z0:i=0;rw[z0,A.S] at m;cases m;obtain⟨j,q1,_⟩:=A.ob.tr.up i (WY z0) (by rw[<-A.le];exact z);exact o3 j q1
  obtain⟨a',iN,lj,li,zq⟩:=ZO (I.ev i j hj);obtain⟨fX,_,_,h4,_⟩:=ZE zq;rw[m] at fX;cases fX;obtain⟨N,hy,_⟩:=h4;have:=Hg _ _ hy h1;rw[Z,fb] at this;cases this;have zi:i=es.length:=by
   have:=(Wq.mp m).1;rw[W0,ZS] at this;lia
  subst zi;have:a=x:=by simpa using m
  subst this;exact⟨J,na⟩
 intro h;rcases X0.mp h with h|h
 exact nx.1 h;exact nx.2 (Yd.mp h);rw[W0,W0,A.P];rfl;intro i x m;by_cases z:i<s.length;rw[XG z] at m;exact aY (λZ=>a6 (by rw[<-Z];exact Wv m))<|L.h7 i x m;have zi:i=s.length:=by
  have:=(Wq.mp m).1;rw[W0,ZS] at this;lia
 subst zi;have:b=x:=by simpa using m
 subst this;rw[A.P,Hc A.ob.tr,P2 A.ob.tr<|VL _,Ix (ZH Hj)];exact aY (λZ=>vP (by rw[Z];exact mp)) yE;rw[W0,W0,A.Q];rfl
end
section
open PyProof.Rows
noncomputable def Q7:bi:=["self","way","steps","changes","change","node","other"]
noncomputable def Q8:gu:=
 [.a 2 (.x QM [.v 1,(.s (.v 1) (some (.c (.i 1))) none)]),
 .a 3 (.L [(.l 0 [(.L [(.T [(.c<|.s "keep"),(.i (.f (.v 0) "lengths")<|.f (.v 0) "here")])])])]),
 .a 4 (.l 1 [(.b .Add (.v 3)<|.C (some 2) [("self",0)] .l [.v 2] none<|.a 0 "edge" (.v 2) [.v 0,.v 1])]),
 .l [5,6] .l [.v 2] [.i (.p .Eq (.i (.f (.v 0) "parents")<|.v 5)<|.v 6) [.s (.f (.v 0) "last_gone") (.v 6)<|.v 5] []],
 .f (.v 0) "here" (.i (.v 1)<|.n<|.c<|.i 1),
 .r (.v 4)]
noncomputable def UC:bi:=["neat","joined_all"]
noncomputable def agW:bi:=["list","zip"]
noncomputable def agX:bi:=["edge"]
end
def pQ(H:Hp):ci->Cl->Prop:=Paired λv p=>∃t,v=.r t/\H t=some (.t [p.1,p.2])
theorem pQ.same(s:bR H Z):∀{xs:ci}{ps:Cl},pQ H xs ps->pQ Z xs ps:=by
 intro Y Y h;induction h with
 |nil=>exact .nil
 |cons x Y i=>obtain⟨t,e,h⟩:=x;exact .cons ⟨t,e,s _ _ h⟩ i
theorem pQ.at:∀{xs:ci}{ps:Cl}{i:Nat}{v:V},pQ H xs ps->xs[i]?=some v->∃p t,ps[i]?=some p/\v=.r t/\H t=some (.t [p.1,p.2]):=by
 intro Y Y i v h;induction h generalizing i with
 |nil=>intro e;simp at e
 |cons x Y c=>
  intro e;cases i with
  |zero=>obtain⟨t,d,h⟩:=x;simp at e;subst e;exact oW _ t O d h
  |succ i=>
   obtain⟨p,t,a,b⟩:=c (by simpa using e);exact pI p t (by simpa using a) b
theorem agY:∀{xs:List α}{N:List c},xs.length=N.length->(∀(i:Nat) x y,xs[i]?=some x->N[i]?=some y->R x y)->Paired R xs N:=by
 intro xs;induction xs with
 |nil=>
  intro N h Y;cases N with
  |nil=>exact .nil
  |cons Y Y=>cases h
 |cons x xs e=>
  intro N h k;cases N with
  |nil=>cases h
  |cons y N=>exact .cons (k 0 x y O O) (e (Nat.succ.inj h) λi a b g f=>k (i+1) a b (by simpa using g) (by simpa using f))
section
variable{K:Frag}
theorem agZ{Q:ci->Hp->DL->Prop}{k:TE}{a:DL}(j:H a=some (.l xs))(o:pQ H xs g)(R:g.length<=1000000)(P:Nat->ci->Hp->Prop)(C:P 0 [] H)(e:∀i c N W,g[i]?=some c->ar H W->P i N W->∀r:VK,(∀y d,ar W d->P (i+1) (N++[y]) d->r y d)->k (some c.1::some c.2::b_ u fv) W r)(n:∀N W p,ar H W->P g.length N W->N.length=g.length->W p=none->Q N W p):∃h:Nat->Nat->ci->Hp->Prop,(∃m,h 0 m [] H)/\∀i m N W,h i m N W->
   ((eZ K a).stop i W/\∀p,W p=none->Q N W p)\/
   ((eZ K a).go i W/\∀x d,(eZ K a).gQ i W x d->jF K (some 2) x d λz=>k_ none (z.map some++b_ u fv) d λb v=>
    if b=true then k (z.map some++b_ u fv) v λy M=>N.length<sizeLine/\∃f,f<m/\h (i+1) f (N++[y]) M else ∃f,f<m/\h (i+1) f N v):=by
 have D:=KB o;refine nT (λi m N W=>m=xs.length - i/\i<=xs.length/\N.length=i/\ar H W/\P i N W) (rZ _ O (Ww _) O (ar.refl _) C) ?_;rintro i m N W zq;obtain⟨rfl,S,F,s,p⟩:=ZE zq;by_cases L:i<xs.length;refine .inr ⟨pI xs (xs[i]) (ah.of<|s _ _ j) aJ,?_⟩;rintro x d ⟨rfl,G⟩;obtain⟨c,t,w,rfl,I⟩:=pQ.at o (G xs<|ah.of<|s _ _ j);exact oZ t _ O (aB.of<|s _ _ I) O (e i c N _ w s p _ λy T A B=>qH (cQ ap) (xs.length - (i+1)) ap ⟨O,L,by simp[F],s.trans A,B⟩);have E:i=xs.length:=WT S (Zw L)
 subst E;refine .inl ⟨nT xs (ah.of<|s _ _ j) (VL _),λq J=>n N _ q s ?_ ap J⟩;rw[<-D];exact p
end
def gz(Y:ac)(n m:Nat):Prop:=Y[m]?=some (some n)\/Y[n]?=some (some m)
def ag0(Y:ac)(s:am):Prop:= ∀i n m,s[i]?=some n->s[i+1]?=some m->gz Y n m
noncomputable def jx(Y:ac)(l:ac)(p:Nat×Nat):ac:=if Y[p.1]?=some (some p.2) then l.set p.2 (some p.1) else l
def rC(Y:ac)(n:am)(l:ac):ac:=(n.zip n.tail).foldl (jx Y) l
theorem Hl:∀(ps:List (Nat×Nat))(l:ac),(ps.foldl (jx Y) l).length=l.length
 |[],_=>O
 |p::ps,l=>by
  rw[YF,Hl ps];unfold jx;split;rw[gS];rfl
section
variable{K:Frag}{C:DL}
theorem UI(n:Nat):aq (fK [.k (n:Int)])=0:=by
 rw[xJ [.k (n:Int)] (by intro p h;cases Yd.mp h;show(0:Int)<=_;exact VI _)];rfl
theorem ag2{b:DL}(h:H b=some (.l [.r t]))(d:H t=some (.t [.s "keep",.i (l.length:Int)]))(j:l.length<=100000)(q:∀(c:DL)(Z:Hp),ar H Z->H c=none->bK Z c (fK [.k (l.length:Int)]) l l->Q (.r c) Z):mw [.r b] H Q E:=by
 refine⟨b,[.r t],[.k (l.length:Int)],O,h,.cons ⟨t,O,d⟩ .nil,aJ,(by show 0+0<=100000;decide),λc Z N s f g a=>q c Z s f ⟨N,g,?_,Qv⟩⟩;rw[vc [.k (l.length:Int)] (by intro p e;cases Yd.mp e;show(0:Int)<=_;exact VI _)] at a;exact a
end
def gc(R:Nat->Nat->Prop):am->Prop
 |a::b::r=>R a b/\gc R (b::r)
 |_=>True
theorem Hn:∀(l:am),gc R (l++[m])->gc R (m::r)->gc R (l++m::r)
 |[],_,h=>h
 |[a],h,c=>⟨h.1,c⟩
 |a::b::l,h,c=>⟨h.1,Hn (b::l) h.2 c⟩
theorem ag3(a:R m k):∀(l:am),gc R (l++[m])->gc R (l++[m]++[k]):=λl h=>by
 rw[VD];exact Hn l h ⟨a,trivial⟩
theorem BQ:∀(p:am),gc R (p++x)->gc R x
 |[],h=>h
 |[a],h=>by cases x with
  |nil=>trivial
  |cons b r=>exact h.2
 |a::b::p,h=>BQ (b::p) h.2
theorem yF:∀(l:am),gc R l->gc (λa b=>R b a) l.reverse
 |[],_=>trivial
 |[a],_=>trivial
 |a::b::r,h=>by
  have i:=yF (b::r) h.2;rw[CR] at i⊢;rw[CR];exact ag3 (R:=λa b=>R b a) h.1 r.reverse i
theorem Ho{S:Nat->Nat->Prop}(h:∀a b,R a b->S a b):∀(l:am),gc R l->gc S l
 |[],_=>trivial
 |[a],_=>trivial
 |a::b::r,k=>⟨h _ _ k.1,Ho h (b::r) k.2⟩
theorem Hq:∀(l:am),gc R l->∀i n m,l[i]?=some n->l[i+1]?=some m->R n m
 |[],_,i,n,m,h,_=>by simp at h
 |[a],_,i,n,m,_,h=>by simp at h
 |a::b::r,k,0,n,m,h,c=>by simp at h c;subst h c;exact k.1
 |a::b::r,k,i+1,n,m,h,c=>Hq (b::r) k.2 i n m (by simpa using h) (by simpa using c)
section
variable{Y:ac}
theorem lQ(T:bD Y):∀n,n<Y.length->gc (λa b=>Y[a]?=some (some b)) (ups Y n n)/\(∀k∈ups Y n n,k<Y.length)/\(∃r,ups Y n n=n::r)/\∃q,ups Y n n=q++[0]:=by
 intro n;induction n using Nat.strongRecOn with
 |ind n i=>
  intro c;by_cases z:n=0;subst z;exact⟨trivial,λk h=>by cases Yd.mp h;exact c,⟨[],O⟩,⟨[],O⟩⟩;obtain⟨j,f,D,e⟩:=kz T (WY z) c;obtain⟨d,g,⟨r,l⟩,⟨q,m⟩⟩:=Xn (i j D (Xf D c));rw[e];refine⟨?_,λk h=>?_,⟨_,O⟩,⟨n::q,m▸O⟩⟩;rw[l] at d⊢;exact⟨f,d⟩;rcases xW.mp h with rfl|h
  exact c;exact g k h
theorem BR:∀(x y:am)(m:Nat)(xs N:am),x=m::xs->y=m::N->∃d g f p q,V0 x y=(d::g,d::f)/\x=p++d::g/\y=q++d::f:=by
 intro x;induction x with
 |nil=>intro y m xs N h;cases h
 |cons a as i=>
  intro y m xs N l k;cases l;subst k;match as,N,i with
  |[],N,_=>exact⟨a,[],N,[],[],vG a _,O,O⟩
  |b::s,[],_=>exact⟨a,b::s,[],[],[],BG _ a,O,O⟩
  |b::s,c::j,i=>
   by_cases z:b=c;subst z;obtain⟨d,g,f,p,q,zq⟩:=Yj (i (b::j) b s j O O);obtain⟨e,o,n⟩:=Xb zq;exact⟨d,g,f,a::p,a::q,by rw[ZR,e],o▸O,n▸O⟩;exact⟨a,b::s,c::j,[],[],BH z,O,O⟩
theorem Hr(T:bD Y)(l:n<Y.length)(o:d<Y.length):∃(j v:am)(m:Nat),dz Y n d=j++m::v/\(∃p,ups Y n n=j++m::p)/\(∃p,ups Y d d=v.reverse++m::p)/\gc (gz Y) (dz Y n d)/\(∃r,dz Y n d=n::r)/\(∃q,dz Y n d=q++[d])/\(∀k∈dz Y n d,k<Y.length)/\j.length+v.length<=n+d:=by
 obtain⟨C,s,⟨K,f⟩,⟨A,G⟩⟩:=Xn (lQ T n l);obtain⟨E,D,⟨J,i⟩,⟨z,F⟩⟩:=Xn (lQ T d o);obtain⟨m,xs,N,p,q,zq⟩:=Yj (BR (ups Y n n).reverse (ups Y d d).reverse 0 A.reverse z.reverse (by rw[G,WC];rfl) (by rw[F,WC];rfl));obtain⟨es,w,t⟩:=Xb zq;have e:dz Y n d=xs.reverse++m::N:=by
  unfold dz;rw[es];rw[CR,VD];rfl
 have u:=by
  have:=IN List.reverse w;rw[X4,WC,CR,VD] at this;exact this
 have g:=by
  have:=IN List.reverse t;rw[X4,WC,CR,VD] at this;exact this
 have I:gc (gz Y) (xs.reverse++[m]):=by
  have x:=BQ p (w▸yF _ C);have:=yF _ x;rw[CR] at this;exact Ho (λa b h=>.inr h) _ this
 have H:gc (gz Y) (m::N):=Ho (λa b h=>.inl h) _ (BQ q (t▸yF _ E));have Q:=rn T n l;have B:=rn T d o;rw[u] at Q;rw[g] at B;simp at Q B;refine rR xs.reverse N m e (o3 _ u) (o3 _ g) (e▸Hn _ I H) ?_ ?_ ⟨?_,by rw[Yb];lia⟩;rw[u] at f;rw[e];cases x:xs.reverse with
 |nil=>rw[x] at f;cases f;exact o3 _ O
 |cons a b=>rw[x] at f;cases f;exact o3 _ O
 rw[g] at i;rw[e];cases y:N.reverse with
 |nil=>
  have:=List.reverse_eq_nil_iff.mp y;subst this;cases i;exact o3 _ O
 |cons a b=>
  rw[y] at i;have:N=b.reverse++[a]:=by rw[<-X4 N,y,CR]
  cases i;exact o3 (xs.reverse++m::b.reverse) (by rw[this,VD];rfl)
 intro k c;rw[e] at c;rcases X0.mp c with c|c
 exact s k (u▸Wu _ c);rcases xW.mp c with rfl|c
 exact s k (u▸Za _ Y1);exact D k (g▸Wu _ (Wx.mpr c))
variable{K:Frag}{C g:DL}
abbrev z1:jp:=[("here",.i 0)]
abbrev z2(lo:DL):jp:=[("here",.i 0),("lengths",.r lo)]
abbrev z3(lo p:DL):jp:=[("here",.i 0),("lengths",.r lo),("parents",.r p)]
abbrev z4(lo p e:DL):jp:=[("here",.i 0),("lengths",.r lo),("parents",.r p),("edges",.r e)]
abbrev z5(lo p e be:DL):jp:=[("here",.i 0),("lengths",.r lo),("parents",.r p),("edges",.r e),("below",.r be)]
inductive Ht(C g:DL)(vs:ci)(H:Hp)(Q:VK)(E:XK):Prop|i(p dx:DL)(v:V)(_:vs=[.r p,v])(_:H p=some (.i C dx []))(_:((∃(x:am)(T:Nat),v=.i (x.length:Nat)/\∀(M:db)(Z:Hp),aE p H Z->(∀a∈M,a≠p->H a=none)->aM C Z p M [] 0 [none] [x] [none] T->Q .a Z)\/((tw v H\/∃i:Int,v=.i i/\i<0)/\E (.ref g) none H)))
theorem Q_{a:DL}(b:aE p H Z)(f:Z a=none)(n:a≠p):H a=none:=by
 cases h:H a with
 |none=>rfl
 |some o=>rw[b a o h n] at f;cases f
theorem yG{a:DL}(b:aE p H H1)(f:H1 a=none)(g:H1 p=some (.i C dx s)):a≠p/\H a=none/\aE p H (upd (upd H1 a<|.l xs) p<|.i C dx fs')/\upd (upd H1 a<|.l xs) p (.i C dx fs') p=some (.i C dx fs')/\upd (upd H1 a<|.l xs) p (.i C dx fs') a=some (.l xs)/\
  ∀c o,H1 c=some o->c≠p->c≠a/\upd (upd H1 a<|.l xs) p (.i C dx fs') c=some o:=by
 have n:a≠p:=λz=>by lia
 refine⟨n,Q_ b f n,(b.same<|Xq f).trans aE.upd,aj,aY n aj,λc o e d=>⟨λz=>ap,aY d<|Xq f _ _ e⟩⟩
abbrev aqQ(K:Frag)(g:DL)(E:XK):bu:=aH K [("is_whole",qN)] [] (et:=[("NoPlace",g)]) (E:=E)
theorem ag4(X:gM K C):bS (Ht C g) (λE=>aqQ K g E) P8 P7:=by
 intro vs H Q E h;obtain⟨p,dx,v,rfl,hp,h⟩:=h;rcases h with⟨x,T,rfl,q⟩|⟨N,q⟩
 refine cx (xO<|qL<|sX qN O<|av<|af O<|aI ⟨_,O,.inl ⟨_,O,qK<|iF (bf<|af O<|aC<|AU ⟨_,O,iF (d9 ?_)<|VH (Int.not_lt_of_ge (VI _))⟩) O⟩⟩);refine oh<|aC<|af O ⟨p,C,dx,_,O,hp,X.cl,X.g,(by show 0<1000;decide),?_⟩;rw[show bY "here" (V.i 0) []=z1 from O];have b1:aE p H (upd H p<|.i C dx z1):=aE.upd;have A:upd H p (.i C dx z1) p=some (.i C dx z1):=aj;generalize upd H p (.i C dx z1)=H1 at b1 A⊢;refine oh<|d5<|av<|af O<|aI ⟨eE,λlo f2=>af O (pE p C dx _ O (aY (λz=>by rw[z,f2] at A;cases A) A) X.cl X.t (by show 1<1000;decide) ?_)⟩;have e2:bY "lengths" (V.r lo) (z1)=z2 lo:=by rw[eK (by decide+kernel)];rfl
 rw[e2];obtain⟨B,r2,b2,u,l2,w2⟩:=Yk (yG (fs':=z2 lo) (xs:=[V.i (x.length:Nat)]) b1 f2 A);clear w2;generalize upd (upd H1 lo<|.l [V.i (x.length:Nat)]) p (.i C dx<|z2 lo)=W at b2 u l2⊢;refine oh<|d5<|av<|aC<|aI ⟨eE,λc f3=>af O (pE p C dx _ O (aY (λz=>by rw[z,f3] at u;cases u) u) X.cl X.p (by show 2<1000;decide) ?_)⟩;have e3:bY "parents" (V.r c) (z2 lo)=z3 lo c:=by rw[eK (by decide+kernel),eK (by decide+kernel)];rfl
 rw[e3];obtain⟨G,r3,b3,n,l3,w3⟩:=Yk (yG (fs':=z3 lo c) (xs:=[V.a]) b2 f3 u);obtain⟨j',Ra⟩:=w3 _ _ l2 B;clear w3;generalize upd (upd W c<|.l [V.a]) p (.i C dx<|z3 lo c)=H3 at b3 n l3 Ra⊢;refine oh<|d5<|av<|aC<|aI ⟨eE,λd f4=>af O (pE p C dx _ O (aY (λz=>by rw[z,f4] at n;cases n) n) X.cl X.q (by show 3<1000;decide) ?_)⟩;have e4:bY "edges" (V.r d) (z3 lo c)=z4 lo c d:=O;rw[e4];obtain⟨M,r4,S,D,I,L⟩:=Yk (yG (fs':=z4 lo c d) (xs:=[V.a]) b3 f4 n);obtain⟨i',U⟩:=L _ _ Ra B;obtain⟨h',J⟩:=L _ _ l3 G;clear L;generalize upd (upd H3 d<|.l [V.a]) p (.i C dx<|z4 lo c d)=H4 at S D I U J⊢;refine oh<|d5<|av<|d5<|aI ⟨I_,λb f=>aI ⟨eE,λbe R=>?_⟩⟩;have F:b≠p:=λz=>by rw[<-z,f] at D;cases D
 have rb:=Q_ S f F;have s:=Xq (o:=.l []) f;have Rb:=S.same s;have y:=s _ _ D;have BW:upd H4 b (.l []) b=some (.l []):=aj;have ul:lo≠b:=λz=>by rw[z,f] at U;cases U
 have up:c≠b:=λz=>by rw[z,f] at J;cases J
 have ue:d≠b:=λz=>by rw[z,f] at I;cases I
 have Rc:=s _ _ U;have Rf:=s _ _ J;have Rg:=s _ _ I;generalize upd H4 b (.l [])=H4' at Rb y BW Rc Rf Rg R s⊢;refine(af O (pE p C dx _ O (aY (λz=>by rw[z,R] at y;cases y) y) X.cl X.BC (by show 4<1000;decide) ?_));have e5:bY "below" (V.r be) (z4 lo c d)=z5 lo c d be:=O;rw[e5];obtain⟨n5,r5,b5,m,l5,k⟩:=Yk (yG (fs':=z5 lo c d be) (xs:=[V.r b]) Rb R y);obtain⟨g',Rh⟩:=k _ _ Rc B;obtain⟨f',Ri⟩:=k _ _ Rf G;obtain⟨e',Rj⟩:=k _ _ Rg M;obtain⟨d',Rk⟩:=k _ _ BW F;clear k;generalize upd (upd H4' be<|.l [V.r b]) p (.i C dx<|z5 lo c d be)=H5 at b5 m l5 Rh Ri Rj Rk⊢;refine oh<|d5<|av<|aC<|aI ⟨eE,λlg f6=>af O (pE p C dx _ O (aY (λz=>by rw[z,f6] at m;cases m) m) X.cl X.BD (by show 5<1000;decide) ?_)⟩;have e6:bY "last_gone" (V.r lg) (z5 lo c d be)=h6 (0:Nat) lo c d be lg:=O;rw[e6];obtain⟨n6,r6,b6,o6,l6,w⟩:=Yk (yG (fs':=h6 (0:Nat) lo c d be lg) (xs:=[V.a]) b5 f6 m);obtain⟨c',Rl⟩:=w _ _ Rh B;obtain⟨b',Rm⟩:=w _ _ Ri G;obtain⟨a',Rn⟩:=w _ _ Rj M;obtain⟨Z,Ro⟩:=w _ _ Rk F;obtain⟨Y,Rp⟩:=w _ _ l5 n5;clear w;generalize upd (upd H5 lg<|.l [V.a]) p (.i C dx<|h6 (0:Nat) lo c d be lg)=H6 at b6 o6 l6 Rl Rm Rn Ro Rp⊢;refine q [p,lo,c,d,be,lg,b] H6 b6 (λa ha na=>?_) (qC dx lo c d be lg [b] [V.a] ⟨ ⟨o6,Rl,Rm,O, ⟨O,λi h0 P=>?_⟩,Nat.zero_lt_one,(by show 1<=100000;decide)⟩,O, ⟨?_⟩,Rn,O,O,O,λi j e=>?_,λi a e=>?_,Rp,O,λi a e=>?_,l6,O⟩);simp only[xW,Zz,Os] at ha;rcases ha with rfl|rfl|rfl|rfl|rfl|rfl|rfl
 exact absurd O na;exact r2;exact r3;exact r4;exact r5;exact r6;exact rb;exact absurd P (by show ¬i<1;exact Zq (X5 h0));simp;exact⟨⟨KF B,KF G,KF M,KF n5,KF n6,KF F⟩,⟨j',i',g',c',ul⟩,⟨h',f',b',up⟩,⟨e',a',ue⟩,⟨Y,KF d'⟩,KF Z⟩;cases i with
 |zero=>cases e
 |succ i=>simp at e
 cases i with
 |zero=>cases e
 |succ i=>simp at e
 cases i with
 |zero=>cases e;exact Ro
 |succ i=>simp at e
 rcases N with N|⟨i,rfl,P⟩
 exact cx (xO<|qL<|sX qN O<|av<|af O<|aI ⟨_,O,.inr ⟨N,qK<|iT (iT ⟨eE,q⟩ O) O⟩⟩);exact cx (xO<|qL<|sX qN O<|av<|af O<|aI ⟨_,O,.inl ⟨_,O,qK<|iF (bf<|af O<|aC<|AU ⟨_,O,iT ⟨eE,q⟩<|Z2 P⟩) O⟩⟩)
end
section
open PyProof.Rows
noncomputable def Rq:bi:=["_law_above","_law_node","_law_found"]
noncomputable def Rr:gu:=
 [.a 2 (.L [.v 1]),
 .m (.p .Gt (.i (.v 2)<|.n<|.c<|.i 1)<|.c<|.i 0) [.d<|.w .a (.v 2) [(.i (.v 0)<|.i (.v 2)<|.n<|.c<|.i 1)]],
 .r (.v 2)]
end
section
variable{Y:ac}
theorem tZ(T:bD Y):∀n,n<Y.length->∀k∈ups Y n n,k<=n:=by
 intro n;induction n using Nat.strongRecOn with
 |ind n i=>
  intro a k h;by_cases z:n=0;subst z;cases Yd.mp h;exact VL _;obtain⟨j,b,D,e⟩:=kz T (WY z) a;rw[e] at h;rcases xW.mp h with rfl|h
  exact VL _;have:=i j D (Xf D a) k h;exact Zx (Wn this D)
theorem BX(T:bD Y):∀n,n<Y.length->∀k∈ups Y n n,∃q,ups Y n n=q++ups Y k k/\∀j∈q,k<j:=by
 intro n;induction n using Nat.strongRecOn with
 |ind n b=>
  intro d k h;by_cases z:n=0;subst z;cases Yd.mp h;exact⟨[],O,nofun⟩;obtain⟨j,g,D,e⟩:=kz T (WY z) d;rw[e] at h;rcases xW.mp h with rfl|R
  exact⟨[],O,nofun⟩;obtain⟨q,f,c⟩:=b j D (Xf D d) k R;refine⟨n::q,by rw[e,f];rfl,λi a=>?_⟩;rcases xW.mp a with rfl|a
  have:=tZ T j (Xf D d) k R;exact Wn this D;exact c i a
theorem Ru(r:Nat)(x y:am):∀c:am,V0 (c++r::x) (c++r::y)=V0 (r::x) (r::y)
 |[]=>O
 |[a]=>ZR
 |a::b::c=>by
  have:=Ru r x y (b::c);show V0 (a::b::(c++r::x)) (a::b::(c++r::y))=_;rw[ZR];exact this
theorem Rv(T:bD Y)(g:n<Y.length)(j:d<Y.length):∃(u v:am)(m:Nat)(p q:am),dz Y n d=u++m::v/\ups Y n n=u++m::p/\ups Y d d=v.reverse++m::q/\(∀k∈u,k∉ups Y d d)/\m∉u/\m∉v:=by
 obtain⟨Z,H,⟨W,e1⟩,⟨B,J⟩⟩:=Xn (lQ T n g);obtain⟨g1,g2,⟨V,e2⟩,⟨A,I⟩⟩:=Xn (lQ T d j);obtain⟨m,xs,N,p,q,zq⟩:=Yj (BR (ups Y n n).reverse (ups Y d d).reverse 0 B.reverse A.reverse (by rw[J,WC];rfl) (by rw[I,WC];rfl));obtain⟨es,L,K⟩:=Xb zq;have M:dz Y n d=xs.reverse++m::N:=by
  unfold dz;rw[es];rw[CR,VD];rfl
 have e:=by
  have:=IN List.reverse L;rw[X4,WC,CR,VD] at this;exact this
 have s:=by
  have:=IN List.reverse K;rw[X4,WC,CR,VD] at this;exact this
 have y:∀k,k∈ups Y n n->k∈ups Y d d->k∉xs/\k∉N:=by
  intro k o U;obtain⟨a,Q,G⟩:=BX T n g k o;obtain⟨b,P,F⟩:=BX T d j k U;obtain⟨_,_,⟨r,l⟩,_⟩:=lQ T k (H k o);have z:(ups Y n n).reverse=r.reverse++k::a.reverse:=by rw[Q,l,WC,CR,VD];rfl
  have w:(ups Y d d).reverse=r.reverse++k::b.reverse:=by rw[P,l,WC,CR,VD];rfl
  rw[z,w,Ru] at es;obtain⟨X,bx,e9,E,D,t,C,R⟩:=BR (k::a.reverse) (k::b.reverse) k _ _ O O;rw[es] at t;cases t;constructor;intro x;have:k∈a.reverse:=by
   cases E with
   |nil=>cases C;exact x
   |cons c S=>
    rw[((Nb C).2)];exact Za _ (yl _ x)
  exact XD _<|G k<|Wx.mp this;intro x;have:k∈b.reverse:=by
   cases D with
   |nil=>cases R;exact x
   |cons c S=>
    rw[((Nb R).2)];exact Za _ (yl _ x)
  exact XD _<|F k<|Wx.mp this
 have f:=y m (e▸Za _ Y1) (s▸Za _ Y1);exact p3 xs.reverse N m p.reverse q.reverse M e s (λk i h=>(y k (e▸Wu _ i) h).1 (Wx.mp i)) (λh=>f.1<|Wx.mp h) f.2
end
section
variable{K:Frag}
theorem ahh{lo:tz}(h:ae Γ e u H λx H1=>qY Γ.K x lo none (some k) H1 Q):ae Γ (.x (n_ lo k) [e]) u H Q:=h
inductive BY(vs:ci)(H:Hp)(Q:VK)(E:XK):Prop|i(a:DL)(Y:ac)(n:Nat)(_:vs=[.r a,.i n])(_:H a=some (.l<|Y.map gV))(_:bD Y)(_:n<Y.length)(_:Y.length<=100000)(_:∀b Z,ar H Z->H b=none->Z b=some (.l<|iV<|ups Y n n)->Q (.r b) Z)
theorem XY:bS (BY) (λE=>bI K E) Rr Rq:=by
 intro vs H Q E h;obtain⟨a,Y,n,rfl,y,T,v,C,q⟩:=h;refine aN<|d5<|av<|af O<|aI ⟨eE,λL f=>?_⟩;refine qT (λm u W=>∃(p:am)(k:Nat),m=k/\u=[some<|.r a,some<|.i (n:Nat),some<|.r L]/\ar H W/\W L=some (.l<|iV p++[V.i (k:Nat)])/\k<Y.length/\p.length+k<=n/\ups Y n n=p++ups Y k k)
  (rR n [] n O O (Xq f) aj v aJ O) ?_
 rintro m u W zq;obtain⟨p,k,zq⟩:=XU zq;obtain⟨rfl,rfl,s,d,w,F,t⟩:=ZV zq;refine bf<|bh<|af O<|rg<|.inl ⟨L,_, -1,_,O,O,ah.of d,uG _ _,aC<|UH ⟨_,O,?_⟩⟩;by_cases z:m=0;subst z;refine iF ?_ aJ;refine di<|af O<|q L W s f ?_;rw[t,QD];unfold iV;rw[Z3];exact d;refine iT ?_ (Z2 ap);obtain⟨j,x,D,es⟩:=kz T (WY z) w;refine⟨λb Z=>∃(p:am)(k:Nat),k<m/\b=[some<|.r a,some<|.i (n:Nat),some<|.r L]/\ar H Z/\Z L=some (.l<|iV p++[V.i (k:Nat)])/\k<Y.length/\p.length+k<=n/\ups Y n n=p++ups Y k k,?_,?_⟩;rintro b Z ⟨B,g,G,e,P⟩;exact nT g G ⟨B,g,O,e,P⟩;refine dP (iy<|af O ⟨.inl ⟨O,_,ah.of d⟩,bh<|af O<|bh<|af O<|rg<|.inl ⟨L,_, -1,_,O,O,ah.of d,uG _ _,?_⟩⟩);refine cK (s _ _ y) (dv (by rw[ZW,x];rfl)) ?_;refine nW _ d (cQ (by rw[W0,XN];show p.length+1<=1000000;lia)) ?_;have A:aE L W (upd W L<|.l<|(iV p++[V.i (m:Nat)])++[gV<|some j]):=aE.upd;refine o4 (p++[m]) j D O (λc o e=>A c o (s _ _ e)<|aQ e f) ?_ ⟨(Xf D w),by rw[W0];show p.length+1+j<=n;lia,by rw[t,es,VD];rfl⟩;rw[aj];unfold iV;rw[Z3];rfl
theorem Ry{Q:ci->Hp->DL->Prop}{j:TE}{o:TT}{a:DL}(f:V->Go)(h:H a=some (.l xs))(G:xs.length<=1000000)(g:∀(x:V)(k:wl),x∈xs->k (f x) H->o (some x::b_ u fv) H k)(t:∀(x:V)(k:VK),x∈xs->k x H->j (some x::b_ u fv) H k)(n:∀p,H p=none->Q (xs.filter f) H p):∃d:Nat->Nat->ci->Hp->Prop,(∃m,d 0 m [] H)/\∀i m N W,d i m N W->
   ((eZ K a).stop i W/\∀p,W p=none->Q N W p)\/
   ((eZ K a).go i W/\∀x e,(eZ K a).gQ i W x e->jF K none x e λz=>k_ (some o) (z.map some++b_ u fv) e λb w=>
    if b=true then j (z.map some++b_ u fv) w λy F=>N.length<sizeLine/\∃c,c<m/\d (i+1) c (N++[y]) F else ∃c,c<m/\d (i+1) c N w):=by
 refine nT (λi m N W=>m=xs.length - i/\i<=xs.length/\N=(xs.take i).filter f/\W=H) (qU _ O (Ww _) O O) ?_;rintro i m N W ⟨rfl,I,rfl,rfl⟩;by_cases D:i<xs.length;refine .inr ⟨pI xs (xs[i]) (ah.of h) aJ,?_⟩;rintro x e ⟨rfl,C⟩;have B:=C xs (ah.of h);have r:=Wv B;have v:(xs.take<|i+1).filter f=(xs.take i).filter f++[x].filter f:=by rw[vE B,YM]
 refine g x _ r ?_;cases s:f x with
 |true=>
  refine iT (t x _ r (qH (cQ ?_) (xs.length - (i+1)) ap ⟨O,D,?_,O⟩)) O;have:=jL f (xs.take i);rw[Ye] at this;lia;rw[v];simp[s]
 |false=>
  refine iF (rZ (xs.length - (i+1)) ap O D ?_ O) O;rw[v];simp[s]
 have A:i=xs.length:=WT I (Zw D)
 subst A;refine .inl ⟨nT xs (ah.of h) (VL _),λq E=>?_⟩;rw[XB<|VL _];exact n q E
theorem Rz:fD (V.i (n:Nat)) (iV l)=l.contains n:=by
 unfold fD iV;rw[List.any_map,List.contains_eq_any_beq];congr 1;funext k;show(((k:Nat):Int)==((n:Nat):Int))=(n==k);by_cases z:k=n;subst z;simp;have a:(((k:Nat):Int)==((n:Nat):Int))=false:=by lia
 have e:(n==k)=false:=by lia
 rw[a,e]
theorem RA(l:am):(iV l).all je=true:=List.all_map▸Yw.mpr λY Y=>O
end
noncomputable def jy(Y:ac)(p:Nat×Nat):Nat×Nat:=if Y[p.2]?=some (some p.1) then (p.1,p.2) else (p.2,p.1)
noncomputable def pR(l:ac)(p:Nat×Nat):ac:=l.set p.1 (some p.2)
def iB(Y:ac)(n:am)(l:ac):ac:=(n.zip n.tail).foldl (λl p=>pR l<|jy Y p) l
structure dS(Y:ac)(B:Nat)(U' V':ac):Prop where
 ll:U'.length=Y.length
 ls:V'.length=Y.length
 up:∀(a b:Nat),a∈ups Y B B->Y[a]?=some (some b)->U'[b]?=some (some a)
 no:∀(i:Nat),i∉ (ups Y B B).tail->U'[i]?=V'[i]?
 ok:∀(i k:Nat),V'[i]?=some (some k)->Y[k]?=some (some i)
section
variable{Y:ac}
theorem yI(T:bD Y)(h:Y[n]?=some (some j)):ups Y n n=n::ups Y j j/\j<n:=by
 have d:n≠0:=λz=>by rw[z,T.r] at h;cases h
 obtain⟨c,b,a,e⟩:=kz T (WY d) ((Wq.mp h).1);rw[h] at b;cases b;exact⟨e,a⟩
theorem bz(T:bD Y)(h:Y[n]?=some (some j)):j<n/\n<Y.length:=⟨(yI T h).2,(Wq.mp h).1⟩
theorem yJ(T:bD Y)(h:n<Y.length):∃r,ups Y n n=n::r/\∀k∈r,k<n:=by
 by_cases z:n=0;subst z;exact⟨[],O,nofun⟩;obtain⟨j,b,D,e⟩:=kz T (WY z) h;exact⟨_,e,λk a=>by have:=tZ T j (Xf D h) k a;exact Wn this D⟩
theorem dS.move(T:bD Y){V:ac}(R:dS Y B U V)(l:B<Y.length)(h:gz Y B n):dS Y n (pR U<|jy Y (B,n)) (jx Y V (B,n)):=by
 rcases h with h|h
 
 obtain⟨e,D⟩:=yI T h;have p:jy Y (B,n)=(B,n):=by unfold jy;rw[Id h]
 have o:jx Y V (B,n)=V:=by
  unfold jx;rw[Ix];intro z;have:=(bz T z).1;exact (XD _ (Xf this D)).elim
 rw[p,o];unfold pR;refine⟨by rw[gS];exact R.ll,R.ls,λa b c f=>?_,λi g=>?_,R.ok⟩;rw[e] at c;rcases xW.mp c with rfl|c
 rw[h] at f;cases f;simp[R.ll,l];have u:b<B:=by
  have:=tZ T B l a c;have:=(bz T f).1;lia
 rw[VE (Ya u)];exact R.up a b c f;rw[e] at g;have s:=g;obtain⟨r,m,Z⟩:=yJ T l;have t:B≠i:=λz=>s (by rw[m,z];exact Y1);rw[VE t];exact R.no i λz=>s (vC z)
 
 obtain⟨e,D⟩:=yI T h;have p:jy Y (B,n)=(n,B):=by
  unfold jy;rw[Ix];intro z;have:=(bz T z).1;exact (XD _ (Xf this D)).elim
 have o:jx Y V (B,n)=V.set n (some B):=by unfold jx;rw[Id h]
 rw[p,o];unfold pR;have j:n<Y.length:=Xf D l
 obtain⟨r,m,v⟩:=yJ T j;refine⟨by rw[gS];exact R.ll,by rw[gS];exact R.ls,λa b c f=>?_,λi g=>?_,λi k d=>?_⟩;have u:b<n:=by
  have:=tZ T n j a c;have:=(bz T f).1;lia
 rw[VE (Ya u)];exact R.up a b (e▸yl _ c) f;by_cases z:n=i;subst z;simp[R.ll,R.ls,j];rw[VE z,VE z];refine R.no i λq=>?_;rw[e] at q;rw[m] at q g;rcases xW.mp q with q|q
 exact z q.symm;exact g q;by_cases z:n=i;subst z;rw[YG] at d;simp[R.ls,j] at d;rw[<-d];exact h;rw[VE z] at d;exact R.ok i k d
theorem dS.path(T:bD Y):∀(P:am)(B:Nat)(U V:ac),dS Y B U V->B<Y.length->(∀k∈P,k<Y.length)->gc (gz Y) (B::P)->∃d,(B::P)[P.length]?=some d/\dS Y d (iB Y (B::P) U) (rC Y (B::P) V)
 |[],B,U,V,R,_,_,_=>⟨B,O,R⟩
 |n::P,B,U,V,R,b,a,c=>by
  obtain⟨d,e,f⟩:=dS.path T P n _ _ (R.move T b c.1) (a n Y1) (λk h=>a k<|yl _ h) c.2;refine⟨d,by simpa using e,?_⟩;exact f
theorem RB:∀(ps:List (Nat×Nat))(l:ac),(ps.foldl (λl p=>pR l<|jy Y p) l).length=l.length
 |[],_=>O
 |p::ps,l=>by rw[YF,RB ps];unfold pR;rw[gS]
theorem Hu(y:am):V0 [] y=([],y):=O
theorem Hv(y:am):V0 y []=(y,[]):=by unfold V0;simp
theorem ahk:∀(x y:am),V0 y x=((V0 x y).2,(V0 x y).1):=by
 intro x;induction x with
 |nil=>intro y;rw[Hu,Hv]
 |cons a as i=>
  intro y;match as,y,i with
  |[],y,_=>
   cases y with
   |nil=>rw[Hu,Hv]
   |cons b s=>rw[vG,BG]
  |b::s,[],_=>rw[Hu,Hv]
  |b::s,[c],_=>rw[vG,BG]
  |b::s,c::d::f,i=>
   by_cases z:b=d;subst z;rw[ZR,ZR];exact i (b::f);rw[BH z,BH<|λe=>z e.symm]
theorem ahl(T:bD Y)(h:n<Y.length)(c:d<Y.length):dz Y d n=(dz Y n d).reverse:=by
 obtain⟨Z,Z,Z,⟨b,e⟩⟩:=lQ T n h;obtain⟨Z,Z,Z,⟨a,f⟩⟩:=lQ T d c;obtain⟨m,xs,N,p,q,zq⟩:=Yj (BR (ups Y n n).reverse (ups Y d d).reverse 0 b.reverse a.reverse (by rw[e,WC];rfl) (by rw[f,WC];rfl));obtain⟨es,x,y⟩:=Xb zq;unfold dz;rw[ahk,es];simp
end
section
variable{K:Frag}{C CN:DL}
theorem gN.m0(A:gN C H p dx lo pa e be lg B cC Y)(b:Γ.ms j=(C,s))(c:u[i]?=some (some<|.r p))(h:s [.r p] H Q Γ.E)(n:autoParam (mO.all (λx=>decide<|¬m=x)=true) fe):ae Γ (.a j m (.v i) []) u H Q:=
 tE C s b (af c (q9 p dx _ O A.ob (hX n) h))
theorem gN.m1(A:gN C H p dx lo pa e be lg B cC Y)(b:Γ.ms j=(C,s))(c:u[i]?=some (some<|.r p))(h:ae Γ a u H λy W=>s [.r p,y] W Q Γ.E)(n:autoParam (mO.all (λx=>decide<|¬m=x)=true) fe):ae Γ (.a j m (.v i) [a]) u H Q:=
 ko C s b (af c (q9 p dx _ O A.ob (hX n) h))
theorem gN.m2(A:gN C H p dx lo f g be lg B cC Y)(c:Γ.ms j=(C,s))(d:u[i]?=some (some<|.r p))(h:ae Γ a u H λy W=>ae Γ b u W λz e=>s [.r p,y,z] e Q Γ.E)(n:autoParam (mO.all (λx=>decide<|¬m=x)=true) fe):ae Γ (.a j m (.v i) [a,b]) u H Q:=
 GS C s c (af d (q9 p dx _ O A.ob (hX n) h))
variable{Y:ac}
theorem Yy(T:bD Y)(d:h<Y.length):∀k,k<Y.length->ups (Y++[some h]) k k=ups Y k k:=by
 intro k;induction k using Nat.strongRecOn with
 |ind k i=>
  intro a;by_cases z:k=0;subst z;rfl;obtain⟨j,c,D,e⟩:=kz T (WY z) a;obtain⟨g,b,Z,f⟩:=kz (He T d) (n:=k) (WY z) (by rw[W0];exact ER a);rw[XG a,c] at b;cases b;rw[e,f,i j D (Xf Z a)]
theorem dS.new(T:bD Y){V:ac}(R:dS Y B U V)(c:B<Y.length):dS (Y++[some B]) Y.length ((U++[none]).set B<|some Y.length) (V++[none]):=by
 have p:(Y++[some B])[Y.length]?=some (some B):=by simp
 obtain⟨e,Z⟩:=yI (He T c) p;rw[Yy T c B c] at e;have j:=R.ll;have l:=R.ls;refine⟨by rw[gS,W0,W0,j];rfl,by rw[W0,W0,l];rfl,λa b d f=>?_,λi g=>?_,λi k h=>?_⟩;rw[e] at d;rcases xW.mp d with rfl|d
 rw[p] at f;cases f;rw[YG];simp;lia;rw[XG ((lQ T B c).2.1 a d)] at f;have t:=bz T f;have o:=tZ T B c a d;rw[VE ap,XG ap];exact R.up a b d f;rw[e] at g;obtain⟨r,s,Z⟩:=yJ T c;have n:B≠i:=λz=>g (by rw[s,z];exact Y1);rw[VE n];by_cases q:i<Y.length;rw[XG ap,XG ap];exact R.no i λz=>g (vC z);rw[Wt ap,Wt ap,j,l];by_cases q:i<Y.length;rw[XG ap] at h;have:=R.ok i k h;rw[XG (Wq.mp this).1];exact this;rw[Wt ap] at h;cases m:i - V.length with
 |zero=>rw[m] at h;cases h
 |succ z=>rw[m] at h;simp at h
end
section
open PyProof.Rows
noncomputable def RC:bi:=["self","change","edges","gets","ahead","node","other","pair"]
noncomputable def RD:gu:=
 [.d (.a 0 "need_over" (.v 0) [.v 1]),
 .a 2 (.t .t [(.f (.v 0) "edges")]),
 .a 3 (.x tQ [(.f (.v 0) "here"),.v 1]),
 .a 4 (.L [(.f (.v 0) "here")]),
 .m (.p .Gt (.t .l [.v 4]) (.c (.i 0))) [.a 5 (.w .p (.v 4) []),
  .j 6 .l [(.a 1 "neighbours" (.v 0) [.v 5])] [.i (.I (.v 6) (.v 3)) [.c] [],
   .a 7 (.l 0 [(.B (.v 3)<|.v 5),(.a 2 "edge" (.v 0) [.v 5,.v 6])]),
   .t (.v 3) (.v 6) (.i (.v 7)<|.c<|.i 0),
   .d (.w .a (.v 4) [.v 6]),
   .i (.p .Eq (.i (.f (.v 0) "parents") (.v 6)) (.v 5)) [.s (.v 2) (.v 6) (.i (.v 7) (.c (.i 1)))] [.s (.v 2) (.v 5) (.l 1 [(.i (.v 7) (.c (.i 1)))])]]],
 .f (.v 0) "edges" (.v 2),
 .f (.v 0) "lengths" (.C none [("gets",3)] .g [(.a 3 "many" (.v 0) [])] none (.i (.l 2 [(.B (.v 1) (.v 0))]) (.c (.i 1))))]
noncomputable def R8:bi:=["passed","back","sizes"]
noncomputable def aho:bi:=["list","len","range"]
noncomputable def ahp:bi:=["need_over","neighbours","edge","many"]
end
theorem ahq{q:Pt}(h:p.word=q.word)(d:p.val=q.val):p=q:=by
 have a:¬("keep":Str)="put":=by decide+kernel
 have b:¬("keep":Str)="cut":=by decide+kernel
 have c:¬("put":Str)="cut":=by decide+kernel
 cases p<;>cases q<;>first
  |exact absurd h a|exact absurd h.symm a|exact absurd h b|exact absurd h.symm b|exact absurd h c|exact absurd h.symm c
  |(injection d with d;rw[d])
theorem ahr:∀{xs:ci}{ps q:bn},aF H xs ps->aF H xs q->ps=q:=by
 intro xs ps q h;induction h generalizing q with
 |nil=>intro k;cases k;rfl
 |cons x Y i=>
  intro k;cases k with
  |cons y d=>
   obtain⟨a,e,h⟩:=x;obtain⟨f,c,b⟩:=y;rw[e] at c;cases c;rw[h] at b;injection b with b
   injection b with b
   injection b with w b
   injection w with w
   injection b with x _
   rw[ahq w x,i d]
def dU(H:Hp)(Ed:db)(J:Nat->bn->Prop):Prop:= ∀(i:Nat)(a:DL),Ed[i]?=some a->∃xs ps,H a=some (.l xs)/\aF H xs ps/\J (i+1) ps
section
variable{C:DL}{H Z:Hp}{p:DL}{M c:db}{B:Nat}{Y:ac}{g:List am}{l:ac}{T:Nat}{m n q x z F:DL}{G:db}{f:ci}{J:Nat->bn->Prop}
theorem RF:∀(f:ci),(∀v∈f,∃a,v=V.r a)->f=(pP f).map V.r
 |[],_=>O
 |v::r,h=>by
  obtain⟨a,rfl⟩:=h v (.head _);have:=RF r λw b=>h w (.tail _ b);show V.r a::r=V.r a::(pP r).map V.r;rw[<-this]
theorem fQ.rD(A:fQ C H p M c B Y g l T m n q x z F G f):f=V.a::c.map V.r:=by
 have e:=A.S;cases f with
 |nil=>cases e
 |cons v r=>
  have:=WV e;subst this;have k:∀w∈r,∃a,w=V.r a:=λw d=>by
   obtain⟨i,h⟩:=WM.mp d;have o:i+1<Y.length:=by
    have:=A.le;have y:=(Wq.mp h).1;rw[d_] at this;lia
   obtain⟨j,s,Z⟩:=A.ob.tr.up (i+1) (Wr _) o;obtain⟨a,ps,t,u,b,Z⟩:=ZO (A.ev (i+1) j s);rw[Xo,h] at b;exact⟨a,WV b⟩
  rw[RF r k];have:=A.U;rw[<-this];rfl
theorem dU.keep(E:dU H c J)(k:∀a o,a∈c->H a=some o->Z a=some o)(t:bR H Z):dU Z c J:=λi a e=>by
 obtain⟨xs,ps,d,b,h⟩:=E i a e;exact⟨xs,ps,k a _ (Wv e) d,b.mono t,h⟩
theorem dU.same(E:dU H c J)(s:ar H Z):dU Z c J:=E.keep (λY Y Y e=>s _ _ e) (aX s)
theorem dU.but(E:dU H c J)(A:aM C H p M c B Y g l T)(b:aS M H Z):dU Z c J:=by
 obtain⟨m,n,q,x,z,F,G,f,A⟩:=X9 A;refine E.keep (λa o d e=>b a o e ?_)<|A.live.bB b;obtain⟨i,h⟩:=WM.mp d;exact A.en (i+1) a (by rw[A.rD,Xo,ZW,h];rfl)
def yK(H:Hp)(f:ci)(Y:ac)(g:List am)(T:Nat)(J:Nat->bn->Prop):Prop:= ∀(i j:Nat),Y[i]?=some (some j)->∃(a:DL)(ps:bn)(l b:am),f[i]?=some (V.r a)/\g[j]?=some l/\g[i]?=some b/\bK H a ps l b/\aq ps<=T/\J i ps
theorem fQ.yL(A:fQ C H p M c B Y g l T m n q x z F G f)(E:dU H c J):yK H f Y g T J:=λi j e=>by
 obtain⟨a,ps,r,s,zq⟩:=ZO (A.ev i j e);obtain⟨h,y,w,⟨xs,d,b,D⟩,v⟩:=ZE zq;refine pE a ps r s h y w (nW xs d b D) v ?_;have X:=h;rw[A.rD] at X;cases i with
 |zero=>cases X
 |succ i=>
  rw[Xo,ZW] at X;obtain⟨L,o,I⟩:=ZX.mp X;cases I;obtain⟨N,K,k,u,t⟩:=E i a o;rw[d] at k;cases k;rw[ahr b u];exact t
end
section
variable{K:Frag}{C CF:DL}
inductive B0(C:DL)(vs:ci)(H:Hp)(Q:VK)(E:XK):Prop|i(p dx lo f e be lg:DL)(B:Nat)(cC:am)(Y:ac)(es:ci)(au:List am)(T n m:Nat)(a b:am)(J:Nat->bn->Prop)(_:vs=[.r p,.i n,.i m])(_:gN C H p dx lo f e be lg B cC Y)(_:H e=some (.l es))(_:yK H es Y au T J)(_:T<=14000)(_:au[n]?=some a)(_:au[m]?=some b)(_:m<Y.length)(_:(Y[m]?=some (some n)\/(Y[m]?≠some (some n)/\Y[n]?=some (some m))))(_:∀(c:DL)(ps:bn)(Z:Hp),ar H Z->bK Z c ps a b->aq ps<=T->(Y[m]?=some (some n)/\J m ps\/Y[n]?=some (some m)/\∃d,J n d/\ps=bk d)->Q (.r c) Z)
abbrev aoO(K:Frag)(E:XK):bu:=aH K [("back",vd)] [] (E:=E)
theorem ahs(T:gM K C):bS (B0 C) (λE=>aoO K E) Qi Qh:=by
 intro vs H Q E h;obtain⟨p,dx,lo,D,N,be,lg,B,cC,Y,es,au,t,n,m,F,G,J,rfl,A,o,r,I,k,l,g,d,q⟩:=h;have y:=Xd g;refine di<|BF<|bf<|bh<|cM<|af O ⟨p,C,dx,_,_,O,A.ob,T.cl,T.p,rm,af O<|cK A.c (dv (by rw[ZW,y];rfl))<|af O<|G_ ⟨_,O,?_⟩⟩;by_cases z:Y[m]=some n;refine iT ?_ (Z2 z);rw[z] at y;obtain⟨a,ps,v,w,j,f,e,b,u,i⟩:=r m n y;rw[k] at f;cases f;rw[l] at e;cases e;exact bh<|cM<|af O ⟨p,C,dx,_,_,O,A.ob,T.cl,T.q,vF,af O<|cK o (dv j)<|q a ps H (ar.refl _) b u<|.inl ⟨y,i⟩⟩;refine iF ?_ (VH z);have X:Y[n]?=some (some m):=by
  rcases d with d|d
  rw[y] at d;cases z (WV d);exact d.2
 obtain⟨a,ps,v,w,j,f,e,b,u,i⟩:=r n m X;rw[l] at f;cases f;rw[k] at e;cases e;have P:=lP ps "" b.chg.ok b.chg.c;have L:=(b.chg.bk ap).2;refine bE vd O<|av<|bh<|cM<|af O ⟨p,C,dx,_,_,O,A.ob,T.cl,T.q,vF,af O<|cK o (dv j)<|aI<|PQ b ap ap λc Z s M x=>q c _ Z s x ?_ (.inr ⟨X,ps,i,O⟩)⟩;lia
def ou(Y:ac)(n:Nat):am:=(match Y[n]? with|some (some j)=>[j]|_=>[])++WX Y n
theorem ahu:m∈WX Y n↔Y[m]?=some (some n):=by
 unfold WX;rw[ZK,Yt];constructor;intro h;simpa using h.2;intro h;exact⟨(Wq.mp h).1,ap⟩
theorem RH:m∈ou Y n↔gz Y n m:=by
 unfold ou gz;rw[X0,ahu];constructor;rintro(h|h);right;split at h;rename_i j e;rw[Yd.mp h];exact e;cases h;exact .inl h;rintro(h|h);exact .inr h;left;rw[h];simp
inductive RJ(C:DL)(vs:ci)(H:Hp)(Q:VK)(E:XK):Prop|i(p:DL)(M Ed:db)(B:Nat)(Y:ac)(au:List am)(t:ac)(T n:Nat)(_:vs=[.r p,.i n])(_:aM C H p M Ed B Y au t T)(_:n<Y.length)(_:∀b Z,ar H Z->H b=none->Z b=some (.l<|iV<|ou Y n)->Q (.r b) Z)
theorem ahv(h:aR Γ c u H λt H1=>if t=true then ae Γ a u H1 Q else ae Γ b u H1 Q):ae Γ (.M c a b) u H Q:=h
theorem ahw(X:gM K C):bS (RJ C) (λE=>bI K E) Qs Qr:=by
 intro vs H Q E h;obtain⟨p,M,Ed,B,Y,au,t,T,n,rfl,⟨dx,lo,R,W,be,lg,y,es,A⟩,k,q⟩:=h;have N:=A.ob.sz;obtain⟨b,o⟩:∃b,y[n]?=some b:=⟨_,Xd (A.P▸k)⟩;have J:(y.map V.r)[n]?=some (V.r b):=by rw[ZW,o];rfl
 have U:(WX Y n).length<=Y.length:=by
  have:=jL (λj=>Y[j]?==some (some n)) (List.range Y.length);rw[Wd] at this;exact this
 have d:∀(L:DL)(g:am)(H1:Hp),g.length<=1->ar H H1->H L=none->H1 L=some (.l<|iV g)->g++WX Y n=ou Y n->ax (bI K E) [.r<|.b .Add (.v 2)<|.i (.f (.v 0) "below")<|.v 1] (Dn Q) [some<|.r p,some<|.i (n:Nat),some<|.r L] H1:=by
  intro L g H1 S s a G e;have F:=A.same s;refine di<|c7<|af O<|bh<|cM<|af O ⟨p,C,dx,_,_,O,F.ob.ob,X.cl,X.BC,G3,af O<|cK F.D (dv J)<|.inl ⟨L,b,_,_,O,O,G,s _ _ (A.hk n b o),cI ?_,λw u=>?_⟩⟩;rw[XN,XN];lia;have I:iV g++iV (WX Y n)=iV (ou Y n):=by rw[<-e];unfold iV;rw[Z3]
  rw[I];exact q w _ (s.trans<|Xq u) (s.free u) aj
 refine aN<|ahv<|bf<|af O<|aC<|jP ⟨_,O,?_⟩;by_cases z:n=0;refine iT ?_ (Z2 ap);refine d5<|aI ⟨Ww _,λL a=>d L [] _ (Ww _) (Xq a) a aj ?_⟩;unfold ou;rw[z,A.ob.tr.r];refine iF ?_ (VH ap);obtain⟨j,m,Z⟩:=A.ob.tr.up n (WY z) k;have x:(Y.map gV)[n]?=some (V.i (j:Nat)):=by rw[ZW,m];rfl
 refine d5<|av<|bh<|cM<|af O ⟨p,C,dx,_,_,O,A.ob.ob,X.cl,X.p,rm,af O<|cK A.ob.c (dv x)<|aI ⟨eE,λL a=>d L [j] _ (VL 1) (Xq a) a aj ?_⟩⟩;unfold ou;rw[m]
def jz(Y:ac)(v:am):Prop:= ∃t∈v,∀k∈v,t<=k/\(k=t\/∃j∈v,Y[k]?=some (some j))
theorem jz.add(T:bD Y)(h:jz Y v){a b:Nat}(l:a∈v)(m:b∉v)(g:gz Y a b):jz Y (v++[b])/\∀x∈v,gz Y b x->x=a:=by
 obtain⟨t,p,h⟩:=h;rcases g with g|g
 have o:=(bz T g).1;refine⟨nT t (Wu _ p) (λk c=>?_),λx i d=>?_⟩;rcases X0.mp c with c|c
 refine⟨(h k c).1,?_⟩;rcases (h k c).2 with e|⟨j,f,e⟩
 exact .inl e;exact .inr (nT j (Wu _ f) e);rw[Yd.mp c];have:=(h a l).1;exact⟨(Zx (Wn this o)),.inr (nT a (Wu _ l) g)⟩;rcases d with d|d
 rcases (h x i).2 with e|⟨j,f,e⟩
 have:=(bz T d).1;have:=(h a l).1;lia;rw[d] at e;cases e;cases m f;rw[g] at d;cases d;rfl;have o:=(bz T g).1;have n:a=t:=by
  rcases (h a l).2 with e|⟨j,f,e⟩
  exact e;rw[g] at e;cases e;cases m f
 subst n;refine⟨nT b (Za _<|.head _) (λk c=>?_),λx i d=>?_⟩;rcases X0.mp c with c|c
 have:=(h k c).1;refine⟨(Zx (YY o this)),.inr ?_⟩;rcases (h k c).2 with e|⟨j,f,e⟩
 exact nT b (Za _<|.head _) ap;exact nT j (Wu _ f) e;rw[Yd.mp c];exact⟨VL _,.inl O⟩;rcases d with d|d
 rcases (h x i).2 with e|⟨j,f,e⟩
 exact e;rw[d] at e;cases e;cases m f;have:=(bz T d).1;have:=(h x i).1;lia
theorem ahy{v:am}(T:bD Y)(e:h∈v)(l:∀k∈v,k<Y.length)(c:∀k∈v,∀m,gz Y k m->m∈v):∀k,k<Y.length->k∈v:=by
 have u:∀n,n∈v->0∈v:=by
  intro n;induction n using Nat.strongRecOn with
  |ind n i=>
   intro a;by_cases z:n=0;rw[<-z];exact a;obtain⟨j,b,D⟩:=T.up n (WY z) (l n a);exact i j D<|c n a j<|.inr b
 intro k;induction k using Nat.strongRecOn with
 |ind k i=>
  intro d;by_cases z:k=0;rw[z];exact (u h e);obtain⟨j,b,D⟩:=T.up k (WY z) d;exact c j (i j D (Xf D d)) k<|.inl b
end
noncomputable def gB(v:am)(a:Nat->DL):ii:=v.map λk=>((Sum.inl ((k:Nat):Int):We),V.r<|a k)
theorem B1:∀{v:am},k∈v->cm (gB v ad) (.inl ((k:Nat):Int))=some (.r<|ad k)
 |j::r,h=>by
  by_cases z:j=k;subst z;exact iH O;refine(jE<|λe=>z ?_).trans (B1 ?_);lia;rcases xW.mp h with h|h
  cases z h.symm;exact h
theorem Hx:∀{v:am},k∉v->cm (gB v ad) (.inl ((k:Nat):Int))=none
 |[],_=>O
 |j::r,h=>by
  refine(jE<|λe=>h ?_).trans<|Hx λz=>h (yl _ z);have:j=k:=by lia
  rw[this];exact Y1
noncomputable def hZ{b:Type}(f:Nat->b)(k:Nat)(a:b):Nat->b:=λj=>if j=k then a else f j
theorem yN{a:α}:hZ f k a k=a:=Id O
theorem rE{a:α}(h:j≠k):hZ f k a j=f j:=Ix h
theorem ahz{a:Nat->DL}(h:k∉v):Yx (gB v a) (.inl ((k:Nat):Int)) (V.r c)=gB (v++[k]) (hZ a k c):=by
 rw[aaP _<|Hx h];unfold gB;rw[Z3];congr 1;refine Xi λj b=>?_;rw[rE<|λz=>h ap];show[((Sum.inl ((k:Nat):Int):We),V.r c)]=[((Sum.inl ((k:Nat):Int):We),V.r<|hZ a k c k)];rw[yN]
structure Fg(H0 H:Hp)(Y:ac)(au:List am)(T U:Nat)(I J':Nat->bn->Prop)(e2 g3 a4:DL)(Yn st:am)(ad:Nat->DL)(nt:Nat->am)(es:ci):Prop where
 sm:ar H0 H
 u:H e2=some (.l es)
 b:H g3=some (.d<|gB Yn ad)
 hs:H a4=some (.l<|iV st)
 fr:H0 e2=none/\H0 g3=none/\H0 a4=none
 ne:e2≠g3/\e2≠a4/\g3≠a4
 nd:Yn.Nodup
 C:∀k∈Yn,k<Y.length
 ls:∀k∈st,k∈Yn
 tp:jz Y Yn
 gt:∀k∈Yn,ad k∉ [e2,g3,a4]/\∃g l,au[k]?=some l/\bK H (ad k) g l (nt k)/\I k g/\aq g<=U
 le:es.length=Y.length
 e0:es[0]?=some .a
 ed:∀i j,Y[i]?=some (some j)->i∈Yn->j∈Yn->∃a q,es[i]?=some (.r a)/\a∉ [e2,g3,a4]/\H0 a=none/\bK H a q (nt j) (nt i)/\J' i q/\aq q<=T
section
variable{A H Z:Hp}{Y:ac}{E:List am}{T U:Nat}{I t:Nat->bn->Prop}{f m n:DL}{v G:am}{J:Nat->DL}{p:Nat->am}{w:ci}
theorem Fg.same(F:Fg A H Y E T U I t f m n v G J p w)(s:ar H Z):Fg A Z Y E T U I t f m n v G J p w:=by
 refine⟨F.sm.trans s,s _ _ F.u,s _ _ F.b,s _ _ F.hs,F.fr,F.ne,F.nd,F.C,F.ls,F.tp,λk o=>?_,F.le,F.e0,λi j e x r=>?_⟩;obtain⟨a,g,l,d,c,h⟩:=F.gt k o;exact rS a g l d ⟨c.same s,h⟩;obtain⟨a,q,zq⟩:=XU (F.ed i j e x r);obtain⟨d,c,h,z,y⟩:=ZE zq;exact o4 a q d c h (z.same s) y
theorem Fg.add(F:Fg A H Y E T U I t f m n v G J p w)(B:bD Y){G':Nat}{d:DL}{D:bn}(k:∀y o,y∉ [f,m,n]->H y=some o->Z y=some o)(tu:bR H Z)(he:Z f=some (.l<|w.set i<|.r d))(hg:Z m=some (.d<|gB (v++[G'])<|hZ J G' c))(hs:Z n=some (.l<|iV<|G++[G']))(hn:X'∈v)(K:G'∉v)(ol:G'<Y.length)(hl:E[G']?=some l)(hc:bK Z c ps l r)(cW:c∉ [f,m,n])(hI:I G' ps)(tI:aq ps<=U)(dW:d∉ [f,m,n])(d0:A d=none)(tq:aq D<=T)(u:Y[G']?=some (some X')/\i=G'/\bK Z d D (p X') r/\t G' D\/Y[X']?=some (some G')/\i=X'/\bK Z d D r (p X')/\t X' D):
  Fg A Z Y E T U I t f m n (v++[G']) (G++[G']) (hZ J G' c) (hZ p G' r) (w.set i<|.r d):=by
 have a':gz Y X' G':=by
  rcases u with c|c
  exact .inl c.1;exact .inr c.1
 obtain⟨tp,j⟩:=F.tp.add B hn K a';have B2:X'≠G':=λz=>K (by rw[<-z];exact hn);have kc:∀{a:DL}{g:bn}{x y:am},a∉ [f,m,n]->bK H a g x y->bK Z a g x y:=λh q=>q.keep (λo e=>k _ o h e) tu;have il:i<w.length:=by
  rw[F.le];rcases u with⟨_,rfl,_⟩|⟨_,rfl,_⟩
  exact ol;exact F.C _ hn
 have i0:i≠0:=by
  rcases u with⟨e,rfl,_⟩|⟨e,rfl,_⟩
  have:=(bz B e).1;lia;have:=(bz B e).1;lia
 refine⟨λy o e=>k y o (λz=>?_)<|F.sm _ _ e,he,hg,hs,F.fr,F.ne,?_,λx b=>?_,λx b=>?_,tp,λx b=>?_,by rw[gS];exact F.le,by rw[VE i0];exact F.e0,λx y e b W=>?_⟩;simp at z;rcases z with rfl|rfl|rfl
 rw[F.fr.1] at e;cases e;rw[F.fr.2.1] at e;cases e;rw[F.fr.2.2] at e;cases e;exact Y0.mpr ⟨F.nd,aJ,λx b y W e=>K (by rw[<-Yd.mp W,<-e];exact b)⟩;rcases X0.mp b with b|b
 exact F.C x b;rw[Yd.mp b];exact ol;rcases X0.mp b with b|b
 exact Wu _ (F.ls x b);exact Za _ b;rcases X0.mp b with b|b
 have:x≠G':=λz=>K (by rw[<-z];exact b);rw[rE this,rE this];obtain⟨a,g,l',h1,X,h3⟩:=F.gt x b;exact rS a g l' h1 ⟨kc a X,h3⟩;rw[Yd.mp b,yN,yN];exact rS cW ps l hl ⟨hc,hI,tI⟩;have M:x=i->y=(if i=G' then X' else G')->∃a q,(w.set i<|.r d)[x]?=some (V.r a)/\a∉ [f,m,n]/\A a=none/\bK Z a q (hZ p G' r y) (hZ p G' r x)/\t x q/\aq q<=T:=by
  intro e1 S;subst e1;refine o4 d D (by rw[u_ il]) dW d0 ?_ ⟨?_,tq⟩;rcases u with⟨_,rfl,h,_⟩|⟨_,rfl,h,_⟩
  rw[Id O] at S;subst S;rw[yN,rE B2];exact h;rw[Ix B2] at S;subst S;rw[yN,rE B2];exact h;rcases u with⟨_,rfl,_,h⟩|⟨_,rfl,_,h⟩ <;>exact h
 rcases X0.mp b with N|N
 have R:x≠G':=λz=>K (by rw[<-z];exact N);rcases X0.mp W with s|s
 have Q:y≠G':=λz=>K (by rw[<-z];exact s);have xi:i≠x:=λz=>by
  rcases u with⟨_,rfl,_⟩|⟨L,rfl,_⟩
  exact R z.symm;rw[z,e] at L;cases L;exact Q O
 obtain⟨a,q,zq⟩:=XU (F.ed x y e N s);obtain⟨h1,X,h3,h4,h5⟩:=ZE zq;exact o4 a q (by rw[VE xi];exact h1) X h3 (by rw[rE R,rE Q];exact kc X h4) h5;have Q:=Yd.mp s;subst Q;have xn:=j x N (.inl e);subst xn;rcases u with⟨L,_⟩|⟨_,P,_⟩
 have:=(bz B L).1;have:=(bz B e).1;lia;exact M P.symm (by rw[P,Ix B2]);have R:=Yd.mp N;subst R;rcases X0.mp W with s|s
 have yn:=j y s (.inr e);subst yn;rcases u with⟨_,P,_⟩|⟨L,_⟩
 exact M P.symm (by rw[P,Id O]);have:=(bz B L).1;have:=(bz B e).1;lia;rw[Yd.mp s] at e;have:=(bz B e).1;exact (XD _ this).elim
end
section
variable{K:Frag}{C s:DL}
theorem vQ:∀(n:Nat)(l:am),l.Nodup->(∀x∈l,x<n)->l.length<=n
 | 0,[],_,_=>VL _
 | 0,x::_,_,h=>absurd (h x<|.head _) (Nat.not_lt_zero _)
 |n+1,l,d,h=>by
  by_cases z:n∈l;have e:=List.length_erase_of_mem z;have:=vQ n (l.erase n) (d.erase n) λx a=>by
   have G:=(d.mem_erase_iff).mp a;have:=h x G.2;lia
  lia;have:=vQ n l d λx a=>by
   have:=h x a;have:x≠n:=λe=>z ap;lia
  exact hB this
def Nx(Y:ac)(B a b:Nat):Prop:=gz Y a b/\∃v,jz Y v/\B∈v/\a∈v/\b∉v
def B3(Y:ac)(B:Nat)(I J d:Nat->bn->Prop):Prop:= ∀(a b:Nat)(g e ps q:bn)(l m n:am),Nx Y B a b->I a g->(Y[b]?=some (some a)/\J b e\/Y[a]?=some (some b)/\∃c,J a c/\e=bk c)->iU g l m->iU e l n->fN g e ps q l m n->I b ps/\(Y[b]?=some (some a)->d b q)/\(Y[a]?=some (some b)->d a (bk q))
abbrev GF(K:Frag)(C s:DL)(E:XK):bu:=aH K [("passed",Bs),("back",vd),("sizes",ig)] [] [] [("need_over",C,tV C s),("neighbours",C,RJ C),("edge",C,B0 C),("many",C,pK C)] (E:=E)
noncomputable def RK:gu:=[.i (.I (.v 6) (.v 3)) [.c] [],
   .a 7 (.l 0 [(.B (.v 3)<|.v 5),(.a 2 "edge" (.v 0) [.v 5,.v 6])]),
   .t (.v 3) (.v 6) (.i (.v 7)<|.c<|.i 0),
   .d (.w .a (.v 4) [.v 6]),
   .i (.p .Eq (.i (.f (.v 0) "parents") (.v 6)) (.v 5)) [.s (.v 2) (.v 6) (.i (.v 7) (.c (.i 1)))] [.s (.v 2) (.v 5) (.l 1 [(.i (.v 7) (.c (.i 1)))])]]
theorem RL{a:Type}{l:List a}(h:i<l.length):gJ l.length ((i:Nat):Int)=some i:=by
 unfold gJ;rw[Id (VI _),Id ap];rfl
theorem RM{r:gu}{i:RE}(h:ae Γ e u H λv H1=>ae Γ o u H1 λx W=>ae Γ i u W λy c=>∃a b,x=.r a/\l9 c a y v b/\ax Γ r D u b):ax Γ (.t o i e::r) D u H:=h
theorem RN(h:ae Γ a u H λx H1=>ae Γ b u H1 λy W=>∃d v,x=.r d/\fE W d y (some v)/\Q v W):ae Γ (.B a b) u H Q:=h
theorem Hy{Q:wl}(h:ae Γ a u H λy H1=>ae Γ b u H1 λx W=>∃d o,x=.r d/\fE W d y o/\∃k,V.b o.isSome=.b k/\Q k W):aR Γ (.I a b) u H Q:=h
theorem ahB{S:am}{Q:Nat->DL}{G':Nat}(X:gM K C)(A:fQ C H0 p M Ed B Y au a' T dx lo pa ed be lg bs gZ)(EJ:yK H0 gZ Y au T J)(F:Fg H0 H Y au T U I J' n m w v S Q nt es)(hh:B∈v)(dB:B3 Y B I J J')(vR:T+U<=14000)(o':Y.length<=50000)(Bz:S.length<=50000)(hn:X'∈v)(rF:gz Y X' G')(N0:Do)(RO:∀u H,N0 u H->D.nx u H)(nK:∀u H,N0 u H->D.c u H)(q0:G'∈v->N0 [some<|.r p,some c0,some<|.r n,some<|.r m,some<|.r w,some<|.i (X':Nat),some<|.i (G':Nat),u7] H)(q:∀(t c:DL)(r:am)(bj:ci)(Z:Hp),G'∉v->Fg H0 Z Y au T U I J' n m w (v++[G']) (S++[G']) (hZ Q G' c) (hZ nt G' r) bj->(∀y o,y∉ [n,m,w]->H y=some o->Z y=some o)->N0 [some<|.r p,some c0,some<|.r n,some<|.r m,some<|.r w,some<|.i (X':Nat),some<|.i (G':Nat),some<|.r t] Z):
  ax (GF K C s E) RK D [some<|.r p,some c0,some<|.r n,some<|.r m,some<|.r w,some<|.i (X':Nat),some<|.i (G':Nat),u7] H:=by
 have ol:G'<Y.length:=by
  rcases rF with e|e
  exact(Wq.mp e).1;have:=bz A.ob.tr e;lia
 by_cases hv:G'∈v;refine cx (Hy<|af O<|af O ⟨m,_,O,fE.k (k:=.inl ((G':Nat):Int)) F.b,_,O,iT (nK _ _<|q0 hv) (by rw[B1 hv];rfl)⟩);refine cx (Hy<|af O<|af O ⟨m,_,O,fE.k (k:=.inl ((G':Nat):Int)) F.b,_,O,iF (d9 ?_) (by rw[Hx hv];rfl)⟩);obtain⟨aW,g,ln,P4,hg,hI,hU⟩:=F.gt X' hn;have kI:au.length=Y.length:=by have:=A.ob.l;rw[XN] at this;exact this
 obtain⟨lm,RP⟩:∃lm,au[G']?=some lm:=o3 _ (Xd ap);have A1:=A.same F.sm;have l':Y[G']?=some (some X')\/(Y[G']?≠some (some X')/\Y[X']?=some (some G')):=by
  rcases rF with e|e
  exact .inl e;refine .inr ⟨λz=>?_,e⟩;have:=(bz A.ob.tr e).1;have:=(bz A.ob.tr z).1;lia
 have n':yK H gZ Y au T J:=λi j e=>by
  obtain⟨a,ps,lj,li,zq⟩:=ZO (EJ i j e);obtain⟨h1,h2,h3,h4,h5⟩:=ZE zq;exact oT a ps lj li h1 h2 h3 (h4.same F.sm) h5
 refine aN<|bE Bs O<|av<|RN<|af O<|af O ⟨m,V.r<|Q X',O,(by rw[<-B1 (ad:=Q) hn];exact fE.k (k:=.inl ((X':Nat):Int)) F.b),av<|A1.ob.m2 O O<|af O<|af O ⟨p,dx,lo,pa,ed,be,lg,B,_,Y,gZ,au,T,X',G',ln,lm,J,O,A1.ob,A1.R,n',(wO (j9 _ _) vR),P4,RP,ol,l',λe pe H1 s1 B4 te hJ=>aI<|afn (hg.same s1) B4 ?_ ?_ λt c d W ps qs r s2 fc fd ht hc hd P=>?_⟩⟩;have h1:g.length<=2*aq g+1:=lP g "" hg.chg.ok hg.chg.c;have h2:pe.length<=2*aq pe+1:=lP pe "" B4.chg.ok B4.chg.c;lia;lia;have dG:=s1.trans s2;have F2:=F.same dG;have vS:=s1.free fc;have RQ:=s1.free fd;have RT:∀{y:DL},H y=none->y∉ [n,m,w]:=λf h=>by
  simp only[xW,Zz,Os] at h;rcases h with rfl|rfl|rfl
  rw[F.u] at f;cases f;rw[F.b] at f;cases f;rw[F.hs] at f;cases f
 obtain⟨h',g',f'⟩:=dB X' G' g pe ps qs ln (nt X') lm (qH rF v F.tp ⟨hh,hn,hv⟩) hI hJ hg.chg B4.chg P;have t1:=P.ae0;have t2:=P.Pk;have vl:v.length<=Y.length:=vQ _ _ F.nd F.C;obtain⟨yO,vT,vU⟩:=F.ne;have kl:(gB v Q).length=v.length:=by unfold gB;rw[XN]
 refine RM<|bh<|af O<|aC<|kq ht O<|af O<|af O ⟨m,_,O,l9.k (k:=.inl ((G':Nat):Int)) F2.b<|cQ (by rw[kl];lia),?_⟩;rw[ahz hv];have b3:aE m W (upd W m<|.d<|gB (v++[G'])<|hZ Q G' c):=aE.upd;have RU:upd W m (.d<|gB (v++[G'])<|hZ Q G' c) m=some (.d<|gB (v++[G'])<|hZ Q G' c):=aj;have oM:=b3 _ _ F2.hs (KF vU);have RV:=b3 _ _ F2.u yO;have RW:bR W (upd W m<|.d<|gB (v++[G'])<|hZ Q G' c):=λy N e=>b3 y _ e λz=>by rw[z,F2.b] at e;cases e
 generalize upd W m (.d<|gB (v++[G'])<|hZ Q G' c)=H3 at b3 RU oM RV RW⊢;refine dP<|iy<|af O ⟨.inl ⟨O,_,ah.of oM⟩,af O ⟨_,oM,cQ (by unfold iV;rw[XN];exact wO Bz (XA _ _)),?_⟩⟩;have i':iV S++[V.i (G':Nat)]=iV (S++[G']):=by unfold iV;rw[Z3];rfl
 rw[i'];have b4:aE w H3 (upd H3 w<|.l<|iV<|S++[G']):=aE.upd;have Hz:upd H3 w (.l<|iV<|S++[G']) w=some (.l<|iV<|S++[G']):=aj;have vV:=b4 _ _ RU vU;have rG:=b4 _ _ RV vT;have RX:=b4.bB oM;generalize upd H3 w (.l<|iV<|S++[G'])=H4 at b4 Hz vV rG RX⊢;have vW:∀y o,y∉ [n,m,w]->W y=some o->H4 y=some o:=λy o ne e=>b4 y o (b3 y o e λz=>ne (by rw[z];simp)) λz=>ne (by rw[z];simp);have B6:bR W H4:=λy N e=>RX _ _ (RW _ _ e);have vO:=B6 _ _ ht;have cW:=RT vS;have dW:=RT RQ;have pS:=hc.keep (λo e=>vW c o cW e) B6;have pM:=hd.keep (λo e=>vW d o dW e) B6;have m':H0 d=none:=F.sm.free RQ;have c':H4 p=some (.i C dx (h6 (B:Nat) lo pa ed be lg)):=vW _ _ (λz=>by
  have e:=A.ob.ob;simp only[xW,Zz,Os] at z;rcases z with rfl|rfl|rfl
  rw[F.fr.1] at e;cases e;rw[F.fr.2.1] at e;cases e;rw[F.fr.2.2] at e;cases e) ((F.sm.trans dG) _ _ A.ob.ob)
 have k':H4 pa=some (.l (Y.map gV)):=vW _ _ (λz=>by
  have e:=A.ob.c;simp only[xW,Zz,Os] at z;rcases z with rfl|rfl|rfl
  rw[F.fr.1] at e;cases e;rw[F.fr.2.1] at e;cases e;rw[F.fr.2.2] at e;cases e) ((F.sm.trans dG) _ _ A.ob.c)
 have qO:Y[G']?=some Y[G']:=Xd ol;have Hw:(Y.map gV)[G']?=some (gV Y[G']):=by rw[ZW,qO];rfl
 refine cx<|bf<|bh<|cM<|af O ⟨p,C,dx,_,_,O,c',X.cl,X.p,rm,af O<|cK k' (dv Hw)<|af O<|G_ ⟨_,O,?_⟩⟩;have b':∀(i:Nat)(G:DL)(q':bn)(L:Hp),ar H4 L->G∉ [n,m,w]->H0 G=none->aq q'<=T->i<es.length->(Y[G']?=some (some X')/\i=G'/\bK L G q' (nt X') r/\J' G' q'\/Y[X']?=some (some G')/\i=X'/\bK L G q' r (nt X')/\J' X' q')->
   Fg H0 (upd L n<|.l<|es.set i<|.r G) Y au T U I J' n m w (v++[G']) (S++[G']) (hZ Q G' c) (hZ nt G' r) (es.set i<|.r G)/\∀y o,y∉ [n,m,w]->H y=some o->upd L n (.l<|es.set i<|.r G) y=some o:=by
  intro i G q' L s5 RY j' tq il cs;have b5:aE n L (upd L n<|.l<|es.set i<|.r G):=aE.upd;have t4:=b5.bB (s5 _ _ rG);have kk:∀y o,y∉ [n,m,w]->H y=some o->upd L n (.l<|es.set i<|.r G) y=some o:=λy o ne e=>b5 y o (s5 _ _<|vW y o ne<|dG _ _ e) λz=>ne (by rw[z];simp);refine⟨F.add A.ob.tr kk (λy N e=>t4 _ _<|s5 _ _<|B6 _ _<|dG _ _ e) aj (b5 _ _ (s5 _ _ vV)<|KF yO) (b5 _ _ (s5 _ _ Hz)<|KF vT) hn hv ol RP ((pS.same s5).keep (λo e=>b5 c o e λz=>cW (by rw[z];simp)) t4) cW h' (wO t1 hU) RY j' tq ?_,kk⟩;have dk:∀{x y:am},bK L G q' x y->bK (upd L n<|.l<|es.set i<|.r G) G q' x y:=λh=>h.keep (λo e=>b5 G o e λz=>RY (by rw[z];simp)) t4;rcases cs with⟨e1,jR,e3,e4⟩|⟨e1,jR,e3,e4⟩
  exact .inl ⟨e1,jR,dk e3,e4⟩;exact .inr ⟨e1,jR,dk e3,e4⟩
 by_cases z:Y[G']=some X';refine iT ?_ (Z2 z);have hp:Y[G']?=some (some X'):=by rw[qO,z]
 have il:G'<es.length:=by rw[F.le];exact ol
 obtain⟨F5,k5⟩:=b' G' d qs H4 (ar.refl _) dW m' (wO t2 te) il (.inl ⟨hp,O,pM,g' hp⟩);exact pJ<|bh<|af O<|aC<|kq vO O<|af O<|af O ⟨n,_,_,G',O,O,rG,RL il,RO _ _<|q t c r _ _ hv F5 k5⟩;refine iF ?_ (VH z);have hp:Y[X']?=some (some G'):=by
  rcases rF with e|e
  rw[qO] at e;exact absurd (WV e) z;exact e
 have il:X'<es.length:=by rw[F.le];exact F.C _ hn
 have ql:qs.length<=2*aq qs+1:=lP qs "" pM.chg.ok pM.chg.c;have hb:=((pM.chg.bk ap).2).1;refine pJ<|bE vd O<|av<|bh<|af O<|aC<|kq vO O<|aI<|PQ pM ap ap λb L s5 fb e'=>?_;have B7:b∉ [n,m,w]:=λh=>by
  simp only[xW,Zz,Os] at h;rcases h with rfl|rfl|rfl
  rw[rG] at fb;cases fb;rw[vV] at fb;cases fb;rw[Hz] at fb;cases fb
 have b0:H0 b=none:=by
  cases hz:H0 b with
  |none=>rfl
  |some o=>rw[vW b o B7<|(F.sm.trans dG) _ _ hz] at fb;cases fb
 obtain⟨F5,k5⟩:=b' X' b (bk qs) L s5 B7 b0 ap il (.inr ⟨hp,O,e',f' hp⟩);exact af O<|af O ⟨n,_,_,X',O,O,s5 _ _ rG,RL il,RO _ _<|q t c r _ _ hv F5 k5⟩
end
abbrev Nm:=We×Nat
abbrev wT:=List Nm
abbrev Rows:=List cE
abbrev sB:=List Rows
noncomputable instance dNm (a:Nm) (ns:wT):Decidable (a∈ns):=decidable_of_iff (∃b∈ns,b=a) ⟨λ⟨_,h,e⟩=>e ▸ h,λh=>⟨a,h,rfl⟩⟩
def Wk(S T:Nm->Prop):im->Rows->Rows->Prop
 |[],l,r=>l=[]/\r=[]
 |.K::xs,l,r=>∃a d b,l=a::d/\r=a::b/\S (nm a)/\T (nm a)/\Wk S T xs d b
 |.P c::xs,l,r=>∃a b,r=a::b/\a.2.2=c/\ ¬S (nm a)/\T (nm a)/\Wk S T xs l b
 |.C c::xs,l,r=>∃a d,l=a::d/\a.2.2=c/\S (nm a)/\ ¬T (nm a)/\Wk S T xs d r
noncomputable def cn(F:Z5):im:=F.1.map .P++(F.2.1.map .C++(F.2.2.map λb=>At.K::(b.1.map .P++b.2.map .C)).flatten)
section
variable{S T U v A:Nm->Prop}{k N E G I:im}{l m r q:Rows}
theorem yP(h:Wk S T k l r):(∀a∈l,S<|nm a)/\∀a∈r,T (nm a):=by
 induction k generalizing l r with
 |nil=>obtain⟨rfl,rfl⟩:=h;exact⟨nofun,nofun⟩
 |cons x k i=>
  cases x with
  |K=>
   obtain⟨a,q,f,rfl,rfl,s,t,h⟩:=h;exact⟨λb d=>(xW.mp d).elim (λe=>e ▸ s)<|(i h).1 b,λb d=>(xW.mp d).elim (λe=>e ▸ t)<|(i h).2 b⟩
  |P c=>
   obtain⟨a,f,rfl,Y,s,t,h⟩:=h;exact⟨(i h).1,λb d=>(xW.mp d).elim (λe=>e ▸ t)<|(i h).2 b⟩
  |C c=>
   obtain⟨a,q,rfl,Y,s,t,h⟩:=h;exact⟨λb d=>(xW.mp d).elim (λe=>e ▸ s)<|(i h).1 b,(i h).2⟩
theorem ahN(c:Nat):∀{p:am}{l r:Rows},Wk S T (.C c::(p.map .P++N)) l r↔Wk S T (p.map .P++ .C c::N) l r:=by
 intro p;induction p with
 |nil=>exact No
 |cons d p n=>
  intro l r;constructor;rintro⟨a,q,e,k,s,t,b,i,m,j,g,f,h⟩;exact o4 b i m j g f (n.mp (o4 a q e k s t h));rintro⟨b,i,m,j,g,f,h⟩;obtain⟨a,q,e,k,s,t,h⟩:=n.mpr h;exact o4 a q e k s t ⟨b,i,m,j,g,f,h⟩
theorem ahO:∀{l r:Rows},Wk S T k l r↔Wk S T (cn<|nb k) l r:=by
 induction k with
 |nil=>exact No
 |cons x k i=>
  intro l r;cases x with
  |K=>
   refine TD λa=>TD λq=>TD λd=>?_;rw[i];have:cn (nb k)=((nb k).1.map At.P++(nb k).2.1.map At.C)++((nb k).2.2.map λb=>At.K::(b.1.map .P++b.2.map .C)).flatten:=by unfold cn;rw[VD]
   rw[this];exact No
  |P c=>
   refine TD λa=>TD λd=>?_;rw[i];exact No
  |C c=>
   have e:Wk S T (.C c::k) l r↔Wk S T (.C c::cn (nb k)) l r:=by
    refine TD λa=>TD λq=>?_;rw[i]
   exact e.trans<|ahN c
theorem rH(e:nb k=nb N)(h:Wk S T k l r):Wk S T N l r:=by rw[ahO] at h⊢;rw[<-e];exact h
theorem HA(h:Wk S T k l r):Wk T S (k.map sw) r l:=by
 induction k generalizing l r with
 |nil=>exact⟨h.2,h.1⟩
 |cons x k i=>
  cases x with
  |K=>obtain⟨a,q,d,zq⟩:=XM h;obtain⟨e,b,s,t,h⟩:=ZE zq;exact pG a d q b e t s (i h)
  |P c=>obtain⟨a,d,e,b,s,t,h⟩:=h;exact o4 a d e b t s (i h)
  |C c=>obtain⟨a,q,e,b,s,t,h⟩:=h;exact o4 a q e b t s (i h)
theorem RZ(h:cD k N E)(b:∀x,S x->U x->T x):∀{l m r:Rows},Wk S T k l m->Wk T U N m r->Wk S U E l r:=by
 induction h with
 |n=>rintro l m r ⟨rfl,rfl⟩ ⟨Y,rfl⟩;exact⟨O,O⟩
 |p Y i=>
  rintro l m r h ⟨a,f,rfl,e,t,u,d⟩;exact o4 a f O e (λs=>t<|b _ s u) u (i h d)
 |c Y i=>
  rintro l m r ⟨a,q,rfl,e,s,t,h⟩ d;exact o4 a q O e s (λu=>t<|b _ s u) (i h d)
 |kk Y i=>
  rintro l m r ⟨a,q,o,rfl,rfl,s,t,h⟩ ⟨Y,Y,f,e,rfl,j,u,d⟩;cases e;exact pG a q f O O s u (i h d)
 |kc Y i=>
  rintro l m r ⟨a,q,o,rfl,rfl,s,t,h⟩ ⟨Y,Y,e,g,j,u,d⟩;cases e;exact o4 a q O g s u (i h d)
 |pk Y i=>
  rintro l m r ⟨a,o,rfl,g,s,t,h⟩ ⟨Y,Y,f,e,rfl,j,u,d⟩;cases e;exact o4 a f O g s u (i h d)
 |pc Y i=>
  rintro l m r ⟨a,o,rfl,g,s,t,h⟩ ⟨Y,Y,e,G,j,u,d⟩;cases e;exact i h d
structure Fo(Cu Nw S T v A:Nm->Prop):Prop where
 n:∀x,Nw x-> ¬S x/\ ¬T x
 c:∀x,Cu x->T x->S x
 s:∀x,v x↔S x/\ ¬Cu x\/Nw x
 t:∀x,A x↔T x/\ ¬Cu x\/Nw x
variable{J p:Nm->Prop}[DecidablePred p]
theorem ahP(F:Fo J p S T v A)(h:c_ k N G I):∀{l q r:Rows},Wk S v k l q->Wk S T N l r->∃b,Wk T A G r b/\Wk v A I q b/\(b.filter λa=>decide (p<|nm a))=q.filter λa=>decide (p<|nm a):=by
 have C:∀{x},v x-> ¬S x->p x:=λh n=>((F.s _).mp h).resolve_left λz=>n z.1;have o:∀{x},S x-> ¬p x:=λh z=>(F.n _ z).1 h;have H:∀{x},T x-> ¬p x:=λh z=>(F.n _ z).2 h;have L:∀{x},v x->S x-> ¬J x:=λh g=>((F.s _).mp h).elim (·.2) λz=>(o g z).elim;have D:∀{a:cE}{r:Rows},¬p (nm a)->((a::r).filter λa=>decide (p<|nm a))=r.filter λa=>decide (p<|nm a):=λh=>YT ap;have Y:∀{a:cE}{r:Rows},p (nm a)->((a::r).filter λa=>decide (p<|nm a))=a::r.filter λa=>decide (p<|nm a):=λh=>iX ap;induction h with
 |n=>rintro l q r ⟨rfl,rfl⟩ ⟨Z,rfl⟩;exact nW [] ⟨O,O⟩ ⟨O,O⟩ O
 |p1 Z i=>
  rintro l q r ⟨a,l2,rfl,e,s,f,h⟩ d;obtain⟨b,u,m,j⟩:=i h d;have w:=C f s;have y:=(F.t _).mpr (.inr w);exact nW (a::b) (o4 a b O e ((F.n _ w).2) y u) (pG a l2 b O O f y m) (by rw[Y w,Y w,j])
 |p2 Z i=>
  rintro l q r h ⟨a,B,rfl,e,s,t,d⟩;obtain⟨b,u,m,j⟩:=i h d;have y:=(F.t _).mpr (.inl ⟨t,λz=>s<|F.c _ z t⟩);exact nW (a::b) (pG a B b O O t y u) (o4 a b O e (λz=>H t<|C z s) y m) (by rw[D<|H t,j])
 |kk Z i=>
  rintro l q r ⟨a,l2,K,rfl,rfl,s,f,h⟩ ⟨Z,Z,B,e,rfl,Z,t,d⟩;cases e;obtain⟨b,u,m,j⟩:=i h d;have y:=(F.t _).mpr (.inl ⟨t,L f s⟩);exact nW (a::b) (pG a B b O O t y u) (pG a K b O O f y m) (by rw[D<|H t,D<|H t,j])
 |kc Z i=>
  rintro l q r ⟨a,l2,K,rfl,rfl,s,f,h⟩ ⟨Z,Z,e,E,Z,t,d⟩;cases e;obtain⟨b,u,m,j⟩:=i h d;exact nW b u (o4 a K O E f (λz=>((F.t _).mp z).elim (λz=>t z.1)<|o s) m) (by rw[D<|o s,j])
 |ck Z i=>
  rintro l q r ⟨a,l2,rfl,E,s,f,h⟩ ⟨Z,Z,B,e,rfl,Z,t,d⟩;cases e;obtain⟨b,u,m,j⟩:=i h d;exact nW b (o4 a B O E t (λz=>((F.t _).mp z).elim (λz=>f<|(F.s _).mpr<|.inl ⟨s,z.2⟩)<|o s) u) m j
 |cc Z i=>
  rintro l q r ⟨a,l2,rfl,E,s,f,h⟩ ⟨Z,Z,e,M,Z,t,d⟩;cases e;exact i h d
theorem ahQ [DecidablePred S]:∀{l r b:Rows},Wk S T k l r->Wk S A k l b->(r.filter λa=> !decide (S<|nm a))=(b.filter λa=> !decide (S<|nm a))->r=b:=by
 induction k with
 |nil=>rintro l r b ⟨Y,rfl⟩ ⟨Y,rfl⟩ Y;rfl
 |cons x k i=>
  cases x with
  |K=>
   rintro l r b ⟨a,l2,m,rfl,rfl,s,t,h⟩ ⟨Y,Y,j,e,rfl,Y,Y,d⟩ f;cases e;rw[YT ap,YT ap] at f;rw[i h d f]
  |P c=>
   rintro l r b ⟨a,m,rfl,e,s,t,h⟩ ⟨q,j,rfl,g,p,Y,d⟩ f;rw[iX ap,iX ap] at f;injection f with o n
   rw[o,i h d n]
  |C c=>
   rintro l r b ⟨a,l2,rfl,e,s,t,h⟩ ⟨Y,Y,g,Y,Y,Y,d⟩ f;cases g;exact i h d f
theorem HB [DecidablePred S][DecidablePred T]:∀{l r:Rows},Wk S T k l r->(l.filter λa=>decide (T<|nm a))=r.filter λa=>decide (S<|nm a):=by
 induction k with
 |nil=>rintro l r ⟨rfl,rfl⟩;rfl
 |cons x k i=>
  cases x with
  |K=>
   rintro l r ⟨a,l2,b,rfl,rfl,s,t,h⟩;rw[iX ap,iX ap,i h]
  |P c=>
   rintro l r ⟨a,b,rfl,e,s,t,h⟩;rw[YT ap];exact i h
  |C c=>
   rintro l r ⟨a,l2,rfl,e,s,t,h⟩;rw[YT ap];exact i h
end
theorem ahR{xs N o:im}(h:fi xs N o t):∀{g v:im},fi xs N g v->o=g/\t=v:=by
 induction h with
 |nil=>intro Y Y h;cases h;exact⟨O,O⟩
 |p1 Y i=>
  intro Y Y h;cases h with
  |p1 h=>obtain⟨rfl,rfl⟩:=i h;exact⟨O,O⟩
  |p2 n h=>exact(n _ _ O).elim
 |p2 n Y i=>
  intro Y Y h;cases h with
  |p1 h=>exact(n _ _ O).elim
  |p2 Y h=>obtain⟨rfl,rfl⟩:=i h;exact⟨O,O⟩
 |kk Y i=>intro Y Y h;cases h with|kk h=>obtain⟨rfl,rfl⟩:=i h;exact⟨O,O⟩
 |kc Y i=>intro Y Y h;cases h with|kc h=>obtain⟨rfl,rfl⟩:=i h;exact⟨O,O⟩
 |ck Y i=>intro Y Y h;cases h with|ck h=>obtain⟨rfl,rfl⟩:=i h;exact⟨O,O⟩
 |cc Y i=>intro Y Y h;cases h with|cc h=>obtain⟨rfl,rfl⟩:=i h;exact⟨O,O⟩
theorem ahS{d:am}(h:fN g e ps s l m n)(a:fN g e iN q f d c):ps=iN:=by
 obtain⟨o,t,p,k,Y⟩:=h.Pl;obtain⟨r,v,b,j,Y⟩:=a.Pl;obtain⟨rfl,rfl⟩:=ahR p b;exact N_ _ _ "" "" h.Gi a.Gi h.lN a.lN<|k.trans j.symm
section
variable{K:Frag}{C n:DL}
structure Fl(H0 H:Hp)(Y:ac)(au:List am)(T U:Nat)(I J':Nat->bn->Prop)(e2 g3 a4:DL)(B:Nat)(r:am)(Yn st:am)(ad:Nat->DL)(nt:Nat->am)(es:ci):Prop where
 f:Fg H0 H Y au T U I J' e2 g3 a4 Yn st ad nt es
 hh:B∈Yn
 nh:nt B=r
 cl:∀k∈Yn,k∉st->∀m,gz Y k m->m∈Yn
def ahU:gu:=[.a 5 (.w .p (.v 4) []),
  .j 6 .l [(.a 1 "neighbours" (.v 0) [.v 5])] RK]
theorem ahV(h:ae Γ o u H λx H1=>uI Γ.K (xg m) x H1/\z6 Γ.K m x [] H1 Q):ae Γ (.w m o []) u H Q:=h
theorem ahW{Q:v0}(X:gM K C)(A:fQ C H0 p M Ed B Y au a' T dx lo pa ed be lg bs gZ)(EJ:yK H0 gZ Y au T J)(L:Fl H0 H Y au T U I J' e2 g3 G B r v (w++[X']) ad nt es)(dB:B3 Y B I J J')(vR:T+U<=14000)(d':Y.length<=40000)(Bz:w.length<=v.length)(N0:Do)(hD:∀u H,N0 u H->D.nx u H)(q:∀(s R:am)(ox:Nat->DL)(S:Nat->am)(bj:ci)(Q P:v0)(Z:Hp),Fl H0 Z Y au T U I J' e2 g3 G B r s R ox S bj->R.length+v.length=w.length+s.length->v.length<=s.length->N0 [some<|.r p,some c0,some<|.r e2,some<|.r g3,some<|.r G,some<|.i (X':Nat),Q,P] Z):
  ax (GF K C n E) ahU D [some<|.r p,some c0,some<|.r e2,some<|.r g3,some<|.r G,u5,Q,P] H:=by
 have F:=L.f;obtain⟨yO,vT,vU⟩:=F.ne;have hl:(iV<|w++[X'])[(iV<|w++[X']).length - 1]?=some (V.i (X':Nat)):=by unfold iV;simp
 refine aN<|ahV<|af O ⟨.inl ⟨O,_,ah.of F.hs⟩,_,_,F.hs,hl,?_⟩;have b':(iV<|w++[X']).dropLast=iV w:=by unfold iV;rw[Z3];exact xV
 rw[b'];have b1:aE G H (upd H G<|.l<|iV w):=aE.upd;have HC:=b1.bB F.hs;have R0:upd H G (.l<|iV w) G=some (.l<|iV w):=aj;have R9:X'∈v:=F.ls X' (Za _<|.head _);have F1:Fg H0 (upd H G<|.l<|iV w) Y au T U I J' e2 g3 G v w ad nt es:=by
  refine⟨λy o e=>b1 y o (F.sm _ _ e) λz=>(by rw[z,F.fr.2.2] at e;cases e),b1 _ _ F.u vT,b1 _ _ F.b vU,R0,F.fr,F.ne,F.nd,F.C,λk d=>F.ls k<|Wu _ d,F.tp,λk d=>?_,F.le,F.e0,λi j e hi hj=>?_⟩;obtain⟨a,g,l,N,h2,h3⟩:=F.gt k d;exact rS a g l N ⟨h2.keep (λo e=>b1 _ o e λz=>a (by rw[z];simp)) HC,h3⟩;obtain⟨a,q,zq⟩:=XU (F.ed i j e hi hj);obtain⟨N,h2,h3,h4,h5⟩:=ZE zq;exact o4 a q N h2 h3 (h4.keep (λo e=>b1 _ o e λz=>h2 (by rw[z];simp)) HC) h5
 have A1:=A.same F1.sm;refine GU<|A1.ob.m1 O O<|af O ⟨p,M,Ed,B,Y,au,a',T,X',O,⟨dx,lo,pa,ed,be,lg,bs,gZ,A1⟩,F.C _ R9,λb W s2 fb hb=>?_⟩;have B7:b∉ [e2,g3,G]:=λh=>by
  simp only[xW,Zz,Os] at h;rcases h with rfl|rfl|rfl
  rw[F1.u] at fb;cases fb;rw[F1.b] at fb;cases fb;rw[F1.hs] at fb;cases fb
 refine nW b O (o3 _ (ah.of hb)) (kT (K:=K) (a:=b) (xs:=iV (ou Y X')) (λi u H3=>Jb λ(s R:am)(ox:Nat->DL)(S:Nat->am)(bj:ci)(Q P:v0)=>Gz (u=[some<|.r p,some c0,some<|.r e2,some<|.r g3,some<|.r G,some<|.i (X':Nat),Q,P]) (Fg H0 H3 Y au T U I J' e2 g3 G s R ox S bj) (∀k∈v,k∈s) (∀k∈w,k∈R) (∀k∈s,k∈v\/k∈R) (S B=r) (∀k,k<i->∀m,(ou Y X')[k]?=some m->m∈s) (R.length+v.length=w.length+s.length) (v.length<=s.length) (H3 b=some (.l<|iV<|ou Y X'))) ?_ ?_ ?_ ?_);exact⟨v,w,ad,nt,es,Q,P,O,F1.same s2,λ_ h=>h,λ_ h=>h,λ_ h=>.inl h,L.nh,λk d=>absurd d<|Nat.not_lt_zero _,O,VL _,hb⟩;rintro i u H3 _ ⟨s,R,ox,S,bj,Q,P,rfl,F3,_,_,_,_,_,_,_,yQ⟩;exact ah.of yQ;rintro i x u H3 hi ⟨s,R,ox,S,bj,Q,P,rfl,F3,N,h2,h3,h4,h5,h6,h7,yQ⟩;unfold iV at hi;rw[ZW] at hi;obtain⟨m,hm,rfl⟩:=ZX.mp hi;have rF:gz Y X' m:=RH.mp (Wv hm);have vl:=vQ _ _ F3.nd F3.C;refine ahB X A EJ F3 (N _ L.hh) dB vR (wO d' (XA _ _)) ap (N _ R9) rF _ (λ_ _ h=>h) (λ_ _ h=>h) (λhv=>?_) λt c r' t9 H4 c' F4 k4=>?_;refine⟨s,R,ox,S,bj,_,P,O,F3,N,h2,h3,h4,λk d m' iJ=>?_,h6,h7,yQ⟩;by_cases z:k=i;subst z;rw[hm] at iJ;cases iJ;exact hv;exact h5 k (Y2 (Xe d) z) m' iJ;refine⟨s++[m],R++[m],_,_,t9,_,_,O,F4,λk d=>Wu _<|N k d,λk d=>Wu _<|h2 k d,λk d=>?_,?_,λk d m' iJ=>?_,?_,?_,k4 _ _ B7 yQ⟩;rcases X0.mp d with d|d
 rcases h3 k d with h|h
 exact .inl h;exact .inr (Wu _ h);exact .inr (Za _ d);rw[rE<|λz=>c' (by rw[<-z];exact N _ L.hh)];exact h4;by_cases z:k=i;subst z;rw[hm] at iJ;cases iJ;exact Za _ (.head _);exact Wu _ (h5 k (Y2 (Xe d) z) m' iJ);rw[W0,W0,ZS];lia;rw[W0];exact hB h7;rintro u H3 ⟨s,R,ox,S,bj,Q,P,rfl,F3,N,h2,h3,h4,h5,h6,h7,yQ⟩;refine hD _ _<|q s R ox S bj _ _ H3 ⟨F3,N _ L.hh,h4,λk d hn m hm=>?_⟩ h6 h7;have kv:k∈v:=by
  rcases h3 k d with h|h
  exact h;exact absurd h hn
 by_cases z:k=X';subst z;obtain⟨i,hi⟩:=WM.mp (RH.mpr hm);exact h5 i (by unfold iV;rw[XN];exact(Wq.mp hi).1) m hi;exact N _ (L.cl k kv (λh=>by
  rcases X0.mp h with h|h
  exact hn (h2 k h);exact z (Yd.mp h)) m hm)
theorem ahZ{B:Int}:bY "edges" (V.r x) (h6 B lo p e be lg)=h6 B lo p x be lg:=O
theorem ah0{B:Int}:bY "lengths" (V.r x) (h6 B lo p e be lg)=h6 B x p e be lg:=O
theorem R_(h:∀p,H p=none->aP Γ as u (upd H p<|.d []) λvs W=>W p=some (.d [])/\∃N:ii,vs=tO N/\N.length<=15/\Q (.r p) (upd W p<|.d<|ky [] N)):ae Γ (.x tQ as) u H Q:=h
theorem Sa(h:ae Γ x u H λv H1=>∃j:Int,[v]=[.i j]/\ -(2 ^ 62)<=j/\j<2 ^ 62/\∃c:Nat->Nat->ci->Hp->Prop,(∃m,c 0 m [] H1)/\∀i m N W,c i m N W->
   ((gH 0 j.toNat).stop i W/\∀p,W p=none->Q (.r p) (upd W p<|.l N))\/
   ((gH 0 j.toNat).go i W/\∀x d,(gH 0 j.toNat).gQ i W x d->jF Γ.K none x d λz=>k_ none (z.map some++b_ u fv) d λb f=>
    if b=true then ae Γ.calm e (z.map some++b_ u fv) f λy k=>N.length<sizeLine/\∃a,a<m/\c (i+1) a (N++[y]) k else ∃a,a<m/\c (i+1) a N f)):ae Γ (.C none fv .g [x] none e) u H Q:=BE _ _ (λY Y=>No) h
inductive HD(C:DL)(vs:ci)(H:Hp)(Q:VK)(E:XK):Prop|i(p c:DL)(M Ed:db)(B:Nat)(Y:ac)(au:List am)(t:ac)(T U:Nat)(I J e:Nat->bn->Prop)(ps:bn)(l r:am)(_:vs=[.r p,.r c])(_:aM C H p M Ed B Y au t T)(_:dU H Ed J)(_:bK H c ps l r)(_:au[B]?=some l)(_:aq ps<=U)(_:T+U<=14000)(_:Y.length<=40000)(_:I B ps)(_:B3 Y B I J e)(_:∀(d X:db)(m:List am)(Z:Hp),aS M H Z->(∀y∈d,y∈M\/H y=none)->(∀y∈X,H y=none)->aM C Z p d X B Y m t T->dU Z X e->m[B]?=some r->(∀k,k<Y.length->∃g b R,I k g/\au[k]?=some b/\m[k]?=some R/\iU g b R)->Q .a Z)
noncomputable def ah1:gu:=[.f (.v 0) "edges" (.v 2),
 .f (.v 0) "lengths" (.C none [("gets",3)] .g [(.a 3 "many" (.v 0) [])] none (.i (.l 2 [(.B (.v 1) (.v 0))]) (.c (.i 1))))]
theorem ah2(X:gM K C)(A:fQ C H0 p M Ed B Y au b' T dx lo J ed be lg bs gZ)(L:Fl H0 H Y au T U I J' x g3 a4 B r c' [] ad R es)(vR:T+U<=14000)(k':Y.length<=40000)(q:∀(M' cX:db)(mQ:List am)(Z:Hp),aS M H0 Z->(∀y∈M',y∈M\/H0 y=none)->(∀y∈cX,H0 y=none)->aM C Z p M' cX B Y mQ b' T->dU Z cX J'->mQ[B]?=some r->(∀k,k<Y.length->∃g lk mR,I k g/\au[k]?=some lk/\mQ[k]?=some mR/\iU g lk mR)->Q .a Z):
  ax (GF K C n E) ah1 (Dn Q) [some<|.r p,some c0,some<|.r x,some<|.r g3,some<|.r a4,u5,u6,u7] H:=by
 have F:=L.f;have G:=ahy A.ob.tr L.hh F.C λk hk m hm=>L.cl k hk aJ m hm;have A1:=A.same F.sm;obtain⟨⟨a1,a2,a3,Sb,a5,a6⟩,⟨b1,b2,b3,b4,b5⟩,⟨c1,c2,c3,c4⟩,⟨d1,d2,d3⟩,⟨e1,jR⟩,g1,g2⟩:=A.u.l;have yR:∀{y:DL}{o:HO},H0 y=some o->y≠x/\y≠g3/\y≠a4:=λe=>⟨λz=>(by rw[z,F.fr.1] at e;cases e),λz=>(by rw[z,F.fr.2.1] at e;cases e),λz=>(by rw[z,F.fr.2.2] at e;cases e)⟩;refine oh<|af O<|af O ⟨p,C,dx,_,O,A1.ob.ob,X.cl,X.q,(by show 6<1000;decide),?_⟩;rw[ahZ];have p5:aE p H (upd H p<|.i C dx<|h6 (B:Nat) lo J x be lg):=aE.upd;have o5:upd H p (.i C dx<|h6 (B:Nat) lo J x be lg) p=some (.i C dx<|h6 (B:Nat) lo J x be lg):=aj;have t4:bR H (upd H p<|.i C dx<|h6 (B:Nat) lo J x be lg):=λy N e=>p5 y _ e λz=>by rw[z,A1.ob.ob] at e;cases e
 generalize upd H p (.i C dx<|h6 (B:Nat) lo J x be lg)=H5 at p5 o5 t4⊢;have pW:p≠x/\p≠g3/\p≠a4:=yR A.ob.ob;have g':=p5 _ _ F.b (KF pW.2.1);have l':=p5 _ _ F.u (KF pW.1);have Sd:gN C H5 p dx lo J x be lg B (au.map List.length) Y:=⟨o5,p5 _ _ A1.ob.d<|KF a1,p5 _ _ A1.ob.c<|KF a2,A.ob.l,A.ob.tr,A.ob.r,A.ob.sz⟩;have h':∀k,k<Y.length->∃g lk,au[k]?=some lk/\bK H5 (ad k) g lk (R k)/\I k g/\aq g<=U:=λk hk=>by
  obtain⟨_,g,lk,h1,h2,s,h4⟩:=F.gt k (G k hk);refine oZ g lk h1 (h2.keep (λo e=>p5 _ o e λz=>?_) t4) s h4;obtain⟨xs,hx,_⟩:=h2;rw[z,A1.ob.ob] at hx;cases hx
 refine oh<|Sa<|Sd.m0 O O ⟨p,dx,lo,J,x,be,lg,B,_,Y,O,Sd,_,O,ap,ap,AJ (K:=K) (lo:=0) ap (λi N W=>N=iV ((List.range i).map λk=>(R k).length)) O ?_ ?_⟩;rintro i N W hi s2 rfl Q' q';have qF:i<Y.length:=by lia
 obtain⟨g,lk,h1,⟨xs,hx,pv,iW⟩,s,h4⟩:=h' i qF;have e0:(0:Int)+(i:Nat)=((i:Nat):Int):=by lia
 rw[e0];have cl:g.length<=2*aq g+1:=lP g "" iW.ok iW.c;refine bh<|bE ig O<|av<|RN<|af O<|af O ⟨g3,V.r<|ad i,O,(by rw[<-B1 (ad:=ad) (G i qF)];exact fE.k (k:=.inl ((i:Nat):Int)) (s2 _ _ g')),aI ⟨ad i,xs,g,O,s2 _ _ hx,pv.mono<|aX s2,iW.ok,iW.c,ap,λt H3 s3 ht=>aC<|kq ht O ?_⟩⟩;have eg:(qA g).sum=(R i).length:=iW.run.gives;rw[eg];refine q' _ _ s3 ?_;rw[YL];unfold iV;rw[Z3,Z3];rfl;rintro N H6 S s6 rfl fL;have en:((Y.length:Nat):Int).toNat=Y.length:=m3 _
 rw[en];have s7:=Xq (o:=.l (iV<|(List.range Y.length).map λk=>(R k).length)) fL;have Bx:upd H6 S (.l<|iV<|(List.range Y.length).map λk=>(R k).length) S=some (.l<|iV<|(List.range Y.length).map λk=>(R k).length):=aj;have yS:=s6.trans s7;generalize upd H6 S (.l<|iV<|(List.range Y.length).map λk=>(R k).length)=H7 at s7 Bx yS⊢;refine af O (pE p C dx _ O (yS _ _ o5) X.cl X.t (by show 6<1000;decide) ?_);rw[ah0];have p8:aE p H7 (upd H7 p<|.i C dx<|h6 (B:Nat) S J x be lg):=aE.upd;have o8:upd H7 p (.i C dx<|h6 (B:Nat) S J x be lg) p=some (.i C dx<|h6 (B:Nat) S J x be lg):=aj;have Se:bR H7 (upd H7 p<|.i C dx<|h6 (B:Nat) S J x be lg):=λy N e=>p8 y _ e λz=>by rw[z,yS _ _ o5] at e;cases e
 generalize upd H7 p (.i C dx<|h6 (B:Nat) S J x be lg)=H8 at p8 o8 Se⊢;have k8:∀y o,y≠p->H y=some o->H8 y=some o:=λy o ne e=>p8 y o (yS _ _<|p5 y o e ne) ne;have tu:bR H H8:=λy N e=>Se _ _ (yS _ _<|t4 _ _ e);have yT:∀y o,y≠p->H0 y=some o->H8 y=some o:=λy o ne e=>k8 y o ne (F.sm _ _ e);have B_:H5 S=none:=s6.free fL;have oy:∀{y:DL}{o:HO},H y=some o->S≠y:=λe z=>by
  by_cases w:S=p;rw[w,o5] at B_;cases B_;rw[p5 _ _ (by rw[<-z] at e;exact e) w] at B_;cases B_
 have HE:H0 S=none:=by
  cases hz:H0 S with
  |none=>rfl
  |some o=>exact absurd O (oy<|F.sm _ _ hz)
 have kI:au.length=Y.length:=by have:=A.ob.l;rw[XN] at this;exact this
 have Ca:∀(i:Nat)(a:DL),es[i]?=some (V.r a)->∃j q,Y[i]?=some (some j)/\a∉ [x,g3,a4]/\H0 a=none/\bK H8 a q (R j) (R i)/\J' i q/\aq q<=T:=λi a e=>by
  have il:i<Y.length:=by rw[<-F.le];exact(Wq.mp e).1
  have i0:i≠0:=λz=>by rw[z,F.e0] at e;cases e
  obtain⟨j,hj,aD⟩:=A.ob.tr.up i (WY i0) il;obtain⟨a',q',h1,h2,s,h4,h5,h6⟩:=F.ed i j hj (G i il) (G j (Xf aD il));rw[e] at h1;cases h1;refine o4 j q' hj h2 s (h4.keep (λo e=>k8 _ o (λz=>?_) e) tu) ⟨h5,h6⟩;rw[z,A.ob.ob] at s;cases s
 have f':∀(y:DL),y∈pP es->∃i,es[i]?=some (V.r y):=λy h=>by
  obtain⟨v,hv,e⟩:=VG.mp h;obtain⟨i,hi⟩:=WM.mp hv;have:v=.r y:=by
   cases v with
   |r b=>exact IN V.r (WV e)
   |_=>cases e
  rw[this] at hi;exact o3 i hi
 have HF:∀{i:Nat}{b:DL},bs[i]?=some b->H0 b=some (.l<|iV<|WX Y i):=λh=>A.hk _ _ h;have nx:∀{k:Nat}{lk:am},k<Y.length->((List.range Y.length).map R)[k]?=some (R k):=λh=>by rw[ZW,W_ h];rfl
 have d':∀{b:DL},b∈bs->b≠p:=λh z=>a6 (by rw[<-z];exact h);have B8:fQ C H8 p (p::S::J::x::be::lg::bs) (pP es) B Y ((List.range Y.length).map R) b' T dx S J x be lg bs es:=by
  refine⟨⟨o8,?_,yT _ _ (KF a2) A.ob.c,by rw[XN,XN,Wd],A.ob.tr,A.ob.r,A.ob.sz⟩,O,⟨?_⟩,k8 _ _ (KF pW.1) F.u,F.le,O,F.e0,λi j e=>?_,λi a e h=>?_,yT _ _ (KF Sb) A.D,A.P,λi b e=>yT _ _ (d'<|Wv e)<|A.hk i b e,yT _ _ (KF a5) A.y,A.Q⟩;rw[XE,XE];have:=p8 _ _ Bx (oy A1.ob.ob);unfold iV at this;rw[XE] at this;exact this;simp only[Y8,xW,not_or];refine⟨⟨KF<|oy A1.ob.ob,a2,pW.1,Sb,a5,a6⟩,⟨oy A1.ob.c,oy F.u,oy A1.D,oy A1.y,λh=>?_⟩,⟨(yR A.ob.c).1,c2,c3,c4⟩,⟨KF (yR A.D).1,KF (yR A.y).1,λh=>?_⟩,⟨e1,jR⟩,g1,g2⟩;obtain⟨i,hi⟩:=WM.mp h;rw[HF hi] at HE;cases HE;obtain⟨i,hi⟩:=WM.mp h;exact(yR<|HF hi).1 O;have il:=(Wq.mp e).1;have jl:=(bz A.ob.tr e).1;obtain⟨a,q',h1,_,_,_⟩:=F.ed i j e (G i il) (G j (Xf jl il));obtain⟨j',q2,e',_,_,h4,_,h6⟩:=Ca i a h1;rw[e] at e';cases e';exact oT a q2 (R j) (R i) h1 (nx (lk:=[]) (Xf jl il)) (nx (lk:=[]) il) h4 h6;obtain⟨j,q',_,h2,s,⟨xs,h4,_⟩,_⟩:=Ca i a e;have HG:∃o,H a=some o:=by
   obtain⟨j1,AA,aD⟩:=A.ob.tr.up i (by
    by_cases z:i=0;rw[z,F.e0] at e;cases e;exact WY z) (by rw[<-F.le];exact(Wq.mp e).1)
   have il:=(Wq.mp AA).1;obtain⟨a',q1,k1,_,_,⟨N,k4,_⟩,_⟩:=F.ed i j1 AA (G i il) (G j1 (Xf aD il));rw[e] at k1;cases k1;exact o3 _ k4
  obtain⟨o,HG⟩:=HG;simp only[xW] at h;rcases h with rfl|rfl|rfl|rfl|rfl|rfl|h
  rw[A.ob.ob] at s;cases s;exact oy HG O;rw[A.ob.c] at s;cases s;exact h2 aJ;rw[A.D] at s;cases s;rw[A.y] at s;cases s;obtain⟨i',dq⟩:=WM.mp h;rw[HF dq] at s;cases s
 have oq:p∈M/\J∈M/\be∈M/\lg∈M/\∀b∈bs,b∈M:=by rw[A.K];simp;exact λb hb=>.inr (.inr<|.inr<|.inr<|.inr<|.inr hb)
 refine q _ _ _ H8 (λy o e ne=>yT y o (λz=>ne (by rw[z];exact oq.1)) e) (λy h=>?_) (λy h=>?_) (qC dx S J x be lg bs es B8) (λi a e=>?_) ?_ λk hk=>?_;simp only[xW] at h;rcases h with rfl|rfl|rfl|rfl|rfl|rfl|h
 exact .inl oq.1;exact .inr HE;exact .inl oq.2.1;exact .inr F.fr.1;exact .inl oq.2.2.1;exact .inl oq.2.2.2.1;exact .inl (oq.2.2.2.2 _ h);obtain⟨i,hi⟩:=f' _ h;obtain⟨_,_,_,_,s,_⟩:=Ca i y hi;exact s;have e':es[i+1]?=some (V.r a):=by
  rw[B8.rD,Xo,ZW,e];rfl
 obtain⟨j,q',_,_,_,⟨xs,h4,h5,_⟩,h6,_⟩:=Ca (i+1) a e';exact oW xs q' h4 h5 h6;rw[nx (lk:=[]) A.ob.r,L.nh];obtain⟨_,g,lk,h1,h2,s,h4⟩:=F.gt k (G k hk);exact q9 g lk (R k) s h1 (nx (lk:=[]) hk) h2.chg
theorem ah6(X:gM K C):bS (HD C) (λE=>GF K C n E) RD RC:=by
 intro vs H Q E h;obtain⟨p,c,M,Ed,B,Y,au,b',T,U,I,J,J',ps,l,r,rfl,⟨dx,lo,pa,ed,be,lg,bs,gZ,A⟩,EP,hc,hl,ht,vR,F,hI,dB,q⟩:=h;have kE:(au.map List.length)[B]?=some l.length:=by rw[ZW,hl];rfl
 refine dP<|A.ob.m1 O O<|af O ⟨p,dx,lo,pa,ed,be,lg,B,_,Y,c,ps,l,r,l.length,O,A.ob,hc,ap,kE,.inl ⟨O,λH1 s1=>?_⟩⟩;have A1:=A.same s1;refine aN<|QP<|cM<|af O ⟨p,C,dx,_,_,O,A1.ob.ob,X.cl,X.q,vF,_,.inl<|ah.of A1.R,λb f2=>?_⟩;have s2:=Xq (o:=.l gZ) f2;have A2:=A1.same s2;refine aN<|R_ λa G=>?_;have s3:=Xq (o:=.d []) G;have A3:=A2.same s3;refine av<|cM<|af O ⟨p,C,dx,_,_,O,A3.ob.ob,X.cl,X.g,jw,av<|af O<|aI ⟨aj,[(Sum.inl ((B:Nat):Int),V.r c)],O,(by show 1<=15;decide),?_⟩⟩;have ek:ky [] [((Sum.inl ((B:Nat):Int):We),V.r c)]=gB [B] (λ_=>c):=O;rw[ek];have HH:ar (upd H1 b<|.l gZ) (upd (upd (upd H1 b<|.l gZ) a<|.d []) a<|.d<|gB [B] λ_=>c):=λy o e=>by
  have ne:y≠a:=aQ e G;rw[ay ne];exact s3 _ _ e
 have hg:upd (upd (upd H1 b<|.l gZ) a<|.d []) a (.d<|gB [B] λ_=>c) a=some (.d<|gB [B] λ_=>c):=aj;have he:=HH _ _ aj;have yO:b≠a:=λz=>by rw[<-z,aj] at G;cases G
 have Sf:H a=none:=s1.free (s2.free G);have dG:=(s1.trans s2).trans HH;generalize upd (upd (upd H1 b<|.l gZ) a<|.d []) a (.d<|gB [B] λ_=>c)=H3 at HH hg he dG⊢;have A4:=A.same dG;refine aN<|d5<|av<|cM<|af O ⟨p,C,dx,_,_,O,A4.ob.ob,X.cl,X.g,jw,aI ⟨eE,λs D=>?_⟩⟩;have s4:=Xq (o:=.l [V.i (B:Nat)]) D;have hs:upd H3 s (.l [V.i (B:Nat)]) s=some (.l<|iV [B]):=aj;have rG:=s4 _ _ he;have vV:=s4 _ _ hg;have vT:b≠s:=λz=>by rw[<-z,he] at D;cases D
 have vU:a≠s:=λz=>by rw[<-z,hg] at D;cases D
 have Sh:H s=none:=dG.free D;have kx:=dG.trans s4;generalize upd H3 s (.l [V.i (B:Nat)])=H4 at s4 hs rG vV kx⊢;have Si:H b=none:=s1.free f2;have cW:c∉ [b,a,s]:=λh=>by
  obtain⟨xs,x,_⟩:=hc;simp only[xW,Zz,Os] at h;rcases h with rfl|rfl|rfl
  rw[Si] at x;cases x;rw[Sf] at x;cases x;rw[Sh] at x;cases x
 have F0:Fl H H4 Y au T U I J' b a s B r [B] [B] (λ_=>c) (λ_=>r) gZ:=by
  refine⟨⟨kx,rG,vV,hs,⟨Si,Sf,Sh⟩,⟨yO,vT,vU⟩,aJ,λk w=>?_,λk w=>w,nT B (.head _) (λk w=>?_),λk w=>?_,A.le,A.S,λi j e hi hj=>?_⟩,.head _,O,λk w hn=>absurd w hn⟩;rw[Yd.mp w];exact A.ob.r;rw[Yd.mp w];exact⟨VL _,.inl O⟩;rw[Yd.mp w];exact rS cW ps l hl ⟨hc.same kx,hI,ht⟩;rw[Yd.mp hi,Yd.mp hj] at e;have:=(bz A.ob.tr e).1;exact (XD _ this).elim
 have EJ:=A.yL EP;refine qT (λm u H5=>∃(v t:am)(ad:Nat->DL)(nt:Nat->am)(es:ci)(W P N:v0),m=2* (Y.length - v.length)+t.length/\u=[some<|.r p,some<|.r c,some<|.r b,some<|.r a,some<|.r s,W,P,N]/\Fl H H5 Y au T U I J' b a s B r v t ad nt es/\t.length<=v.length) (qC _ [B] [B] _ _ gZ none none ⟨none,O,O,F0,VL _⟩) ?_;rintro m u H5 ⟨v,t,ad,nt,es,W,P,N,rfl,rfl,L,Bz⟩;refine bf<|gw<|af O<|.inl ⟨_,ah.of L.f.hs,aC<|pz ⟨_,O,?_⟩⟩;have il:(iV t).length=t.length:=by unfold iV;rw[XN]
 rw[il];rcases List.eq_nil_or_concat t with rfl|⟨gC,X',rfl⟩
 exact iF (ah2 X A L vR F q) O;rw[List.concat_eq_append] at L Bz⊢;have ls:(gC++[X']).length=gC.length+1:=by rw[W0];rfl
 refine iT ?_<|Z2 ap;have vl:=vQ _ _ L.f.nd L.f.C;refine⟨λa' Z=>∃m',m'<2* (Y.length - v.length)+(gC++[X']).length/\∃(v t:am)(ad:Nat->DL)(nt:Nat->am)(es:ci)(W P N:v0),m'=2* (Y.length - v.length)+t.length/\a'=[some<|.r p,some<|.r c,some<|.r b,some<|.r a,some<|.r s,W,P,N]/\Fl H Z Y au T U I J' b a s B r v t ad nt es/\t.length<=v.length,λ_ _ h=>h,?_⟩;refine ahW X A EJ L dB vR F ap _ (λ_ _ h=>h) λh9 eR ox mP bj v6 v7 Z L' e1 jR=>?_;have c':=vQ _ _ L'.f.nd L'.f.C;exact⟨_,(by rw[ls];lia),h9,eR,ox,mP,bj,_,v6,v7,O,O,L',ap⟩
end
def dX(J:Nat->Nat->bn->Prop)(H:Hp):ci->Nat->Nat->am->am->Nat->Prop
 |[],o,b,l,r,t=>o=b/\l=r/\t=0
 |v::vs,o,b,l,r,t=>∃a ps j m c,v=.r a/\bK H a ps l m/\J o j ps/\dX J H vs j b m r c/\t=aq ps+c
theorem dX.same(s:ar H Z):∀{o b:Nat}{l r:am}{t:Nat},dX J H vs o b l r t->dX J Z vs o b l r t:=by
 induction vs with
 |nil=>exact λh=>h
 |cons v vs i=>
  rintro o b l r t zq;obtain⟨a,ps,j,m,c,zq⟩:=Yj zq;obtain⟨e,g,x,f,d⟩:=ZE zq;exact sJ a ps j m c e (g.same s) x (i f) d
theorem dX.app:∀{o d c:Nat}{l m r:am}{t b:Nat},dX J H xs o d l m t->dX J H N d c m r b->dX J H (xs++N) o c l r (t+b):=by
 induction xs with
 |nil=>rintro o d c l m r t b ⟨rfl,rfl,rfl⟩ h;rw[VF];exact h
 |cons v vs i=>
  rintro o d c l m r t b ⟨a,ps,j,f,n,e,k,x,g,p⟩ h;exact sJ a ps j f _ e k x (i g h) ap
def JC(J:Nat->Nat->bn->Prop):Prop:= ∀(i j k:Nat)(a b c:bn)(l m r:am),J i j a->J j k b->iU a l m->iU b m r->pB a b c l r->J i k c
inductive HI(vs:ci)(H:Hp)(Q:VK)(E:XK):Prop|i(a:DL)(xs:ci)(J:Nat->Nat->bn->Prop)(o b:Nat)(l r:am)(t:Nat)(_:vs=[.r a])(_:H a=some (.l xs))(_:JC J)(_:dX J H xs o b l r t)(_:1<=xs.length)(_:xs.length<=10000)(_:t<=85000)(_:∀(c:DL)(ps:bn)(Z:Hp),ar H Z->bK Z c ps l r->J o b ps->aq ps<=t->(H c=none\/xs=[.r c])->Q (.r c) Z)
section
variable{K:Frag}
inductive Sj(H:Hp)(J:Nat->Nat->bn->Prop)(o c:Nat)(l r:am)(t:Nat)(A:ci)(m:Nat)(u:St)(W:Hp):Prop|i(a:DL)(xs:ci)(b:Nat)(d:v0)(_:m=xs.length)(_:u=[some<|.r a,d])(_:ar H W)(_:W a=some (.l xs))(_:dX J W xs o c l r b)(_:1<=xs.length)(_:xs.length<=10000)(_:b<=t)(_:(xs=A\/G1 H xs)):Sj H J o c l r t A m u W
abbrev alP(K:Frag)(E:XK):bu:=aH K [("then",tJ)] [] (E:=E)
theorem ah7:bS (HI) (λE=>alP K E) P6 P5:=by
 intro vs H Q E h;obtain⟨a0,rA,J,o,o',l,r,t,rfl,ha,hJ,hc,h1,h2,ht,q⟩:=h;refine qT (Sj H J o o' l r t rA) ⟨_,a0,rA,t,none,O,O,ar.refl _,ha,hc,h1,h2,VL _,.inl O⟩ ?_;rintro m u W ⟨a,xs,t2,I,rfl,rfl,s2,S,dH,k1,k2,k3,k4⟩;refine bf<|gw<|af O<|.inl ⟨_,ah.of S,aC<|pz ⟨_,O,?_⟩⟩;by_cases z:1<xs.length;refine iT ?_ (Z2 ap);refine⟨λD Z=>∃(C:DL)(f:ci)(L:Nat)(I:v0),f.length<xs.length/\D=[some<|.r C,I]/\ar H Z/\Z C=some (.l f)/\dX J Z f o o' l r L/\1<=f.length/\f.length<=10000/\L<=t/\(f=rA\/G1 H f),?_,?_⟩;rintro D Z zq;obtain⟨C,f,L,I,zq⟩:=ZO zq;obtain⟨aD,e,s',nM,fS,j1,R,j3,j4⟩:=qa9 zq;exact nT _ aD ⟨C,f,L,I,O,e,s',nM,fS,j1,R,j3,j4⟩;refine GY ?_;refine nT _ O ⟨a,xs,O,ah.of S,bc,λP f1=>?_⟩;rw[af1];have s3:=Xq (o:=.l (dR xs)) f1;have js:upd W P (.l<|dR xs) P=some (.l<|dR xs):=aj;have Y:=s3 _ _ S;generalize upd W P (.l<|dR xs)=H3 at s3 js Y⊢;refine nT _ O ⟨a,xs,O,ah.of Y,bc,λp2 f2=>?_⟩;rw[af2];have s4:=Xq (o:=.l (dR<|xs.drop 1)) f2;have kZ:upd H3 p2 (.l<|dR<|xs.drop 1) p2=some (.l<|dR<|xs.drop 1):=aj;have HJ:=s4 _ _ js;have Sk:=s4 _ _ Y;have jS:=s3.trans s4;have pS:=dX.same jS dH;have Sl:=G0 xs;have HK:=G0 (xs.drop 1);rw[Z0] at HK;refine oZ P p2 O (o3 _ (ah.of HJ)) (o3 _ (ah.of kZ)) ?_;refine agb HJ kZ ap (λi b p=>b.length=i/\(i=0\/G1 H b)/\∃(j:Nat)(m:am)(g A:Nat),dX J p b o j l m g/\dX J p (xs.drop<|2*i) j o' m r A/\g+A<=t) ⟨O,.inl O,o3 o ⟨l,0,t2, ⟨O,O,O⟩,pS,ap⟩⟩ (λi b p H6 ⟨e,n,j,m,g,A,G,k,V⟩ s=>⟨e,n,o3 j ⟨m,g,A,dX.same s G,dX.same s k,V⟩⟩) ?_ ?_;intro i x y b p hx hy M ⟨B,n,j,m,g,A,G,k,V⟩ Q' kk;rw[QC] at hx hy;have lZ:xs[2*i+1]?=some y:=by
  rw[List.getElem?_drop] at hy;rw[show 2*i+1=1+2*i by lia];exact hy
 rw[agd (H:=p) hx lZ] at k;obtain⟨a1,ke,j1,m1,t7,rfl,U,x1,⟨a2,t_,R,m2,t8,rfl,T,x2,c4,e8⟩,e7⟩:=k;have n1:=lP ke "" U.chg.ok U.chg.c;have n2:=lP t_ "" T.chg.ok T.chg.c;have l1:ke.length<=2*aq ke+1:=n1;have l2:t_.length<=2*aq t_+1:=n2;refine bE tJ O<|av<|af O<|av<|af O<|aI<|PN U T ap ap λc H6 ps d fc dc Jd=>kk _ _ d ?_;have jt:=Jd.aq;refine⟨by rw[W0,B];rfl,.inr ?_,o3 R ⟨m2,g+aq ps,t8,dX.app (dX.same d G) (sJ c ps R m2 0 O dc (hJ _ _ _ _ _ _ _ _ _ x1 x2 U.chg T.chg Jd) ⟨O,O,O⟩ O),dX.same d c4,ap⟩⟩;have vS:H c=none:=(s2.trans<|jS.trans M).free fc;rcases n with rfl|⟨X,r0,rfl,F⟩
 have:b=[]:=x4 B;subst this;exact pI c [] O vS;exact pI X (r0++[.r c]) O F;intro b p N M ⟨B,n,j,m,g,A,G,k,V⟩ f5;rw[Sl,HK] at B k;have en:min ((xs.length+1) / 2) ((xs.length - 1+1) / 2)=xs.length / 2:=by lia
 rw[en] at B k;have d:=Xq (o:=.l b) f5;have h5:upd p N (.l b) N=some (.l b):=aj;have yD:=(M.trans d) _ _ Sk;have Sm:=dX.same d G;have Sn:=dX.same d k;generalize upd p N (.l b)=H6 at d h5 yD Sm Sn⊢;have mS:=(jS.trans M).trans d;refine aN<|c7<|af O<|Qy<|af O<|c7<|aC<|gw<|af O<|.inl ⟨_,ah.of h5,⟨.inl ⟨bc,bc⟩,⟨_,O,.inl ⟨xs,ah.of yD,λw fw=>?_⟩⟩⟩⟩;have ew:c5 xs (some<|2* ((b.length:Nat):Int)) none=xs.drop (2* (xs.length / 2)):=by
  rw[show 2* ((b.length:Nat):Int)=((2* (xs.length / 2):Nat):Int) by rw[B];lia,GZ]
 rw[ew];have s7:=Xq (o:=.l (xs.drop<|2* (xs.length / 2))) fw;refine .inl (pE N w b _ O O (s7 _ _ h5) aj (cI (by rw[Z0];lia)) (λC b'=>?_));have s8:=Xq (o:=.l (b++xs.drop (2* (xs.length / 2)))) b';refine pE C _ (g+A) _ ?_ O (s2.trans<|(mS.trans s7).trans s8) aj (dX.same (s7.trans s8)<|dX.app Sm Sn) ⟨?_,?_,V,.inr ?_⟩;rw[W0,Z0];lia;rw[W0,Z0];lia;rw[W0,Z0];lia;rw[Sl,HK,en] at n;rcases n with n|⟨X,r0,e0,F⟩
 exact absurd n ap;exact pI X _ (by rw[e0];rfl) F;refine iF ?_ (VH ap);obtain⟨v,rfl⟩:∃v,xs=[v]:=by
  match xs,k1,z with
  |[v],_,_=>exact o3 v O
  |v::w::r,_,z=>exact absurd (by show 1<r.length+1+1;exact Nat.lt_succ_of_le (XA _ _)) z
 obtain⟨c,ps,j,m,t',rfl,df,hj,⟨rfl,rfl,rfl⟩,e⟩:=dH;refine di<|bh<|af O<|aC<|cK S O<|q c ps W s2 df hj ap ?_;rcases k4 with k4|⟨X,r0,e0,F⟩
 exact .inr k4.symm;cases e0;exact .inl F
end
structure Wy(Y:ac)(ns l:am)(JE:Nat->bn->Prop)(J:Nat->Nat->bn->Prop):Prop where
 c:JC J
 z:J 0 0 (fK [.k (l.length:Int)])
 s:∀(i n m:Nat)(e:bn),ns[i]?=some n->ns[i+1]?=some m->(Y[m]?=some (some n)/\JE m e\/Y[n]?=some (some m)/\∃e0,JE n e0/\e=bk e0)->J i (i+1) e
section
variable{K:Frag}{C:DL}
inductive ua(C:DL)(vs:ci)(H:Hp)(Q:VK)(E:XK):Prop|i(p:DL)(M Ed:db)(B d:Nat)(Y:ac)(au:List am)(t:ac)(T:Nat)(w:DL)(P:am)(l r:am)(a:Nat->bn->Prop)(J:Nat->Nat->bn->Prop)(_:vs=[.r p,.r w])(_:aM C H p M Ed B Y au t T)(_:H w=some (.l<|iV (B::P)))(_:w∉M)(_:dU H Ed a)(_:Wy Y (B::P) l a J)(_:ag0 Y (B::P))(_:(∀n∈P,n<Y.length))(_:P.length<=9000)(_:T*P.length<=85000)(_:T<=14000)(_:(B::P)[P.length]?=some d)(_:au[B]?=some l)(_:au[d]?=some r)(_:l.length<=100000)(_:∀(c:DL)(ps:bn)(Z:Hp),aS M H Z->H c=none->c∉M->bK Z c ps l r->J 0 P.length ps->aq ps<=T*P.length->aM C Z p M Ed d Y au (rC Y (B::P) t) T->Q (.r c) Z)
abbrev apV(K:Frag)(C:DL)(E:XK):bu:=aH K [("neat",mw),("joined_all",HI)] [] [] [("edge",C,B0 C)] (E:=E)
theorem ah9(X:gM K C):bS (ua C) (λE=>apV K C E) Q8 Q7:=by
 intro vs H Q E h;obtain⟨p,M,Ed,B,d,Y,au,j,T,w,f,l,r,JE,J,rfl,⟨dx,lo,pa,ed,be,lg,bs,es,A⟩,hw,nw,hE,hJ,dB,uT,q',hT,HL,hd,hl,hr,kE,q⟩:=h;have sz:=A.ob.sz;have vL:(au.map List.length).length=Y.length:=A.ob.l;have kI:au.length=Y.length:=by rw[<-vL,XN]
 refine aN ?_;refine pT _ O _ O (nT _ O (.inl (nT _ (ah.of hw) (λw2 e'=>?_))));have ec:c5 (iV (B::f)) (some (1:Int)) none=iV f:=by
  rw[show((1:Int))=((1:Nat):Int) from O,GZ];rfl
 have s1:=Xq (o:=.l (c5 (iV (B::f)) (some (1:Int)) none)) e';have yU:upd H w2 (.l<|c5 (iV (B::f)) (some (1:Int)) none) w2=some (.l<|iV f):=by rw[aj,ec]
 refine p4 w w2 _ _ O (ah.of<|s1 _ _ hw) (ah.of yU) (λts L W HM s2 So fL nN hL=>?_);generalize upd H w2 (.l<|c5 (iV (B::f)) (some (1:Int)) none)=H1 at s1 yU s2 So fL nN;have iR:=s1.trans s2;have HM:ts.length=f.length:=by
  rw[HM,XN,XN,d_];lia
 have hP:pQ W (ts.map V.r) (((B::f).zip f).map λp=>(V.i (p.1:Nat),V.i (p.2:Nat))):=by
  refine agY (by rw[XN,XN,List.length_zip,d_];lia) λi v pr hv hp=>?_;rw[ZW] at hv hp;obtain⟨t,ht,rfl⟩:=ZX.mp hv;obtain⟨⟨n,m⟩,vX,rfl⟩:=ZX.mp hp;obtain⟨h1,h2⟩:=zS.mp vX;obtain⟨u0,v,e1,e2,e3⟩:=nN i t ht;rw[ZW,h1] at e1;rw[ZW,h2] at e2;cases e1;cases e2;exact nT t O e3
 have HN:((B::f).zip f).length=f.length:=by rw[List.length_zip,d_];lia
 have A2:=A.same iR;have Gn:=s2 _ _ (s1 _ _ hw);clear nN So s2 yU;have c':(au.map List.length)[B]?=some l.length:=by rw[ZW,hl];rfl
 refine aN<|d5<|av<|bE mw O<|av<|d5<|av<|Fq<|av<|aC<|av<|bh<|cM<|af O ⟨p,C,dx,_,_,O,A2.ob.ob,X.cl,X.t,yv,cM<|af O ⟨p,C,dx,_,_,O,A2.ob.ob,X.cl,X.g,jw,cK A2.ob.d (dv (by rw[ZW,c'];rfl))<|aI ⟨eF,λt ft=>aI ⟨eE,λb fb=>aI ?_⟩⟩⟩⟩;have s3:=Xq (o:=.t [V.s "keep",V.i (l.length:Nat)]) ft;have s4:=Xq (o:=.l [V.r t]) fb;refine ag2 aj (s4 _ _ aj) kE λc0 H5 s5 f' Sq=>aI ⟨eE,λL2 Sr=>?_⟩;have pf:=(s3.trans s4).trans s5;have o':=(iR.trans<|s3.trans s4).free f';have s6:=Xq (o:=.l [V.r c0]) Sr;have mS:=pf.trans s6;have pN:upd H5 L2 (.l [V.r c0]) L2=some (.l [V.r c0]):=aj;have Ss:=Sq.same s6;have A6:=A2.same mS;have HP:=hP.same (aX mS);have Cb:=mS _ _ hL;have ku:=mS _ _ Gn;have Cc:=iR.trans mS;generalize upd H5 L2 (.l [V.r c0])=H6 at s6 mS pN Ss A6 HP Cb ku Cc⊢;clear s3 s4 s5 pf Sq ft fb Sr;have m':∀n,n<Y.length->∃x,au[n]?=some x:=λn h=>o3 _ (Xd (by rw[kI];exact h));have yV:∀(i n:Nat),(B::f)[i]?=some n->n<Y.length:=λi n e=>by
  rcases xW.mp (Wv e) with rfl|h
  exact A.ob.r;exact uT n h
 refine aN<|bE HI O<|av<|c7<|af O ?_;refine qB _ O L O (o3 _ (ah.of Cb)) (agZ Cb HP (by rw[XN,HN];exact wO q' (XA _ _)) (λi N H7=>∃(n t:Nat)(x:am),(B::f)[i]?=some n/\au[n]?=some x/\dX J H7 N 0 i l x t/\t<=T*i) (q9 B 0 l O hl ⟨O,O,O⟩ (Ww _)) ?_ ?_);intro i c N H7 hc s7 ⟨n,t,x,I,Z,cv,ht⟩ Q' kk;rw[ZW] at hc;obtain⟨⟨n',m⟩,vX,rfl⟩:=ZX.mp hc;obtain⟨h1,h2⟩:=zS.mp vX;rw[I] at h1;have e:n=n':=WV h1;subst e;have mF:(B::f)[i+1]?=some m:=by rw[Xo];exact h2
 obtain⟨y,hy⟩:=m' m (yV _ _ mF);have A7:=A6.same s7;have rF:Y[m]?=some (some n)\/(Y[m]?≠some (some n)/\Y[n]?=some (some m)):=by
  rcases dB i n m I mF with h|h
  exact .inl h;by_cases z:Y[m]?=some (some n);exact .inl z;exact .inr ⟨z,h⟩
 refine GS C (B0 C) O<|af O ⟨p,dx,_,O,A7.ob.ob,hX,af O<|af O ⟨p,dx,lo,pa,ed,be,lg,B,_,Y,es,au,T,n,m,x,y,JE,O,A7.ob,A7.R,A7.yL<|hE.same<|Cc.trans s7,HL,Z,hy,yV _ _ mF,rF,λc ps H8 s8 d' tt hj=>kk _ _ s8 (q9 m (t+aq ps) y mF hy (dX.app (dX.same s8 cv) (sJ c ps (i+1) y 0 O d' (hJ.s i n m ps I mF hj) ⟨O,O,O⟩ O)) ?_)⟩⟩;rw[Nat.mul_add,Nat.mul_one];exact Dy ht tt;intro N H7 b7 s7 ⟨n,t,x,I,Z,cv,ht⟩ ly f7;rw[XN,HN] at I ht ly cv;rw[hd] at I;cases I;rw[hr] at Z;cases Z;have s8:=Xq (o:=.l N) f7;refine .inl (pE L2 b7 _ _ O O (s8 _ _<|s7 _ _ pN) aj (cI (by show 1+N.length<=_;lia)) (λb9 f9=>aI ?_));have s9:=Xq (o:=.l ([V.r c0]++N)) f9;have HQ:=s7.trans (s8.trans s9);have p':([V.r c0]++N).length=1+N.length:=by rw[W0];rfl
 refine⟨b9,[V.r c0]++N,J,0,f.length,l,r,0+t,O,aj,hJ.c,sJ c0 _ 0 l t O (Ss.same HQ) hJ.z (dX.same (s8.trans s9) cv) (by rw[UI]),ap,ap,ap,λc ps Cd Ce l' hj tt fc=>?_⟩;have yW:=HQ.trans Ce;have sH:=Cc.trans yW;have F:=A6.same yW;have vS:H c=none:=by
  rcases fc with fc|fc
  exact(Cc.trans HQ).free fc;cases N with
  |nil=>cases fc;exact o'
  |cons y r'=>cases fc
 have mM:c∉M:=A.live.no vS;have k':=HP.same (aX yW);have Su:=yW _ _ Cb;have j':=yW _ _ ku;have oy:H L=none:=s1.free fL;have a':L∉M:=A.live.no oy;have lv:=F.live;have HR:lg∈M:=by rw[A.K];simp
 have mp:p∈M:=by rw[A.K];simp
 obtain⟨⟨a1,a2,a3,a4,a5,a6⟩,⟨b1,b2,b3,b4,b5⟩,⟨c1,c2,c3,c4⟩,⟨d1,d2,d3⟩,⟨e1,e2⟩,g1,g2⟩:=ZV A.u.l;have s':((B::f).zip f)=(B::f).zip (B::f).tail:=O;refine GV<|af O ⟨L,O,⟨_,ah.of Su⟩,kT (K:=K) (a:=L) (xs:=ts.map V.r) (λi u G=>∃u5 u6,u=[some<|.r p,some<|.r w,some<|.r L,some<|.r L2,some<|.r c,u5,u6]/\aE lg Cd G/\G lg=some (.l<|((((B::f).zip f).take i).foldl (jx Y) j).map gV)) ⟨none,none,O,λ_ _ e _=>e,F.y⟩ ?_ ?_ ?_⟩;rintro i u G _ ⟨u5,u6,rfl,b,_⟩;exact ah.of<|b _ _ Su λz=>a' (by rw[z];exact HR);rintro i x u G hi ⟨u5,u6,rfl,b,hg⟩;obtain⟨pr,t,zq⟩:=XU (pQ.at k' hi);obtain⟨yz,rfl,ht⟩:=Xb zq;rw[ZW] at yz;obtain⟨⟨n,m⟩,vX,rfl⟩:=ZX.mp yz;obtain⟨h1,h2⟩:=zS.mp vX;have I:=yV _ _ h1;have hm:=yV (i+1) m (by rw[Xo];exact h2);have i':=b _ _ ht λz=>by rw[z,F.y] at ht;cases ht
 refine pX t _ O (.inl<|aB.of i') O _ _ O _ _ O O ?_;have op:=b _ _ F.ob.c c3;have oo:=b _ _ F.ob.ob a5;have HS:Y[n]?=some Y[n]:=Xd I;have b':=Hl (Y:=Y) (((B::f).zip f).take i) j;have ll:=A.Q;refine cx<|bf<|bh<|cM<|af O ⟨p,C,dx,_,_,O,oo,X.cl,X.p,rm,af O<|cK op (dv (by rw[ZW,HS];rfl))<|af O<|G_ ⟨_,O,?_⟩⟩;have tH:(((B::f).zip f).take<|i+1).foldl (jx Y) j=jx Y ((((B::f).zip f).take i).foldl (jx Y) j) (n,m):=by
  rw[vE vX,Xy];rfl
 by_cases z:Y[n]=some m;refine iT ?_ (Z2 z);refine pJ<|af O<|cM<|af O ⟨p,C,dx,_,_,O,oo,X.cl,X.BD,G4,af O ⟨lg,_,_,m,O,O,hg,?_,?_⟩⟩;rw[XN,b',ll];unfold gJ;rw[Id (VI _),Id ap];rfl;refine oW _ _ O (b.trans aE.upd) ?_;rw[aj,tH];unfold jx;rw[HS,z,Id O,V_];rfl;refine iF ?_ (VH z);refine oW _ _ O b ?_;rw[tH];unfold jx;rw[HS,Ix<|λe=>z<|WV e];exact hg;rintro u G ⟨u5,u6,rfl,b,hg⟩;rw[XN,HM,XB (by rw[HN];exact VL _)] at hg;have oo:=b _ _ F.ob.ob a5;have h':=b _ _ j' λz=>nw (by rw[z];exact HR);have bL:aS M Cd G:=λx o e n=>b x o e λz=>n (by rw[z];exact HR);have g':fU (iV (B::f)) (-1)=some (V.i (d:Nat)):=by
  have e1:(B::f)=(B::f).dropLast++[d]:=by
   have e2:(B::f).getLast aJ=d:=by
    rw[List.getLast_eq_getElem];have:=(Wq.mp hd).2;simpa using this
   rw[<-e2,List.dropLast_concat_getLast]
  rw[e1];unfold iV;rw[Z3];exact uG _ _
 refine oh<|bh<|af O<|rg<|.inl ⟨w,_, -1,_,O,O,ah.of h',g',af O ⟨p,C,dx,_,O,oo,X.cl,X.g,(by show 6<1000;decide),?_⟩⟩;rw[QR];have bp:aS M G (upd G p<|.i C dx<|h6 (d:Nat) lo pa ed be lg):=aS.upd mp;have bb:=bL.trans bp;have k:∀{x:DL}{o:HO},Cd x=some o->x≠lg->x≠p->upd G p (.i C dx<|h6 (d:Nat) lo pa ed be lg) x=some o:=λe n1 n2=>aY n2 (b _ _ e n1);refine di<|af O<|q c ps _ ((aS.of sH).trans bb) vS mM (l'.keep (λo e=>bb c o e mM)<|lv.bB bb) hj ap ⟨dx,lo,pa,ed,be,lg,bs,es,?_⟩;exact⟨⟨aj,k F.ob.d b4<|KF a1,k F.ob.c c3<|KF a2,A.ob.l,A.ob.tr,yV _ _ hd,A.ob.sz⟩,A.K,A.u,k F.R d2<|KF a3,A.le,A.U,A.S,F.BM bb,A.en,k F.D e1<|KF a4,A.P,λi x Z=>k (F.hk i x Z) (λz=>g1 (by rw[<-z];exact Wv Z))<|λz=>a6 (by rw[<-z];exact Wv Z),by rw[ay<|KF a5];exact hg,by show(((B::f).zip f).foldl (jx Y) j).length=_;rw[Hl];exact A.Q⟩
variable{e:DL}
def pU(J:Nat->Nat->bn->Prop)(C:DL)(H:Hp)(p:DL)(M Ed:db)(B d:Nat)(P:am)(Y:ac)(au:List am)(t:ac)(T:Nat)(l r:am)(Q:VK):Prop:=
 ∀(c:DL)(ps:bn)(Z:Hp),aS M H Z->H c=none->c∉M->bK Z c ps l r->J 0 P.length ps->aq ps<=T*P.length->aM C Z p M Ed d Y au (rC Y (B::P) t) T->Q (.r c) Z
inductive Cf(C e:DL)(vs:ci)(H:Hp)(Q:VK)(E:XK):Prop|i(p:DL)(M Ed:db)(B:Nat)(Y:ac)(au:List am)(t:ac)(T:Nat)(_:vs=[.r p])(_:aM C H p M Ed B Y au t T)(_:T<=14000)(_:((∃(j:Nat)(l r:am)(a:Nat->bn->Prop)(J:Nat->Nat->bn->Prop),dU H Ed a/\Wy Y [B,j] l a J/\Y[B]?=some (some j)/\au[B]?=some l/\au[j]?=some r/\l.length<=100000/\pU J C H p M Ed B j [j] Y au t T l r Q)\/(B=0/\E (.ref e) none H)))
inductive Cg(C e:DL)(vs:ci)(H:Hp)(Q:VK)(E:XK):Prop|i(p:DL)(M Ed:db)(B:Nat)(Y:ac)(au:List am)(t:ac)(T:Nat)(_:vs=[.r p])(_:aM C H p M Ed B Y au t T)(_:T<=14000)(_:((∃(j:Nat)(l r:am)(a:Nat->bn->Prop)(J:Nat->Nat->bn->Prop),dU H Ed a/\Wy Y [B,j] l a J/\t[B]?=some (some j)/\Y[j]?=some (some B)/\au[B]?=some l/\au[j]?=some r/\l.length<=100000/\pU J C H p M Ed B j [j] Y au t T l r Q)\/(t[B]?=some none/\E (.ref e) none H)))
inductive rJ(C:DL)(vs:ci)(H:Hp)(Q:VK)(E:XK):Prop|i(p:DL)(M Ed:db)(B d:Nat)(Y:ac)(au:List am)(t:ac)(T:Nat)(P:am)(l r:am)(a:Nat->bn->Prop)(J:Nat->Nat->bn->Prop)(_:vs=[.r p,.i d])(_:aM C H p M Ed B Y au t T)(_:d<Y.length)(_:dU H Ed a)(_:Wy Y (B::P) l a J)(_:dz Y B d=B::P)(_:P.length<=9000)(_:T*P.length<=85000)(_:T<=14000)(_:au[B]?=some l)(_:au[d]?=some r)(_:l.length<=100000)(_:pU J C H p M Ed B d P Y au t T l r Q)
theorem pU.same{a:ac}(g:pU J C H p M Ed B d P Y au a T l r Q)(s:ar H H1):pU J C H1 p M Ed B d P Y au a T l r Q:=
 λc ps Z b f n h j t x=>g c ps Z ((aS.of s).trans b) (s.free f) n h j t x
abbrev lB(K:Frag)(C:DL)(e:DL)(E:XK):bu:=aH K [] [] [] [("along",C,ua C)] (et:=[("NoNode",e)]) (E:=E)
theorem aio(X:gM K C):bS (Cf C e) (λE=>lB K C e E) Qj qP:=by
 intro vs H Q E h;obtain⟨p,M,Ed,B,Y,au,t,T,rfl,⟨dx,lo,d,L,be,lg,N,es,A⟩,y,h⟩:=h;refine cx<|bf<|cM<|af O ⟨p,C,dx,_,_,O,A.ob.ob,X.cl,X.g,jw,aC<|jP ⟨_,O,?_⟩⟩;rcases h with⟨j,l,r,R,J,F,D,a,x,u,k,q⟩|⟨rfl,q⟩
 have U:B≠0:=λz=>by rw[z,A.ob.tr.r] at a;cases a
 refine iF (d9 ?_)<|VH ap;obtain⟨S,I,P⟩:=A.ob.tr.up B (WY U) A.ob.r;rw[a] at I;cases I;refine di<|ko C (ua C) O<|af O ⟨p,dx,_,O,A.ob.ob,hX,d5<|av<|cM<|af O ⟨p,C,dx,_,_,O,A.ob.ob,X.cl,X.g,jw,av<|bh<|cM<|af O ⟨p,C,dx,_,_,O,A.ob.ob,X.cl,X.p,rm,cM<|af O ⟨p,C,dx,_,_,O,A.ob.ob,X.cl,X.g,jw,cK A.ob.c (dv (by rw[ZW,a];rfl))<|aI ⟨eF,λw f=>?_⟩⟩⟩⟩⟩;have s:=Xq (o:=.l (iV [B,j])) f;refine⟨p,M,Ed,B,j,Y,au,t,T,w,[j],l,r,R,J,O,qC dx lo d L be lg N es (A.same s),aj,A.live.no f,F.same s,D,λi n m G b=>?_,λn v=>by cases Yd.mp v;exact Xf P A.ob.r,aJ,by show T*1<=_;lia,y,O,x,u,k,pU.same q s⟩;cases i with
 |zero=>cases G;cases b;exact .inr a
 |succ i=>simp at b
 exact iT ⟨eE,q⟩ O
theorem aip(X:gM K C):bS (Cg C e) (λE=>lB K C e E) Qm Ql:=by
 intro vs H Q E h;obtain⟨p,M,Ed,B,Y,au,t,T,rfl,⟨dx,lo,u,L,be,lg,N,es,A⟩,D,h⟩:=h;obtain⟨o,b⟩:∃o,t[B]?=some o:=o3 _ (Xd (A.Q▸A.ob.r));refine aN<|bh<|cM<|af O ⟨p,C,dx,_,_,O,A.ob.ob,X.cl,X.BD,G4,cM<|af O ⟨p,C,dx,_,_,O,A.ob.ob,X.cl,X.g,jw,cK A.y (dv (by rw[ZW,b];rfl)) ?_⟩⟩;rcases h with⟨j,l,r,P,J,G,F,d,c,z,x,v,q⟩|⟨a,q⟩
 rw[b] at d;cases d;refine cx<|bf<|af O<|aC ⟨O,_,O,iF (d9 (di<|ko C (ua C) O<|af O ⟨p,dx,_,O,A.ob.ob,hX,d5<|av<|cM<|af O ⟨p,C,dx,_,_,O,A.ob.ob,X.cl,X.g,jw,av<|af O<|aI ⟨eF,λw k=>?_⟩⟩⟩)) O⟩;have s:=Xq (o:=.l (iV [B,j])) k;refine⟨p,M,Ed,B,j,Y,au,t,T,w,[j],l,r,P,J,O,qC dx lo u L be lg N es (A.same s),aj,A.live.no k,G.same s,F,λi n m I f=>?_,λn a=>by cases Yd.mp a;exact ((Wq.mp c).1),aJ,by show T*1<=_;lia,D,O,z,x,v,pU.same q s⟩;cases i with
 |zero=>cases I;cases f;exact .inl c
 |succ i=>simp at f
 rw[b] at a;cases a;exact cx<|bf<|af O<|aC ⟨O,_,O,iT ⟨eE,q⟩ O⟩
abbrev lR(K:Frag)(C:DL)(E:XK):bu:=aH K [] [] [] [("along",C,ua C),("way",C,G9 C)] (E:=E)
theorem aiq(X:gM K C):bS (rJ C) (λE=>lR K C E) Qn vD:=by
 intro vs H Q E h;obtain⟨p,M,Ed,B,d,Y,au,t,T,P,l,r,V,J,rfl,⟨dx,lo,b,o,be,lg,U,es,A⟩,f,I,G,S,e,F,Z,D,y,x,q⟩:=h;refine di<|ko C (ua C) O<|af O ⟨p,dx,_,O,A.ob.ob,hX,GS C (G9 C) O<|af O ⟨p,dx,_,O,A.ob.ob,hX,cM<|af O ⟨p,C,dx,_,_,O,A.ob.ob,X.cl,X.g,jw,af O ⟨p,dx,lo,b,o,be,lg,B,_,Y,B,d,O,A.ob,A.ob.r,f,λw H1 s R c=>?_⟩⟩⟩⟩;obtain⟨u0,v,m,zq⟩:=XM (Hr A.ob.tr A.ob.r f);obtain⟨e1,_,_,j,_,⟨u,a⟩,k,_⟩:=WR zq;rw[S] at c j a k;have W:(B::P)[P.length]?=some d:=by
  rw[a];have:u.length=P.length:=by
   have:=IN List.length a;simp at this;lia
  rw[<-this];simp
 exact⟨p,M,Ed,B,d,Y,au,t,T,w,P,l,r,V,J,O,qC dx lo b o be lg U es (A.same s),c,A.live.no R,I.same s,G,λi n m N L=>Hq _ j i n m N L,λn z=>k n<|yl _ z,e,F,Z,W,D,y,x,pU.same q s⟩
end
section
open PyProof.Rows
variable{X:Cx}
end
section
open PyProof.Rows
end
section
open PyProof.Rows PySem.W
end
section
open PyProof.Rows
section
variable{CX:cZ}{S:dJ}{c:bu}{X:Cx}{a v:Expr}{p q:Pos}{e r:RE}
theorem air{o:Expr}{e:Env}:swapsWith v (some<|.Attribute o f p) l e=pure false:=by
 cases v<;>rfl
theorem Sv(G:iM CX S c X)(h:PE X a (ae c e))(b:PE X v (ae c r)):PS X (.Assign [.Attribute a f p] v q) (cj c<|.f e f r):=by
 show PS X _ (zG c.K (ae c e) (ae c r) f);rw[<-G.K];exact J7 h b (by exact air)
end
end
section
open PyProof.Rows PySem.W
end
section
open PyProof.Rows
inductive Sw(vs:ci)(H:Hp)(Q:VK)(E:XK):Prop|i(c:Int)(x:Str)(m:Int)(_:vs=[.i c,.s x,.i m])(_:good x)(_:x.length<=16000)(_:0<=m)(_:m<=100)(_:∀b Z N ps q,ar H Z->H b=none->Z b=some (.l N)->aF Z N ps->(∀p∈ps,fW p)->ps.length<=101->aq ps<=40*m.toNat->ym x.cps.toList ps q->Q (.r b) Z)
inductive HV(b:DL)(H:Hp)(c m:Int)(x:Str)(i:Nat)(u:St)(W:Hp):Prop|i(a v w z:v0)(N:ci)(ps:bn)(l1 l2 q:am)(_:u=[some<|.i c,some<|.s x,some<|.i m,some<|.r b,some<|.i ((l1.length:Nat):Int),a,v,w,z])(_:ar H W)(_:W b=some (.l N))(_:aF W N ps)(_:ps.length=i)(_:(∀p∈ps,fW p))(_:aq ps<=40*i)(_:x.cps.toList=l1++l2)(_:ym l1 ps q):HV b H c m x i u W
abbrev acI(K:Frag)(E:XK):bu:=aH K adt [] (E:=E)
theorem ais{K:Frag}(vs:ci)(H:Hp)(Q:VK)(E:XK)(h:Sw vs H Q E):ax (acI K E) MW {nx:=λ_ Z=>Q .a Z,r:=Q} (XF agN vs) H:=by
 obtain⟨c,x,m,rfl,hx,FZ,AQ,AR,k⟩:=h;refine⟨Ww _,λb hb=>?_⟩;refine qB _ O m O ap ⟨ap,C_ (lo:=0) (n:=m.toNat) (HV b H c m x)
 ⟨none,none,none,none,[],[],[],x.cps.toList,[],O,Xq hb,aj,.nil,O,(λp S=>by cases S),VL _,O,.N⟩ ?_ ?_⟩
 rintro i u W hi ⟨u0,v,w,z,N,ps,l1,l2,q,rfl,s2,X,Y,hl,az,R,G,P⟩;have T:=KB Y;have d':x.length=l1.length+l2.length:=by rw[Xz,G];simp
 refine pT _ O _ O ⟨c,_,O,?_⟩;generalize mixed c (50+(0+(i:Int)))=g;refine⟨adV,λt1 kg=>?_⟩;have j0:0<=g / 4 % 6:=Xk _ bc;have j1:g / 4 % 6<6:=Hd _ bc;obtain⟨D,e5,b',i'⟩:=ads (g / 4 % 6) j0 j1;refine⟨_,O,⟨bc,bc⟩,(by show(0:Int) <6;decide),.inl (oT _ _ _ _ O O (ah.of aj) e5 ?_)⟩;have s3:ar H (upd W t1<|.l [.i 1,.i 2,.i 0,.i 3,.i 5,.i 40]):=s2.trans (Xq kg);have J:upd W t1 (.l [.i 1,.i 2,.i 0,.i 3,.i 5,.i 40]) b=some (.l N):=by rw[ay<|aQ X kg];exact X
 have u3:=Y.mono (aX<|Xq (o:=.l [.i 1,.i 2,.i 0,.i 3,.i 5,.i 40]) kg);generalize upd W t1 (.l [.i 1,.i 2,.i 0,.i 3,.i 5,.i 40])=H3 at s3 J u3;refine⟨_,O,_,O,cI (wO FZ (XA _ _)),_,O,trivial,?_⟩;obtain⟨f,Sx⟩:∃f,f=(if (x.length:Int) - (l1.length:Int) <D then (x.length:Int) - (l1.length:Int) else D):=⟨_,O⟩;have c':0<=f/\f<=40/\f<= (l2.length:Int):=by
  rw[Sx];split<;>lia
 show ax _ _ _ [some<|V.i c,some<|V.s x,some<|V.i m,some<|V.r b,some<|V.i ((l1.length:Nat):Int),some<|V.i<|0+(i:Int),some<|V.i g,some<|V.i D,some<|V.i (if (x.length:Int) - (l1.length:Int) <D then (x.length:Int) - (l1.length:Int) else D)] H3;rw[<-Sx];obtain⟨j,lb,e2,HW⟩:∃j lb,l2=j++lb/\f=(j.length:Int):=⟨l2.take f.toNat,l2.drop f.toNat,(Zv _ _).symm,by rw[Ye];lia⟩;have L:∀(p:Pt)(I:Hp),ar H I->I b=some (.l N)->aF I N ps->∀t,I t=none->
   upd I t (.t [.s p.word,p.val]) b=some (.l N)/\N.length<sizeLine/\
    ar H (upd (upd I t<|.t [.s p.word,p.val]) b<|.l<|N++[.r t])/\aF (upd (upd I t<|.t [.s p.word,p.val]) b<|.l<|N++[.r t]) (N++[.r t]) (ps++[p]):=by
  intro p I s4 HX h' t R;have Ci:b≠t:=aQ HX R;refine⟨(by rw[ay Ci];exact HX),cQ ap,qy s4 hb<|sameBut (Xq R) aE.upd,?_⟩;refine aF.snoc (h'.mono<|(sameBut (Xq R) aE.upd).bB HX) ⟨t,O,?_⟩;rw[ay Ci.symm,aj]
 have Sy:∀p,fW p->∀q∈ps++[p],fW q:=by
  intro p S q hq;rcases X0.mp hq with z|z
  exact az q z;rw[Yd.mp z];exact S
 have a':∀c∈j,SG.cps.contains c=true:=λc hc=>hx.2 c (by rw[G,e2];simp[hc]);refine⟨_,O,(by show(0:Int) <4;decide),_,O,?_⟩;refine j8 (λh=>?_)<|λh=>?_;have h3:g % 4=3:=by
  have:=Re (show decide (V.i (g % 4)=V.i 3)=true from by rw[<-ZP (decide _)];exact h);injection this
 refine⟨_,O,.inl ⟨O,_,ah.of J⟩,_,O,_,O,g,D,O,b',ap,λy M gy ly B=>⟨eF,λt F=>?_⟩⟩;obtain⟨a1,a2,a3,a4⟩:=Xn (L (.p y) M (s3.trans B) (B _ _ J) (u3.mono<|aX B) t F);refine⟨N,a1,a2,?_⟩;refine⟨_,O,(by show(0:Int) <4;decide),trivial,_,O,iF ?_<|VH ap⟩;have A:=P.app (ym.t (s:=y) ym.N);rw[Y3,Y3] at A;refine⟨_,_,_,_,N++[V.r t],ps++[Pt.p y],l1,l2,_,O,a3,aj,a4,by simp[hl],Sy _ ⟨gy,ap⟩,?_,G,A⟩;rw[Fp];show aq ps+(y.length+0)<=_;lia;have h3:g % 4≠3:=λz=>h (by show(false ^^ decide (V.i (g % 4)=V.i 3))=true;rw[z];rfl);have h4:g % 4<3:=by have:=Hd g (show(0:Int) <4 by decide);lia
 have U:∀(p:Pt)(M:Hp)(e9:ci)(q':am),ar H M->M b=some (.l e9)->aF M e9 (ps++[p])->fW p->dO p<=40->ym (l1++j) (ps++[p]) q'->
   HV b H c m x (i+1) [some<|V.i c,some<|V.s x,some<|V.i m,some<|V.r b,some<|V.i<|(l1.length:Int)+f,some<|V.i<|0+(i:Int),some<|V.i g,some<|V.i D,some<|V.i f] M:=by
  intro p M e9 q' B h5 f' rp tp A;refine⟨some<|.i<|0+(i:Int),some<|.i g,some<|.i D,some<|.i f,e9,ps++[p],l1++j,lb,q',?_,B,h5,f',by simp[hl],Sy p rp,?_,by rw[G,e2];simp,A⟩;rw[W0,HW,Wl];rw[Fp];have:aq [p]=dO p:=by simp[aq]
  lia
 refine⟨_,O,(by show(0:Int) <4;decide),_,O,?_⟩;refine j8 (λh5=>?_)<|λh5=>?_;refine⟨_,O,.inl ⟨O,_,ah.of J⟩,_,O,_,O,_,O,_,O,_,O,_,O,cI (wO FZ (XA _ _)),?_⟩;rw[adq (by rw[G,e2]) f HW];refine⟨eF,λt F=>?_⟩;obtain⟨a1,a2,a3,a4⟩:=L (.c ⟨j.toArray⟩) H3 s3 J u3 t F;refine⟨N,a1,a2,?_⟩;refine⟨_,O,(by show(0:Int) <4;decide),trivial,_,O,iT ?_<|Z2 h4⟩;refine⟨_,O,_,O,?_⟩;have A:=P.app (ym.C (s:=⟨j.toArray⟩) ym.N);rw[Y3] at A;have ll:(⟨j.toArray⟩:Str).length=j.length:=by rw[Xz]
 exact U (.c ⟨j.toArray⟩) _ _ _ a3 aj a4 ⟨⟨by rw[ll];lia,a'⟩,by rw[ll];lia⟩ (by show(⟨j.toArray⟩:Str).length<=40;rw[ll];lia) A;refine⟨_,O,.inl ⟨O,_,ah.of J⟩,_,O,eF,λt F=>?_⟩;obtain⟨a1,a2,a3,a4⟩:=L (.k f) H3 s3 J u3 t F;refine⟨N,a1,a2,?_⟩;refine⟨_,O,(by show(0:Int) <4;decide),trivial,_,O,iT ?_<|Z2 h4⟩;refine⟨_,O,_,O,?_⟩;have A:=P.app (ym.k (a:=j) HW ym.N);rw[Y3] at A;exact U (.k f) _ _ _ a3 aj a4 c'.1 (by show 0<=40;decide) A;rintro u W ⟨u0,v,w,z,N,ps,l1,l2,q,rfl,s2,X,Y,hl,az,R,G,P⟩;have T:=KB Y;have d':x.length=l1.length+l2.length:=by rw[Xz,G];simp
 refine⟨_,O,_,O,cI (wO FZ (XA _ _)),_,O,trivial,eF,λt F=>⟨eE,λd hd=>?_⟩⟩;have Ci:b≠t:=aQ X F;have nP:upd W t (.t [.s "keep",.i<|(x.length:Int) - (l1.length:Int)]) b=some (.l N):=by rw[ay Ci];exact X
 have xq:b≠d:=aQ nP hd;have Sz:t≠d:=λz=>by rw[<-z,aj] at hd;cases hd
 have s4:ar W (upd (upd W t<|.t [.s "keep",.i<|(x.length:Int) - (l1.length:Int)]) d<|.l [.r t]):=(Xq F).trans (Xq hd);refine .inl ⟨b,d,N,[.r t],O,O,(by rw[ay xq];exact nP),aj,cI bd,λe he=>?_⟩;have B:=s4.trans (Xq (o:=.l (N++[.r t])) he);have g':W e=none:=s4.free he;have A:=P.app (ym.k (a:=l2) (n:=(x.length:Int) - (l1.length:Int)) ap ym.N);rw[Y3,<-G] at A;have e':t≠e:=λz=>by rw[<-z,ay Sz,aj] at he;cases he
 refine k e _ (N++[.r t]) (ps++[.k<|(x.length:Int) - (l1.length:Int)]) _ (s2.trans B) (s2.free g') aj (aF.snoc (Y.mono<|aX B) ⟨t,O,?_⟩) ?_ bd ?_ A;rw[ay e',ay Sz,aj];rfl;intro p S;rcases X0.mp S with z|z
 exact az p z;rw[Yd.mp z];show(0:Int)<=_;lia;rw[Fp];show aq ps+(0+0)<=40*m.toNat;exact R
abbrev aiB:v4:=[("_law_neat",Nv),("_law_parts",Sw)]
inductive yY(vs:ci)(H:Hp)(Q:VK)(E:XK):Prop|i(c:Int)(x:Str)(m:Int)(_:vs=[.i c,.s x,.i m])(_:good x)(_:x.length<=16000)(_:0<=m)(_:m<=100)(_:∀b Z N ps q,ar H Z->H b=none->Z b=some (.l N)->aF Z N ps->(∀p∈ps,aZ p)->YU "" ps=true->ps.length<=305->aq ps<=40*m.toNat->ym x.cps.toList ps q->Q (.r b) Z)
abbrev amO(K:Frag)(E:XK):bu:=aH K aiB [] (E:=E)
theorem aiC{K:Frag}(vs:ci)(H:Hp)(Q:VK)(E:XK)(h:yY vs H Q E):ax (amO K E) M4 {nx:=λY Z=>Q .a Z,r:=Q} (XF M1 vs) H:=by
 obtain⟨c,x,m,rfl,i,F,w,A,k⟩:=h;refine pT _ O _ O ⟨_,O,c,x,m,O,i,F,w,A,λb H1 N ps q s B l p e y t G=> ⟨b,N,ps,O,l,p,(wO y (XA _ _)),ap,λd W z f u j g=>?_⟩⟩;obtain⟨o,n,Y⟩:=AG ps e ap;have v:=xI ps;rw[vc ps e] at v;exact k d W z (fK ps) q (s.trans f) (s.free u) j g n o ap (by rw[xJ ps e];exact t)<|AH G
end
section
variable{K:Frag}{H Z:Hp}
variable{ab la eg tx:DL}{B:Nat}
theorem axM{a b:Str}{r:ii}(h:¬a=b):cm (((Sum.inr a:We),v)::r) (.inr b)=cm r (.inr b):=jE λz=>h (Sum.inr.inj z)
variable{c:bu}{D:ET}{u:St}{r:gu}{Q:VK}{i:Nat}{w:DL}{f:Str}{g:ii}{v:V}
theorem cz(h:u[i]?=some (some<|.r w))(b:H w=some (.d g))(a:cm g (.inr f)=some v)(q:Q v H):ae c (.B (.v i)<|.c<|.s f) u H Q:=⟨_,h,w,v,O,.inl ⟨g,.inr f,.inl b,O,a.symm⟩,q⟩
theorem anM(h:ae c e u H λv H1=>ae c (.v i) u H1 λx W=>∃a b,x=.r a/\l9 W a (.s f) v b/\ax c r D u b):ax c (.t (.v i) (.c<|.s f) e::r) D u H:=h
theorem acV(h:u[i]?=some (some<|.r w))(k:H w=some (.d g))(j:g.length<sizeLine)(e:ax c r D u (upd H w<|.d<|Yx g (.inr f) v)):ae c (.v i) u H λx W=>∃a b,x=.r a/\l9 W a (.s f) v b/\ax c r D u b:=
 ⟨_,h,w,_,O,.inl ⟨g,.inr f,k,O,j,O⟩,e⟩
theorem gO(h:i<n):gJ n ((i:Nat):Int)=some i:=by
 unfold gJ;rw[Id (VI _),Id ap];rfl
variable{C:DL}{hp wA:DL}{M Ed as as':db}{hr:Nat}{Y pars' U' Y' V':ac}{HY aoK:bi}{n:Nat}{T:Nat}{e:List am}
theorem aM.bP(A:aM C H hp M Ed B Y e V' T):bD Y/\B<Y.length/\e.length=Y.length/\jQ M H:=by
 obtain⟨dx,lo,p,d,be,lg,b,es,A⟩:=X9 A;have:=A.ob.l;rw[XN] at this;exact⟨A.ob.tr,A.ob.r,this,A.live⟩
end
section
variable{K:Frag}{CP C CE CD:DL}
end
theorem oz{a b:DL}{o:HO}(h:H a=some o)(f:H b=none):b≠a:=by lia
noncomputable def bF(R:List cE):am:=R.map (·.2.2)
theorem iZ(R:List cE):(bF R).length=R.length:=by unfold bF;rw[XN]
theorem SA(l:am):Wi (l.map λc=>(⟨#[c]⟩:Str))=⟨l.toArray⟩:=by
 refine iO ?_;rw[sN];rw[XE];induction l with
 |nil=>rfl
 |cons c l i=>rw[AP,GJ,i];rfl
theorem aiD(l:am):sz (l.map λc=>(⟨#[c]⟩:Str))=l.length:=by
 rw[<-(EZ (l.map λc=>(⟨#[c]⟩:Str))),SA,Xz]
section
variable{Y:ac}{S V:am}{B a b c x:Nat}
theorem aiE(T:bD Y)(g:jz Y S)(h:jz Y V)(l:x∈S)(i:x∈V):∃t,t∈S/\t∈V/\∀k,k∈S->k∈V->k≠t->∃j,Y[k]?=some (some j)/\j∈S/\j∈V:=by
 obtain⟨d,Z,g⟩:=g;obtain⟨c,Z,h⟩:=h;have u:∀k,k∈S->k∈V->k≠max d c->∃j,Y[k]?=some (some j)/\j∈S/\j∈V:=λk a b o=>by
  obtain⟨l1,m⟩:=g k a;obtain⟨l2,q⟩:=h k b;rcases m with m|⟨j,v,e⟩
  cases o (show k=max d c by lia);rcases q with q|⟨w,I,p⟩
  cases o (show k=max d c by lia);rw[e] at p;cases p;exact⟨j,e,v,I⟩
 refine⟨max d c,?_⟩;have f:∀n x,x<=n->x∈S->x∈V->max d c∈S/\max d c∈V:=λn=>by
  induction n with
  |zero=>
   intro x s a b;by_cases z:x=max d c;rw[<-z];exact⟨a,b⟩;obtain⟨j,e,Z⟩:=u x a b z;have:=(bz T e).1;exact (XH _ (YY this s)).elim
  |succ n r=>
   intro x s a b;by_cases z:x=max d c;rw[<-z];exact⟨a,b⟩;obtain⟨j,e,a,b⟩:=u x a b z;exact r j (by have:=(bz T e).1;exact Xe (YY this s)) a b
 exact⟨(f x x (VL _) l i).1,(f x x (VL _) l i).2,u⟩
theorem Nx.bt(T:bD Y)(h:Nx Y B a b)(x:jz Y S)(p:B∈S)(A:b∈S):a∈S:=by
 obtain⟨G,V,w,v,q,m⟩:=h;obtain⟨W,o⟩:=w.add T q m G;obtain⟨t,I,H,u⟩:=aiE T x W p (Wu _ v);have F:b∈V++[b]:=Za _ (.head _);have D:∀{k},k∈V++[b]->k≠b->k∈V:=λh n=>(X0.mp h).resolve_right λz=>n (Yd.mp z);by_cases z:b=t;have l:∀n k,k<=n->k∈S->k∈V++[b]->k≠b->∃c,Y[c]?=some (some b)/\c∈S/\c∈V++[b]:=λn=>by
  induction n with
  |zero=>
   intro k s a d f;obtain⟨j,e,Z⟩:=u k a d (z ▸ f);have:=(bz T e).1;exact (XH _ (YY this s)).elim
  |succ n r=>
   intro k s a d f;obtain⟨j,e,i,g⟩:=u k a d (z ▸ f);by_cases y:j=b;exact⟨k,ap,a,d⟩;exact r j (by have:=(bz T e).1;exact Xe (YY this s)) i g y
 obtain⟨c,e,E,C⟩:=l B B (VL _) p (Wu _ v) λy=>m (y ▸ v);rw[<-o c (D C (by have:=(bz T e).1;exact Ya this)) (.inl e)];exact E;obtain⟨j,e,i,g⟩:=u b A F z;rw[<-o j (D g (by have:=(bz T e).1;exact ZH this)) (.inr e)];exact i
theorem Nx.un(T:bD Y)(h:Nx Y B a b)(i:Nx Y B c b):a=c:=by
 obtain⟨j,V,g,f,d,v⟩:=id i;obtain⟨W,o⟩:=g.add T d v j;have:=h.bt T W (Wu _ f) (Za _<|.head _);refine o a ((X0.mp this).resolve_right λz=>?_) (h.1.elim .inr .inl);have e:=Yd.mp z;rcases h.1 with e|e
 have:=(bz T e).1;lia;have:=(bz T e).1;lia
end
section
variable{Y:ac}{S f:am}{B n d i j k a b c:Nat}
theorem SD(h:f.Nodup)(e:f[i]?=some a)(b:f[j]?=some a):i=j:=by
 exact(List.getElem?_inj ((Wq.mp e).1) h).mp<|e.trans b.symm
theorem off(T:bD Y)(B:∀(i n m:Nat),f[i]?=some n->f[i+1]?=some m->gz Y n m)(r:f.Nodup):∀(t j:Nat)(W:am)(p b:Nat),jz Y W->p∈W->b∉W->f[j]?=some p->f[j+1]?=some b->∀c,f[j+1+t]?=some c->c∉W:=by
 intro t;induction t with
 |zero=>intro j W p b Z Z k Z e c d;rw[e] at d;cases d;exact k
 |succ t u=>
  intro j W p b w v k s g c d;obtain⟨l,o⟩:=w.add T v k (B _ _ _ s g);have x:=(Wq.mp d).1;obtain⟨q,a⟩:∃q,f[j+1+1]?=some q:=⟨_,Xd ap⟩;refine λz=>u (j+1) (W++[b]) b q l (Za _<|.head _) (λh=>?_) g a c ap<|Wu _ z;rcases X0.mp h with h|h
  have:=o q h (B _ _ _ g a);subst this;have:=SD r s a;lia;cases Yd.mp h;have:=SD r g a;lia
theorem btw(T:bD Y)(B:∀(i n m:Nat),f[i]?=some n->f[i+1]?=some m->gz Y n m)(l:f.Nodup)(s:jz Y S)(x:i<=j)(w:j<=k)(v:f[i]?=some a)(u:f[j]?=some b)(g:f[k]?=some c)(r:a∈S)(q:c∈S):b∈S:=by
 have y:=(Wq.mp g).1;have:∀t,i+t<=k->∀b,f[i+t]?=some b->b∈S:=by
  intro t;induction t with
  |zero=>intro Z b e;rw[Nat.add_zero,v] at e;cases e;exact r
  |succ t o=>
   intro h b e;obtain⟨p,d⟩:∃p,f[i+t]?=some p:=⟨_,Xd (Wn (VP h) y)⟩;by_cases z:b∈S;exact z;cases off T B l (k - (i+t+1)) (i+t) S p b s (o (VP h) p d) z d e c (by rw[<-g];congr 1;lia) q
 exact this (j - i) ap b (by rw[<-u];congr 1;lia)
theorem SE(T:bD Y):∀n,n<Y.length->(ups Y n n).Nodup:=by
 intro n;induction n using Nat.strongRecOn with
 |ind n i=>
  intro a;by_cases z:n=0;subst z;exact Y8.mpr ⟨nofun,WQ⟩;obtain⟨j,b,D,e⟩:=kz T (WY z) a;rw[e];exact Y8.mpr ⟨λh=>by have:=tZ T j (Xf D a) n h;exact (XD _ (YY D this)).elim,i j D (Xf D a)⟩
theorem aiH(T:bD Y)(g:n<Y.length)(i:d<Y.length):(dz Y n d).Nodup:=by
 obtain⟨u,v,m,p,q,zq⟩:=Yj (Rv T g i);obtain⟨e,s,k,r,o,l⟩:=Yk zq;have f:=SE T n g;have c:=SE T d i;rw[s] at f;rw[k] at c;rw[e];refine Y0.mpr ⟨(Y0.mp f).1,Y8.mpr ⟨l,(List.reverse_perm v).nodup_iff.mp (Y0.mp c).1⟩,λa j b h z=>?_⟩;subst z;rcases xW.mp h with rfl|h
 exact o j;exact r a j (k▸Wu _ (Wx.mpr h))
end
abbrev aU(K:sB)(k:Nat)(x:Nm):Prop:=x∈ (K.getD k []).map nm
abbrev Ld(K:sB)(j i:Nat)(e:bn):Prop:=Wk (aU K j) (aU K i) (ak e) (K.getD j []) (K.getD i [])
structure Cn(Y:ac)(K':sB)(es:List bn):Prop where
 L:K'.length=Y.length
 nd:∀k,((K'.getD k []).map nm).Nodup
 tp:∀x k,aU K' k x->∃Yn,jz Y Yn/\∀j,j∈Yn↔aU K' j x
 ed:∀i j e,Y[i]?=some (some j)->es[i]?=some e->Ld K' j i e
section
variable{Y:ac}{g:sB}{q:List bn}{B d i j:Nat}{l:am}{f:am}
theorem aiI{S:Nm->Prop}:∀{l:Rows},(∀a∈l,S<|nm a)->Wk S S (rK l.length) l l:=by
 intro l;induction l with
 |nil=>exact λY=>⟨O,O⟩
 |cons a l i=>exact λh=>⟨a,l,l,O,O,h a<|.head _,h a<|.head _,i λb c=>h b (.tail _ c)⟩
abbrev yZ(q:List bn)(i:Nat)(ps:bn):Prop:=q[i]?=some ps/\aq ps<=85000/\∃x y,iU ps x y
def Jw(g:sB)(f:am)(i j:Nat)(ps:bn):Prop:=i<=j/\∃a b,f[i]?=some a/\f[j]?=some b/\Ld g a b ps
theorem Cn.wy(C:Cn Y g q)(T:bD Y)(dB:∀(i n m:Nat),f[i]?=some n->f[i+1]?=some m->gz Y n m)(L:f.Nodup)(w:f[0]?=some B)(V:l.length=(g.getD B []).length):Wy Y f l (yZ q) (Jw g f) where
 c:=by
  rintro i j k a b c l m r ⟨Q,t,n2,E,D,G⟩ ⟨P,N,M,R,A,F⟩ ca cb J;rw[D] at R;cases R;obtain⟨zs,K,Z⟩:=J.aA;refine rS (wO Q P) t M E ⟨A,rH Z.symm<|RZ K (λx u X=>?_) G F⟩;obtain⟨H,I,v⟩:=C.tp x t u;exact(v _).mp<|btw T dB L I Q P E D A ((v _).mpr u)<|(v _).mpr X
 z:=by
  refine rS (VL _) B B w ⟨w,?_⟩;have r:∀p∈ [Pt.k (l.length:Int)],fW p:=by intro p d;cases Yd.mp d;show(0:Int)<=_;exact VI _
  rw[<-vc _ r];refine rH (s_ _ λp d=>NX (r p d)).symm ?_;show Wk _ _ (rK (l.length:Int).toNat++[]) _ _;rw[Y3,V];exact aiI λa W=>ZF W
 s:=by
  rintro i n m e S U h;refine rS (Yr _) n m S ⟨U,?_⟩;rcases h with⟨p,o,O⟩|⟨p,e0,⟨o,ht,x,y,cg⟩,rfl⟩
  exact C.ed _ _ _ p o;exact rH (cg.bk (wO ht (XA _ _))).2.2.2.symm (HA<|C.ed _ _ _ p o)
end
open PySem PySem.Spec PyProof.Rows
theorem aiJ:bootBuiltins "dict"=some (.type "dict"):=O
theorem SF:entryFor table "dict.update.loop"=some Builtin.«dict.update.loop»:=entryFor_of_tree (O)
theorem Cj:plainId "dict.update.loop"=true:=by decide+kernel
theorem aiK:typeLookup (.type "list") "keys"=pure none:=O
section
variable{prog:Fa}{w:Fk}{A:Gc}{E:cr}{s:Ev}{l:DL}{c:lc}{k:Nat}
theorem aiL{Q:AT->Ev->Prop}(x:s.heap.get? l=some {cls:=.type "list",data:=.seq c k})(j:A.handled=none)(h:∀a t,(∀b o,s.heap.get? b=some o->a.get? b=some o)->Q none {s with heap:=a,toks:=t}):wpAny (model prog w) A (getAttr? (.ref l) "keys") Q E s:=by
 obtain⟨p,g,d,t,i⟩:=s;have T:∀v,(⟨p,g,d,v,i⟩:Ev).TypeIs (.ref l) "list":=λY=>⟨_,x,O⟩;have z:=sub_AttributeError;have y:=PySem.F.slot_list_getattribute.lookup;have r:=PySem.F.slot_list_getattribute.bind (.ref l);have q:=am_list_getattr_none;unfold getAttr? getAttrBy? getAttrBy
 repeat (any_goals (first|assumption|exact T _|((with_reducible show wpAny _ _ (call (Value.builtin "list.__getattribute__") _ _) _ _ _);refine P3 PySem.F.slot_list_getattribute (T _) am_entry_list_getattribute (PySem.F.args_list_getattribute_2 _ _) (meets_getattribute_miss_list l c k #[] "keys" _ aiK bc (by size_fits)) ⟨x,j,λa v e G=>?_⟩)|wp_step))
 obtain⟨m,u,n⟩:=G.there;show wpAny _ _ (getattributeRaised _ _ _ _ _ _ _) _ _ _;unfold getattributeRaised
 repeat (any_goals (first|assumption|exact hE _|wp_step))
 exact h _ _ G.keeps
end
abbrev Pr:=Db×DL×EQ
noncomputable def mT(s:List Pr):List Pr:=s.foldl (λxs q=>storedH xs q.1 q.2.1 q.2.2) []
section
variable(prog:Fa)(w:Fk)
def Iq(h:FS)(a:db)(v:EQ)(q:Pr):Prop:= ∃t o n,v=.ref t/\t∉a/\q.2.1∉a/\h.get? t=some o/\o.cls=.type "tuple"/\o.data=.seq #[.ref q.2.1,q.2.2] n/\(tupleKind<|c9 prog w).is h q.1 q.2.1
end
theorem aiM(xs:List Pr)(k:Db)(a:DL)(v:EQ):(storedH xs k a v).length<=xs.length+1:=by
 unfold storedH;split<;>simp
theorem aiN{xs:List Pr}{a:DL}{v:EQ}{x:Pr}(h:x∈storedH xs k a v):x.1=k/\x.2.1=a\/∃y∈xs,y.1=x.1/\y.2.1=x.2.1:=by
 unfold storedH at h;split at h;obtain⟨y,b,rfl⟩:=Yc.mp h;refine .inr ⟨y,b,?_⟩;unfold putAt;split<;>exact⟨O,O⟩
 rcases X0.mp h with h|h
 exact .inr ⟨x,h,O,O⟩;cases Yd.mp h;exact .inl ⟨O,O⟩
theorem HZ(s:List Pr):(mT s).length<=s.length/\∀x∈mT s,∃q∈s,q.1=x.1/\q.2.1=x.2.1:=by
 have:∀(s xs:List Pr),(s.foldl (λxs q=>storedH xs q.1 q.2.1 q.2.2) xs).length<=xs.length+s.length/\∀x∈s.foldl (λxs q=>storedH xs q.1 q.2.1 q.2.2) xs,∃q∈xs++s,q.1=x.1/\q.2.1=x.2.1:=by
  intro s;induction s with
  |nil=>exact λxs=>⟨VL _,λx a=>nW x (Wu _ a) O O⟩
  |cons q s i=>
   intro xs;obtain⟨k,f⟩:=i (storedH xs q.1 q.2.1 q.2.2);have j:=aiM xs q.1 q.2.1 q.2.2;simp only[YF,d_];refine⟨ap,λx a=>?_⟩;obtain⟨y,h,c,e⟩:=f x a;rcases X0.mp h with h|h
   rcases aiN h with⟨b,g⟩|⟨z,d,b,g⟩
   exact nW q (Za _<|.head _) (b.symm.trans c) (g.symm.trans e);exact nW z (Wu _ d) (b.trans c) (g.trans e);exact nW y (Za _<|.tail _ h) c e
 have:=this s [];simp only[VO,VF,X3] at this;exact this
section
variable{f:Fa}{w:Fk}{A:Gc}{R:Result->Ev->Prop}{I:DL}{l g:db}{G:Array GenState->Array GenState->Prop}{n:Nat}{P:Nat->EQ->Prop}{p:Nat->Ev->Prop}
theorem SH{k:Db}{a:DL}(x:(tupleKind<|c9 f w).is h k a)(e:∀o,h.get? a=some o->h'.get? a=some o):(tupleKind<|c9 f w).is h' k a:=by
 obtain⟨o,g,n,c,b⟩:=x;exact⟨o,g,n,e _ c,b⟩
theorem loop(W:WalksS f w A.in1 I l g G n P p)(hu:A.units+1<cLine)(d:DL)(Z:d∉l)(r:FS)(a:List Pr)(hq:a.length=n)(hz:n<=sizeLine)(E:∀q∈a,q.2.1∉d::g)(S:∀i v,P i v->∃q,a[i]?=some q/\Iq f w r (d::g) v q):
  ∀(k i:Nat)(j:Int)(s:Ev),n - i=k->i<=n->p i s->(∀b o,b∉d::g->r.get? b=some o->s.heap.get? b=some o)->s.heap.DictOfH (tupleKind<|c9 f w) d (mT<|a.take i)->
   (∀u,Moved (d::g) G s u->u.heap.DictOfH (tupleKind<|c9 f w) d (mT a)->R (.ok<|.ret .none) u)->
   codeAny (model f w) A (.builtin "dict.update.loop" ⟨[.ref d,.ref I,rawInt j,.none],[]⟩) R s:=by
 have H:d∉g:=λh=>Z (W.sub _ h);have hs:∀c∈g,c∈d::g:=λc y=>.tail _ y;have SI:∀{h C:FS}{i:Nat},(∀b o,b∉g->h.get? b=some o->C.get? b=some o)->h.DictOfH (tupleKind<|c9 f w) d (mT<|a.take i)->C.DictOfH (tupleKind<|c9 f w) d (mT<|a.take i):=by
  intro h C i k ⟨o,es,ep,ho,y,hd,he,F,hn⟩;refine pG o es ep (k _ _ H ho) y hd he ⟨λx hx=>SH (F x hx) λo e=>k _ _ (λz=>?_) e,hn⟩;obtain⟨q,hq,O,N⟩:=(HZ _).2 x hx;exact E q (lA hq)<|.tail _ (by rw[N];exact z)
 intro k;induction k with
 |zero=>
  intro i j s hk hi Q Y M K;have:i=n:=by lia
  subst this;refine WU SF ?_;refine GT (m:=pyNext (.ref I))<|W.done s _ _ Q λu B=>?_;refine GT<|IO<|IO<|K u (B.mono hs) ?_;have:=SI (λb o n e=>B.heap b o n e) M;rw[XB (VN hq)] at this;exact this
 |succ k ih=>
  intro i j s hk hi Q Y M K;have aD:i<n:=by lia
  refine WU SF ?_;rw[xN Cj _];refine GT (m:=pyNext (.ref I))<|W.item i s _ _ aD Q λv u hP Ha B=>?_;obtain⟨q,D,t,o,n',rfl,ht,ha,h1,h2,h3,h4⟩:=S i v hP;have J:=λb o n e=>B.heap b o (λz=>n<|.tail _ z) (Y b o n e);have L:=SI (λb o n e=>B.heap b o n e) M;refine GT<|NE<|GT<|wpAny_tryCatch ?_;unfold Builtin.Dict.pairItems;refine GT<|Wp (T:="tuple") (nT o (J _ _ ht h1) h2) ?_;rw[Id bc];refine GT<|ZB (J _ _ ht h1) h3<|IO ?_;have hl:(mT<|a.take i).length<=sizeLine:=by
   have:=(HZ<|a.take i).1;rw[Ye] at this;lia
  refine NE<|wpAny_dictSet_heap (hsz:=hl) (XL hu) (SH h4 λo e=>J _ _ ha e) L λC SJ X=>?_;have N:storedH (mT<|a.take i) q.1 q.2.1 q.2.2=mT (a.take<|i+1):=by
   unfold mT;rw[YQ,D,Option.toList_some,Xy];rfl
  rw[N] at SJ;refine IO ⟨cB Cj _,ih (i+1) _ _ ap aD (W.frame _ u _ _ Ha (j9 _ _) λc y o e=>?_) (λb o n e=>?_) SJ λlY U V=>?_⟩;rw[X.2 c (λh:c=d=>Z (by rw[<-h];exact y))];exact e;show C.get? b=some o;rw[X.2 b<|λh=>n (by rw[h];exact .head _)];exact J b o n e;refine K lY (Moved.trans W.gtrans ((B.mono hs).then_heap (j9 _ _) λc o y e=>?_) U) V;rw[X.2 c (λh:c=d=>y (by rw[h];exact .head _))];exact e
end
def Ia(H:Hp)(v:V)(r:Db×V):Prop:= ∃t b,v=.r t/\H t=some (.t [.r b,r.2])/\H b=some (.t<|r.1.map kV)
def SK(H:Hp)(p:Db×V)(q:Pr):Prop:=p.1=q.1/\H q.2.1=some (.t<|p.1.map kV)/\mL p.2 q.2.2
def Ck(s:io):io:=s.foldl (λd r=>Yx d r.1 r.2) []
theorem prs(m:cN p w H h){j:db}(L:∀b∈j,h.get? b=none){s:io}(K:Paired (Ia H) vs s):∀{g:ga},ZT vs g->∃c:List Pr,c.length=g.length/\(∀(i:Nat)(v:EQ),g[i]?=some v->∃q,c[i]?=some q/\Iq p w h j v q)/\(∀q∈c,q.2.1∉j)/\Paired (SK H) s c:=by
 induction K with
 |nil=>
  intro g f;cases f;exact qU [] O (λi v e=>by simp at e) nofun .nil
 | @cons v r vs s M _ J=>
  intro g f;cases f with
  |cons D f=>
   obtain⟨c,R,Q,P,N⟩:=J f;obtain⟨t,b,rfl,S,C⟩:=M;cases D;obtain⟨Y,T,d,o,y,I,n,G⟩:=(show cT p w H h t (.t [.r b,r.2]) from m t _ S);cases d with
   |cons F d=>
    cases d with
    |cons E d=>
     cases d;cases F;rename_i x;have A:=uL m C;have k:∀{a:DL}{u:Obj},h.get? a=some u->a∉j:=λe z=>by rw[L _ z] at e;cases e
     have B:∃u,h.get? b=some u:=by obtain⟨u,Y,Y,e,Y⟩:=A;exact o3 u e
     refine qU ((r.1,b,x)::c) (by simp[R]) (λi v e=>?_) (λq l=>?_) (.cons ⟨O,C,E⟩ N);cases i with
     |zero=>
      simp at e;subst e;exact nT _ O ⟨t,o,n,O,k y,k B.choose_spec,y,I,G,A⟩
     |succ i=>exact Q i v (by simpa using e)
     rcases xW.mp l with rfl|l
     exact k B.choose_spec;exact P q l
theorem aiX{b:List Pr}(h:Paired (SK H) s b):∀{D:io}{S:List Pr},KT H D S->KT H (s.foldl (λd r=>Yx d r.1 r.2) D) (b.foldl (λxs q=>storedH xs q.1 q.2.1 q.2.2) S):=by
 induction h with
 |nil=>exact λk=>k
 | @cons p q _ _ a _ i=>
  intro D S k;refine i ?_;show KT H (Yx D p.1 p.2) (storedH S q.1 q.2.1 q.2.2);rw[a.1.symm];exact k.put p.1 a.2.1 a.2.2
def y2(K:Frag):ci->Hp->VK->Prop:=λxs H Q=>∃p vs s,xs=[.r p]/\H p=some (.l vs)/\Paired (Ia H) vs s/\∀l,H l=none->Q (.r l) (upd H l<|.T<|Ck s)
theorem aiY(hc:X.calm=true)(hu:X.A.units+64<cLine):dC X (.type "dict") (y2 X.K):=by
 intro E' s u H xs us Q I r h;obtain⟨p,vs,a,zq⟩:=XM h;obtain⟨rfl,hp,hr,q⟩:=Xn zq;obtain⟨G,rfl,ru⟩:=VZ r;cases ru;obtain⟨hz,g,nn,V,L⟩:=(show cT X.prog X.w H s.heap p (.l vs) from I.az _ _ hp);have Y:=I.ok.hd hc;have a':=ZT.length V;refine callType_codes (Q₁:=λj W'=>j=.ref s.heap.objs.size/\W'={s with heap:=s.heap.push {cls:=.type "dict",data:=.dict #[]}}) PySem.F.kt_called_dict (PySem.F.kt_typeCall_dict_1 _) PySem.F.entry_dict_init (kt_code_dict_new _ ⟨O,O⟩) ?_;rintro j W' ⟨rfl,rfl⟩;have J:(s.heap.push {cls:=.type "dict",data:=.dict #[]}).DictOfH (tupleKind<|c9 X.prog X.w) s.heap.objs.size []:=Heap.DictOfH.new s.heap;refine⟨J.typeIs,PySem.F.args_dict_init_2 _ _,?_⟩;refine GT ?_;refine GT<|wpAny_notOrdered_dict J.typeIs ?_;refine IO ?_;have E:=KK {cls:=.type "dict",data:=.dict #[]} L;refine GT<|Wp (T:="list") (nT _ E O) ?_;rw[Id bc];refine GT<|aiL (A:=X.A.in1.in1) E Y λc tk k=>?_;refine GT<|wpAny_rule ?_;have Z:c.IsList p g.toArray:=nW _ (k _ _ E) O ⟨nn,O⟩;refine GT<|u1 Z ?_;have lt:∀{b:DL}{G:Obj},s.heap.get? b=some G->b<s.heap.objs.size:=λe=>IR e;have U:s.heap.objs.size<c.objs.size:=by
  obtain⟨o,_,_,e,_⟩:=XM J;exact IR<|k _ _ e
 have SM:∀b∈ [s.heap.objs.size,c.objs.size],s.heap.get? b=none:=λb W=>by
  simp only[xW,Zz,Os] at W;rcases W with rfl|rfl
  exact x8 (VL _);exact x8 (Zx U)
 obtain⟨d,h1,h2,h3,h4⟩:=prs I.az SM hr V;have R:=lt L;refine IO ⟨cB Cj _,loop (A:=X.A.in1) ((Walks.list (by exact Y) c.objs.size p (ZH<|Xf R U) g.toArray).toS) (by show X.A.units+1+1<cLine;lia) s.heap.objs.size ?_ s.heap d (by rw[h1,Xm]) (by rw[Xm];lia) h3 (λi v e=>h2 i v (by simpa using e)) (g.toArray.size - 0) 0 0 _ O (Ww _) ⟨nW _ (On _ O) O O,Z.push _⟩ (λb o n e=>KK _<|k _ _<|KK _ e) ?_ ?_⟩;simp;exact⟨ZH U,Ya R⟩;obtain⟨o,es,f,zq⟩:=XM J;obtain⟨e,C,B,y,a4,t⟩:=Yk zq;exact pG o es f (KK _<|k _ _ e) C B y ⟨λx hx=>(by cases hx),t⟩;intro s' m hD;obtain⟨mF,g',d',vY,ng⟩:=s';have eg:g'=s.gens:=m.gens;have ed:d'=s.drawn:=m.drawn;have eo:ng=s.os:=m.os;subst eg;subst ed;subst eo;refine⟨O,.r s.heap.objs.size,_,I.laid (t':=vY) (λb o e=>?_) (VL _) ?_,O,q _<|I.az.fresh<|VL _⟩;refine m.heap b o (λz=>?_) (KK _<|k _ _<|KK _ e);have:=SM b z;rw[e] at this;cases this;obtain⟨o,es,f,zq⟩:=XM hD;obtain⟨e,C,B,y,a4,t⟩:=Yk zq;have M:=aiX h4 (D:=[]) (S:=[]) .nil;refine⟨?_,qH ((KP (P:=X.prog) (w:=X.w) (H:=H) s.heap I.big).2.1) _ ?_ ⟨o,es,f,e,C,B,y,t⟩⟩;have:=(HZ d).1;have e2:(Ck a).length=(mT d).length:=KB M;lia;exact KT.keeps M λb N e=>by rw[ay<|aQ e<|I.az.fresh<|VL _];exact e
def uc:Frag->TA->TE:=λK t=>gU (y2 K) t
section
variable{CX:cZ}{S:dJ}{f:bu}{X:Cx}{e:Expr}{c:on}{x:Str}{p pos:Pos}{r:RE}{g:u8}
theorem SN(G:Good CX S f X)(A:PA X (e::c) (aP f (r::g)))(h:autoParam (kB S x "dict"=true) ee)(n:autoParam (ib (e::c)=true) ee)(q:autoParam (S.m=0) dh):PE X (.Call (.Name x p) (e::c) [] pos) (ae f<|.x uc (r::g)):=by
 simp only[kB,Zu,KM] at h;obtain⟨⟨rfl,b⟩,a⟩:=h;exact Kh (aiY (G.calm q) G.units) (G.gl b) (G.jo _ a) aiJ A bc (O) (eI (e_ n).1)<|mv _ _ c (e_ n).2
end
section
open PyProof.Rows
noncomputable def br(i:Nat):Fr:=(PySem.Challenge.pw_inkloom_k27_whole_foreign_amid_deeds.main.body).getD i (.Pass ⟨0,0,0,0⟩)
def SO:Fr:=br 9
abbrev bT(s:Fr)(k:Nat):Fr:=(gp s).getD k (.Pass ⟨0,0,0,0⟩)
abbrev bU(b:gu)(k:Nat):RS:=b.getD k (.r<|.c .a)
abbrev MX(N:bi)(s:Fr)(f g l m k e h:bi)(b:gu)(d:Nat):Prop:= ∀{C:cZ}{Γ:bu}{X:Cx},iM C (Ao N (gW s) f g l m k e h d) Γ X->gF X (gp s) (ax Γ b)
abbrev MY(N:bi)(s:Fr)(f g l m n e h:bi)(b:gu)(d k:Nat):Prop:= ∀{C:cZ}{Γ:bu}{X:Cx},iM C (Ao N (gW s) f g l m n e h d) Γ X->PS X (bT s k) (cj Γ<|bU b k)
theorem aO{P:Prop}(H:P:=by intro G;have g:=G.toGood;repeat' first|exact aG g|refine bC ?_ ?_|refine a_ ?_ ?_|exact cP|exact jN|exact dt|refine jM g ?_ ?_|exact nE|refine xB g ?_ ?_|refine eU G ?_|refine ie g ?_|refine uY ?_|refine EA ?_ ?_ ?_|refine j_ g ?_ ?_|refine xv g ?_|refine Ez ?_|refine sE g ?_|refine uX ?_|refine Mc g ?_ ?_|refine xx g ?_ ?_|refine Ak g ?_|refine abK ?_|refine qw g ?_ ?_|refine Md g ?_|refine Mr G ?_ ?_|refine Mj ?_|refine abz ?_|refine L_ g ?_ ?_|exact Es|refine abX G ?_|refine Ey ?_ ?_ ?_|refine abM ?_|refine Mh g ?_ ?_ ?_|refine abO ?_ ?_|refine abC ?_ ?_|refine abQ ?_ ?_|exact L9|refine abN ?_|exact Et|refine X2 ?_|refine Rt ?_|refine abS g ?_|refine Ms G ?_ ?_|refine Mu [(_,_),(_,_)] G ?_ ?_|refine Mu [(_,_),(_,_),(_,_)] G ?_ ?_|refine EB G ?_ ?_|refine abF g ?_|refine Mm g ?_|refine abE ?_ ?_ ?_|exact Mi|refine Mb g ?_|refine Mf g ?_ ?_|refine Mq G ?_ ?_ ?_|refine abT g ?_|refine Ma g ?_|refine abD g ?_|exact d_g g|exact Mv|refine GH g ?_ ?_ ?_|refine Mg g ?_ ?_|refine SN g ?_|refine abA g ?_ ?_ ?_|refine Mn g ?_ ?_|refine agG g ?_|refine afL g ?_|refine GD ?_|refine vB ?_ ?_ ?_|exact GC|refine Sv G ?_ ?_|refine abI g ?_ ?_|refine abJ g ?_ ?_|refine afx g ?_ ?_|refine OS g ?_ ?_ ?_|refine abU g ?_ ?_|refine abL g ?_ ?_ λY g=>?_|refine Eu λY g=>?_|refine PW.pt ?_):P:=H
theorem aiZ:MX oX SO aa aa abZ aa aa aa aa Mz 0:=aO
def SQ:Fr:=br 10
theorem ai0:MX M5 SQ M7 aa aa aa aa aa aa M6 0:=aO
def SR:Fr:=br 11
theorem ai1:MX EM SR aa aa MA aa aa aa aa EN 0:=aO
def SS:Fr:=br 12
theorem ai2:MX oX SS aa Yl MA aa aa aa aa EO 0:=aO
def SU:Fr:=br 15
theorem ai3:MX oX SU ab1 aa ab2 aa aa aa aa Aq 0:=aO
def SW:Fr:=br 16
theorem ai4:MX MB SW aa aa aa aa aa aa aa MC 0:=aO
def SX:Fr:=br 17
theorem ai5:MX MD SX ab3 aa ab4 aa aa LD aa ME 0:=aO
def SY:Fr:=br 18
theorem ai6:MX MF SY aa aa fV aa aa aa aa MG 0:=aO
def S_:Fr:=br 19
theorem Ki:MX MH S_ ab6 aa ab7 aa aa aa aa MI 0:=aO
def Ta:Fr:=X1 (br 20) 0
theorem ai8:MX vm Ta aa aa Ot aa aa aa aa Oq 0:=aO
def Tb:Fr:=X1 (br 20) 1
theorem ai9:MX qP Tb aa aa fV aa aa aa aa Ou 0:=aO
def Tc:Fr:=X1 (br 20) 2
theorem ai_:MX qP Tc Ow aa aa aa aa aa aa Ov 0:=aO
def Td:Fr:=X1 (br 20) 3
theorem aja:MX Ox Td aa aa aa adY aa aa aa FJ 0:=aO
def Te:Fr:=br 21
theorem ajb:MX MJ Te aa aa fV aa aa aa aa MK 0:=aO
def Tf:Fr:=br 22
theorem L6:MX ML Tf aa aa aa aa aa aa aa MM 0:=aO
def Tg:Fr:=br 23
theorem ajd:MX MN Tg ab8 aa aa aa aa aa aa MO 0:=aO
def Th:Fr:=br 24
theorem aje:MX MP Th ab9 ab_ aa aa aa aa aa MQ 0:=aO
def Ti:Fr:=br 26
theorem ajf:MX OG Ti aa aa aa aa aa xX aa OH 0:=aO
def Tj:Fr:=br 27
theorem ajg:MX OI Tj Y9 aa OE OK aa aa aa OJ 0:=aO
def Tn:Fr:=br 28
theorem ajh:MX OL Tn ad3 aa aa OK OF xX aa OM 0:=aO
def To:Fr:=br 30
theorem aji:MX Oy To Ow aa aa adZ aa aa aa Oz 0:=aO
def Tp:Fr:=br 31
theorem ajj:MX OA Tp aa aa aa aa aa xX aa OB 0:=aO
def Tq:Fr:=br 32
theorem ajk:MX OC Tq ad0 aa OE ad1 OF xX aa OD 0:=aO
def Ts:Fr:=br 34
theorem ajl:MX P5 Ts afM aa afN aa aa aa aa P6 0:=λG=>have g:=G.toGood;(a_ (EB G (xB g (sE g<|bC (aG g) cP) dt)<|a_ (Ex (ln:=["one","other"]) G (O) (O) (O) (Mn g (GH g (aG g) dt dt)<|GH g (aG g) dt dt) Et<|λY g=>(ie g<|bC (aG g)<|bC (aG g) cP))<|a_ (eU G<|j_ g (aG g)<|Mh g (aG g) (Mj<|j_ g dt<|sE g<|bC (aG g) cP) Mi) jN)<|a_ (uY<|jM g (aG g) dt) jN)
def Tt:Fr:=X1 (br 35) 0
theorem ajm:MX P7 Tt M7 aa aa aa aa afO aa P8 0:=aO
def Tu:Fr:=X1 (br 35) 1
theorem ajn:MX vD Tu afP aa aa afQ aa GO aa P9 0:=aO
def Tv:Fr:=X1 (br 35) 2
theorem ajo:MX vm Tv Qa aa aa aa aa xX aa P_ 0:=aO
def Tw:Fr:=X1 (br 35) 4
theorem ajp:MX qP Tw aa aa fV aa aa aa aa Qc 0:=aO
def Tx:Fr:=X1 (br 35) 7
theorem ajq:MX vD Tx aa aa aa afR aa aa aa Qd 0:=aO
def Tz:Fr:=X1 (br 35) 8
theorem ajr:MX Qe Tz Qa aa Ot afS aa aa aa Qf 0:=aO
def TB:Fr:=X1 (br 35) 9
theorem ajs:MX vm TB afT aa aa Zy aa aa aa Qg 0:=aO
def TC:Fr:=X1 (br 35) 10
theorem ajt:MX Qh TC afV aa aa aa aa aa aa Qi 0:=aO
def TF:Fr:=X1 (br 35) 11
theorem aju:MX Q7 TF UC aa agW agX aa aa aa Q8 0:=aO
def TH:Fr:=X1 (br 35) 12
theorem ajv:MX qP TH aa aa aa Qk aa GO aa Qj 0:=aO
def TJ:Fr:=X1 (br 35) 13
theorem ajw:MX Ql TJ aa aa aa Qk aa GO aa Qm 0:=aO
def TK:Fr:=X1 (br 35) 14
theorem Uw:MX vD TK aa aa aa afW aa aa aa Qn 0:=aO
def TL:Fr:=X1 (br 35) 15
theorem VM:MX Qo TL aa aa aa aa aa aa aa Qp 0:=aO
def TM:Fr:=X1 (br 35) 16
theorem ajz:MX Qq TM aa aa afX afY aa aa aa GP 0:=aO
def TN:Fr:=X1 (br 35) 17
theorem ajA:MX Qr TN aa aa aa aa aa aa aa Qs 0:=aO
def TQ:Fr:=X1 (br 35) 18
theorem ajB:MX RC TQ R8 aa aho ahp aa aa aa RD 0:=λG=>have g:=G.toGood;(a_ (Ez<|xx g (aG g)<|bC (aG g) cP)<|a_ (eU G<|sE g<|bC (xv g<|aG g) cP)<|a_ (eU G<|GD<|vB (xv g<|aG g) (aG g) GC)<|a_ (eU G<|uX<|bC (xv g<|aG g) cP)<|a_ (EB G (xB g (sE g<|bC (aG g) cP) dt)<|a_ (eU G<|Mb g<|aG g)<|a_ (Ms G (Ak g<|xx g (aG g)<|bC (aG g) cP)<|a_ (EA (Mf g (aG g)<|aG g) (a_ Mv jN) jN)<|a_ (eU G<|ie g<|bC (qw g (aG g)<|aG g)<|bC (xx g (aG g)<|bC (aG g)<|bC (aG g) cP) cP)<|a_ (Mq G (jM g (aG g) dt) (aG g)<|aG g)<|a_ (Ez<|Mc g (aG g)<|bC (aG g) cP)<|a_ (EA (xB g (jM g (xv g<|aG g)<|aG g)<|aG g) (a_ (Ey (jM g (aG g) dt) (aG g)<|aG g) jN)<|a_ (Ey (ie g<|bC (jM g (aG g) dt) cP) (aG g)<|aG g) jN) jN) jN)<|a_ (Mr G (aG g)<|aG g)<|a_ (Sv G (aG g)<|Ml (ln:=["node"]) g (O) (Mm g<|Md g<|aG g) Et<|λY g=>(jM g (ie g<|bC (qw g (aG g)<|aG g) cP) dt)) jN)
def TR:Fr:=br 37
theorem ajC:MX MR TR aa aa fV aa aa aa aa MS 0:=aO
def TU:Fr:=br 38
theorem ajD:MX MT TU aa aa aa aa aa aa aa MU 0:=aO
noncomputable def zcH:bi:=["_law_cell","_law_size","_law_some"]
def TV:Fr:=br 39
theorem ajE:MX zcH TV aca aa ES aa aa aa aa MV 0:=aO
noncomputable def zcI:bi:=["_law_cell","_law_text_here","_law_many","_law_parts_here","_law_at","_law_k","_law_number","_law_size","_law_left"]
def TX:Fr:=br 40
theorem ajF:MX zcI TX acb aa acd aa aa aa aa MW 0:=aO
def TY:Fr:=br 41
theorem ajG:MX MZ TY aa aa ace aa aa aa aa M0 0:=aO
def TZ:Fr:=br 42
theorem ajH:MX M1 TZ acf aa aa aa aa aa aa M4 0:=aO
noncomputable def zcJ:bi:=["_law_rows","_law_change_here","_law_who","_law_found","_law_at","_law_many","_law_word","_law_thing"]
def T_:Fr:=br 43
theorem ajI:MX zcJ T_ aa aa ES aa aa aa aa Oh 0:=aO
def Ua:Fr:=br 44
theorem NP:MX Of Ua aa aa ES aa aa aa aa Og 0:=aO
noncomputable def Ub:bi:=["_law_rows"]
noncomputable def Uc:gu:=
 [.r<|.w .j (.c<|.s "") [(.C (some 2) [] .l [.v 0] none<|.v 1)]]
def Ud:Fr:=br 45
theorem ajK:MX Ub Ud aa aa aa aa aa aa aa Uc 0:=aO
noncomputable def kN:bi:=["_law_here","_law_change_here","_law_due","_law_names","_law_name","_law_sign","_law_had","_law_fresh","_law_found","_law_at","_law_word","_law_thing","_law_size","_law_some"]
noncomputable def eO:gu:=
 [.i (.N (.j .l (.v 1))) [.r (.c .a)] [],
 .a 3 .xf,
 .l [4,5] .l [.v 2] [.t (.v 3) (.v 4)<|.c<|.b true],
 .a 6 .xf,
 .l [4,5] .l [.v 0] [.t (.v 6) (.v 4)<|.c<|.b true],
 .uQ 7 (.C none [("_law_had",6)] .l [.v 2] (some<|.uP (.i (.v 0)<|.c<|.i 0)<|.v 1)<|.v 0),
 .a 8 (.L []),
 .a 9 (.c<|.i 0),
 .l [10,11] .l [.v 1] [.a 12 (.M (.p .Eq (.v 10) (.c (.s "keep"))) (.v 11) (.t .l [.v 11])),
  .a 13 (.s (.v 0) (some<|.v 9)<|some<|.b .Add (.v 9)<|.v 12),
  .i (.p .Eq (.v 10) (.c (.s "put"))) [.a 13 (.s (.v 7) none (some (.v 12))),
   .a 7 (.s (.v 7) (some (.v 12)) none)] [.a 9 (.b .Add (.v 9) (.v 12))],
  .i (.d [(.p .NotEq (.v 10)<|.c<|.s "keep"),(.o [(.p .NotEq (.t .l [.v 13])<|.v 12),(.p .NotEq (.l 0 [.v 13])<|.v 11)])]) [.r<|.c .a] [],
  .i (.d [(.p .NotEq (.v 10)<|.c<|.s "put"),(.p .NotEq (.C none [("_law_names",3),("_law_word",10)] .l [.v 13] (some<|.p .NotEq (.I (.i (.v 0)<|.c<|.i 0)<|.v 1)<|.p .Eq (.v 2)<|.c<|.s "keep")<|.v 0)<|.L [])]) [.r<|.c .a] [],
  .i (.p .NotEq (.v 10) (.c (.s "cut"))) [.a 8 (.b .Add (.v 8) (.v 13))] []],
 .i (.o [(.p .NotEq (.v 9)<|.t .l [.v 0]),(.p .NotEq (.v 7)<|.L [])]) [.r<|.c .a] [],
 .r (.v 8)]
noncomputable def lS:bi:=["_law_signs"]
noncomputable def lT:bi:=["isinstance","list","len"]
def eP:Fr:=br 46
theorem ajL:MY kN eP lS aa lT aa aa aa aa eO 0 0:=aO
theorem ajM:MY kN eP lS aa lT aa aa aa aa eO 0 1:=by
 intro C Γ X G;show PS X (.Assign [.Name "_law_names" _] _ _) (cj Γ<|.a 3 _)
 with_reducible exact(eU G Me)
theorem ajN:MY kN eP lS aa lT aa aa aa aa eO 0 2:=aO
theorem ajO:MY kN eP lS aa lT aa aa aa aa eO 0 3:=by
 intro C Γ X G;show PS X (.Assign [.Name "_law_had" _] _ _) (cj Γ<|.a 6 _)
 with_reducible exact(eU G Me)
theorem ajP:MY kN eP lS aa lT aa aa aa aa eO 0 4:=aO
theorem ajQ:MY kN eP lS aa lT aa aa aa aa eO 0 5:=λG=>have g:=G.toGood;(Ex (ln:=["_law_row"]) G (O) (O) (O) (Ak g<|aG g) (Eu λY g=>(Mg g (jM g (aG g) dt)<|aG g))<|λY g=>(aG g))
theorem ajR:MY kN eP lS aa lT aa aa aa aa eO 0 6:=by
 intro C Γ X G;show PS X (.Assign [.Name "_law_found" _] _ _) (cj Γ<|.a 8 _)
 with_reducible exact(eU G<|uX cP)
theorem ajS:MY kN eP lS aa lT aa aa aa aa eO 0 7:=by
 intro C Γ X G;show PS X (.Assign [.Name "_law_at" _] _ _) (cj Γ<|.a 9 _)
 with_reducible exact(eU G dt)
theorem Pv:MY kN eP lS aa lT aa aa aa aa eO 0 8:=aO
theorem ajU:MY kN eP lS aa lT aa aa aa aa eO 0 9:=aO
theorem ajV:MY kN eP lS aa lT aa aa aa aa eO 0 10:=by
 intro C Γ X G;show PS X (.Return (some _) _) (cj Γ<|.r _)
 with_reducible exact(uY<|aG G.toGood)
theorem ajW:MX kN eP lS aa lT aa aa aa aa eO 0:=by
 intro C Γ X G;have e:gp eP=[bT eP 0,bT eP 1,bT eP 2,bT eP 3,bT eP 4,bT eP 5,bT eP 6,bT eP 7,bT eP 8,bT eP 9,bT eP 10]:=O;have a:eO=[bU eO 0,bU eO 1,bU eO 2,bU eO 3,bU eO 4,bU eO 5,bU eO 6,bU eO 7,bU eO 8,bU eO 9,bU eO 10]:=O;rw[e,a]
 with_reducible exact a_ (ajL G) (a_ (ajM G)<|a_ (ajN G)<|a_ (ajO G)<|a_ (ajP G)<|a_ (ajQ G)<|a_ (ajR G)<|a_ (ajS G)<|a_ (Pv G)<|a_ (ajU G)<|a_ (ajV G)<|jN)
noncomputable def Ue:bi:=["_law_old","_law_new","_law_left"]
noncomputable def Ug:gu:=
 [.r<|.p .Eq (.C none [("_law_left",2)] .l [.v 0] (some<|.I (.i (.v 0)<|.c<|.i 0)<|.v 1)<|.v 0)<|.C none [("_law_left",2)] .l [.v 1] (some<|.I (.i (.v 0)<|.c<|.i 0)<|.v 1)<|.v 0]
def Uh:Fr:=br 47
theorem ajX:MX Ue Uh aa aa aa aa aa aa aa Ug 0:=aO
noncomputable def Ui:bi:=["_law_history","_law_rows","_law_here","_law_many","_law_node","_law_due","_law_found"]
noncomputable def Uj:gu:=
 [.a 2 (.B (.v 1) (.c (.s "here"))),
 .a 3 (.t .l [(.B (.v 1)<|.c<|.s "named")]),
 .j 4 .l [(.C none [("_law_many",3),("_law_here",2)] .g [.v 3] none (.b .Mod (.b .Add (.v 2) (.v 0)) (.v 1)))] [.a 5 (.i (.B (.v 1) (.c (.s "named"))) (.v 4)),
  .a 6 (.l 0 [(.i (.B (.v 1)<|.c<|.s "named")<|.v 2),(.a 0 "go" (.v 0) [(.l 1 [.v 1,.v 4])]),.v 5]),
  .i (.o [(.p .Is (.v 6)<|.c .a),(.p .NotEq (.v 6)<|.v 5),(.p .NotEq (.a 1 "size" (.v 0) [.v 4])<|.t .l [.v 5])]) [.r<|.c<|.b false] [],
  .i (.p .NotEq (.l 0 [.v 5,(.a 0 "go" (.v 0) [(.l 1 [.v 1,.v 2])]),(.i (.B (.v 1) (.c (.s "named"))) (.v 2))]) (.i (.B (.v 1) (.c (.s "named"))) (.v 2))) [.r (.c (.b false))] []],
 .r (.c (.b true))]
noncomputable def ajY:bi:=["_law_followed","_law_moved"]
noncomputable def ajZ:bi:=["len","range"]
noncomputable def aj0:bi:=["go","size"]
def Uk:Fr:=br 48
theorem aj1:MX Ui Uk ajY aa ajZ aj0 aa aa aa Uj 0:=aO
noncomputable def lU:bi:=["_law_history","_law_rows","_law_cell","_law_who","_law_here","_law_change_here","_law_fresh","_law_stays","_law_cut","_law_puts","_law_node","_law_old","_law_left","_law_due","_law_found"]
noncomputable def eY:gu:=
 [.a 4 (.B (.v 1) (.c (.s "here"))),
 .a 5 (.l 0 [(.b .FloorDiv (.v 2)<|.c<|.i 9),(.l 1 [(.i (.B (.v 1)<|.c<|.s "named")<|.v 4)]),(.b .Add (.c<|.i 1)<|.b .Mod (.v 2)<|.c<|.i 8)]),
 .a 6 (.l 2 [(.i (.B (.v 1)<|.c<|.s "named")<|.v 4),.v 5,.v 3]),
 .a 7 (.x uc [.v 6]),
 .a 8 (.C (some 2) [("_law_stays",7)] .l [(.i (.B (.v 1)<|.c<|.s "named")<|.v 4)] (some<|.uP (.v 0)<|.v 2)<|.v 0),
 .uQ 9 (.C none [("_law_who",3)] .l [.v 6] (some<|.p .Eq (.i (.i (.v 0)<|.c<|.i 0)<|.c<|.i 0)<|.v 1)<|.v 0),
 .d (.a 0 "foreign" (.v 0) [.v 5]),
 .j 10 .g [(.t .l [(.B (.v 1) (.c (.s "named")))])] [.a 11 (.i (.B (.v 1) (.c (.s "named"))) (.v 10)),
  .i (.p .NotEq (.v 10) (.v 4)) [.a 12 (.x uc [(.C none [("_law_cut",8)] .l [.v 11] (some (.y (.i (.v 0) (.c (.i 0))) (.v 1))) (.v 0))]),
   .a 13 (.b .Add (.v 9)<|.C none [("_law_left",12)] .l [.v 11] (some<|.I (.i (.v 0)<|.c<|.i 0)<|.v 1)<|.v 0),
   .a 14 (.l 3 [.v 6,(.a 1 "go" (.v 0) [(.l 4 [.v 1,.v 10])]),.v 13]),
   .i (.o [(.p .Is (.v 14)<|.c .a),(.N<|.l 5 [.v 11,.v 14,.v 12])]) [.r<|.c<|.b false] [],
   .i (.N<|.l 5 [.v 9,.v 14,(.x uc [.v 9])]) [.r<|.c<|.b false] [],
   .s (.B (.v 1)<|.c<|.s "named") (.v 10) (.v 14),
   .d (.a 1 "go" (.v 0) [(.l 4 [.v 1,.v 4])])] []],
 .s (.B (.v 1)<|.c<|.s "named") (.v 4) (.v 6),
 .r (.c (.b true))]
noncomputable def mU:bi:=["_law_change","_law_signs","_law_gone","_law_followed","_law_moved","_law_in_order"]
noncomputable def mV:bi:=["dict","range","len"]
noncomputable def mW:bi:=["foreign","go"]
def fk:Fr:=br 49
theorem aj2:MY lU fk mU aa mV mW aa aa aa eY 0 0:=by
 intro C Γ X G;have g:=G.toGood;show PS X (.Assign [.Name "_law_here" _] _ _) (cj Γ<|.a 4 _)
 with_reducible exact(eU G<|qw g (aG g) nE)
theorem P1:MY lU fk mU aa mV mW aa aa aa eY 0 1:=by
 intro C Γ X G;have g:=G.toGood;show PS X (.Assign [.Name "_law_change_here" _] _ _) (cj Γ<|.a 5 _)
 with_reducible exact(eU G<|ie g<|bC (j_ g (aG g) dt)<|bC (ie g<|bC (jM g (qw g (aG g) nE)<|aG g) cP)<|bC (j_ g dt<|j_ g (aG g) dt) cP)
theorem aj4:MY lU fk mU aa mV mW aa aa aa eY 0 2:=by
 intro C Γ X G;have g:=G.toGood;show PS X (.Assign [.Name "_law_fresh" _] _ _) (cj Γ<|.a 6 _)
 with_reducible exact(eU G<|ie g<|bC (jM g (qw g (aG g) nE)<|aG g)<|bC (aG g)<|bC (aG g) cP)
theorem aj5:MY lU fk mU aa mV mW aa aa aa eY 0 3:=by
 intro C Γ X G;have g:=G.toGood;show PS X (.Assign [.Name "_law_stays" _] _ _) (cj Γ<|.a 7 _)
 with_reducible exact(eU G<|SN g<|bC (aG g) cP)
theorem aj6:MY lU fk mU aa mV mW aa aa aa eY 0 4:=aO
theorem aj7:MY lU fk mU aa mV mW aa aa aa eY 0 5:=λG=>have g:=G.toGood;(Ex (ln:=["_law_row"]) G (O) (O) (O) (Ak g<|aG g) (Eu λY g=>(xB g (jM g (jM g (aG g) dt) dt)<|aG g))<|λY g=>(aG g))
theorem aj8:MY lU fk mU aa mV mW aa aa aa eY 0 6:=aO
theorem aj9:MY lU fk mU aa mV mW aa aa aa eY 0 7:=aO
theorem aj_:MY lU fk mU aa mV mW aa aa aa eY 0 8:=aO
theorem aka:MY lU fk mU aa mV mW aa aa aa eY 0 9:=by
 intro C Γ X G;show PS X (.Return (some _) _) (cj Γ<|.r _)
 with_reducible exact(uY L9)
theorem akb:MX lU fk mU aa mV mW aa aa aa eY 0:=by
 intro C Γ X G;have e:gp fk=[bT fk 0,bT fk 1,bT fk 2,bT fk 3,bT fk 4,bT fk 5,bT fk 6,bT fk 7,bT fk 8,bT fk 9]:=O;have a:eY=[bU eY 0,bU eY 1,bU eY 2,bU eY 3,bU eY 4,bU eY 5,bU eY 6,bU eY 7,bU eY 8,bU eY 9]:=O;rw[e,a]
 with_reducible exact a_ (aj2 G) (a_ (P1 G)<|a_ (aj4 G)<|a_ (aj5 G)<|a_ (aj6 G)<|a_ (aj7 G)<|a_ (aj8 G)<|a_ (aj9 G)<|a_ (aj_ G)<|a_ (aka G)<|jN)
def Ul:Fr:=br 50
theorem akc:MX Rq Ul aa aa aa aa aa aa aa Rr 0:=aO
noncomputable def Um:bi:=["_law_rows","_law_goal","_law_above","_law_up_here","_law_down","_law_node"]
noncomputable def Uo:gu:=
 [.a 2 (.B (.v 0) (.c (.s "above"))),
 .a 3 (.l 0 [.v 2,(.B (.v 0)<|.c<|.s "here")]),
 .a 4 (.l 0 [.v 2,.v 1]),
 .j 5 .l [(.b .Add (.C none [("_law_down",4)] .l [.v 3] (some<|.p .NotIn (.v 0)<|.v 1)<|.v 0)<|.x (n_ none<|-1) [(.C none [("_law_up_here",3)] .l [.v 4] (some<|.p .NotIn (.v 0)<|.v 1)<|.v 0)])] [.s (.B (.v 0)<|.c<|.s "latest") (.i (.v 2)<|.v 5)<|.v 5],
 .t (.v 0) (.c<|.s "here") (.v 1),
 .r (.v 1)]
noncomputable def Y7:bi:=["_law_up"]
def Up:Fr:=br 51
theorem ake:MX Um Up Y7 aa aa aa aa aa aa Uo 0:=aO
noncomputable def Uq:bi:=["_law_here","_law_change_here","_law_due"]
noncomputable def Ur:gu:=
 [.r<|.p .Eq (.l 0 [.v 0,.v 1,.v 2])<|.v 2]
noncomputable def akf:bi:=["_law_followed"]
def Us:Fr:=br 52
theorem akg:MX Uq Us akf aa aa aa aa aa aa Ur 0:=aO
noncomputable def iC:bi:=["_law_history","_law_rows","_law_cell","_law_who","_law_here","_law_named_here","_law_kind","_law_more","_law_goal","_law_change_here","_law_fresh"]
noncomputable def cG:gu:=
 [.a 4 (.B (.v 1) (.c (.s "here"))),
 .a 5 (.B (.v 1)<|.c<|.s "named"),
 .a 6 (.b .Mod (.v 2)<|.c<|.i 7),
 .a 7 (.b .FloorDiv (.v 2)<|.c<|.i 7),
 .i (.p .Eq (.v 6)<|.c<|.i 0) [.r<|.l 0 [.v 0,.v 1,.v 7,.v 3]] [],
 .i (.p .Eq (.v 6) (.c (.i 1))) [.a 8 (.b .Mod (.v 7) (.t .l [.v 5])),
  .r (.l 1 [(.i (.v 5) (.v 4)),(.a 0 "go" (.v 0) [.v 8]),(.i (.v 5) (.l 2 [.v 1,.v 8]))])] [],
 .i (.d [(.p .Eq (.v 6)<|.c<|.i 2),(.p .Gt (.v 4)<|.c<|.i 0)]) [.r<|.l 1 [(.i (.v 5)<|.v 4),(.a 1 "undo" (.v 0) []),(.i (.v 5)<|.l 2 [.v 1,(.i (.B (.v 1)<|.c<|.s "above")<|.v 4)])]] [],
 .i (.d [(.p .Eq (.v 6)<|.c<|.i 3),(.p .IsNot (.i (.B (.v 1)<|.c<|.s "latest")<|.v 4)<|.c .a)]) [.r<|.l 1 [(.i (.v 5)<|.v 4),(.a 2 "redo" (.v 0) []),(.i (.v 5)<|.l 2 [.v 1,(.i (.B (.v 1)<|.c<|.s "latest")<|.v 4)])]] [],
 .a 9 (.l 3 [(.b .FloorDiv (.v 7)<|.c<|.i 9),(.l 4 [(.i (.v 5)<|.v 4)]),(.b .Add (.c<|.i 1)<|.b .Mod (.v 7)<|.c<|.i 8)]),
 .a 10 (.l 5 [(.i (.v 5)<|.v 4),.v 9,.v 3]),
 .i (.d [(.p .Eq (.v 6) (.c (.i 4))),(.A .Lt .Eq (.c (.i 0)) (.v 4) (.b .Sub (.t .l [.v 5]) (.c (.i 1))))]) [.s (.v 5) (.v 4) (.v 10),
  .r (.p .Eq (.a 3 "more" (.v 0) [.v 9]) (.v 4))] [],
 .d (.w .a (.v 5) [.v 10]),
 .d (.w .a (.B (.v 1)<|.c<|.s "above") [.v 4]),
 .d (.w .a (.B (.v 1)<|.c<|.s "latest") [.c .a]),
 .r (.p .Eq (.a 4 "do" (.v 0) [.v 9]) (.l 2 [.v 1,(.b .Sub (.t .l [.v 5]) (.c (.i 1)))]))]
noncomputable def i_:bi:=["_law_foreign","_law_led","_law_moved","_law_change","_law_signs","_law_gone"]
noncomputable def ja:bi:=["go","undo","redo","more","do"]
def c8:Fr:=br 53
theorem akh:MY iC c8 i_ aa fV ja aa aa aa cG 0 0:=by
 intro C Γ X G;have g:=G.toGood;show PS X (.Assign [.Name "_law_here" _] _ _) (cj Γ<|.a 4 _)
 with_reducible exact(eU G<|qw g (aG g) nE)
theorem aki:MY iC c8 i_ aa fV ja aa aa aa cG 0 1:=by
 intro C Γ X G;have g:=G.toGood;show PS X (.Assign [.Name "_law_named_here" _] _ _) (cj Γ<|.a 5 _)
 with_reducible exact(eU G<|qw g (aG g) nE)
theorem akj:MY iC c8 i_ aa fV ja aa aa aa cG 0 2:=by
 intro C Γ X G;have g:=G.toGood;show PS X (.Assign [.Name "_law_kind" _] _ _) (cj Γ<|.a 6 _)
 with_reducible exact(eU G<|j_ g (aG g) dt)
theorem Pf:MY iC c8 i_ aa fV ja aa aa aa cG 0 3:=by
 intro C Γ X G;have g:=G.toGood;show PS X (.Assign [.Name "_law_more" _] _ _) (cj Γ<|.a 7 _)
 with_reducible exact(eU G<|j_ g (aG g) dt)
theorem akl:MY iC c8 i_ aa fV ja aa aa aa cG 0 4:=aO
theorem V6:MY iC c8 i_ aa fV ja aa aa aa cG 0 5:=aO
theorem akn:MY iC c8 i_ aa fV ja aa aa aa cG 0 6:=aO
theorem ako:MY iC c8 i_ aa fV ja aa aa aa cG 0 7:=aO
theorem akp:MY iC c8 i_ aa fV ja aa aa aa cG 0 8:=by
 intro C Γ X G;have g:=G.toGood;show PS X (.Assign [.Name "_law_change_here" _] _ _) (cj Γ<|.a 9 _)
 with_reducible exact(eU G<|ie g<|bC (j_ g (aG g) dt)<|bC (ie g<|bC (jM g (aG g)<|aG g) cP)<|bC (j_ g dt<|j_ g (aG g) dt) cP)
theorem Xu:MY iC c8 i_ aa fV ja aa aa aa cG 0 9:=by
 intro C Γ X G;have g:=G.toGood;show PS X (.Assign [.Name "_law_fresh" _] _ _) (cj Γ<|.a 10 _)
 with_reducible exact(eU G<|ie g<|bC (jM g (aG g)<|aG g)<|bC (aG g)<|bC (aG g) cP)
theorem akr:MY iC c8 i_ aa fV ja aa aa aa cG 0 10:=aO
theorem aks:MY iC c8 i_ aa fV ja aa aa aa cG 0 11:=aO
theorem akt:MY iC c8 i_ aa fV ja aa aa aa cG 0 12:=aO
theorem W2:MY iC c8 i_ aa fV ja aa aa aa cG 0 13:=aO
theorem akv:MY iC c8 i_ aa fV ja aa aa aa cG 0 14:=by
 intro C Γ X G;have g:=G.toGood;show PS X (.Return (some _) _) (cj Γ<|.r _)
 with_reducible exact(uY<|L_ g (xx g (aG g)<|bC (aG g) cP)<|ie g<|bC (aG g)<|bC (j_ g (sE g<|bC (aG g) cP) dt) cP)
theorem akw:MX iC c8 i_ aa fV ja aa aa aa cG 0:=by
 intro C Γ X G;have e:gp c8=[bT c8 0,bT c8 1,bT c8 2,bT c8 3,bT c8 4,bT c8 5,bT c8 6,bT c8 7,bT c8 8,bT c8 9,bT c8 10,bT c8 11,bT c8 12,bT c8 13,bT c8 14]:=O;have a:cG=[bU cG 0,bU cG 1,bU cG 2,bU cG 3,bU cG 4,bU cG 5,bU cG 6,bU cG 7,bU cG 8,bU cG 9,bU cG 10,bU cG 11,bU cG 12,bU cG 13,bU cG 14]:=O;rw[e,a]
 with_reducible exact a_ (akh G) (a_ (aki G)<|a_ (akj G)<|a_ (Pf G)<|a_ (akl G)<|a_ (V6 G)<|a_ (akn G)<|a_ (ako G)<|a_ (akp G)<|a_ (Xu G)<|a_ (akr G)<|a_ (aks G)<|a_ (akt G)<|a_ (W2 G)<|a_ (akv G)<|jN)
noncomputable def ud:bi:=["_law_script","_law_text_here","_law_history","_law_rows","_law_k"]
noncomputable def jT:gu:=
 [.a 1 (.l 0 [(.l 1 [.v 0,(.c (.i 1))]),(.b .Mod (.l 1 [.v 0,(.c (.i 0))]) (.c (.i 25)))]),
 .a 2 (.m 0 [(.t .l [.v 1])]),
 .a 3 (.x tQ [(.c<|.s "named"),(.L [(.l 2 [.v 1])]),(.c<|.s "above"),(.L [.c .a]),(.c<|.s "latest"),(.L [.c .a]),(.c<|.s "here"),(.c<|.i 0)]),
 .j 4 .zZ [(.c<|.i 3),(.t .m [(.c<|.i 11),(.t .l [.v 0])])] [.i (.N<|.l 3 [.v 2,.v 3,(.i (.v 0)<|.v 4),.v 4]) [.r<|.c<|.b false] []],
 .r (.l 4 [.v 2,.v 3])]
noncomputable def vZ:bi:=["_law_text","_law_cell_at","_law_named","_law_deed","_law_visited"]
noncomputable def v8:bi:=["len","range","min"]
noncomputable def v9:bi:=["History"]
def kO:Fr:=br 54
theorem R7:MY ud kO vZ aa v8 aa v9 aa aa jT 0 0:=by
 intro C Γ X G;have g:=G.toGood;show PS X (.Assign [.Name "_law_text_here" _] _ _) (cj Γ<|.a 1 _)
 with_reducible exact(eU G<|ie g<|bC (ie g<|bC (aG g)<|bC dt cP)<|bC (j_ g (ie g<|bC (aG g)<|bC dt cP) dt) cP)
theorem aky:MY ud kO vZ aa v8 aa v9 aa aa jT 0 1:=by
 intro C Γ X G;have g:=G.toGood;show PS X (.Assign [.Name "_law_history" _] _ _) (cj Γ<|.a 2 _)
 with_reducible exact(eU G<|Ma g<|bC (sE g<|bC (aG g) cP) cP)
theorem akz:MY ud kO vZ aa v8 aa v9 aa aa jT 0 2:=by
 intro C Γ X G;have g:=G.toGood;show PS X (.Assign [.Name "_law_rows" _] _ _) (cj Γ<|.a 3 _)
 with_reducible exact(eU G<|GD<|vB nE (uX<|bC (ie g<|bC (aG g) cP) cP)<|vB nE (uX<|bC Es cP)<|vB nE (uX<|bC Es cP)<|vB nE dt GC)
theorem akA:MY ud kO vZ aa v8 aa v9 aa aa jT 0 3:=aO
theorem akB:MY ud kO vZ aa v8 aa v9 aa aa jT 0 4:=by
 intro C Γ X G;have g:=G.toGood;show PS X (.Return (some _) _) (cj Γ<|.r _)
 with_reducible exact(uY<|ie g<|bC (aG g)<|bC (aG g) cP)
theorem akC:MX ud kO vZ aa v8 aa v9 aa aa jT 0:=by
 intro C Γ X G;have e:gp kO=[bT kO 0,bT kO 1,bT kO 2,bT kO 3,bT kO 4]:=O;have a:jT=[bU jT 0,bU jT 1,bU jT 2,bU jT 3,bU jT 4]:=O;rw[e,a]
 with_reducible exact a_ (R7 G) (a_ (aky G)<|a_ (akz G)<|a_ (akA G)<|a_ (akB G)<|jN)
end
theorem aaL{r:gu}(h:ae Γ a u H λx H1=>ae Γ b u H1 λy W=>∃p q:Int,[x,y]=[.i p,.i q]/\(-(2 ^ 62)<=p/\p<2 ^ 62/\ -(2 ^ 62)<=q/\q<2 ^ 62)/\∃f:Nat->Nat->St->Hp->Prop,(∃m,f 0 m u W)/\∀j m u H,f j m u H->
  ((gH p (q - p).toNat).stop j H/\({D with nx:=ax Γ r D}:ET).nx u H)\/((gH p (q - p).toNat).go j H/\∃N:St->Hp->Prop,(∀d Z,N d Z->∃g,g<m/\f (j+1) g d Z)/\∀x Z,(gH p (q - p).toNat).gQ j H x Z->gG i x u Z λe W=>ax Γ body {({D with nx:=ax Γ r D}:ET) with nx:=N,c:=N,bk:=({D with nx:=ax Γ r D}:ET).nx} e W)):
  ax Γ (.j i .zZ [a,b] body::r) D u H:=h
section
variable{K:Frag}{C CN:DL}{Kp:pi}{H Z:Hp}{Q:VK}{E:XK}{hp wA ab la eg tx:DL}{M Ed as:db}{hr B j d:Nat}{Y U' V':ac}{HY:bi}{es:List bn}{n:Nat}{e:bn}{P':am}
theorem aoC:∀(x:am)(r:Nat),V0 (x++[r]) (x++[r,c])=([r],[r,c]):=by
 intro x;induction x with
 |nil=>intro r;exact vG r _
 |cons a x i=>
  intro r;cases x with
  |nil=>exact(ZR).trans (vG r _)
  |cons b x=>exact(ZR).trans (i r)
theorem rL(T:bD Y)(h:Y[d]?=some (some j)):dz Y j d=[j,d]:=by
 obtain⟨e,Z⟩:=yI T h;obtain⟨r,a,Z⟩:=yJ T (Xf (bz T h).1 (bz T h).2);unfold dz;rw[e,a];simp;rw[aoC];rfl
end
section
variable{K:Frag}{C CN:DL}{Kp:pi}{H Z:Hp}{Q:VK}{E:XK}{hp wA ab la eg tx:DL}{M Ed as:db}{hr B j d:Nat}{Y c f:ac}{HY:bi}{es:List bn}{n:Nat}
theorem jA(T:bD Y)(R:dS Y B c f)(g:B<Y.length)(l:d<Y.length):dS Y d (iB Y (dz Y B d) c) (rC Y (dz Y B d) f):=by
 obtain⟨Z,Z,Z,zq⟩:=XM (Hr T g l);obtain⟨Z,Z,Z,i,⟨r,m⟩,⟨q,a⟩,v,Z⟩:=WR zq;rw[m] at i a v⊢;obtain⟨o,j,n⟩:=dS.path T r B c f R g (λk h=>v k<|yl _ h) i;have b:=by
  have e:(B::r)[r.length]?=some d:=by
   rw[a];have:q.length=r.length:=by
    have:=IN List.length a;simp at this;lia
   rw[<-this];simp
  rw[e] at j;exact(WV j).symm
 subst b;exact n
theorem v_(T:bD Y)(h:Y[B]?=some (some j)):dz Y B j=[B,j]:=by
 rw[ahl T (Xf (bz T h).1 (bz T h).2) (bz T h).2,rL T h];rfl
end
theorem Uu(h:∀d∈s,d.canLay0=true/\d.depth<=n):PyData.canLayAll0 s=true/\PyData.depthAll s<=n:=by
 induction s with
 |nil=>exact⟨O,Ww _⟩
 |cons d s i=>
  obtain⟨a,b⟩:=i λx f=>h x (.tail _ f);obtain⟨c,e⟩:=h d (.head _);refine⟨?_,?_⟩;show(d.canLay0 && PyData.canLayAll0 s)=true;rw[a,c];rfl;show max d.depth (PyData.depthAll s)<=n;lia
section
variable{K:Frag}{H:Hp}{Q:VK}{a b:DL}{g N:ci}{f:List PyData}
theorem akE(j:H a=some (.l g))(i:H b=some (.l N))(x:IsL H f g)(h:IsL H f N)(o:∀d∈f,d.canLay0=true/\d.depth<=4)(q:Q (.b true) H):cp K .Eq (.r a) (.r b) H Q:=by
 obtain⟨c,d⟩:=Uu o;have s:SeqAt.shaped (.list f)=true:=by
  unfold SeqAt.shaped;have e:(PyData.list f).canLay0=true:=c;have k:(PyData.list f).depth<=64:=by show PyData.depthAll f+1<=64;lia
  rw[e,Z2 k];rfl
 refine o4 (.list f) (.list f) (oW a g O j x) (oW b N O i h) s s ?_;rw[SeqAt.eqv_refl _<|XV s];exact q
end
section
def Lr(H:Hp)(a:DL)(r:Rows):Prop:= ∃vs,H a=some (.l vs)/\bN H vs r
def jU(r:Rows):Str:=⟨(bF r).toArray⟩
theorem oA(r:Rows):(jU r).cps.toList=bF r:=by simp[jU]
theorem y3(r:Rows):(jU r).length=r.length:=by rw[<-iZ r,<-oA,Xz]
section
variable{H Z:Hp}{a:DL}{c:Rows}{f:db}{l:sB}{i:Nat}
theorem Lr.keep(h:Lr H a c)(k:∀o,H a=some o->Z a=some o)(t:bR H Z):Lr Z a c:=by
 obtain⟨xs,d,b⟩:=h;exact⟨xs,k _ d,b.mono t⟩
theorem Lr.same(h:Lr H a c)(s:ar H Z):Lr Z a c:=h.keep (λY e=>s _ _ e) (aX s)
theorem uf(h:Paired (Lr H) f l)(k:∀a∈f,∀o,H a=some o->Z a=some o)(t:bR H Z):Paired (Lr Z) f l:=by
 induction h with
 |nil=>exact .nil
 |cons h Y i=>exact .cons (h.keep (k _<|.head _) t) (i λa b=>k a (.tail _ b))
theorem Uv(h:Paired (Lr H) f l)(e:l[i]?=some c):∃a,f[i]?=some a/\Lr H a c:=by
 induction h generalizing i with
 |nil=>simp at e
 |cons h Y b=>
  cases i with
  |zero=>simp at e;subst e;exact⟨_,O,h⟩
  |succ i=>exact b (by simpa using e)
theorem akF(h:Paired (Lr H) f l)(g:Lr H a c):Paired (Lr H) (f.set i a) (l.set i c):=by
 induction h generalizing i with
 |nil=>exact .nil
 |cons h d b=>
  cases i with
  |zero=>exact .cons g d
  |succ i=>exact .cons h b
end
section
variable{K:Frag}{f:Type}
theorem pV{Q:ci->Hp->DL->Prop}{v:TE}{a:DL}(p:f->Go)(n:H a=some (.l xs))(C:Paired R xs s)(S:xs.length<=1000000)(c:∀(x:V)(r:f)(B:VK)(A:Hp->Prop),r∈s->R x r->(p r=true->∀y,R' y r->B y H)->(p r=false->A H)->jF K t x H λz=>k_ w (z.map some++b_ u fv) H λb e=>if b=true then v (z.map some++b_ u fv) e B else A e)(o:∀N b,Paired R' N (s.filter p)->H b=none->Q N H b):∃g:Nat->Nat->ci->Hp->Prop,(∃m,g 0 m [] H)/\∀i m N W,g i m N W->
   ((eZ K a).stop i W/\∀p,W p=none->Q N W p)\/
   ((eZ K a).go i W/\∀x j,(eZ K a).gQ i W x j->jF K t x j λz=>k_ w (z.map some++b_ u fv) j λb e=>
    if b=true then v (z.map some++b_ u fv) e λy M=>N.length<sizeLine/\∃d,d<m/\g (i+1) d (N++[y]) M else ∃d,d<m/\g (i+1) d N e):=by
 refine nT (λi m N W=>m=xs.length - i/\i<=xs.length/\Paired R' N ((s.take i).filter p)/\W=H) (qU _ O (Ww _) .nil O) ?_;rintro i m N W ⟨rfl,T,h,rfl⟩;by_cases F:i<xs.length;refine .inr ⟨pI xs (xs[i]) (ah.of n) aJ,?_⟩;rintro x j ⟨rfl,I⟩;obtain⟨r,U,L⟩:=tS C (I xs (ah.of n));have E:(s.take<|i+1).filter p=(s.take i).filter p++[r].filter p:=by rw[vE U,YM]
 have P:=KB h;have k:=jL p (s.take i);rw[Ye] at k;refine c x r _ _ (Wv U) L (λD y Z=>qH (cQ ap) (xs.length - (i+1)) ap ⟨O,F,?_,O⟩) λD=>rZ (xs.length - (i+1)) ap O F ?_ O;rw[E,iX D];exact h.snoc Z;rw[E,YT ap,List.filter_nil,Y3];exact h;have G:i=xs.length:=WT T (Zw F)
 subst G;rw[(KB C),XB<|VL _] at h;exact .inl ⟨nT xs (ah.of n) (VL _),λq J=>o _ q h J⟩
noncomputable def kD:We->PyData|.inl i=>.int i|.inr x=>.str x
def iD(n:Nm):PyData:=.tuple [kD n.1,.int (n.2:Nat)]
def mX(r:cE):PyData:=.tuple [iD<|nm r,.str ⟨#[r.2.2]⟩]
def ug:We->Prop|.inl _=>True|.inr x=>PyData.strOk x=true
def lV(r:cE):Prop:=ug r.1/\r.2.2<0x110000
variable{H:Hp}{Q:VK}{a b:DL}{F:Rows}
theorem akH(h:ug k):(kD k).canLay0=true/\(kD k).depth=0:=by
 cases k with
 |inl i=>exact⟨O,O⟩
 |inr x=>exact⟨h,O⟩
theorem Ic(h:ug n.1):(iD n).canLay0=true/\(iD n).depth=1:=by
 obtain⟨a,b⟩:=akH h;refine⟨?_,?_⟩;show((kD n.1).canLay0 && (true && true))=true;rw[a];rfl;show max (kD n.1).depth (max 0 0)+1=1;rw[b];rfl
theorem Ux{r:cE}(h:lV r):(mX r).canLay0=true/\(mX r).depth<=4:=by
 obtain⟨a,b⟩:=Ic (n:=nm r) h.1;refine⟨?_,?_⟩;show((iD<|nm r).canLay0 && (PyData.strOk ⟨#[r.2.2]⟩ && true))=true;have:PyData.strOk ⟨#[r.2.2]⟩=true:=by unfold PyData.strOk;simpa using h.2
 rw[a,this];rfl;show max (iD<|nm r).depth (max 0 0)+1<=4;rw[b];decide
theorem BZ(k:We):Is H (kD k) (kV k):=by cases k<;>rfl
def mY(H:Hp)(v:V)(n:Nm):Prop:= ∃b,v=.r b/\H b=some (.t [kV n.1,.i (n.2:Nat)])
theorem Ie(h:mY H v n):Is H (iD n) v:=by
 obtain⟨b,rfl,h⟩:=h;exact⟨b,_,O,h,kV n.1,_,O,BZ _,.i (n.2:Nat),[],O,O,O⟩
theorem akI{r:cE}(h:fP H v r):Is H (mX r) v:=by
 obtain⟨t,n,rfl,b,a⟩:=h;exact oW t _ O b ⟨.r n,_,O,Ie (nT n O a),_,[],O,O,O⟩
theorem Cm(h:bN H vs F):IsL H (F.map mX) vs:=by
 induction h with
 |nil=>rfl
 |cons h Y i=>exact⟨_,_,O,akI h,i⟩
theorem Uy(c:Lr H a F)(h:Lr H b F)(o:∀r∈F,lV r)(q:Q (.b true) H):cp K .Eq (.r a) (.r b) H Q:=by
 obtain⟨xs,i,c⟩:=c;obtain⟨N,g,h⟩:=h;refine akE i g (Cm c) (Cm h) (λd f=>?_) q;obtain⟨r,e,rfl⟩:=Yc.mp f;exact Ux<|o r e
theorem Uz(f:Lr H a F)(h:Lr H b F)(o:∀r∈F,lV r)(q:Q (.b false) H):cp K .NotEq (.r a) (.r b) H Q:=by
 obtain⟨xs,k,f⟩:=f;obtain⟨N,j,h⟩:=h;obtain⟨c,d⟩:=Uu λd i=>by
  obtain⟨r,g,rfl⟩:=Yc.mp i;exact Ux<|o r g
 have s:SeqAt.shaped (.list<|F.map mX)=true:=by
  unfold SeqAt.shaped;have e:(PyData.list<|F.map mX).canLay0=true:=c;have l:(PyData.list<|F.map mX).depth<=64:=by show PyData.depthAll (F.map mX)+1<=64;lia
  rw[e,Z2 l];rfl
 refine o4 (.list<|F.map mX) (.list<|F.map mX) ⟨a,xs,O,k,Cm f⟩ ⟨b,N,O,j,Cm h⟩ s s ?_;rw[SeqAt.eqv_refl _<|XV s];exact q
theorem akJ(a b:Nm):PyData.eqv (iD a) (iD b)=decide (a=b):=by
 obtain⟨s,i⟩:=a;obtain⟨t,j⟩:=b;have e:((i:Int)==(j:Int))=decide (i=j):=by lia
 cases s<;>cases t<;>simp[iD,kD,PyData.eqv,PyData.eqvAll,Bool.decide_and,e] <;>rfl
theorem akK(n:wT)(a:Nm):((n.map iD).any λe=>PyData.eqv e (iD a))=decide (a∈n):=by
 rw[List.any_map];induction n with
 |nil=>rfl
 |cons b n i=>
  rw[Yh,i];show(PyData.eqv (iD b) (iD a)||_)=_;rw[akJ];by_cases h:b=a;subst h;simp;have c:a≠b:=λz=>h z.symm;simp[h,c]
structure DN(H:Hp)(d:DL)(ns:wT)(D:io):Prop where
 h:H d=some (.T D)
 v:∀n:Nm,(cm D [n.1,.inl (n.2:Int)]).isSome=decide (n∈ns)
 l:D.length<=ns.length
theorem UA[DecidableEq κ](D:List (κ×V))(k:κ)(v:V):(Yx D k v).length<=D.length+1:=by
 unfold Yx;split<;>simp
theorem UB{D:io}{s:wT}(n:Nm)(h:∀n:Nm,(cm D [n.1,.inl (n.2:Int)]).isSome=decide (n∈s))(m:Nm):(cm (Yx D [n.1,.inl (n.2:Int)] v) [m.1,.inl (m.2:Int)]).isSome=decide (m∈s++[n]):=by
 rw[aoL];have e:([m.1,(.inl (m.2:Int):We)]=[n.1,.inl (n.2:Int)])↔m=n:=by
  obtain⟨a,i⟩:=m;obtain⟨b,j⟩:=n;simp;lia
 by_cases z:m=n;simp[z];rw[Ix<|λy=>z<|e.mp y,h m];simp[z]
theorem Co{d:DL}{D:io}(h:DN H d s D)(a:H v=some (.t [kV n.1,.i (n.2:Nat)])):∃o,fE H d (.r v) o/\o.isSome=decide (n∈s):=⟨_,fE.t (k:=[n.1,.inl (n.2:Int)]) h.h a,h.v n⟩
theorem uh{d:DL}{D:io}(h:DN H d n D)(s:ar H Z):DN Z d n D:=⟨s _ _ h.h,h.v,h.l⟩
theorem akL(h:Paired (fun(y:V)(r:cE)=>y=.s ⟨#[r.2.2]⟩) N F):N=((bF F).map λc=>(⟨#[c]⟩:Str)).map V.s:=by
 induction h with
 |nil=>rfl
 |cons h Y i=>rw[h,i];rfl
inductive ui(vs:ci)(H:Hp)(Q:VK)(E:XK):Prop|i(a:DL)(F:Rows)(_:vs=[.r a])(_:Lr H a F)(_:F.length<=100000)(_:∀Z,ar H Z->Q (.s<|jU F) Z)
theorem Xs:bS (ui) (λE=>bI K E) Uc Ub:=by
 intro vs H Q E h;obtain⟨a,F,rfl,⟨xs,g,f⟩,p,q⟩:=h;have l:=KB f;refine di<|iy<|aC ⟨O,⟨_,O,a,O,⟨_,ah.of g⟩,pV (R':=λy r=>y=.s ⟨#[r.2.2]⟩) (λY=>true) g f ap ?_ ?_⟩⟩;rintro x r o m Y ⟨t,n,rfl,i,u⟩ y n;exact oZ t _ O (aB.of i) O (nT _ O (y O _ O));intro N b d j;have k:=by
  have:(F.filter λY=>true)=F:=Ws.mpr λY Y=>O;rw[this] at d;exact akL d
 refine nW ((bF F).map λc=>( ⟨#[c]⟩:Str)) ?_ (V2 (by rw[aiD,iZ];exact wO p (XA _ _))) ?_;rw[<-k];exact ah.of aj;have e:Txt.join "" ((bF F).map λc=>(⟨#[c]⟩:Str))=jU F:=SA (bF F);rw[e];exact q _ (Xq j)
def bG(n:wT)(r:cE):Go:=decide (nm r∈n)
theorem Ig{d:DL}{r:cE}{a:wT}{D:io}(l:u[i]?=some (some<|.r t))(k:u[j]?=some (some<|.r d))(h:H t=some (.t [.r n,.s ⟨#[r.2.2]⟩]))(b:H n=some (.t [kV r.1,.i (r.2.1:Nat)]))(f:DN H d a D)(q:QT (bG a r) H):aR Γ (.I (.i (.v i)<|.c<|.i 0)<|.v j) u H QT:=by
 obtain⟨o,g,e⟩:=Co (n:=nm r) f b;refine Hy<|bh<|af l<|aC<|kq h O<|af k ⟨d,o,O,g,_,O,?_⟩;rw[e];exact q
inductive Cp(vs:ci)(H:Hp)(Q:VK)(E:XK):Prop|i(a b d:DL)(l r:Rows)(n:wT)(D:io)(_:vs=[.r a,.r b,.r d])(_:Lr H a l)(_:Lr H b r)(_:DN H d n D)(_:l.length<=100000)(_:r.length<=100000)(_:l.filter (bG n)=r.filter (bG n))(_:(∀x∈l,lV x))(_:∀Z,ar H Z->Q (.b true) Z)
theorem akN:bS (Cp) (λE=>bI K E) Ug Ue:=by
 intro vs H Q E h;obtain⟨a,b,d,l,r,i,D,rfl,⟨xs,F,j⟩,⟨N,T,A⟩,C,ll,Z,e,J,q⟩:=h;have Y:=KB j;have X:=KB A;refine di<|xM (⟨_,O,a,O,⟨_,ah.of F⟩,pV (R':=fP H) (bG i) F j ap ?_ ?_⟩);rintro x k M L _ ⟨t,n,rfl,f,c⟩ y z;refine Ig O O f c C ?_;cases w:bG i k with
 |true=>exact iT (nT _ O (y w _ (oW t n O f c))) O
 |false=>exact iF (z w) O
 intro u p S V;have s:=Xq (o:=.l u) V;have B:upd H p (.l u) p=some (.l u):=aj;have U:=uh C s;have P:=s _ _ T;have I:=A.mono (aX s);have G:=bN.mono (aX s) S;generalize upd H p (.l u)=H1 at s B U P I G⊢;refine qB _ O b O (o3 _ (ah.of P)) (pV (R':=fP H1) (bG i) P I ap ?_ ?_);rintro x k M L _ ⟨t,n,rfl,f,c⟩ y z;refine Ig O O f c U ?_;cases w:bG i k with
 |true=>exact iT (nT _ O (y w _ (oW t n O f c))) O
 |false=>exact iF (z w) O
 intro v W R m;have g:=Xq (o:=.l v) m;refine Uy (nT u (g _ _ B) (bN.mono (aX g) G)) (nT v aj ?_) (λx j=>J x (ZK.mp j).1)<|q _<|s.trans g;rw[e];exact bN.mono (aX g) R
variable{E:XK}
variable{S T:Nm->Prop}{m:im}{l r:Rows}
theorem akP:∀{n:Nat}{l r:Rows},Wk S T (rK n++m) l r->∃A d c,l=A++d/\r=A++c/\A.length=n/\(∀a∈A,S (nm a)/\T (nm a))/\Wk S T m d c:=by
 intro n;induction n with
 |zero=>exact λh=>pG [] _ _ O O O nofun h
 |succ n i=>
  rintro l r ⟨a,d,c,rfl,rfl,s,t,h⟩;obtain⟨A,l2,f,rfl,rfl,e,g,h⟩:=i h;exact pG (a::A) l2 f O O (by rw[d_,e]) (λb j=>(xW.mp j).elim (λz=>z ▸ ⟨s,t⟩)<|g b) h
theorem akQ:∀{s:am}{l r:Rows},Wk S T (s.map .P++m) l r->∃A d,r=A++d/\bF A=s/\(∀a∈A,¬S (nm a)/\T (nm a))/\Wk S T m l d:=by
 intro s;induction s with
 |nil=>exact λh=>oZ [] _ O O nofun h
 |cons c s i=>
  rintro l r ⟨a,d,rfl,e,s,t,h⟩;obtain⟨A,f,rfl,k,g,h⟩:=i h;exact oZ (a::A) f O (by rw[<-k,<-e];rfl) (λb j=>(xW.mp j).elim (λz=>z ▸ ⟨s,t⟩)<|g b) h
theorem akR:∀{s:am}{l r:Rows},Wk S T (s.map .C++m) l r->∃A d,l=A++d/\bF A=s/\(∀a∈A,S (nm a)/\ ¬T (nm a))/\Wk S T m d r:=by
 intro s;induction s with
 |nil=>exact λh=>oZ [] _ O O nofun h
 |cons c s i=>
  rintro l r ⟨a,d,rfl,e,s,t,h⟩;obtain⟨A,l2,rfl,j,g,h⟩:=i h;exact oZ (a::A) l2 O (by rw[<-j,<-e];rfl) (λb f=>(xW.mp f).elim (λz=>z ▸ ⟨s,t⟩)<|g b) h
theorem UD{k:Nat}{o m j E C:v0}{t:St}(S:∀d v,(s::o::m::j::d::v::x::t)[i]?=some (some<|.r a))(Q:∀d v,(s::o::m::j::d::v::x::t)[k]?=some (some<|.r p))(h:Lr H a F)(P:H p=some (.T []))(X:F.length<=100000)(q:∀d v f Z,aE p H Z->DN Z p (F.map nm) f->ax Γ R D (s::o::m::j::d::v::x::t) Z):
  ax Γ (.l [4,5] .l [.v i] [.t (.v k) (.v 4)<|.c<|.b true]::R) D (s::o::m::j::E::C::x::t) H:=by
 obtain⟨vs,I,G⟩:=h;have B:a≠p:=λz=>by lia
 refine GV<|af (S _ _) ⟨a,O,⟨_,ah.of I⟩,kT (λi u W=>GK λd v f=>tD (u=s::o::m::j::d::v::x::t) (aE p H W) (DN W p ((F.take i).map nm) f)) ⟨E,C,[],O,λY Y e Y=>e,⟨P,λn=>O,VL _⟩⟩ (λi u W _ ⟨_,_,_,_,b,_⟩=>ah.of (b _ _ I B)) ?_ ?_⟩;rintro i y u W M ⟨d,v,f,rfl,A,g⟩;obtain⟨r,w,L,n,rfl,K,J⟩:=G.get M;have U:∀{z:DL}{N:ci},H z=some (.t N)->z≠p:=λe z=>by lia
 have V:=g.l;rw[XN,Ye] at V;refine pX L _ O (.inl<|aB.of (A _ _ K (U K))) O _ _ O _ _ O O (RM<|aC<|af (Q _ _)<|af O ⟨p,_,O,l9.t (k:=[r.1,.inl (r.2.1:Int)]) g.h (A _ _ J (U J))<|cQ ap,_,_,_,O,A.trans aE.upd, ⟨aj,λn=>?_,?_⟩⟩);rw[vE w,Z3];exact UB (nm r) g.v n;have:=UA f [r.1,.inl (r.2.1:Int)] (.b true);rw[(vE w),Z3,W0,XN,Ye];show _<=_+1;exact wO this (h_ V _);rintro u W ⟨d,v,f,rfl,A,g⟩;rw[(KB G),Xg] at g;exact q d v f W A g
end
section
variable{K:Frag}{H:Hp}{Q:VK}{E:XK}{a b:DL}{rs:Rows}
abbrev uj(K:Frag)(E:XK):bu:=aH K [("_law_signs",ui)] [] (E:=E)
noncomputable def y4:gu:=[.a 12 (.M (.p .Eq (.v 10) (.c (.s "keep"))) (.v 11) (.t .l [.v 11])),
  .a 13 (.s (.v 0) (some<|.v 9)<|some<|.b .Add (.v 9)<|.v 12),
  .i (.p .Eq (.v 10) (.c (.s "put"))) [.a 13 (.s (.v 7) none (some (.v 12))),
   .a 7 (.s (.v 7) (some (.v 12)) none)] [.a 9 (.b .Add (.v 9) (.v 12))],
  .i (.d [(.p .NotEq (.v 10)<|.c<|.s "keep"),(.o [(.p .NotEq (.t .l [.v 13])<|.v 12),(.p .NotEq (.l 0 [.v 13])<|.v 11)])]) [.r<|.c .a] [],
  .i (.d [(.p .NotEq (.v 10)<|.c<|.s "put"),(.p .NotEq (.C none [("_law_names",3),("_law_word",10)] .l [.v 13] (some<|.p .NotEq (.I (.i (.v 0)<|.c<|.i 0)<|.v 1)<|.p .Eq (.v 2)<|.c<|.s "keep")<|.v 0)<|.L [])]) [.r<|.c .a] [],
  .i (.p .NotEq (.v 10) (.c (.s "cut"))) [.a 8 (.b .Add (.v 8) (.v 13))] []]
theorem akT(h:ae Γ e u H λx H1=>ae Γ hi u H1 λj c=>∃a:Int,j=.i a/\sA Γ.K x none (some a) c Q):ae Γ (.s e none<|some hi) u H Q:=h
theorem UG(c:H a=some (.l []))(h:H b=some (.l []))(q:Q (.b false) H):cp K .NotEq (.r a) (.r b) H Q:=⟨.list [],.list [],⟨a,[],O,c,O⟩,⟨b,[],O,h,O⟩,O,O,q⟩
theorem akU(h:ae Γ ea u H λy H1=>ae Γ e u H1 λx W=>∃d o,x=.r d/\fE W d y o/\Q (.b o.isSome) W):ae Γ (.I ea e) u H Q:=h
theorem akV{y:Go}(q:Q (.b<|x !=y) H):cp K .NotEq (.b x) (.b y) H Q:=by
 have e:(x !=y)=(true ^^ decide (V.b x=V.b y)):=by lia
 rw[e] at q;exact q
theorem akW{M K E B u T:v0}{w:Str}{j:wT}(X:Lr H s A)(hl:A.length<=100000)(W:DN H b j DD)(h:w≠"put"->∀r∈A,bG j r=(w=="keep"))(q:∀Z,ar H Z->ax Γ R D [M,K,J,some<|.r b,G,F,E,B,u,m,some<|.s w,T,U,some<|.r s] Z):
  ax Γ (.i (.d [(.p .NotEq (.v 10)<|.c<|.s "put"),(.p .NotEq (.C none [("_law_names",3),("_law_word",10)] .l [.v 13] (some<|.p .NotEq (.I (.i (.v 0)<|.c<|.i 0)<|.v 1)<|.p .Eq (.v 2)<|.c<|.s "keep")<|.v 0)<|.L [])]) [.r<|.c .a] []::R) D [M,K,J,some<|.r b,G,F,E,B,u,m,some<|.s w,T,U,some<|.r s] H:=by
 obtain⟨vs,S,P⟩:=X;have lv:=KB P;refine cx<|xQ<|bf<|af O<|aC<|tF ⟨_,O,?_⟩;by_cases z:w="put";exact iF (iF (d9<|q H<|ar.refl _) O) ap;refine iT ?_ ap;refine bf (qB _ O s O (o3 _ (ah.of S)) (pV (R':=fP H) (λ_=>false) S P ap ?_ ?_));rintro x f k1 k2 V ⟨t,n,rfl,h1,Y⟩ y k;obtain⟨o,g,e⟩:=Co (n:=nm f) W Y;refine bf (akU<|bh<|af O<|aC<|kq h1 O<|af O ⟨b,o,O,g,xM<|af O<|aC<|lL<|akV ⟨_,O,iF (k O) ?_⟩⟩);have e2:bG j f=o.isSome:=e.symm;rw[<-e2,(h z f V)];simp;intro us p Q fp;have e:(A.filter λ_=>false)=[]:=by simp
 rw[e] at Q;cases Q;refine d5<|aI ⟨Ww _,λp2 f2=>?_⟩;have N:=Xq (o:=.l []) f2;exact UG (N _ _ aj) aj (nT _ O (iF (d9<|q _<|(Xq fp).trans N) O))
end
abbrev nw(l:Rows)(r:cE):Go:= !decide (nm r∈l.map nm)
section
variable{K:Frag}{H:Hp}{Q:VK}{E:XK}{a b:DL}{m:Rows}
structure Fw(Hs H0 H:Hp)(l r:Rows)(xs:im)(fr fo:DL)(l1:Rows):Prop where
 e:∃l2 r1 r2,l=l1++l2/\r=r1++r2/\Lr H fr (r2.filter<|nw l)/\Lr H fo r1/\Wk (· ∈l.map nm) (· ∈r.map nm) xs l2 r2
 s:ar H0 H
 f:Hs fo=none
theorem akX{r l1:Rows}{xs:im}{d:DL}(ha:Lr H0 a l)(hn:DN H0 X ns DD)(sf:∀x,x∈ns↔x∈r.map nm)(hl:l.length<=10000)(hr:r.length<=10000)(hp:aZ p)(sS:ar Hs H0)(F:Fw Hs H0 H l r (ba p++xs) fr G l1)(q:∀fr' fo' lI Z jb jc,Fw Hs H0 Z l r xs fr' fo' lI->D.nx [some<|.r a,some<|.r c,some<|.r d,some<|.r X,u4,u5,x6,some<|.r fr',some<|.r fo',some<|.i (lI.length:Nat),some<|.s p.word,some p.val,jb,jc] Z):
  ax (uj K E) y4 D [some<|.r a,some<|.r c,some<|.r d,some<|.r X,u4,u5,x6,some<|.r fr,some<|.r G,some<|.i (l1.length:Nat),some<|.s p.word,some p.val,jb,jc] H:=by
 obtain⟨⟨l2,P,r2,el,er,nB,wa,w⟩,s0,ff⟩:=F;have fZ:=ha.same s0;have dN:=uh hn s0;obtain⟨vs,y6,oB⟩:=fZ;have lv:=KB oB;have ll:l1.length+l2.length=l.length:=by rw[el,W0]
 have lr:P.length+r2.length=r.length:=by rw[er,W0]
 have Y:∀{fr' fo':DL}{n:Nat}{L2 R1 R2 L1 A:Rows}{m:DL}{Z:Hp},(C:Lr Z m A)->ar H Z->l=L1++L2->r=R1++R2->Lr Z fr' (R2.filter<|nw l)->Lr Z G P->A.length<=10000->(p.word≠"keep"->p.val=.s (jU A)/\A.length=n)->(p.word≠"put"->∀r∈A,bG ns r=(p.word=="keep"))->(p.word≠"cut"->R1=P++A)->(p.word="cut"->R1=P)->Wk (· ∈l.map nm) (· ∈r.map nm) xs L2 R2->
   ax (uj K E) (y4.drop 3) D [some<|.r a,some<|.r c,some<|.r d,some<|.r X,u4,u5,x6,some<|.r fr',some<|.r G,some<|.i (L1.length:Nat),some<|.s p.word,some p.val,some<|.i n,some<|.r m] Z:=by
  intro fr' fo' n L2 R1 R2 L1 A m Z C j J I h1 h2 B c1 c2 c3 c4 T;have f':∀W,ar Z W->ax (uj K E) [.i (.p .NotEq (.v 10)<|.c<|.s "cut") [.a 8<|.b .Add (.v 8)<|.v 13] []] D [some<|.r a,some<|.r c,some<|.r d,some<|.r X,u4,u5,x6,some<|.r fr',some<|.r G,some<|.i (L1.length:Nat),some<|.s p.word,some p.val,some<|.i n,some<|.r m] W:=λW g=>by
   have d':=C.same g;have f_:=h2.same g;refine cx<|bf<|af O<|aC<|tF ⟨_,O,?_⟩;by_cases z:p.word="cut";refine iF (d9 ?_) (by rw[z];decide);rw[c4 z] at I;exact q _ _ L1 _ _ _ ⟨⟨L2,P,R2,J,I,h1.same g,f_,T⟩,s0.trans<|j.trans g,ff⟩;refine iT ?_ (by simpa using z);obtain⟨N,hf,hy⟩:=f_;obtain⟨zs,hs,hz⟩:=d';have ly:=KB hy;have lz:=KB hz;refine aN<|c7<|af O<|af O<|.inl ⟨G,m,N,zs,O,O,hf,hs,cI ap,λp5 f5=>?_⟩;have y:=Xq (o:=.l (N++zs)) f5;rw[c3 z] at I;exact q _ p5 L1 _ _ _ ⟨⟨L2,P++A,R2,J,I,h1.same<|g.trans y,⟨_,aj,Paired.app (bN.mono (aX y) hy)<|bN.mono (aX y) hz⟩,T⟩,s0.trans<|j.trans<|g.trans y,(sS.trans<|s0.trans<|j.trans g).free f5⟩
  have a':∀W,ar Z W->ax (uj K E) (y4.drop 4) D [some<|.r a,some<|.r c,some<|.r d,some<|.r X,u4,u5,x6,some<|.r fr',some<|.r G,some<|.i (L1.length:Nat),some<|.s p.word,some p.val,some<|.i n,some<|.r m] W:=λW g=>
   akW (C.same g) (wO B (XA _ _)) (uh dN<|j.trans g) c2 λH3 y=>f' H3 (g.trans y)
  refine cx<|xQ<|bf<|af O<|aC<|tF ⟨_,O,?_⟩;by_cases z:p.word="keep";exact iF (iF (d9<|a' _<|ar.refl _) O) (by rw[z];decide);refine iT ?_ (by simpa using z);obtain⟨ev,en⟩:=c1 z;obtain⟨zs,hs,hz⟩:=id C;have lz:=KB hz;refine xO<|bf<|gw<|af O<|.inl ⟨_,ah.of hs,af O<|tG ⟨_,O,iF ?_ ?_⟩⟩;refine bf (bE ui O<|av<|af O<|aI ⟨m,A,O,C,(wO B (XA _ _)),λW g=>af O ?_⟩);have m2:=a' _ g;rw[ev] at m2⊢;exact cnS ⟨_,O,iF (d9 m2) O⟩;rw[lz,en];simp
 have b':∀{A L:Rows}{n:Nat},l2=A++L->A.length=n->bN H (c5 vs (some (l1.length:Nat))<|some<|(l1.length:Nat)+(n:Nat)) A:=λ{A L n} e en=>by
  have:=(oB.drop l1.length).take n;rw[el,e,Xh,<-en,XT] at this;rw[show((l1.length:Nat):Int)+((n:Nat):Int)=((l1.length+n:Nat):Int) by lia,af7,show l1.length+n - l1.length=n by lia,<-en];exact this
 have nS:∀{x:cE}{A R:Rows},nm x∈l.map nm->nw l x=false:=λh=>by simp only[nw,h,decide_true,Bool.not_true]
 cases p with
 |k n=>
  obtain⟨A,L,R,J,I,U,gA,T⟩:=akP (n:=n.toNat) w;have qE:n=((n.toNat:Nat):Int):=by have:(1:Int)<=n:=hp;lia
  have B:A.length<=10000:=by have:=IN List.length J;rw[W0] at this;lia
  refine aN<|BF<|bf<|af O<|aC<|lL ⟨_,O,iT (af O ?_) O⟩;refine aN<|GW<|af O<|af O ⟨_,O,c7<|af O<|af O ⟨_,O,.inl ⟨vs,ah.of y6,λm fs=>?_⟩⟩⟩;have j:=Xq (o:=.l (c5 vs (some (l1.length:Nat))<|some<|(l1.length:Nat)+n)) fs;have C:Lr (upd H m<|.l<|c5 vs (some (l1.length:Nat))<|some<|(l1.length:Nat)+n) m A:=⟨_,aj,bN.mono (aX j) (by rw[qE];exact b' J U)⟩;refine cx<|bf<|af O<|aC<|lL ⟨_,O,iF ?_ O⟩;refine aN<|c7<|af O<|af O ?_;show ax (uj K E) (y4.drop 3) D [some<|.r a,some<|.r c,some<|.r d,some<|.r X,u4,u5,x6,some<|.r fr,some<|.r G,some<|.i<|(l1.length:Nat)+n,some<|.s "keep",some<|.i n,some<|.i n,some<|.r m] _;have k:=Y (fr':=fr) (fo':=G) (n:=n.toNat) (L1:=l1++A) (L2:=L) (R1:=P++A) (R2:=R) C j (by rw[el,J,VD]) (by rw[er,I,VD]) ?_ (wa.same j) B (λz=>(z O).elim) (λV x hx=>?_) (λV=>O) (λz=>by cases z) T;rw[W0,U,show((l1.length+n.toNat:Nat):Int)=(l1.length:Nat)+n by lia,<-qE] at k;exact k;have:=nB.same j;rw[I,YM,Wj.mpr λx hx=>by rw[nS (A:=A) (R:=R) (gA x hx).1];decide,X3] at this;exact this;show bG ns x=true;exact Z2<|(sf _).mpr (gA x hx).2
 |p t=>
  obtain⟨A,R,I,U,gA,T⟩:=akQ (s:=t.cps.toList) w;have lt:=Xz t;have B:A.length=t.length:=by rw[<-iZ A,U,lt]
  have Ih:A.length<=10000:=by have:=IN List.length I;rw[W0] at this;lia
  have et:jU A=t:=iO (by rw[oA];exact U);refine aN<|BF<|bf<|af O<|aC<|lL ⟨_,O,iF (gw<|af O ?_) O⟩;refine⟨cI ap,?_⟩;refine aN<|GW<|af O<|af O ⟨_,O,c7<|af O<|af O ⟨_,O,.inl ⟨vs,ah.of y6,λm fs=>?_⟩⟩⟩;have j:=Xq (o:=.l (c5 vs (some (l1.length:Nat))<|some<|(l1.length:Nat)+(t.length:Nat))) fs;have Ii:=nB.same j;have UJ:=wa.same j;generalize upd H m (.l<|c5 vs (some (l1.length:Nat))<|some<|(l1.length:Nat)+(t.length:Nat))=H1 at j Ii UJ⊢;refine cx<|bf<|af O<|aC<|lL ⟨_,O,iT ?_ O⟩;have ef:r2.filter (nw l)=A++R.filter (nw l):=by
   rw[I,YM,Ws.mpr λx hx=>?_];simp only[nw,(gA x hx).1,decide_false,Bool.not_false]
  rw[ef] at Ii;obtain⟨Q,hf,kP⟩:=Ii;refine aN<|akT<|af O<|af O ⟨_,O,.inl ⟨Q,ah.of hf,λc' f2=>?_⟩⟩;rw[Ng];have g:=Xq (o:=.l (Q.take t.length)) f2;refine aN<|Qy<|af O<|af O ⟨_,O,.inl ⟨Q,ah.of<|g _ _ hf,λe' f3=>?_⟩⟩;rw[GZ];have y:=Xq (o:=.l (Q.drop t.length)) f3;have C:Lr _ c' A:=⟨_,y _ _ aj,by
   have:=bN.mono (aX<|g.trans y) (kP.take t.length);rw[<-B,XT,B] at this;exact this⟩
  refine Y (fr':=e') (fo':=G) (n:=t.length) (L1:=l1) (L2:=l2) (R1:=P++A) (R2:=R) C (j.trans<|g.trans y) el (by rw[er,I,VD]) ⟨_,aj,?_⟩ (UJ.same<|g.trans y) Ih (λV=>⟨by rw[et];rfl,B⟩) (λz=>(z O).elim) (λV=>O) (λz=>by cases z) T;have:=bN.mono (aX<|g.trans y) (kP.drop t.length);rw[<-B,Xh,B] at this;exact this
 |c t=>
  obtain⟨A,L,J,U,gA,T⟩:=akR (s:=t.cps.toList) w;have lt:=Xz t;have B:A.length=t.length:=by rw[<-iZ A,U,lt]
  have Ih:A.length<=10000:=by have:=IN List.length J;rw[W0] at this;lia
  have et:jU A=t:=iO (by rw[oA];exact U);refine aN<|BF<|bf<|af O<|aC<|lL ⟨_,O,iF (gw<|af O ?_) O⟩;refine⟨cI ap,?_⟩;refine aN<|GW<|af O<|af O ⟨_,O,c7<|af O<|af O ⟨_,O,.inl ⟨vs,ah.of y6,λm fs=>?_⟩⟩⟩;have j:=Xq (o:=.l (c5 vs (some (l1.length:Nat))<|some<|(l1.length:Nat)+(t.length:Nat))) fs;have C:Lr (upd H m<|.l<|c5 vs (some (l1.length:Nat))<|some<|(l1.length:Nat)+(t.length:Nat)) m A:=⟨_,aj,bN.mono (aX j)<|b' J B⟩;refine cx<|bf<|af O<|aC<|lL ⟨_,O,iF ?_ O⟩;refine aN<|c7<|af O<|af O ?_;have k:=Y (fr':=fr) (fo':=G) (n:=t.length) (L1:=l1++A) (L2:=L) (R1:=P) (R2:=r2) C j (by rw[el,J,VD]) er (nB.same j) (wa.same j) Ih (λV=>⟨by rw[et];rfl,B⟩) (λV x hx=>?_) (λz=>(z O).elim) (λV=>O) T;rw[W0,B,Wl] at k;exact k;show bG ns x=false;exact VH λz=>(gA x hx).2 ((sf _).mp z)
theorem UK(h:∀p,H p=none->Q (.r p) (upd H p<|.T [])):ae Γ .xf u H Q:=h
theorem UL{Q:wl}{a:RE}(h:ae Γ a u H λy H1=>ae Γ e u H1 λx W=>∃d o,x=.r d/\fE W d y o/\∃k,V.b (!o.isSome)=.b k/\Q k W):aR Γ (.uP a e) u H Q:=h
inductive rM(vs:ci)(H:Hp)(Q:VK)(E:XK):Prop|i(a c d:DL)(l r u:Rows)(ps:bn)(xs:ci)(_:vs=[.r a,.r c,.r d])(_:Lr H a l)(_:Lr H d u)(_:H c=some (.l xs))(_:aF H xs ps)(_:(∀p∈ps,aZ p))(_:Wk (· ∈l.map nm) (· ∈r.map nm) (ak ps) l r)(_:(∀x,x∈u.map nm↔x∈r.map nm))(_:u.filter (nw l)=r.filter (nw l))(_:l.length<=10000)(_:r.length<=10000)(_:u.length<=10000)(_:∀b Z,ar H Z->H b=none->Lr Z b r->Q (.r b) Z)
theorem ak1:bS (rM) (λE=>uj K E) eO kN:=by
 intro vs H Q E h;obtain⟨a,c,d,l,r,du,ps,xs,rfl,V,hd,hc,cw,ok,w,hn,hf,ll,lr,ld,q⟩:=h;have lx:=KB cw;refine cx<|qL<|aei<|af O ?_;show(match H c with|some (.l _)=>_|some (.c _<|.l _)=>_|some (.t _)=>_|some (.d _)=>_|some (.T _)=>_|_=>_);rw[hc];refine iF (d9 ?_) O;refine aN<|UK λp1 f1=>?_;have s1:=Xq (o:=.T []) f1;refine UD (F:=du) (λ_ _=>O) (λ_ _=>O) (hd.same s1) aj (wO ld (XA _ _)) λu0 v D1 H1 b1 UM=>?_;have UN:ar H H1:=λy o e=>b1 y o (s1 y o e) λz=>by rw[z,f1] at e;cases e
 refine aN<|UK λJ A=>?_;have s2:=Xq (o:=.T []) A;have e':p1≠J:=λz=>by rw[<-z,UM.h] at A;cases A
 refine UD (F:=l) (λ_ _=>O) (λ_ _=>O) (V.same<|UN.trans s2) aj (wO ll (XA _ _)) λu0 v D2 W b2 c'=>?_;have iR:ar H1 W:=λy o e=>b2 y o (s2 y o e) λz=>by rw[z,A] at e;cases e
 have dG:=UN.trans iR;have d':=uh UM iR;obtain⟨ds,UO,UP⟩:=hd.same dG;have f':=KB UP;refine GY ?_;refine qB _ O d O (o3 _ (ah.of UO)) (pV (R:=fP W) (R':=fP W) (nw l) UO UP ap ?_ ?_);rintro x I k1 k2 _ ⟨t,n,rfl,p,m⟩ y z;obtain⟨o,g,e⟩:=Co (n:=nm I) c' m;refine UL<|bh<|af O<|aC<|kq p O<|af O ⟨J,o,O,g,_,O,?_⟩;have e2:(!o.isSome)=nw l I:=by rw[e]
 rw[e2];cases w:nw l I with
 |true=>exact iT (nT _ O (y w _ (oW t n O p m))) O
 |false=>exact iF (z w) O
 intro j b hu b';have s3:=Xq (o:=.l j) b';refine aN<|d5<|aI ⟨Ww _,λf UQ=>?_⟩;have G:=Xq (o:=.l []) UQ;refine aN<|aC ?_;have S:=s3.trans G;have nB:Lr (upd (upd W b<|.l j) f<|.l []) b (r.filter<|nw l):=nT j (G _ _ aj) (by rw[<-hf];exact bN.mono (aX S) hu);have wa:Lr (upd (upd W b<|.l j) f<|.l []) f []:=nT [] aj .nil;have Y:H f=none:=(dG.trans s3).free UQ;generalize upd (upd W b<|.l j) f (.l [])=H4 at G S nB wa⊢;have k:=dG.trans S;have pS:=k _ _ hc;have U:=cw.mono (aX k);refine GV (af O (nW c O (o3 _ (ah.of pS)) (kT (K:=K) (a:=c) (xs:=xs) (λi u B=>∃b f l1 C N M L,u=[some (.r a),some (.r c),some (.r d),some (.r p1),u0,v,some (.r J),some (.r b),some (.r f),some (.i (l1.length:Nat)),C,N,M,L]/\Fw H H4 B l r (ak (ps.drop i)) b f l1)
  (o3 b ⟨f,[],none,none,none,none,O, ⟨pG l [] r O O nB wa w,ar.refl _,Y⟩⟩) (λi u B _ ⟨_,_,_,_,_,_,_,_,F⟩=>ah.of (F.s _ _ pS)) ?_ ?_)))
 rintro i y u B hy zq;obtain⟨b,f,l1,C,N,M,L,rfl,F⟩:=X9 zq;obtain⟨pt,P,jq⟩:=U.get hy;obtain⟨pa,rfl,km⟩:=jq.mono (aX F.s);have dq:i<ps.length:=(Wq.mp P).1;have ed:ps.drop i=pt::ps.drop (i+1):=by
  rw[cV dq];congr 1;exact WV<|(Xd dq).symm.trans P
 rw[ed,cJ] at F;refine pX pa _ O (.inl<|aB.of km) O _ _ O _ _ O O ?_;exact akX (V.same k) (uh d' S) hn ll lr (ok pt<|Wv P) k F λX a' lI Z w1 w2 F'=>o3 X ⟨a',lI,_,_,_,_,O,F'⟩;rintro u B ⟨b,f,l1,C,N,M,L,rfl,⟨l2,r1,r2,el,er,p,m,w'⟩,s5,ff⟩;rw[lx,vn] at w';obtain⟨rfl,rfl⟩:=w';rw[Y3] at el er;subst el er;obtain⟨fs,sI,kP⟩:=p;cases kP;obtain⟨vs,y6,oB⟩:=V.same (k.trans s5);have lv:=KB oB;refine cx<|xO<|bf<|af O<|gw<|af O<|.inl ⟨_,ah.of y6,tG ⟨_,O,iF ?_ ?_⟩⟩;refine bf (af O<|d5<|aI ⟨Ww _,λp5 f5=>?_⟩);have D:=Xq (o:=.l []) f5;exact UG (D _ _ sI) aj (nT _ O (iF (d9<|di<|af O<|q f _ (k.trans<|s5.trans D) ff<|m.same D) O));rw[lv];simp
end
noncomputable def gE(n a l:DL)(B:Nat):ii:=[(.inr "named",.r n),(.inr "above",.r a),(.inr "latest",.r l),(.inr "here",.i (B:Nat))]
section
variable{c e f:DL}{B:Nat}
theorem kQ:cm (gE c e f B) (.inr "named")=some (.r c):=O
theorem Ij:cm (gE c e f B) (.inr "above")=some (.r e):=O
theorem Cq:cm (gE c e f B) (.inr "latest")=some (.r f):=O
theorem Cr:cm (gE c e f B) (.inr "here")=some (.i (B:Nat)):=O
theorem ak7:Yx (gE c e f B) (.inr "here") (V.i (k:Nat))=gE c e f k:=O
theorem ak8:(gE c e f B).length<sizeLine:=cQ (by show 4<=1000000;decide)
end
structure Rw(H:Hp)(wA nl ab la:DL)(hr:Nat)(Y U':ac)(as:db):Prop where
 r:H wA=some (.d<|gE nl ab la hr)
 i:H nl=some (.l<|as.map V.r)
 j:H ab=some (.l<|Y.map gV)
 u:H la=some (.l<|U'.map gV)
 nd:[wA,nl,ab,la].Nodup
section
variable{H Z:Hp}{l e f g:DL}{m q:db}{n:Nat}{Y s p t:ac}
theorem Rw.keep(R:Rw H l e f g n Y p m)(k:∀a∈ [l,e,f,g],∀o,H a=some o->Z a=some o):Rw Z l e f g n Y p m:=⟨k _ aJ _ R.r,k _ aJ _ R.i,k _ aJ _ R.j,k _ aJ _ R.u,R.nd⟩
theorem Rw.ne(R:Rw H l e f g n Y p m):(l≠e/\l≠f/\l≠g)/\(e≠f/\e≠g)/\f≠g:=by
 have h:=R.nd;simp at h;exact h
theorem Rw.live(R:Rw H l e f g n Y p m):jQ [l,e,f,g] H:=λx h=>by
 simp at h;rcases h with rfl|rfl|rfl|rfl
 exact⟨_,R.r,nofun⟩;exact⟨_,R.i,nofun⟩;exact⟨_,R.j,nofun⟩;exact⟨_,R.u,nofun⟩
theorem Rw.As(R:Rw H l e f g n Y p m)(d:Nat):Rw (upd H l<|.d<|gE e f g d) l e f g d Y p m:=by
 obtain⟨⟨a,b,c⟩,Z⟩:=R.ne;exact⟨aj,aY a.symm R.i,aY b.symm R.j,aY c.symm R.u,R.nd⟩
theorem Rw.put2(R:Rw H l e f g n Y p m):Rw (upd H e<|.l<|q.map V.r) l e f g n Y p q:=by
 obtain⟨⟨a,Z⟩,⟨b,c⟩,Z⟩:=R.ne;exact⟨aY a R.r,aj,aY b.symm R.j,aY c.symm R.u,R.nd⟩
theorem Rw.put3(R:Rw H l e f g n Y p m):Rw (upd H f<|.l<|s.map gV) l e f g n s p m:=by
 obtain⟨⟨Z,a,Z⟩,⟨b,Z⟩,c⟩:=R.ne;exact⟨aY a R.r,aY b R.i,aj,aY c.symm R.u,R.nd⟩
theorem Rw.UR(R:Rw H l e f g n Y p m):Rw (upd H g<|.l<|t.map gV) l e f g n Y t m:=by
 obtain⟨⟨Z,Z,a⟩,⟨Z,b⟩,c⟩:=R.ne;exact⟨aY a R.r,aY b R.i,aY c R.j,aj,R.nd⟩
end
def Wh(n:Nat)(k:We):Prop:=k=.inr "old"\/∃j:Int,k=.inl j/\j<n+3
structure SV(C:DL)(Kp:pi)(H:Hp)(hp wA nl ab la:DL)(M Ed as:db)(hr B:Nat)(Y U' V':ac)(bg K':sB)(es:List bn)(n:Nat):Prop where
 hi:aM C H hp M Ed B Y (K'.map bF) V' (320*n)
 ep:dU H Ed (λi ps=>es[i]?=some ps)
 D:Cn Y K' es
 R:Rw H wA nl ab la hr Y U' as
 le:Paired (Lr H) as bg
 dj:∀a∈ [wA,nl,ab,la],a∉M/\a∉Ed/\a∉as
 da:∀a∈as,a∉M
 kp:∀a o,Kp a o->H a=some o/\a∉M/\a∉ [wA,nl,ab,la]
 gd:∀rs∈K',good (jU rs)/\rs.length<=24+320*n/\∀r∈rs,Wh n r.1
 sz:Y.length<=n+1
 ll:bg.length=K'.length
section
variable{C:DL}{G:pi}{H Z:Hp}{I p l v m:DL}{M F x as':db}{J B:Nat}{Y X w U:ac}{P E:sB}{K:List bn}{n:Nat}
theorem SV.same(S:SV C G H I p l v m M F x J B Y X U P E K n)(s:ar H Z):SV C G Z I p l v m M F x J B Y X U P E K n:=
 ⟨S.hi.same s,S.ep.same s,S.D,S.R.keep λW W W e=>s _ _ e,uf S.le (λW W W e=>s _ _ e)<|aX s,S.dj,S.da,λa o k=>⟨s _ _ (S.kp a o k).1,(S.kp a o k).2⟩,S.gd,S.sz,S.ll⟩
theorem SV.at(S:SV C G H I p l v m M F x J B Y X U P E K n)(h:d<Y.length):∃r,E[d]?=some r/\E.getD d []=r/\good (jU r)/\r.length<=24+320*n:=by
 have a:=Xd (S.D.L▸h);have g:=S.gd _ (Wv a);exact⟨_,a,by rw[WK,a];rfl,g.1,g.2.1⟩
theorem SV.no(S:SV C G H I p l v m M F x J B Y X U P E K n){a:DL}(f:H a=none):a∉M/\a∉F/\a∉ [p,l,v,m]/\a∉x/\∀o,¬G a o:=⟨(S.hi.own f).1,(S.hi.own f).2,S.R.live.no f,(λz=>by
 obtain⟨i,b⟩:=WM.mp z;obtain⟨r,Z,xs,h,Z⟩:=tS S.le b;rw[f] at h;cases h),λo k=>by rw[(S.kp a o k).1] at f;cases f⟩
theorem SV.rows(S:SV C G H I p l v m M F x J B Y X U P E K n)(b:aS [p,l,v,m] H Z)(R:Rw Z p l v m c Y w x):SV C G Z I p l v m M F x c B Y w U P E K n:=by
 have t:=S.R.live.bB b;exact⟨S.hi.keep (λa o h e=>b a o e λq=>h.elim (S.dj a q).1 (S.dj a q).2.1) t,S.ep.keep (λa o h e=>b a o e λq=>(S.dj a q).2.1 h) t,S.D,R,uf S.le (λa h o e=>b a o e λq=>(S.dj a q).2.2 h) t,S.dj,S.da,λa o k=>⟨b _ _ (S.kp a o k).1 (S.kp a o k).2.2,(S.kp a o k).2⟩,S.gd,S.sz,S.ll⟩
theorem SV.Ik(S:SV C G H I p l v m M F x J B Y X U P E K n)(b:aS M H Z)(A:aM C Z I M F d Y (E.map bF) c (320*n)):SV C G Z I p l v m M F x J d Y X c P E K n:=
 ⟨A,S.ep.but S.hi b,S.D,S.R.keep λa h o e=>b _ _ e (S.dj a h).1,uf S.le (λa h o e=>b a o e<|S.da a h)<|(aM.bP S.hi).2.2.2.bB b,S.dj,S.da,λa o k=>⟨b _ _ (S.kp a o k).1 (S.kp a o k).2.1,(S.kp a o k).2⟩,S.gd,S.sz,S.ll⟩
theorem SV.now(S:SV C G H I p l v m M F x J B Y X U P E K n)(d:Nat):SV C G (upd H p<|.d<|gE l v m d) I p l v m M F x d B Y X U P E K n:=S.rows (aS.upd aJ) (S.R.As d)
theorem SV.putL(S:SV C G H I p l v m M F x J B Y X U P E K n):SV C G (upd H m<|.l<|w.map gV) I p l v m M F x J B Y w U P E K n:=S.rows (aS.upd aJ) S.R.UR
theorem SV.more(S:SV C G H I p l v m M F x J B Y X U P E K n){o:HO}(f:H c=none)(s:ar H Z)(h:Z c=some o):SV C (λa d=>G a d\/a=c/\d=o) Z I p l v m M F x J B Y X U P E K n:=by
 have b:=S.same s;obtain⟨g,W,e,W⟩:=Xn (S.no f);exact⟨b.hi,b.ep,b.D,b.R,b.le,b.dj,b.da,λa d k=>k.elim (b.kp a d) ap,b.gd,b.sz,b.ll⟩
theorem SV.less(S:SV C G H I p l v m M F x J B Y X U P E K n)(h:∀a o,um a o->G a o):SV C um H I p l v m M F x J B Y X U P E K n:=⟨S.hi,S.ep,S.D,S.R,S.le,S.dj,S.da,λa o k=>S.kp a o<|h a o k,S.gd,S.sz,S.ll⟩
theorem SV.putN(S:SV C G H I p l v m M F x J B Y X U P E K n){b:DL}(g:Lr H b s)(h:b∉M/\b∉ [p,l,v,m]):SV C G (upd H l<|.l<|(x.set i b).map V.r) I p l v m M F (x.set i b) J B Y X U (P.set i s) E K n:=by
 have d:aS [p,l,v,m] H (upd H l<|.l<|(x.set i b).map V.r):=aS.upd aJ;have t:=S.R.live.bB d;have f:∀a∈x.set i b,a∈x\/a=b:=λa c=>y1 c;exact⟨S.hi.keep (λa o h e=>d a o e λq=>h.elim (S.dj a q).1 (S.dj a q).2.1) t,S.ep.keep (λa o h e=>d a o e λq=>(S.dj a q).2.1 h) t,S.D,S.R.put2,akF (uf S.le (λa h o e=>d a o e λq=>(S.dj a q).2.2 h) t)<|g.keep (λo e=>d b o e h.2) t,λa c=>⟨(S.dj a c).1,(S.dj a c).2.1,λz=>(f a z).elim (S.dj a c).2.2 λy=>h.2 (y ▸ c)⟩,λa c=>(f a c).elim (S.da a) λy=>y ▸ h.1,λa o k=>⟨d _ _ (S.kp a o k).1 (S.kp a o k).2.2,(S.kp a o k).2⟩,S.gd,S.sz,by rw[gS];exact S.ll⟩
theorem SV.Cs(S:SV C G H I p l v m M F x J B Y X U P E K n)(w:n<=9):dU H F (yZ K):=by
 obtain⟨dx,lo,s,L,be,lg,N,q,A⟩:=X9 S.hi;intro i a e;have c:q[i+1]?=some (V.r a):=by rw[A.rD,Xo,ZW,e];rfl
 have h:=(Wq.mp c).1;rw[A.le] at h;obtain⟨j,d,Z⟩:=A.ob.tr.up (i+1) (Wr _) h;obtain⟨Q,ps,t,u,zq⟩:=ZO (A.yL S.ep _ j d);obtain⟨b,D,z,⟨xs,o,k,g⟩,y,f⟩:=Yk zq;rw[c] at b;cases b;exact o4 xs ps o k f ap ⟨_,_,g⟩
theorem SV.Il(S:SV C G H I p l v m M F x J B Y X U P E K n)(h:s∈E):∀r∈s,lV r:=λr J=>by
 obtain⟨g,Z,w⟩:=S.gd s h;refine⟨?_,?_⟩;rcases w r J with e|⟨j,e,Z⟩
 rw[e];show PyData.strOk "old"=true;decide+kernel;rw[e];trivial;have:=ac_ g.2;unfold PyData.strOk at this;rw[Array.all_eq_true'] at this;exact Re<|this r.2.2 (by show r.2.2∈ (bF s).toArray;simpa[bF] using ⟨_,_,J⟩)
end
end
section
section
variable{Y:ac}
noncomputable def lW(Y:ac)(s:am)(l:ac):ac:=s.foldl (λl k=>match Y[k]? with|some (some j)=>l.set j (some k)|_=>l) l
theorem ak9:∀(s:am)(l:ac),(lW Y s l).length=l.length:=by
 intro s;induction s with
 |nil=>exact λZ=>O
 |cons k s i=>
  intro l;show(lW Y s _).length=_;rw[i];dsimp only;split<;>simp
theorem US(T:bD Y):∀n,n<Y.length->(ups Y n n).Pairwise (· > ·):=by
 intro n;induction n using Nat.strongRecOn with
 |ind n i=>
  intro a;by_cases z:n=0;subst z;exact List.Pairwise.cons (λh=>by simp) List.Pairwise.nil;obtain⟨j,c,D,e⟩:=kz T (WY z) a;rw[e];exact List.Pairwise.cons (λk b=>by have:=tZ T j (Xf D a) k b;exact Wn this D)<|i j D (Xf D a)
theorem ak_(T:bD Y){p w:am}:∀(u:am)(l:ac),gc (λa b=>Y[a]?=some (some b)) (u++m::p)->iB Y (u++m::w) l=iB Y (m::w) (lW Y u l):=by
 have s:∀{a b:Nat}{r:am}{l:ac},Y[a]?=some (some b)->iB Y (a::b::r) l=iB Y (b::r) (lW Y [a] l):=λ{a b r l} h=>by
  have e:jy Y (a,b)=(b,a):=by
   unfold jy;rw[Ix λz=>by have:=(bz T z).1;have:=(bz T h).1;lia]
  show iB Y (b::r) (pR l<|jy Y (a,b))=_;rw[e];show _=iB Y (b::r) (match Y[a]? with|some (some j)=>l.set j (some a)|_=>l);rw[h];rfl
 intro u;induction u with
 |nil=>exact λZ Z=>O
 |cons a u i=>
  intro l h;cases u with
  |nil=>exact s h.1
  |cons b u=>exact(s h.1).trans (i _ h.2)
theorem ala(T:bD Y):∀(v:am)(m:Nat)(l:ac),gc (λa b=>Y[b]?=some (some a)) (m::v)->iB Y (m::v) l=lW Y v l:=by
 intro v;induction v with
 |nil=>exact λZ Z Z=>O
 |cons b v i=>
  intro m l h;have e:jy Y (m,b)=(m,b):=by unfold jy;rw[Id h.1]
  show iB Y (b::v) (pR l<|jy Y (m,b))=_;rw[e,i b _ h.2];show _=lW Y v (match Y[b]? with|some (some j)=>l.set j (some b)|_=>l);rw[h.1];rfl
theorem alb(T:bD Y)(c:n<Y.length)(f:d<Y.length):∃u v:am,(ups Y n n).filter (λk=> !(ups Y d d).contains k)=u/\(ups Y d d).filter (λk=> !(ups Y n n).contains k)=v.reverse/\(∀g,lW Y (u++v) g=iB Y (dz Y n d) g)/\(∀k∈u++v,∃j,Y[k]?=some (some j))/\u.length+v.length<=n+d+2:=by
 obtain⟨u,v,m,p,q,zq⟩:=Yj (Rv T c f);obtain⟨N,b,e,C,W,V⟩:=Yk zq;obtain⟨R,O⟩:=lQ T n c;obtain⟨Q,O⟩:=lQ T d f;have y:=US T n c;have w:=US T d f;have l1:=rn T n c;have l2:=rn T d f;have A:m∈ups Y n n:=by rw[b];simp
 have B:m∈ups Y d d:=by rw[e];simp
 obtain⟨Z,M,K⟩:=BX T n c m A;obtain⟨X,L,J⟩:=BX T d f m B;have l:∀k,k<m->(k∈ups Y n n↔k∈ups Y d d):=λk a=>by
  rw[M,L,X0,X0];constructor<;>rintro(z|z)
  have:=K k z;exact (XD _ (Xf this a)).elim;exact .inr z;have:=J k z;exact (XD _ (Xf this a)).elim;exact .inr z
 have r:(u++m::p).Pairwise (· > ·):=by rw[<-b];exact y
 have s:(v.reverse++m::q).Pairwise (· > ·):=by rw[<-e];exact w
 have t:∀k∈p,k<m:=(List.pairwise_cons.mp (XI.mp r).2.1).1;have H:∀k∈q,k<m:=(List.pairwise_cons.mp (XI.mp s).2.1).1;have i:∀k∈v,m<k:=λk a=>(XI.mp s).2.2 k (Wx.mpr a) m (.head _);have G:∀k∈v,k∉ups Y n n:=λk a z=>by
  have U:=i k a;rw[b] at z;rcases X0.mp z with z|z
  exact C k z (by rw[e];exact Wu _ (Wx.mpr a));rcases xW.mp z with z|z
  exact (XD _ (YY U (VN z))).elim;have:=t k z;exact (XD _ (Xf this U)).elim
 refine o4 u v ?_ ?_ (λg=>?_) (λk a=>?_) ?_;rw[show(ups Y n n).filter (λk=> !(ups Y d d).contains k)=(u++m::p).filter (λk=> !(ups Y d d).contains k) by rw[<-b],YM,Ws.mpr λk a=>by simpa using C k a,Wj.mpr λk a=>?_,Y3];rcases xW.mp a with rfl|a
 simpa using B;simpa using (l k<|t k a).mp (by rw[b];exact Za _ (.tail _ a));rw[show(ups Y d d).filter (λk=> !(ups Y n n).contains k)=(v.reverse++m::q).filter (λk=> !(ups Y n n).contains k) by rw[<-e],YM,Ws.mpr λk a=>by simpa using G k (Wx.mp a),Wj.mpr λk a=>?_,Y3];rcases xW.mp a with rfl|a
 simpa using A;simpa using (l k<|H k a).mpr (by rw[e];exact Za _ (.tail _ a));rw[N,ak_ T u g (by rw[<-b];exact R)];have D:=yF _ Q;rw[e,WC,CR,X4,VD] at D;have P:=BQ q.reverse D;rw[ala T v m _ P];unfold lW;rw[Xy];have o:∀{x:am}{k:Nat},x.Pairwise (· > ·)->(∀j∈x,j<Y.length)->k∈x->m<k->∃j,Y[k]?=some (some j):=λ{x k} O h a S=>by
  obtain⟨j,I,O⟩:=T.up k (Wn (Ww _) S) (h k a);exact o3 j I
 rcases X0.mp a with a|a
 exact o y (lQ T n c).2.1 (by rw[b];exact Wu _ a) ((XI.mp r).2.2 k a m<|.head _);exact o w (lQ T d f).2.1 (by rw[e];exact Wu _ (Wx.mpr a)) (i k a);have F:=IN List.length b;have E:=IN List.length e;simp only[W0,d_,Yb] at F E;lia
end
end
section
section
variable{K:Frag}{C:DL}{w:pi}{H Z:Hp}{Q:VK}{E:XK}{A s F m t:DL}{M G I as':db}{c B d:Nat}{Y p Y' J:ac}{P R:sB}{U:List bn}{n:Nat}
abbrev GMo(K:Frag)(E:XK):bu:=aH K [("_law_up",BY)] [] (E:=E)
theorem UT(f:Nat->Go)(g:V->Go)(h:∀k:Nat,g (V.i (k:Nat))=f k):∀l:am,(iV l).filter g=iV (l.filter f):=by
 intro l;rw[List.filter_map];congr 1;exact Z1 λk Y=>h k
inductive rN(C:DL)(vs:ci)(H:Hp)(Q:VK)(E:XK):Prop|i(w:pi)(A s F m t:DL)(M G I:db)(c B d:Nat)(Y p J:ac)(P R:sB)(U:List bn)(n:Nat)(_:vs=[.r s,.i (d:Nat)])(_:SV C w H A s F m t M G I c B Y p J P R U n)(_:p.length=Y.length)(_:c<Y.length)(_:d<Y.length)(_:n<=9)(_:∀Z,SV C w Z A s F m t M G I d B Y (iB Y (dz Y c d) p) J P R U n->Q (.i (d:Nat)) Z)
theorem ald:bS (rN C) (λE=>GMo K E) Uo Um:=by
 intro vs H Q E h;obtain⟨w,A,s,F,m,t,M,G,I,c,B,d,Y,p,J,P,R,U,n,rfl,S,ll,hh,hd,hn,q⟩:=h;obtain⟨T,b,b,b⟩:=aM.bP S.hi;have sz:=S.sz;obtain⟨f,v,eu,ev,ef,hk,a'⟩:=alb T hh hd;refine aN<|cz O S.R.r Ij ?_;refine aN<|bE BY O<|av<|af O<|av<|cz O S.R.r Cr<|aI ⟨m,Y,c,O,S.R.j,T,hh,ap,λb1 H1 s1 f1 h1=>?_⟩;have S1:=S.same s1;refine aN<|bE BY O<|av<|af O<|av<|af O<|aI ⟨m,Y,d,O,S1.R.j,T,hd,ap,λb2 W s2 f2 h2=>?_⟩;have S2:=S1.same s2;have Im:=s2 _ _ h1;have lu:=rn T c hh;have ld:=rn T d hd;refine GU<|c7 ?_;refine qB _ O b1 O (o3 _ (ah.of Im)) (Ry (λx=> !fD x (iV<|ups Y d d)) Im (by rw[XN];lia) ?_ (λx k b q=>nT _ O q) ?_);intro x k hx q;obtain⟨i,b,rfl⟩:=Yc.mp hx;exact bf<|af O<|af O ⟨b2,_,O,.inl<|ah.of h2,O,RA _,_,O,q⟩;intro Z f3;rw[UT (λk=> !(ups Y d d).contains k) _ (λk=>by rw[Rz]),eu];have N:=Xq (o:=.l (iV f)) f3;have h3:upd W Z (.l<|iV f) Z=some (.l<|iV f):=aj;have S3:=S2.same N;have UU:=N _ _ Im;have Io:=N _ _ h2;generalize upd W Z (.l<|iV f)=H3 at N h3 S3 UU Io⊢;refine ahh ?_;refine qB _ O b2 O (o3 _ (ah.of Io)) (Ry (λx=> !fD x (iV<|ups Y c c)) Io (by rw[XN];lia) ?_ (λx k b q=>nT _ O q) ?_);intro x k hx q;obtain⟨i,b,rfl⟩:=Yc.mp hx;exact bf<|af O<|af O ⟨b1,_,O,.inl<|ah.of UU,O,RA _,_,O,q⟩;intro b4 f4;rw[UT (λk=> !(ups Y c c).contains k) _ (λk=>by rw[Rz]),ev];have s4:=Xq (o:=.l (iV v.reverse)) f4;refine oZ b4 _ O (ah.of aj) bc (λb5 f5=>?_);rw[af0];have e5:(iV v.reverse).reverse=iV v:=by rw[QF,X4]
 rw[e5];have s5:=Xq (o:=.l (iV v)) f5;refine .inl (pE Z b5 _ _ O O (s5 _ _<|s4 _ _ h3) aj (cI (by rw[XN,XN];lia)) (λD f6=>?_));have e6:iV f++iV v=iV (f++v):=by unfold iV;rw[Z3]
 rw[e6];have s6:=Xq (o:=.l (iV<|f++v)) f6;have y7:=s4.trans (s5.trans s6);have h6:upd (upd (upd H3 b4<|.l<|iV v.reverse) b5<|.l<|iV v) D (.l<|iV<|f++v) D=some (.l<|iV<|f++v):=aj;have S6:=S3.same y7;have n6:=(((S3.same s4).same s5).no f6).2.2.1;refine nW D O (o3 _ (ah.of h6)) (kT (K:=K) (a:=D) (xs:=iV (f++v)) (λi u L=>vK λu5=>tD (u=[some<|.r s,some<|.i (d:Nat),some<|.r m,some<|.r b1,some<|.r b2,u5]) (L D=some (.l<|iV<|f++v)) (SV C w L A s F m t M G I c B Y (lW Y ((f++v).take i) p) J P R U n)) ⟨none,O,h6,S6⟩ (λi u L _ ⟨_,_,X,_⟩=>ah.of X) ?_ ?_);rintro i y u L hy ⟨u5,rfl,X,g⟩;rw[ZW] at hy;obtain⟨k,Ct,rfl⟩:=ZX.mp hy;obtain⟨j,hj⟩:=hk k (Wv Ct);have mx:=bz T hj;refine pJ<|af O<|cz O g.R.r Cq<|bh<|af O<|af O<|cK g.R.j (dv (by rw[ZW,hj];rfl)) (oT t _ _ j O O g.R.u (gO (by rw[XN,ak9,ll];lia)) ?_);have e:((lW Y ((f++v).take i) p).map gV).set j (V.i (k:Nat))=(lW Y ((f++v).take<|i+1) p).map gV:=by
  rw[vE Ct];unfold lW;rw[Xy];simp only[YF,List.foldl_nil,hj,V_];rfl
 rw[e];exact⟨_,O,by rw[ay<|λz=>n6 (by rw[z];simp)];exact X,g.putL⟩;rintro u L ⟨u5,rfl,X,g⟩;rw[XN,Xg,ef] at g;refine anM<|af O<|acV O g.R.r ak8 ?_;rw[ak7];exact di<|af O<|q _<|g.now d
end
end
section
section
variable{K:Frag}{C v:DL}{G:pi}{H Z:Hp}{Q:VK}{E:XK}{g I J P R:DL}{M z U as':db}{f B d j:Nat}{Y k Y' F:ac}{t e:sB}{X:List bn}{n:Nat}
def Lp(H:Hp)(a:DL)(p:bn):Prop:= ∃xs,H a=some (.l xs)/\aF H xs p/\∀q∈p,aZ q
theorem Lp.keep{a:DL}(h:Lp H a p)(k:∀o,H a=some o->Z a=some o)(t:bR H Z):Lp Z a p:=by
 obtain⟨xs,d,c,b⟩:=h;exact⟨xs,k _ d,c.mono t,b⟩
theorem kR(h:e[d]?=some rs):(e.map bF)[d]?=some (bF rs):=by rw[ZW,h];rfl
abbrev Ip(C:DL)(G:pi)(H:Hp)(Q:VK)(g I J P R:DL)(M z U:db)(f B d:Nat)(Y k b:ac)(t e:sB)(X:List bn)(n:Nat):Prop:= ∀(w:DL) (ps:bn) (Z:Hp),aS M H Z->H w=none->SV C G Z g I J P R M z U f d Y k b t e X n->Lp Z w ps->Ld e B d ps->w∉M/\w∉z/\w∉ [I,J,P,R]/\w∉U/\(∀o,¬G w o)->Q (.r w) Z
theorem UW(S:SV C G H g I J P R M z U f B Y k F t e X n){r:Rows}(x:e[B]?=some r)(a:gz Y B j):Wy Y [B,j] (bF r) (yZ X) (Jw e [B,j]):=by
 obtain⟨T,l,Z,Z⟩:=aM.bP S.hi;have c:B≠j:=by
  rcases a with h|h
  have:=(bz T h).1;exact ZH this;have:=(bz T h).1;exact Ya this
 refine S.D.wy T (λi n m d b=>?_) (Y8.mpr ⟨by simpa using c,Y8.mpr ⟨aJ,WQ⟩⟩) O (by rw[iZ,WK,x];rfl);cases i with
 |zero=>cases d;cases b;exact a
 |succ i=>simp at b
theorem UX(h:Jw e [B,j] 0 1 ps):Ld e B j ps:=by
 obtain⟨Y,a,b,d,c,h⟩:=h;cases d;cases c;exact h
theorem ale(S:SV C G H g I J P R M z U f B Y k F t e X n)(c:n<=9)(h:Y[B]?=some (some j))(q:Ip C G H Q g I J P R M z U f B j Y k (rC Y [B,j] F) t e X n):Cf C v [.r g] H Q E:=by
 obtain⟨T,d,W,W⟩:=aM.bP S.hi;obtain⟨s,x,W,W,D⟩:=S.at d;obtain⟨p,y,W⟩:=S.at (show j<Y.length by have:=bz T h;lia);have lg:=iZ s;exact⟨g,M,z,B,Y,_,F,_,O,S.hi,ap,.inl (p3 j _ _ _ _ (S.Cs c) (UW S x<|.inr h) h (kR x) (kR y) ⟨ap,λw ps Z b a u ⟨xs,o,m,l⟩ i _ A=>q w ps Z b a (S.Ik b A) (nW xs o m l.ok) (UX i) (S.no a)⟩)⟩
theorem alf(S:SV C G H g I J P R M z U f B Y k F t e X n)(c:n<=9)(l:F[B]?=some (some j))(h:Y[j]?=some (some B))(q:Ip C G H Q g I J P R M z U f B j Y k (rC Y [B,j] F) t e X n):Cg C v [.r g] H Q E:=by
 obtain⟨T,d,W,W⟩:=aM.bP S.hi;obtain⟨s,x,W,W,K⟩:=S.at d;obtain⟨u,y,W⟩:=S.at (bz T h).2;have lg:=iZ s;exact⟨g,M,z,B,Y,_,F,_,O,S.hi,ap,.inl (p3 j _ _ _ _ (S.Cs c) (UW S x<|.inl h) l h (kR x) ⟨kR y,ap,λw ps Z b a D ⟨xs,p,o,m⟩ i _ A=>q w ps Z b a (S.Ik b A) (nW xs p o m.ok) (UX i) (S.no a)⟩)⟩
theorem UY(S:SV C G H g I J P R M z U f B Y k F t e X n)(hn:n<=9)(j:d<Y.length)(q:Ip C G H Q g I J P R M z U f B d Y k (rC Y (dz Y B d) F) t e X n):rJ C [.r g,.i (d:Nat)] H Q E:=by
 obtain⟨T,l,_,_⟩:=aM.bP S.hi;obtain⟨N,hx,_,_,lx⟩:=S.at l;obtain⟨rd,hy,_⟩:=S.at j;have lg:=iZ N;have sz:=S.sz;have u:=aiH T l j;obtain⟨u0,v1,m,zq⟩:=XM (Hr T l j);obtain⟨L,_,_,v,⟨c,K⟩,⟨V,s⟩,hk,a'⟩:=WR zq;rw[K] at u q v L s;have W:c.length<=18:=by
  have:=IN List.length L;simp at this;lia
 have HU:(B::c)[c.length]?=some d:=by
  rw[s];have:V.length=c.length:=by
   have:=IN List.length s;simp at this;lia
  rw[<-this];simp
 have k2:320*n*c.length<=85000:=wO (Nat.mul_le_mul (show 320*n<=2880 by lia) W) (XA _ _);refine⟨g,M,z,B,d,Y,_,F,_,c,_,_,_,_,O,S.hi,j,S.Cs hn,S.D.wy T (λi n m p o=>Hq _ v i n m p o) u O ap,K,(wO W (XA _ _)),k2,ap,kR hx,kR hy,ap,λw ps Z b y nw ⟨xs,p,o,h3⟩ hJ _ A=>q w ps Z b y (S.Ik b A) ⟨xs,p,o,h3.ok⟩ ?_ (S.no y)⟩;obtain⟨_,a,b',g1,x,h⟩:=hJ;cases g1;rw[HU] at x;cases x;exact h
inductive wb(vs:ci)(H:Hp)(Q:VK)(E:XK):Prop|i(a c d:DL)(l r:Rows)(ps:bn)(_:vs=[.r a,.r c,.r d])(_:Lr H a l)(_:Lr H d r)(_:Lp H c ps)(_:Wk (· ∈l.map nm) (· ∈r.map nm) (ak ps) l r)(_:l.length<=10000)(_:r.length<=10000)(_:(∀x∈r,lV x))(_:∀Z,ar H Z->Q (.b true) Z)
abbrev anH(K:Frag)(E:XK):bu:=aH K [("_law_followed",rM)] [] (E:=E)
theorem alg:bS (wb) (λE=>anH K E) Ur Uq:=by
 intro vs H Q E h;obtain⟨a,c,d,l,r,ps,rfl,m,f,⟨xs,i,p,o⟩,w,g,e,k,q⟩:=h;exact di<|xM<|bE rM O<|av<|af O<|av<|af O<|av<|af O<|aI ⟨a,c,d,l,r,r,ps,xs,O,m,f,i,p,o,w,λY=>No,O,g,e,e,λb Z s n j=>af O<|Uy j (f.same s) k<|q Z s⟩
end
end
section
section
variable{S T S' k:Nm->Prop}{g:im}{l r:Rows}
theorem alh(h:∀x,T x↔k x)(w:Wk S T g l r):Wk S k g l r:=by
 rw[<-(funext λx=>propext (h x))];exact w
theorem UZ(h:Wk S T g l r):ZA (bF l) g/\V1 (bF l) g=bF r:=by
 induction g generalizing l r with
 |nil=>obtain⟨rfl,rfl⟩:=h;exact⟨O,O⟩
 |cons x g i=>
  cases x with
  |K=>
   obtain⟨a,d,b,rfl,rfl,Y,Y,h⟩:=h;obtain⟨f,o⟩:=i h;exact⟨f,IN (a.2.2:: ·) o⟩
  |P c=>
   obtain⟨a,b,rfl,rfl,Y,Y,h⟩:=h;obtain⟨f,o⟩:=i h;refine⟨f,?_⟩;show a.2.2::V1 (bF l) g=_;rw[o];rfl
  |C c=>
   obtain⟨a,d,rfl,rfl,Y,Y,h⟩:=h;obtain⟨f,o⟩:=i h;exact⟨⟨O,f⟩,o⟩
theorem Q9 [DecidablePred S][DecidablePred T]:∀{l r:Rows},Wk S T g l r->(l.map nm).Nodup->((r.filter λa=> !decide (S<|nm a)).map nm).Nodup->(r.map nm).Nodup:=by
 induction g with
 |nil=>rintro l r ⟨rfl,rfl⟩ h Y;exact h
 |cons x g i=>
  cases x with
  |K=>
   rintro l r ⟨a,m,k,rfl,rfl,s,t,h⟩ f d;rw[YT ap] at d;rw[AP,Y8] at f⊢;refine⟨λz=>f.1 ?_,i h f.2 d⟩;obtain⟨b,j,e⟩:=Yc.mp z;have q:b∈k.filter λa=>decide (S<|nm a):=ZK.mpr ⟨j,ap⟩;rw[<-HB h] at q;exact Yc.mpr ⟨b,(ZK.mp q).1,e⟩
  |P c=>
   rintro l r ⟨a,k,rfl,Y,s,t,h⟩ f d;rw[iX ap,AP,Y8] at d;rw[AP,Y8];refine⟨λz=>d.1 ?_,i h f d.2⟩;obtain⟨b,j,e⟩:=Yc.mp z;exact Yc.mpr ⟨b,ZK.mpr ⟨j,ap⟩,e⟩
  |C c=>
   rintro l r ⟨a,m,rfl,Y,s,t,h⟩ f d;rw[AP,Y8] at f;exact i h f.2 d
end
section
variable(Y:ac)(B:Nat)(f:List bn)(c:bn)
def Eg(a b:Nat)(e:bn):Prop:=Y[b]?=some (some a)/\f[b]?=some e\/Y[a]?=some (some b)/\∃c,f[a]?=some c/\e=bk c
inductive Gt:Nat->bn->Prop
 |o:Gt B c
 |s {a b:Nat}{g e ps q:bn}{l m n:am}:Nx Y B a b->Gt a g->Eg Y f a b e->fN g e ps q l m n->Gt b ps
end
section
variable{Y:ac}{B:Nat}{m:List bn}{c:bn}{f:sB}{k:Nat}{g l:bn}
theorem U0{a:Nat}(h:Nx Y B a B):False:=by
 obtain⟨Z,V,Z,b,Z,v⟩:=h;exact v b
theorem alj(T:bD Y){a b:Nat}{f:bn}(h:Eg Y m a b e)(c:Eg Y m a b f):e=f:=by
 rcases h with⟨p,h⟩|⟨p,i,h,rfl⟩ <;>rcases c with⟨d,c⟩|⟨d,g,c,rfl⟩
 rw[h] at c;exact WV c;have:=(bz T p).1;have:=(bz T d).1;lia;have:=(bz T p).1;have:=(bz T d).1;lia;rw[h] at c;cases c;rfl
theorem y8(T:bD Y)(h:Gt Y B m c k g):∀{l},Gt Y B m c k l->g=l:=by
 induction h with
 |o=>
  intro l h;cases h with
  |o=>rfl
  |s x Z Z Z=>exact(U0 x).elim
 |s x Z e p i=>
  intro l h;cases h with
  |o=>exact(U0 x).elim
  |s G a b w=>
   have:=x.un T G;subst this;have:=i a;subst this;have:=alj T e b;subst this;exact ahS p w
variable(f:sB)(h e:Nm->Prop)
def S2(k:Nat)(x:Nm):Prop:=aU f k x/\ ¬h x\/e x
structure FL[DecidablePred e](Pu:Rows)(k:Nat)(g:bn)(r:Rows):Prop where
 w:Wk (aU f k) (S2 f h e k) (ak g) (f.getD k []) r
 p:(r.filter λa=>decide (e<|nm a))=Pu
end
section
variable{Y:ac}{B:Nat}{A:List bn}{c:bn}{f:sB}{k:Nat}{g g':bn}{v s:Nm->Prop}[DecidablePred s]{w r E:Rows}
theorem y9(N:∀x,s x-> ¬aU f k x)(F:FL f v s w k g r):(r.filter λa=> !decide (aU f k<|nm a))=w:=by
 rw[<-F.p];refine Z1 λa b=>?_;rcases (yP F.w).2 a b with⟨h,c⟩|h
 have:¬s (nm a):=λz=>N _ z h;simp[h,this];have:=N _ h;simp[h,this]
theorem y_(h:∀x,s x-> ¬aU f k x)(F:FL f v s w k g r)(a:FL f v s w k g E):r=E:=ahQ F.w a.w ((y9 h F).trans (y9 h a).symm)
theorem psg(C:Cn Y f A)(T:bD Y)(N:∀x k,s x-> ¬aU f k x)(Z:∀x,v x->aU f B x):
  B3 Y B (λk g=>Gt Y B A c k g/\∃r,FL f v s w k g r) (yZ A) (λi e=>∀j D F u z,Y[i]?=some (some j)->Gt Y B A c j D->Gt Y B A c i F->FL f v s w j D u->FL f v s w i F z->Wk (S2 f v s j) (S2 f v s i) (ak e) u z):=by
 rintro a b g e ps qs l m n X ⟨K,ra,G⟩ J cg ce P;have eg:Eg Y A a b e:=J.imp (λh=>⟨h.1,h.2.1⟩) λ⟨p,V,h,q⟩=>⟨p,V,h.1,q⟩;have te:aq e<=85000:=by
  rcases J with⟨O,O,t,O⟩|⟨O,V,⟨O,t,x,y,W⟩,rfl⟩
  exact t;rw[(W.bk (wO t (XA _ _))).2.1];exact t
 have we:Wk (aU f a) (aU f b) (ak e) (f.getD a []) (f.getD b []):=by
  rcases J with⟨p,h,O⟩|⟨p,V,⟨h,t,x,y,W⟩,rfl⟩
  exact C.ed _ _ _ p h;exact rH (W.bk (wO t (XA _ _))).2.2.2.symm (HA<|C.ed _ _ _ p h)
 have fo:Fo v s (aU f a) (aU f b) (S2 f v s a) (S2 f v s b):=⟨λx h=>⟨N x a h,N x b h⟩,λx h hb=>by
  obtain⟨a',tv,I⟩:=C.tp x B (Z x h);exact(I a).mp (X.bt T tv ((I B).mpr (Z x h)) ((I b).mpr hb)),λO=>No,λO=>No⟩
 obtain⟨os,ts,d,n1,n2⟩:=P.pas;obtain⟨E,w1,w2,f3⟩:=ahP fo d G.w we;have L:Gt Y B A c b ps:=.s X K eg P;have R:FL f v s w b ps E:=⟨rH n1.symm w1,f3.trans G.p⟩;have U1:=rH n2.symm w2;obtain⟨rr,O,H⟩:=P.s;have t2:=P.Pk;have cq:iU qs m rr:=⟨P.nY,P.Pj,H⟩;refine⟨⟨L,E,R⟩,λd j D F u z o Q M U S=>?_,λd j D F u z o Q M U S=>?_⟩;rw[d] at o;cases o;have:=y8 T K Q;subst this;have:=y8 T L M;subst this;rw[y_ (N · _) U G,y_ (N · _) S R];exact U1;rw[d] at o;cases o;have:=y8 T K M;subst this;have:=y8 T L Q;subst this;rw[y_ (N · _) S G,y_ (N · _) U R];exact rH (cq.bk ap).2.2.2.symm<|HA U1
end
section
variable{Y:ac}{B:Nat}{p:List bn}{c:bn}{l:sB}{k:Nat}{g g':bn}{n m:Nm->Prop}[DecidablePred n][DecidablePred m]{q r r' fresh:Rows}
theorem U2(X:∀x,m x↔x∈q.map nm)(F:FL l n m q k g r)(x:Nm):x∈r.map nm↔S2 l n m k x:=by
 constructor;intro h;obtain⟨a,b,rfl⟩:=Yc.mp h;exact(yP F.w).2 a b;rintro(⟨h,c⟩|h);obtain⟨a,b,rfl⟩:=Yc.mp h
 haveI:DecidablePred (S2 l n m k):=λx=>by unfold S2;exact inferInstance
 have:a∈ (l.getD k []).filter λa=>decide (S2 l n m k<|nm a):=ZK.mpr ⟨b,Z2<|.inl ⟨h,c⟩⟩;rw[HB F.w] at this;exact ZF (ZK.mp this).1;obtain⟨a,b,rfl⟩:=Yc.mp ((X x).mp h);rw[<-F.p] at b;exact ZF (ZK.mp b).1
theorem uo(h:l.length<=k):l.getD k []=[]:=by rw[WK,WL h];rfl
theorem alo(T:bD Y):jz Y (List.range Y.length):=by
 refine⟨0,Yt.mpr ((Wq.mp T.r).1),λk h=>⟨Ww _,?_⟩⟩;by_cases z:k=0;exact .inl z;obtain⟨j,a,D⟩:=T.up k (WY z) (Yt.mp h);have:=Yt.mp h;exact .inr ⟨j,Yt.mpr (Xf D this),a⟩
theorem U3(h:dU H Ed J):∃p:List bn,dU H Ed (λi ps=>p[i]?=some ps)/\∀i e,p[i+1]?=some e->J (i+1) e:=by
 classical
 let f:Nat->bn:=λi=>if z:∃a,Ed[i]?=some a then (h i z.choose z.choose_spec).choose_spec.choose else []
 refine nT ([]::(List.range Ed.length).map f) (λi a e=>?_) (λi e c=>?_);have z:∃a,Ed[i]?=some a:=o3 a e;have s:=(h i z.choose z.choose_spec).choose_spec.choose_spec;have b:f i=(h i z.choose z.choose_spec).choose_spec.choose:=dif_pos z;refine oW ((h i z.choose z.choose_spec).choose) (f i) ?_ ?_ ?_;rw[<-(WV (z.choose_spec.symm.trans e))];exact s.1;rw[b];exact s.2.1;show([]::(List.range Ed.length).map f)[i+1]?=_;rw[Xo,ZW,W_ ((Wq.mp e).1)];rfl;rw[Xo,ZW] at c;obtain⟨g,d,rfl⟩:=ZX.mp c;obtain⟨l,rfl⟩:=Wq.mp d;rw[Wd] at l;rw[List.getElem_range];have z:∃a,Ed[i]?=some a:=o3 _ (Xd l);have b:f i=(h i z.choose z.choose_spec).choose_spec.choose:=dif_pos z;rw[b];exact(h i z.choose z.choose_spec).choose_spec.choose_spec.2.2
theorem alp(C:Cn Y l p)(T:bD Y)(U:∀x k,m x-> ¬aU l k x)(X:∀x,m x↔x∈q.map nm)(W:(q.map nm).Nodup)(EP:dU H Ed (λi e=>∀j D E R S,Y[i]?=some (some j)->Gt Y B p c j D->Gt Y B p c i E->FL l n m q j D R->FL l n m q i E S->Wk (S2 l n m j) (S2 l n m i) (ak e) R S))(hl:au.length=Y.length)(M:∀k,k<Y.length->∃g r,Gt Y B p c k g/\FL l n m q k g r/\au[k]?=some (bF r)):
  ∃b G,Cn Y b G/\dU H Ed (λi ps=>G[i]?=some ps)/\au=b.map bF/\∀k,k<Y.length->∃g,Gt Y B p c k g/\FL l n m q k g (b.getD k []):=by
 classical
 let f:Nat->Rows:=λk=>if z:k<Y.length then (M k z).choose_spec.choose else []
 have u:∀k,k<Y.length->∃g,Gt Y B p c k g/\FL l n m q k g (f k)/\au[k]?=some (bF<|f k):=λk a=>by
  have:=(M k a).choose_spec.choose_spec;have ef:f k=(M k a).choose_spec.choose:=dif_pos a;rw[ef];exact o3 _ this
 let b:=(List.range Y.length).map f
 have v:b.length=Y.length:=by simp[b]
 have d:∀k,k<Y.length->b.getD k []=f k:=λk a=>by
  rw[WK,ZW,W_ a];rfl
 obtain⟨G,E1,E2⟩:=U3 EP;have s:∀k,k<Y.length->∀x,aU b k x↔S2 l n m k x:=λk a x=>by
  obtain⟨g,O,F,O⟩:=u k a;show x∈ (b.getD k []).map nm↔_;rw[d k a];exact U2 X F x
 have Q:∀{k x},aU b k x->k<Y.length:=λ{k x} h=>Nat.lt_of_not_le λz=>by
  have h:x∈ (b.getD k []).map nm:=h;rw[uo (by rw[v];exact z)] at h;cases h
 have P:∀{k x},aU l k x->k<Y.length:=λ{k x} h=>Nat.lt_of_not_le λz=>by
  have h:x∈ (l.getD k []).map nm:=h;rw[uo (by rw[C.L];exact z)] at h;cases h
 refine oZ b G ⟨v,λk=>?_,λx k h=>?_,λi j e A he=>?_⟩ E1 ?_ (λk a=>?_);by_cases a:k<Y.length;obtain⟨g,O,F,O⟩:=u k a;rw[d k a];exact Q9 F.w (C.nd k) (by rw[y9 (U · k) F];exact W);rw[uo (by rw[v];exact Zw a)];exact WQ;have a:=Q h;rcases (s k a x).mp h with⟨t,N⟩|t
 obtain⟨I,V,Z⟩:=C.tp x k t;refine nT I V (λj=>(Z j).trans ⟨λz=>(s j (P z) x).mpr<|.inl ⟨z,N⟩,λz=>?_⟩);rcases (s j (Q z) x).mp z with y|y
 exact y.1;exact absurd t (U x k y);exact nT _ (alo T) (λj=> ⟨λz=>(s j (Yt.mp z) x).mpr<|.inr t,λz=>Yt.mpr<|Q z⟩);have K:=(bz T A).2;have J:j<Y.length:=by have:=(bz T A).1;exact Xf this K
 obtain⟨E,g1,f1,O⟩:=u i K;obtain⟨D,g2,f2,O⟩:=u j J;obtain⟨o,rfl⟩:∃o,i=o+1:=o3 (i - 1) (by have:=(bz T A).1;lia);have w:=E2 o e he j D E (f j) (f<|o+1) A g2 g1 f2 f1;show Wk (aU b j) (aU b<|o+1) _ _ _;rw[d j J,d _ K,show aU b j=S2 l n m j from funext λx=>propext (s j J x),show aU b (o+1)=S2 l n m (o+1) from funext λx=>propext (s _ K x)];exact w;refine Xw λk=>?_;by_cases a:k<Y.length;obtain⟨g,O,O,e⟩:=u k a;rw[e,ZW,ZW,W_ a];rfl;rw[WL (by rw[hl];exact Zw a),WL (by rw[XN,v];exact Zw a)];obtain⟨g,t,N,O⟩:=u k a;rw[d k a];exact nT g t N
end
section
variable{K:Frag}{C CN:DL}{G:pi}{H Z:Hp}{Q:VK}{E:XK}{c p I J v:DL}{M x s as':db}{U B d j:Nat}{Y z R P:ac}{X g:sB}{F:List bn}{n:Nat}
theorem wc{m:Str}(s:Sp)(A:aM C H c M x B Y au P T)(d:u[i]?=some (some<|.r c))(b:Γ.ms k=(C,s))(n:¬m="here")(l:¬m="lengths")(j:¬m="parents")(g:¬m="edges")(f:¬m="below")(e:¬m="last_gone")(h:ae Γ a u H λy W=>s [.r c,y] W Q Γ.E):ae Γ (.a k m (.v i) [a]) u H Q:=by
 obtain⟨dx,lo,p,o,be,lg,q,F,A⟩:=X9 A;exact ko C s b<|af d ⟨c,dx,_,O,A.ob.ob,G5 n l j g f e,h⟩
theorem U4{m:Str}(s:Sp)(A:aM C H c M x B Y au P T)(d:u[i]?=some (some<|.r c))(b:Γ.ms k=(C,s))(n:¬m="here")(l:¬m="lengths")(j:¬m="parents")(g:¬m="edges")(f:¬m="below")(e:¬m="last_gone")(h:s [.r c] H Q Γ.E):ae Γ (.a k m (.v i) []) u H Q:=by
 obtain⟨dx,lo,p,o,be,lg,q,F,A⟩:=X9 A;exact tE C s b<|af d ⟨c,dx,_,O,A.ob.ob,G5 n l j g f e,h⟩
theorem Cv{t:Nat}(S:SV C G H c p I J v M x s U B Y z P X g F n)(y:z.length=Y.length)(L:U<Y.length)(e:d<Y.length)(b:n<=9)(K:u[i]?=some (some<|.r c))(h:u[j]?=some (some<|.r p))(D:u[t]?=some (some<|.i (d:Nat)))(E:Γ.ms k=(C,rJ C))(N:Γ.fs f=rN C)(q:∀(w:DL)(ps:bn)(Z:Hp),SV C G Z c p I J v M x s d d Y (iB Y (dz Y U d) z) (rC Y (dz Y B d) P) X g F n->Lp Z w ps->Ld g B d ps->w∉M/\w∉x/\w∉ [p,I,J,v]/\w∉s/\(∀o,¬G w o)->Q (.r w) Z):ae Γ (.a k "go" (.v i) [(.l f [.v j,.v t])]) u H Q:=
 wc (rJ C) S.hi K E (by decide+kernel) (by decide+kernel) (by decide+kernel) (by decide+kernel) (by decide+kernel) (by decide+kernel) (bE (rN C) N<|av<|af h<|av<|af D<|aI ⟨G,c,p,I,J,v,M,x,s,U,B,d,Y,z,P,X,g,F,n,O,S,y,L,e,b,λH1 R=>UY R b e λw ps Z W W T h A m=>q w ps Z T h A m⟩)
theorem Ir(n:am)(v:ac):(iB Y n v).length=v.length:=RB _ _
inductive Iu(C:DL)(vs:ci)(H:Hp)(Q:VK)(E:XK):Prop|i(G:pi)(c p I J v:DL)(M x s:db)(B:Nat)(Y z P:ac)(g:sB)(F:List bn)(n:Nat)(_:vs=[.r c,.r p])(_:SV C G H c p I J v M x s B B Y z P g g F n)(_:z.length=Y.length)(_:n<=9)(_:∀Z,Q (.b true) Z)
abbrev U5(K:Frag)(C:DL)(E:XK):bu:=aH K [("_law_followed",rM),("_law_moved",rN C)] [] [] [("go",C,rJ C),("size",C,G6 C)] (E:=E)
noncomputable def viB:gu:=[.a 5 (.i (.B (.v 1) (.c (.s "named"))) (.v 4)),
  .a 6 (.l 0 [(.i (.B (.v 1)<|.c<|.s "named")<|.v 2),(.a 0 "go" (.v 0) [(.l 1 [.v 1,.v 4])]),.v 5]),
  .i (.o [(.p .Is (.v 6)<|.c .a),(.p .NotEq (.v 6)<|.v 5),(.p .NotEq (.a 1 "size" (.v 0) [.v 4])<|.t .l [.v 5])]) [.r<|.c<|.b false] [],
  .i (.p .NotEq (.l 0 [.v 5,(.a 0 "go" (.v 0) [(.l 1 [.v 1,.v 2])]),(.i (.B (.v 1) (.c (.s "named"))) (.v 2))]) (.i (.B (.v 1) (.c (.s "named"))) (.v 2))) [.r (.c (.b false))] []]
theorem SV.row(S:SV C G H c p I J v M x s U B Y z P g g F n)(h:d<Y.length):∃a b,s[d]?=some a/\Lr H a b/\g.getD d []=b/\b.length<=24+320*n/\∀r∈b,lV r:=by
 obtain⟨b,f,e,Z,l⟩:=S.at h;obtain⟨a,i,L⟩:=Uv S.le f;exact o4 a b i L e l (S.Il<|Wv f)
theorem jV{a:DL}(h:s[d]?=some a):fU (s.map V.r) ((d:Nat):Int)=some (.r a):=dv (by rw[ZW,h];rfl)
theorem SV.mZ(S:SV C G H c p I J v M x s U B Y z P g g F n){a:DL}{b:Rows}(h:s[d]?=some a)(e:g.getD d []=b):Lr H a b:=by
 obtain⟨r,U,L⟩:=tS S.le h;rw[WK,U] at e;cases e;exact L
theorem als{Q:V}(S:SV C G H c p I J v M x s B B Y z P g g F n)(ll:z.length=Y.length)(hn:n<=9)(k:X'<Y.length)(q:∀R bM Z u5 u6,SV C G Z c p I J v M x s B B Y R bM g g F n->R.length=Y.length->D.nx [some<|.r c,some<|.r p,some<|.i (B:Nat),some Q,some<|.i (X':Nat),u5,u6] Z):
  ax (U5 K C E) viB D [some<|.r c,some<|.r p,some<|.i (B:Nat),some Q,some<|.i (X':Nat),u5,u6] H:=by
 obtain⟨T,o,U,U⟩:=Xn (aM.bP S.hi);obtain⟨a1,d,e,oj,t,l1,lN⟩:=S.row o;obtain⟨a2,a,u,pN,f,l2,nY⟩:=S.row k;refine aN<|bh<|cz O S.R.r kQ<|af O<|cK S.R.i (jV u) ?_;refine aN<|bE rM O<|av<|bh<|cz O S.R.r kQ<|af O<|cK S.R.i (jV e)<|av<|Cv S ll o k hn O O O O O λw ps H1 N ⟨xs,hw,pv,ok⟩ ld no=>av (af O<|aI ?_);have Iv:Wk (· ∈d.map nm) (· ∈a.map nm) (ak ps) d a:=by lia
 refine⟨a1,w,a2,d,a,a,ps,xs,O,N.mZ e t,N.mZ u f,hw,pv,ok,Iv,λU=>No,O,ap,ap,ap,λb W s2 fb hb=>?_⟩;have j:=N.same s2;have h2:=j.mZ u f;obtain⟨vs,hv,oB⟩:=id h2;have lv:=KB oB;refine cx<|Bi<|bf<|af O<|aC ⟨O,_,O,iF ?_ O⟩;refine Bi<|bf<|af O<|af O<|Uz hb h2 nY ⟨_,O,iF ?_ O⟩;obtain⟨dx,lo,pa,ed,be,lg,bs,ev,A⟩:=X9 (id j.hi);refine FT<|bf<|wc (G6 C) j.hi O O (by decide+kernel) (by decide+kernel) (by decide+kernel) (by decide+kernel) (by decide+kernel) (by decide+kernel)<|af O ⟨c,dx,lo,pa,ed,be,lg,X',_,Y,X',a.length,O,A.ob,?_,gw<|af O<|.inl ⟨_,ah.of hv,tG ⟨_,O,iF (d9 ?_) ?_⟩⟩⟩;obtain⟨rs,hx,er,U⟩:=j.at k;rw[ZW,kR hx];rw[er] at f;rw[f];exact IN some<|iZ a;have U6:(iB Y (dz Y B X') z).length=Y.length:=by rw[Ir];exact ll
 refine cx<|bf<|bE rM O<|av<|af O<|av<|Cv j U6 k o hn O O O O O λw2 t_ H3 h ⟨ip,yU,m,L⟩ BS a'=>av (bh<|cz O h.R.r kQ<|af O<|cK h.R.i (jV e)<|aI ?_);have y:Wk (· ∈a.map nm) (· ∈d.map nm) (ak t_) a d:=by lia
 refine⟨a2,w2,a1,a,d,d,t_,ip,O,h.mZ u f,h.mZ e t,yU,m,L,y,λU=>No,O,ap,ap,ap,λb4 H4 s4 b' BW=>?_⟩;have l:=h.same s4;refine bh<|cz O l.R.r kQ<|af O<|cK l.R.i (jV e)<|Uz BW (l.mZ e t) lN ⟨_,O,iF ?_ O⟩;exact q _ _ _ _ _ l (by rw[Ir];exact U6);rw[lv];simp
theorem alx:bS (Iu C) (λE=>U5 K C E) Uj Ui:=by
 intro vs H Q E h;obtain⟨G,c,p,I,J,v,M,x,s,B,Y,z,P,g,F,n,rfl,S,ll,hn,q⟩:=h;obtain⟨T,hh,_,_⟩:=aM.bP S.hi;have sz:=S.sz;have d:=(KB S.le).trans S.D.L;refine aN<|cz O S.R.r Cr (aN<|gw<|cz O S.R.r kQ<|.inl ⟨_,ah.of S.R.i,?_⟩);rw[XN,d];refine GU<|Sa<|af O ⟨((Y.length:Nat):Int),O,ap,ap,AJ ap (λi N W=>W=H/\N=iV ((List.range i).map λk=>(B+k) % Y.length)) ⟨O,O⟩ ?_ ?_⟩;rintro i N W hi s2 ⟨rfl,rfl⟩ Q' q';have dq:i<Y.length:=by lia
 refine c7<|c7<|af O<|af O<|FU<|af O ⟨ap,q' _ _ (ar.refl _) ⟨O,?_⟩⟩;rw[YL];unfold iV;rw[Z3,Z3];show _++[V.i<|(((B:Nat):Int)+(0+(i:Int))) % ((Y.length:Nat):Int)]=_++[V.i (((B+i) % Y.length:Nat):Int)];rw[show((B:Nat):Int)+(0+(i:Int))=((B+i:Nat):Int) by lia,Int.natCast_emod];rintro N W b s2 ⟨rfl,rfl⟩ fb;have S1:=S.more (o:=.l (iV<|(List.range Y.length).map λk=>(B+k) % Y.length)) fb (Xq fb) aj;have hk:∀{Z:Hp}{R d:ac},SV C (λa e=>G a e\/a=b/\e=HO.l (iV<|(List.range Y.length).map λk=>(B+k) % Y.length)) Z c p I J v M x s B B Y R d g g F n->Z b=some (.l<|iV<|(List.range Y.length).map λk=>(B+k) % Y.length):=λS=>(S.kp b _<|.inr ⟨O,O⟩).1;refine nW b O (o3 _ (ah.of<|hk S1)) (kT (λi u j=>∃R d A w t,u=[some<|.r c,some<|.r p,some<|.i (B:Nat),some<|.i (Y.length:Nat),A,w,t]/\SV C (λa e=>G a e\/a=b/\e=HO.l (iV<|(List.range Y.length).map λk=>(B+k) % Y.length)) j c p I J v M x s B B Y R d g g F n/\R.length=Y.length) (o3 z ⟨P,none,none,none,O,S1,ll⟩) (λi u j _ ⟨_,_,_,_,_,_,f,_⟩=>ah.of (hk f)) ?_ ?_);rintro i y u j X zq;obtain⟨R,d,A,w,t,zq⟩:=Yj zq;obtain⟨rfl,f,U⟩:=Xb zq;rw[ZW,ZW] at X;obtain⟨k,Ct,rfl⟩:=ZX.mp X;obtain⟨m,hm,rfl⟩:=ZX.mp Ct;exact als f U hn (Nat.mod_lt _ (Wn (Ww _) hh)) λjW jX H8 v5 v6 S8 l8=>o3 jW ⟨jX,_,v5,v6,O,S8,l8⟩;rintro u j ⟨R,d,A,w,t,rfl,f,U⟩;exact di<|aC<|q _
end
end
section
theorem aly{Q:wl}(h:ae Γ a u H λx H1=>ae Γ b u H1 λy W=>sx Γ.K true x y W λz c=>∃k,z=.b k/\Q k c):aR Γ (.y a b) u H Q:=h
section
variable{K:Frag}{H Z:Hp}{Q:VK}{E:XK}{a:DL}{f:Rows}
noncomputable def wd(r:cE):Db×V:=([r.1,.inl (r.2.1:Int)],.s ⟨#[r.2.2]⟩)
theorem alz(h:bN H vs f):Paired (Ia H) vs (f.map wd):=by
 induction h with
 |nil=>exact .nil
 |cons h Y i=>
  obtain⟨t,n,zq⟩:=XU h;obtain⟨e,b,a⟩:=Xb zq;exact .cons ⟨t,n,e,b,a⟩ i
theorem alA:∀(f:Rows),(∀n:Nm,(cm (Ck<|f.map wd) [n.1,.inl (n.2:Int)]).isSome=decide (n∈f.map nm))/\(Ck<|f.map wd).length<=f.length:=by
 have:∀(f:Rows)(D:io)(c:wT),(∀n:Nm,(cm D [n.1,.inl (n.2:Int)]).isSome=decide (n∈c))->D.length<=c.length->(∀n:Nm,(cm ((f.map wd).foldl (λd r=>Yx d r.1 r.2) D) [n.1,.inl (n.2:Int)]).isSome=decide (n∈c++f.map nm))/\((f.map wd).foldl (λd r=>Yx d r.1 r.2) D).length<=c.length+f.length:=by
  intro f;induction f with
  |nil=>intro D c h l;simp only[zbt,Y3,List.foldl_nil];exact⟨h,l⟩
  |cons r f i=>
   intro D c h l;have p:=UA D [r.1,(.inl (r.2.1:Int):We)] (.s ⟨#[r.2.2]⟩);obtain⟨a,b⟩:=i (Yx D [r.1,.inl (r.2.1:Int)]<|.s ⟨#[r.2.2]⟩) (c++[nm r]) (λn=>UB (nm r) h n) (by rw[W0];show _<=_+1;exact wO p (h_ l _));refine⟨λn=>?_,?_⟩;have:=a n;rw[VD] at this;exact this;rw[W0] at b;show _<=_+(f.length+1);have:([nm r]:wT).length=1:=O;exact wO b ap
 intro f;obtain⟨a,b⟩:=this f [] [] (λn=>O) (VL _);rw[VO,VF] at b;exact⟨a,b⟩
theorem Iw(h:ae Γ x u H λv H1=>y2 Γ.K [v] H1 Q):ae Γ (.x uc [x]) u H Q:=h
theorem Iy(h:Lr H a f)(q:∀d D W,ar H W->H d=none->DN W d (f.map nm) D->Q (.r d) W):y2 K [.r a] H Q:=by
 obtain⟨vs,c,v⟩:=h;obtain⟨e,g⟩:=alA f;exact⟨a,vs,f.map wd,O,c,alz v,λd b=>q d _ _ (Xq b) b ⟨aj,e,by rw[XN];exact g⟩⟩
def Yi(H:Hp)(l:db)(a:DL)(o:HO):Prop:=H a=some o/\((∃N,o=.t N)\/a∈l)
variable{C:DL}{A:pi}{l p s v w:DL}{M F G:db}{I B d:Nat}{Y J P:ac}{R U:sB}{X:List bn}{n:Nat}{g:db}
theorem SV.kt(S:SV C A H l p s v w M F G I B Y J P R U X n)(h:∀a∈g,a∉M/\a∉ [p,s,v,w]):SV C (λa o=>A a o\/Yi H g a o) H l p s v w M F G I B Y J P R U X n:=by
 refine⟨S.hi,S.ep,S.D,S.R,S.le,S.dj,S.da,λa o k=>k.elim (S.kp a o) ?_,S.gd,S.sz,S.ll⟩;rintro⟨e,⟨N,rfl⟩|z⟩;refine⟨e,λm=>?_,λm=>?_⟩;obtain⟨o,b,c⟩:=(aM.bP S.hi).2.2.2 a m;rw[e] at b;cases b;exact c _ O;obtain⟨o,b,c⟩:=S.R.live a m;rw[e] at b;cases b;exact c _ O;exact⟨e,h a z⟩
theorem Iz(h:∀a o,Yi H g a o->Z a=some o):bR H Z:=λa N e=>h a _ ⟨e,.inl ⟨N,O⟩⟩
theorem za(h:∀a o,Yi H g a o->Z a=some o)(L:Lr H a f)(m:a∈g):Lr Z a f:=L.keep (λo e=>h a o ⟨e,.inr m⟩) (Iz h)
theorem alB{d:DL}{n:wT}{D:io}(h:∀a o,Yi H g a o->Z a=some o)(L:DN H d n D)(m:d∈g):DN Z d n D:=⟨h _ _ ⟨L.h,.inr m⟩,L.v,L.l⟩
abbrev wg(H:Hp)(a:DL)(n:wT):Prop:= ∃vs,H a=some (.l vs)/\Paired (mY H) vs n
theorem alC(h:∀a o,Yi H g a o->Z a=some o)(L:wg H a ns)(m:a∈g):wg Z a ns:=by
 obtain⟨vs,c,d⟩:=L;refine⟨vs,h _ _ ⟨c,.inr m⟩,?_⟩;clear c;induction d with
 |nil=>exact .nil
 |cons e Y i=>
  obtain⟨b,j,f⟩:=e;exact .cons ⟨b,j,(Iz h) _ _ f⟩ i
theorem alD(h:Paired (mY H) vs ns):IsL H (ns.map iD) vs:=by
 induction h with
 |nil=>rfl
 |cons h Y i=>exact⟨_,_,O,Ie h,i⟩
theorem alE{n:DL}{r:cE}{d:wT}(C:u[i]?=some (some<|.r t))(B:u[j]?=some (some<|.r c))(p:H t=some (.t [.r n,.s ⟨#[r.2.2]⟩]))(w:H n=some (.t [kV r.1,.i (r.2.1:Nat)]))(A:wg H c d)(k:lV r)(o:∀x∈d,ug x.1)(q:QT (!bG d r) H):aR Γ (.y (.i (.v i)<|.c<|.i 0)<|.v j) u H QT:=by
 obtain⟨vs,m,l⟩:=A;have f:∀{x:Nm},ug x.1->SeqAt.shaped (iD x)=true:=λ{x} h=>by
  obtain⟨a,b⟩:=Ic h;unfold SeqAt.shaped;rw[a,b];rfl
 refine aly<|bh<|af C<|aC<|kq p O<|af B ⟨c,vs,iD<|nm r,d.map iD,O,ah.of m,Ie ⟨n,O,w⟩,alD l,f k.1,by rw[(Ic k.1).2];decide,λe z=>?_,_,O,?_⟩;obtain⟨x,g,rfl⟩:=Yc.mp z;exact f<|o x g;rw[akK,WI];exact q
end
end
section
section
variable{g:We}{S T:Nm->Prop}
theorem IA:∀(xs:im)(r:Rows)(m:Nat),∀x∈bJ g r m xs,x∈r\/x.1=g:=by
 intro xs;induction xs with
 |nil=>intro r m x h;cases h
 |cons y xs i=>
  intro r m x h;cases y with
  |P c=>
   have h:x∈ (g,m,c)::bJ g r (m+1) xs:=by cases r<;>exact h
   rcases xW.mp h with rfl|h
   exact .inr O;exact i _ _ x h
  |K=>
   cases r with
   |nil=>exact i _ _ x h
   |cons a r=>
    rcases xW.mp (show x∈a::bJ g r m xs from h) with rfl|h
    exact .inl (.head _);exact(i _ _ x h).imp (.tail _) id
  |C c=>
   cases r with
   |nil=>exact i _ _ x h
   |cons a r=>exact(i r m x h).imp (.tail _) id
theorem alG(w:∀x:Nm,x.1=g-> ¬S x):∀(xs:im)(r:Rows)(m:Nat),ZA (bF r) xs->(r.map nm).Nodup->(∀a∈r,S<|nm a)->(∀a∈bJ g r m xs,T<|nm a)->(∀a∈r,T (nm a)->nm a∈ (bJ g r m xs).map nm)->Wk S T xs r (bJ g r m xs):=by
 intro xs;induction xs with
 |nil=>
  intro r m f Y Y Y Y;have:=f;have e:=x4 (by rw[<-iZ,this];rfl);rw[e];exact⟨O,O⟩
 |cons y xs l=>
  intro r m f n d i k;cases y with
  |P c=>
   refine o4 _ _ O O (w _ O) (i _<|.head _) (l r (m+1) f n d (λa j=>i a<|.tail _ j) λa j t=>?_);rcases xW.mp (k a j t) with z|z
   cases w _ (z▸O) (d a j);exact z
  |K=>
   cases r with
   |nil=>exact f.elim
   |cons a r=>
    rw[AP,Y8] at n;refine pG a r _ O O (d a<|.head _) (i a<|.head _) (l r m f n.2 (λb h=>d b<|.tail _ h) (λb h=>i b<|.tail _ h) λb h t=>?_);rcases xW.mp (show nm b∈nm a::(bJ g r m xs).map nm from k b (.tail _ h) t) with z|z
    cases n.1 (Yc.mpr (nT b h z));exact z
  |C c=>
   cases r with
   |nil=>exact f.elim
   |cons a r=>
    rw[AP,Y8] at n;refine o4 a r O f.1 (d a<|.head _) (λt=>?_) (l r m f.2 n.2 (λb h=>d b<|.tail _ h) i λb h t=>k b (.tail _ h) t);obtain⟨b,h,e⟩:=Yc.mp (show nm a∈ (bJ g r m xs).map nm from k a (.head _) t);rcases IA xs r m b h with z|z
    exact n.1 (Yc.mpr (nT b z e));exact w (nm a) (e▸z) (d a<|.head _)
theorem U7{l:Rows}(r:ym (bF l) ps q)(n:(l.map nm).Nodup)(c:∀a∈l,a.1≠g):Wk (· ∈l.map nm) (· ∈ (bJ g l 0<|ak ps).map nm) (ak ps) l (bJ g l 0<|ak ps)/\((bJ g l 0<|ak ps).map nm).Nodup/\bF (bJ g l 0<|ak ps)=q:=by
 obtain⟨f,o⟩:=r.fits;have w:=alG (λx e h=>by
  obtain⟨a,b,rfl⟩:=Yc.mp h;exact c a b e) _ l 0 f n (λa b=>ZF b) (λa b=>ZF b) λa Y h=>h
 exact⟨w,(afo r g l 0 (iZ l) n c).1,(UZ w).2.symm.trans o⟩
end
section
variable{c:sB}{k:Nat}{g:bn}{m f:Nm->Prop}[DecidablePred m][DecidablePred f]{e p r l:Rows}{n:wT}
structure IB(e p r l:Rows)(L:wT):Prop where
 IC:∀x,x∈ (e++p.filter (bG L)).map nm↔x∈r.map nm
 fl:(e++p.filter (bG L)).filter (nw l)=r.filter (nw l)
 i1:p.filter (bG L)=r.filter (bG L)
 i2:e.filter (bG<|e.map nm)=r.filter (bG<|e.map nm)
theorem alH(N:∀x,f x-> ¬aU c k x)(X:∀x,f x↔x∈e.map nm)(j:∀x,f x->x∈l.map nm)(o:∀x,x∈n↔m x)(F:FL c m f e k g r):IB e (c.getD k []) r l (((c.getD k []).filter λa=> !bG n a).map nm):=by
 have t:∀x,x∈ ((c.getD k []).filter λa=> !bG n a).map nm↔aU c k x/\ ¬m x:=λx=>by
  constructor;intro h;obtain⟨a,b,rfl⟩:=Yc.mp h;obtain⟨i,d⟩:=ZK.mp b;refine⟨ZF i,λz=>?_⟩;have:=(o _).mpr z;simp[bG,this] at d;rintro⟨i,d⟩;obtain⟨a,b,rfl⟩:=Yc.mp i;refine ZF<|ZK.mpr ⟨b,?_⟩;have:¬nm a∈n:=λz=>d ((o _).mp z);simp[bG,this]
 generalize ((c.getD k []).filter λa=> !bG n a).map nm=L at t⊢
 haveI:DecidablePred (S2 c m f k):=λx=>by unfold S2;exact inferInstance
 have s:(c.getD k []).filter (bG L)=(c.getD k []).filter λa=>decide (S2 c m f k<|nm a):=Z1 λa b=>by
  have h:aU c k (nm a):=ZF b;unfold bG;rw[YV,t];exact⟨.inl,λz=>z.resolve_right λy=>N _ y h⟩
 have v:r.filter (bG L)=r.filter λa=>decide (aU c k<|nm a):=Z1 λa b=>by
  unfold bG;rw[YV,t];refine⟨(·.1),λz=>?_⟩;rcases (yP F.w).2 a b with y|y
  exact y;cases N _ y z
 have q:(c.getD k []).filter (bG L)=r.filter (bG L):=by rw[s,v];exact HB F.w
 have u:r.filter (bG<|e.map nm)=e:=by
  have:r.filter (bG<|e.map nm)=r.filter λa=>decide (f<|nm a):=Z1 λa Y=>by
   unfold bG;rw[YV];exact(X _).symm
  rw[this];exact F.p
 refine⟨λx=>?_,?_,q,?_⟩;rw[Z3,X0,U2 X F x,s];constructor;rintro(h|h);exact .inr ((X x).mpr h);obtain⟨a,b,rfl⟩:=Yc.mp h;exact Re (ZK.mp b).2;rintro(⟨h,d⟩|h);obtain⟨a,b,rfl⟩:=Yc.mp h;exact .inr<|ZF<|ZK.mpr ⟨b,Z2<|.inl ⟨h,d⟩⟩;exact .inl ((X x).mp h);rw[YM,q];have z:e.filter (nw l)=[]:=Wj.mpr λa b=>by
  have:=j _ ((X _).mpr<|ZF b);simp[nw,this]
 rw[z,List.filter_filter];refine Z1 λa b=>?_;by_cases y:nm a∈l.map nm;simp[nw,y];have:bG L a=true:=by
  refine Z2<|(t _).mpr ?_;rcases (yP F.w).2 a b with w|w
  exact w;cases y (j _ w)
 simp[nw,y,this];rw[u];exact Ws.mpr λa b=>Z2 (ZF b)
end
end
section
section
variable{K:Frag}{C CN:DL}{v:pi}{H Z:Hp}{Q:VK}{E:XK}{e l A I J:DL}{M P m X:db}{hr B d j:Nat}{Y g s R:ac}{F G:sB}{U:List bn}{n:Nat}
abbrev ID(K:Frag)(C:DL)(E:XK):bu:=aH K [("_law_change",yY),("_law_signs",ui),("_law_gone",xU),("_law_followed",rM),("_law_moved",rN C),("_law_in_order",Cp)] [] [] [("foreign",C,HD C),("go",C,rJ C)] (E:=E)
def U8:gu:=[.a 11 (.i (.B (.v 1) (.c (.s "named"))) (.v 10)),
  .i (.p .NotEq (.v 10) (.v 4)) [.a 12 (.x uc [(.C none [("_law_cut",8)] .l [.v 11] (some (.y (.i (.v 0) (.c (.i 0))) (.v 1))) (.v 0))]),
   .a 13 (.b .Add (.v 9)<|.C none [("_law_left",12)] .l [.v 11] (some<|.I (.i (.v 0)<|.c<|.i 0)<|.v 1)<|.v 0),
   .a 14 (.l 3 [.v 6,(.a 1 "go" (.v 0) [(.l 4 [.v 1,.v 10])]),.v 13]),
   .i (.o [(.p .Is (.v 14)<|.c .a),(.N<|.l 5 [.v 11,.v 14,.v 12])]) [.r<|.c<|.b false] [],
   .i (.N<|.l 5 [.v 9,.v 14,(.x uc [.v 9])]) [.r<|.c<|.b false] [],
   .s (.B (.v 1)<|.c<|.s "named") (.v 10) (.v 14),
   .d (.a 1 "go" (.v 0) [(.l 4 [.v 1,.v 4])])] []]
structure U9(v:pi)(H0:Hp)(fF ct pu:DL)(fresh Pu:Rows)(bV:wT):Prop where
 k:∀a o,Yi H0 [fF,ct,pu] a o->v a o
 f:Lr H0 fF fresh
 c:wg H0 ct bV
 p:Lr H0 pu Pu
theorem alI{d j r:Rows}{u:wT}(S:SV C v H e l A I J M P m B B Y g R F G U n)(RG:dS Y B g R)(hn:n<=9)(FK:U9 v H0 fF ct pu d Pu u)(hi:i<Y.length)(ho:F[i]?=some j)(er:G.getD i []=r)(ef:G.getD B []=d)(lN:∀x∈j,lV x)(nY:∀x∈Pu,lV x)(IE:∀x∈u,ug x.1)(lo:j.length<=3000)(lp:Pu.length<=3000)(lf:d.length<=3000)(lr:r.length<=3000)(FM:IB Pu j r d ((j.filter λa=> !bG u a).map nm))(q0:i=B->∀jB,D.nx [some<|.r e,some<|.r l,x2,x3,some<|.i (B:Nat),x5,some<|.r fF,x7,some<|.r ct,some<|.r pu,some<|.i (i:Nat),jB,jb,jc,rO] H)(q:i≠B->∀b s L Z jB jb jc rO,SV C v Z e l A I J M P (m.set i b) B B Y s L (F.set i r) G U n->dS Y B s L->D.nx [some<|.r e,some<|.r l,x2,x3,some<|.i (B:Nat),x5,some<|.r fF,x7,some<|.r ct,some<|.r pu,some<|.i (i:Nat),jB,jb,jc,rO] Z):
  ax (ID K C E) U8 D [some<|.r e,some<|.r l,x2,x3,some<|.i (B:Nat),x5,some<|.r fF,x7,some<|.r ct,some<|.r pu,some<|.i (i:Nat),jB,jb,jc,rO] H:=by
 obtain⟨T,hh,_,_⟩:=Xn (aM.bP S.hi);obtain⟨ao,eo,hL⟩:=Uv S.le ho;have kk:∀{Z:Hp}{M' cX X:db}{a' jY:Nat}{Q s L:ac}{l' bA:sB}{bj:List bn}{n':Nat}{um:pi},SV C um Z e l A I J M' cX X a' jY Q s L l' bA bj n'->(∀a o,v a o->um a o)->∀a o,Yi H0 [fF,ct,pu] a o->Z a=some o:=λS h a o k=>(S.kp a o<|h a o<|FK.k a o k).1;refine aN<|bh<|cz O S.R.r kQ<|af O<|cK S.R.i (jV eo) ?_;refine cx<|bf<|af O<|af O<|tG ⟨_,O,?_⟩;by_cases ih:i=B;exact iF (q0 ih _) (by simp[ih]);have q:=q ih;refine iT ?_ bd;obtain⟨vs,hv,oB⟩:=hL;have lv:=KB oB;have hC:=alC (kk S λ_ _ h=>h) FK.c aJ;refine aN<|Iw ?_;refine⟨_,O,ao,O,⟨_,ah.of hv⟩,pV (R:=fP H) (R':=fP H) (λa=> !bG u a) hv oB ap ?_ ?_⟩;rintro x r' k1 k2 hm ⟨t,n,rfl,h1,h2⟩ y z;refine alE O O h1 h2 hC (lN r' hm) IE ?_;cases w: !bG u r' with
 |true=>exact iT ⟨_,O,y w _ ⟨t,n,O,h1,h2⟩⟩ O
 |false=>exact iF (z w) O
 intro us b1 hu f';have s1:=Xq (o:=.l us) f';refine Iy (f:=j.filter λa=> !bG u a) ⟨us,aj,bN.mono (aX s1) hu⟩ λdl DD W s2 d' dn=>?_;have dG:=s1.trans s2;have S2:=S.same dG;have f0:H dl=none:=s1.free d';have AY:=dG _ _ hv;have k':=bN.mono (aX dG) oB;have c':=za (kk S2 λ_ _ h=>h) FK.p aJ;obtain⟨ws,hw,AW⟩:=c';have lw:=KB AW;refine aN<|c7<|af O ?_;refine⟨_,O,ao,O,⟨_,ah.of AY⟩,pV (R:=fP W) (R':=fP W) (bG<|(j.filter λa=> !bG u a).map nm) AY k' ap ?_ ?_⟩;rintro x r' k1 k2 hm ⟨t,n,rfl,h1,h2⟩ y z;refine Ig O O h1 h2 dn ?_;cases w:bG ((j.filter λa=> !bG u a).map nm) r' with
 |true=>exact iT ⟨_,O,y w _ ⟨t,n,O,h1,h2⟩⟩ O
 |false=>exact iF (z w) O
 intro N b2 hy e';have s3:=Xq (o:=.l N) e';have ly:=KB hy;have fl:=jL (bG<|(j.filter λa=> !bG u a).map nm) j;refine .inl ⟨pu,b2,ws,N,O,O,s3 _ _ hw,aj,cI ap,λb3 U_=>?_⟩;have s4:=Xq (o:=.l (ws++N)) U_;have jS:=s3.trans s4;have Va:Lr (upd (upd W b2<|.l N) b3<|.l<|ws++N) b3 (Pu++j.filter (bG<|(j.filter λa=> !bG u a).map nm)):=⟨_,aj,Paired.app (bN.mono (aX jS) AW)<|bN.mono (aX jS) hy⟩;have S4:=S2.same jS;have Vb:=uh dn jS;have f3:H b3=none:=(dG.trans s3).free U_;generalize upd (upd W b2<|.l N) b3 (.l<|ws++N)=H4 at jS Va S4 Vb⊢;have S5:=S4.kt (g:=[dl,b3]) λa ha=>by
  simp only[xW,Zz,Os] at ha;rcases ha with rfl|rfl
  exact⟨(S.no f0).1,(S.no f0).2.2.1⟩;exact⟨(S.no f3).1,(S.no f3).2.2.1⟩
 refine aN<|bE rM O<|av<|af O<|av<|Cv S5 RG.ll hh hi hn O O O O O λw ps H6 S6 ⟨xs,ku,pv,b'⟩ ld s'=>av (af O<|aI ?_);have p':=jA T RG hh hi;have k0:=kk S6 λ_ _ h=>.inl h;have k4:∀a o,Yi H4 [dl,b3] a o->H6 a=some o:=λa o k=>(S6.kp a o<|.inr k).1;have Iv:Wk (· ∈d.map nm) (· ∈r.map nm) (ak ps) d r:=by rw[<-er,<-ef];exact ld
 refine⟨fF,w,b3,d,r,_,ps,xs,O,za k0 FK.f aJ,za k4 Va aJ,ku,pv,b',Iv,FM.IC,FM.fl,(wO lf (XA _ _)),(wO lr (XA _ _)),by rw[W0];lia,λb H7 s7 fb hb=>?_⟩;have S7:=S6.same s7;have h':=uh (alB k4 Vb aJ) s7;have j':∀{Z:Hp}{um:pi}{a' jY:Nat}{s L:ac},SV C um Z e l A I J M P m a' jY Y s L F G U n->Lr Z ao j:=λS=>by
  obtain⟨x,hx,hL⟩:=tS S.le eo;rw[ho] at hx;cases hx;exact hL
 have nb:=S6.no fb;refine cx<|Bi<|bf<|af O<|aC ⟨O,_,O,iF ?_ O⟩;refine FT<|qL<|sX Cp O<|av<|af O<|av<|af O<|av<|af O<|aI ⟨ao,b,dl,j,r,_,DD,O,j' S7,hb,h',(wO lo (XA _ _)),(wO lr (XA _ _)),FM.i1,lN,λH8 s8=>qK<|iF (d9 ?_) O⟩;have S8:=S7.same s8;have yE:=hb.same s8;have Vc:=za (kk S8 λ_ _ h=>.inl h) FK.p aJ;refine cx<|qL<|sX Cp O<|av<|af O<|av<|af O<|av<|Iw<|af O<|Iy Vc λd2 D2 H9 s9 f9 g'=>aI ⟨pu,b,d2,Pu,r,_,D2,O,Vc.same s9,yE.same s9,g',(wO lp (XA _ _)),(wO lr (XA _ _)),FM.i2,nY,λCd Ce=>qK<|iF (d9 ?_) O⟩;have Cw:=(S8.same s9).same Ce;have i':=(yE.same s9).same Ce;have L:m.length=F.length:=KB Cw.le;have il:i<m.length:=by rw[L];exact(Wq.mp ho).1
 refine pJ<|af O<|cz O Cw.R.r kQ<|af O ⟨A,_,_,i,O,O,Cw.R.i,gO (by rw[XN];exact il),?_⟩;have em:(m.map V.r).set i (V.r b)=(m.set i b).map V.r:=by rw[V_]
 rw[em];have o':=Cw.putN (i:=i) i' ⟨nb.1,nb.2.2.1⟩;refine dP<|Cv o' (by rw[Ir];exact RG.ll) hi hh hn O O O O O λw2 t_ q' m' _ _ _=>?_;exact q b _ _ q' _ _ _ _ (m'.less λ_ _ h=>.inl h)<|jA T p' hi hh
end
end
theorem oi.up(h:oi H es Y au T)(t:T<=m):oi H es Y au m:=λi j e=>by
 obtain⟨a,ps,l,b,zq⟩:=ZO (h i j e);obtain⟨k,g,f,d,c⟩:=ZE zq;exact⟨a,ps,l,b,k,g,f,d,wO c t⟩
theorem aM.up{a:Nat}(A:aM C H p M Ed B Y au l T)(h:T<=a):aM C H p M Ed B Y au l a:=by
 obtain⟨dx,lo,b,e,be,lg,s,es,A⟩:=X9 A;exact qC dx lo b e be lg s es ⟨A.ob,A.K,A.u,A.R,A.le,A.U,A.S,A.ev.up h,A.en,A.D,A.P,A.hk,A.y,A.Q⟩
section
section
variable{S T:Nm->Prop}{e:im}
theorem alY [DecidablePred S]:∀{l r:Rows},Wk S T e l r->(r.filter λa=> !decide (S<|nm a)).length<=cnt e:=by
 induction e with
 |nil=>rintro l r ⟨rfl,rfl⟩;exact VL _
 |cons x e i=>
  cases x with
  |K=>
   rintro l r ⟨a,d,b,rfl,rfl,s,t,h⟩;rw[YT ap];exact i h
  |P c=>
   rintro l r ⟨a,b,rfl,Y,s,t,h⟩;rw[iX ap];exact Nat.succ_le_succ<|i h
  |C c=>
   rintro l r ⟨a,d,rfl,Y,s,t,h⟩;exact wO (i h)<|Yr _
theorem alZ [DecidablePred S]:∀{l r:Rows},Wk S T e l r->r.length<=l.length+(r.filter λa=> !decide (S<|nm a)).length:=by
 induction e with
 |nil=>rintro l r ⟨rfl,rfl⟩;exact VL _
 |cons x e i=>
  cases x with
  |K=>
   rintro l r ⟨a,d,b,rfl,rfl,s,t,h⟩;rw[YT ap];have:=i h;simp;lia
  |P c=>
   rintro l r ⟨a,b,rfl,Y,s,t,h⟩;rw[iX ap];have:=i h;simp;exact h_ this _
  |C c=>
   rintro l r ⟨a,d,rfl,Y,s,t,h⟩;have:=i h;simp;lia
end
section
variable{C:DL}{t:pi}{H Z:Hp}{m v E G I:DL}{M P J:db}{B:Nat}{Y K s:ac}{l:sB}{q:List bn}{n:Nat}
theorem SV.who(S:SV C t H m v E G I M P J hr B Y K s g l q n){a:cE}(h:a∈l.getD k []):a.1≠ .inl ((n+3:Nat):Int):=λz=>by
 by_cases b:k<l.length;have e:=Xd b;rw[WK,e] at h;rcases (S.gd _<|Wv e).2.2 a h with w|⟨j,w,c⟩
 rw[w] at z;cases z;rw[w] at z;cases z;lia;rw[uo (Zw b)] at h;cases h
structure pY(l:sB)(B:Nat)(who:We)(ps:bn)(fresh:Rows)(bV:wT)(Pu:Rows):Prop where
 w:Wk (aU l B) (· ∈fresh.map nm) (ak ps) (l.getD B []) fresh
 nd:(fresh.map nm).Nodup
 c:bV=((l.getD B []).filter<|nw fresh).map nm
 p:Pu=fresh.filter λa=>decide (a.1=who)
 sb:∀x∈fresh,x∈l.getD B []\/x.1=who
variable{p:We}{X:bn}{U w:Rows}{R:wT}
theorem pY.facts(F:pY l B p X U R w)(i:∀k,∀a∈l.getD k [],a.1≠p):(∀x k,x∈w.map nm-> ¬aU l k x)/\(∀x,x∈w.map nm->x∈U.map nm)/\(∀x,x∈R->aU l B x)/\(w.map nm).Nodup/\FL l (· ∈R) (· ∈w.map nm) w B X U/\(∀x∈w,x.1=p):=by
 have f:∀x∈w,x∈U/\x.1=p:=λx h=>by
  rw[F.p] at h;obtain⟨a,b⟩:=ZK.mp h;exact⟨a,Re b⟩
 have m:∀a∈U,(nm a∈w.map nm↔a.1=p):=λa d=>by
  constructor;intro h;obtain⟨b,g,e⟩:=Yc.mp h;have:=(f b g).2;have n:b.1=a.1:=IN (λx:Nm=>x.1) e;rw[<-n];exact this;intro h;rw[F.p];exact ZF<|ZK.mpr ⟨d,Z2 h⟩
 refine⟨λx k h z=>?_,λx h=>?_,λx h=>?_,?_,⟨alh (λx=>?_) F.w,?_⟩,λx h=>(f x h).2⟩;obtain⟨a,d,rfl⟩:=Yc.mp h;obtain⟨b,g,e⟩:=Yc.mp z;exact i k b g<|(IN (λx:Nm=>x.1) e).trans (f a d).2;obtain⟨a,d,rfl⟩:=Yc.mp h;exact ZF (f a d).1;rw[F.c] at h;obtain⟨a,d,rfl⟩:=Yc.mp h;exact ZF (ZK.mp d).1;rw[F.p];exact F.nd.sublist<|List.filter_sublist.map nm;constructor;intro h;obtain⟨a,d,rfl⟩:=Yc.mp h;rcases F.sb a d with z|z
 refine .inl ⟨ZF z,λy=>?_⟩;rw[F.c] at y;obtain⟨b,g,e⟩:=Yc.mp y;have:=(ZK.mp g).2;rw[nw,e] at this;simp[h] at this;exact .inr ((m a d).mpr z);rintro(⟨h,j⟩|h);obtain⟨a,d,rfl⟩:=Yc.mp h;refine Decidable.byContradiction λz=>j ?_;rw[F.c];exact ZF<|ZK.mpr ⟨d,ap⟩;obtain⟨a,d,rfl⟩:=Yc.mp h;exact ZF (f a d).1;rw[F.p];refine Z1 λa d=>?_;rw[YV,<-F.p];exact m a d
theorem SV.foreign(S:SV C t H m v E G I M P J B B Y K s l l q n)(hn:n<=8)(F:pY l B (.inl ((n+3:Nat):Int)) X U R w)(tp:aq X<=320)(b:aS M H Z)(hM:∀y∈M',y∈M\/H y=none)(hE:∀y∈cX,H y=none)(A:aM C Z m M' cX B Y mQ s (320*n))(EP:dU Z cX (λi e=>∀j gj gi rj ri,Y[i]?=some (some j)->Gt Y B q X j gj->Gt Y B q X i gi->FL l (· ∈R) (· ∈w.map nm) w j gj rj->FL l (· ∈R) (· ∈w.map nm) w i gi ri->Wk (S2 l (· ∈R) (· ∈w.map nm) j) (S2 l (· ∈R) (· ∈w.map nm) i) (ak e) rj ri))(hk:∀k,k<Y.length->∃g lk W,(Gt Y B q X k g/\∃r,FL l (· ∈R) (· ∈w.map nm) w k g r)/\(l.map bF)[k]?=some lk/\mQ[k]?=some W/\iU g lk W):
  ∃Q bj,SV C t Z m v E G I M' cX J B B Y K s l Q bj (n+1)/\Q.getD B []=U/\∀k,k<Y.length->∃g,FL l (· ∈R) (· ∈w.map nm) w k g (Q.getD k []):=by
 obtain⟨T,hh,_,lv⟩:=Xn (aM.bP S.hi);obtain⟨_,_,kI,_⟩:=Xn (aM.bP A);obtain⟨hN,zb,hC,oN,hF,Vd⟩:=Yk (F.facts λk a h=>S.who h);have a':w.length<=320:=by
  have:=alY F.w;rw[vz] at this;rw[y9 (hN · B) hF] at this;exact wO this tp
 obtain⟨Q,bj,cn,E1,et,fl⟩:=alp S.D T hN (λ_=>No) oN EP kI λk p=>by
  obtain⟨g,lk,W,zq⟩:=XM (hk k p);obtain⟨⟨gt,r,f⟩,N,V,h3⟩:=Xn zq;refine oW g r gt f ?_;obtain⟨rs,hx,ex,_⟩:=S.at p;rw[kR hx] at N;cases N;obtain⟨_,o⟩:=UZ f.w;obtain⟨_,o'⟩:=h3.run.fits;rw[ex,o'] at o;rw[V,o]
 have eh:Q.getD B []=U:=by
  obtain⟨g,gt,f⟩:=fl B hh;have:=y8 T gt .o;subst this;exact y_ (hN · B) f hF
 have d:∀{a:DL}{o:HO},H a=some o->a∉M->a∉M':=λe h z=>(hM _ z).elim h λy=>by rw[y] at e;cases e
 have tu:bR H Z:=lv.bB b;rw[et] at A;refine oW Q bj ⟨A.up<|yH _ (Yr _),E1,cn,S.R.keep λa h o e=>b _ _ e (S.dj a h).1,uf S.le (λa h o e=>b a o e<|S.da a h) tu,λa u=>?_,λa u=>?_,λa o k=>?_,λrs kf=>?_,by have:=S.sz;exact hB this,by rw[cn.L,S.D.L]⟩ eh (λk p=>(fl k p).imp λ_ h=>h.2);obtain⟨o,e,_⟩:=S.R.live a u;exact⟨d e (S.dj a u).1,(λz=>by rw[hE a z] at e;cases e),(S.dj a u).2.2⟩;obtain⟨i,hi⟩:=WM.mp u;obtain⟨_,_,_,e,_⟩:=tS S.le hi;exact d e<|S.da a u;obtain⟨e,N,V⟩:=S.kp a o k;exact⟨b _ _ e N,d e N,V⟩;obtain⟨k,mD⟩:=WM.mp kf;have p:k<Y.length:=by rw[<-cn.L];exact(Wq.mp mD).1
 obtain⟨g,lk,W,zq⟩:=XM (hk k p);obtain⟨_,N,V,h3⟩:=Xn zq;obtain⟨g',_,f⟩:=fl k p;have ek:Q.getD k []=rs:=by rw[WK,mD];rfl
 rw[ek] at f;obtain⟨ro,hx,ex,go,lo⟩:=S.at p;rw[kR hx] at N;cases N;have e2:bF rs=W:=by
  rw[et,kR mD] at V;exact WV V
 have l3:=y9 (hN · k) f;have l4:=alZ f.w;rw[l3,ex] at l4;refine⟨⟨by rw[y3];lia,?_⟩,ap,λa u=>?_⟩;rw[oA,e2];have g2:=go.2;rw[oA] at g2;exact h3.run.good g2 λp0 m=>Qx (h3.ok p0 m);rcases (yP f.w).2 a u with⟨z,_⟩|z
 obtain⟨c,hc,e⟩:=Yc.mp z;have e1:c.1=a.1:=IN (λx:Nm=>x.1) e;rw[ex] at hc;rw[<-e1];rcases (S.gd _<|Wv hx).2.2 c hc with y|⟨j,y,hj⟩
 exact .inl y;exact .inr (nT j y ap);obtain⟨c,hc,e⟩:=Yc.mp z;have e1:c.1=a.1:=IN (λx:Nm=>x.1) e;rw[<-e1,Vd c hc];exact .inr (nT _ O ap)
end
end
section
section
variable{K:Frag}{C CN:DL}{I:pi}{H Z:Hp}{Q:VK}{E:XK}{F G J U X:DL}{M l m f:db}{hr B d j:Nat}{Y p v P:ac}{bg s:sB}{A:List bn}{n:Nat}
theorem al0(q:Q (.b<|decide<|k=.inl w) H):cp K .Eq (kV k) (.i w) H Q:=by
 cases k with
 |inl i=>
  have e:decide ((Sum.inl i:We)=.inl w)=decide (i=w):=by lia
  rw[e] at q;exact jP q
 |inr x=>exact q
theorem al1(h:ae Γ x u H λv H1=>∃a,v=.r a/\(∃xs,ah Γ.K H1 a xs)/\∃f:Nat->Nat->ci->Hp->Prop,(∃m,f 0 m [] H1)/\∀i m N W,f i m N W->
   ((eZ Γ.K a).stop i W/\∀p,W p=none->Q (.r p) (upd W p<|.l N))\/
   ((eZ Γ.K a).go i W/\∀x g,(eZ Γ.K a).gQ i W x g->jF Γ.K t x g λz=>k_ (xj Γ.calm c) (z.map some++b_ u fv) g λb j=>
    if b=true then ae Γ.calm e (z.map some++b_ u fv) j λy k=>N.length<sizeLine/\∃d,d<m/\f (i+1) d (N++[y]) k else ∃d,d<m/\f (i+1) d N j)):ae Γ (.C t fv .l [x] c e) u H Q:=h
theorem Y5{s:Rows}(h:Paired (λy r=>mY H y<|nm r) N s):Paired (mY H) N (s.map nm):=by
 induction h with
 |nil=>exact .nil
 |cons h Y i=>exact .cons h i
theorem mY.mono(t:bR H Z)(h:mY H v1 x):mY Z v1 x:=by
 obtain⟨b,e,h⟩:=h;exact⟨b,e,t _ _ h⟩
theorem Ve(t:bR H Z)(h:Paired (mY H) N ns):Paired (mY Z) N ns:=by
 induction h with
 |nil=>exact .nil
 |cons h Y i=>exact .cons (h.mono t) i
inductive IF(C:DL)(vs:ci)(H:Hp)(Q:VK)(E:XK):Prop|i(I:pi)(F G J U X:DL)(M l m:db)(B:Nat)(Y p P:ac)(s:sB)(A:List bn)(n:Nat)(c:Int)(_:vs=[.r F,.r G,.i c,.i ((n+3:Nat):Int)])(_:SV C I H F G J U X M l m B B Y p P s s A n)(_:dS Y B p P)(_:n<=8)(_:∀(g e f:db)(v a:ac)(d:sB)(j:List bn)(Z:Hp),SV C I Z F G J U X g e f B B Y v a d d j (n+1)->dS Y B v a->Q (.b true) Z)
theorem Tr{A:sB}(S:SV C I H F G J U X M l m B B Y p P s A bj n)(RG:dS Y B p P)(hn:n<=9)(FK:U9 I H0 fF ct pu h Pu bV)(ef:A.getD B []=h)(ol:∀(k:Nat)(rs:Rows),s[k]?=some rs->(∀x∈rs,lV x)/\rs.length<=3000)(nY:∀x∈Pu,lV x)(IE:∀x∈bV,ug x.1)(lp:Pu.length<=3000)(FM:∀k,k<Y.length->IB Pu (s.getD k []) (A.getD k []) h (((s.getD k []).filter λa=> !bG bV a).map nm))(q:∀f v bM Z,SV C I Z F G J U X M l f B B Y v bM A A bj n->dS Y B v bM->Q (.b true) Z):
  ax (ID K C E) (eY.drop 7) (Dn Q) [some<|.r F,some<|.r G,x2,x3,some<|.i (B:Nat),x5,some<|.r fF,x7,some<|.r ct,some<|.r pu,none,none,none,none,none] H:=by
 obtain⟨T,hh,N,N⟩:=Xn (aM.bP S.hi);have sz:=S.sz;have ln:s.length=Y.length:=S.ll.trans S.D.L;have bM:m.length=Y.length:=(KB S.le).trans ln;have a':∀k,k<Y.length->(A.getD k []).length<=3000:=λk d=>by
  obtain⟨rs,N,e,N,l0⟩:=S.at d;rw[e];lia
 refine af6 (body:=U8)<|gw<|cz O S.R.r kQ<|.inl ⟨_,ah.of S.R.i,?_⟩;rw[XN,bM];refine qU ((Y.length:Nat):Int) O ap ap (C_ (lo:=0) (n:=((Y.length:Nat):Int).toNat) (λi u W=>H_ λt jW jX j uk jB jb jc rO=>AB (u=[some (.r F),some (.r G),x2,x3,some (.i (B:Nat)),x5,some (.r fF),x7,some (.r ct),some (.r pu),uk,jB,jb,jc,rO]) (SV C I W F G J U X M l t B B Y jW jX j A bj n) (dS Y B jW jX) (j.length=Y.length) (∀k,k<Y.length->j[k]?=some (if k<i/\k≠B then A.getD k [] else s.getD k [])))
 ⟨m,p,P,s,none,none,none,none,none,O,S,RG,ln,λk d=>?_⟩ ?_ ?_)
 rw[Ix (λz=>by have:=z.1;exact (XH _ this).elim),WK,Xd ap];rfl;rintro i u W hi ⟨t,jW,jX,j,uk,jB,jb,jc,rO,rfl,g,Cy,l2,c⟩;have dq:i<Y.length:=by lia
 have e0:(0:Int)+(i:Int)=((i:Nat):Int):=by lia
 rw[e0];have ei:=c i dq;rw[Ix (λz=>by have:=z.1;exact (XD _ this).elim)] at ei;obtain⟨ro,iz⟩:∃ro,s[i]?=some ro:=o3 _ (Xd ap);have f':s.getD i []=ro:=by rw[WK,iz];rfl
 obtain⟨o1,o2⟩:=ol i ro iz;have fm:=FM i dq;rw[f'] at ei fm;refine alI g Cy hn FK dq ei O ef o1 nY IE o2 lp (by rw[<-ef];exact a' B hh) (a' i dq) fm (λih jB=>⟨t,jW,jX,j,_,jB,_,_,_,O,g,Cy,l2,λk d=>?_⟩) λih b IG IH H3 e' d' c' b' S3 g'=>⟨_,IG,IH,_,_,e',d',c',b',O,S3,g',by rw[gS];exact l2,λk d=>?_⟩;rw[c k d];congr 1;by_cases z:k<i/\k≠B;rw[Id z,Id ⟨ap,z.2⟩];rw[Ix z,Ix λy=>z ⟨by have:=y.1;have:=y.2;lia,y.2⟩];by_cases z:i=k;subst z;rw[YG,Id O,Id ap,Id ⟨(Yq _),ih⟩];rw[VE z,c k d];congr 1;by_cases y:k<i/\k≠B;rw[Id y,Id ⟨ap,y.2⟩];rw[Ix y,Ix λw=>y ⟨by have:=w.1;lia,w.2⟩];rintro u W ⟨t,jW,jX,j,uk,jB,jb,jc,rO,rfl,g,Cy,l2,c⟩;have l3:t.length=Y.length:=(KB g.le).trans l2;have k0:∀a o,Yi H0 [fF,ct,pu] a o->W a=some o:=λa o k=>(g.kp a o<|FK.k a o k).1;have hF:=za k0 FK.f aJ;refine pJ<|af O<|cz O g.R.r kQ<|af O ⟨J,_,_,B,O,O,g.R.i,gO (by rw[XN];lia),?_⟩;rw[show(t.map V.r).set B (V.r fF)=(t.set B fF).map V.r by rw[V_]];obtain⟨fs,sI,N⟩:=FK.f;have S3:=g.putN (i:=B) hF (g.kp _ _<|FK.k fF _ ⟨sI,.inr aJ⟩).2;have en:j.set B h=A:=by
  refine Xw λk=>?_;by_cases d:k<Y.length;obtain⟨rk,II⟩:∃rk,A[k]?=some rk:=o3 _ (Xd (by rw[S.D.L];exact d));have Vf:A.getD k []=rk:=by rw[WK,II];rfl
  by_cases z:B=k;subst z;rw[YG,Id O,Id ap,II,<-Vf,ef];rw[VE z,c k d,Id ⟨ap,λy=>z y.symm⟩,II,Vf];rw[WL (by rw[gS];lia),WL (by rw[S.D.L];exact Zw d)]
 rw[en] at S3;exact di<|aC<|q _ _ _ _ S3 Cy
theorem al_:bS (IF C) (λE=>ID K C E) eY lU:=by
 intro vs H Q E h;obtain⟨I,F,G,J,U,X,M,l,m,B,Y,p,P,s,A,n,c,rfl,S,RG,hn,q⟩:=h;obtain⟨T,hh,_,_⟩:=aM.bP S.hi;have sz:=S.sz;obtain⟨a1,j,eQ,oj,L,l1,lN⟩:=S.row hh;obtain⟨h',vJ,jG,g1,_⟩:=S.at hh;have:=L.symm.trans jG;subst this;have lg:=iZ j;have i':=y3 j;have m8:(0:Int)<=1+c % 8/\(1+c % 8).toNat<=8:=by lia
 refine aN<|cz O S.R.r Cr ?_;refine aN<|bE yY O<|av<|c7<|af O<|aC ⟨⟨bc,bc⟩,av<|bE ui O<|av<|bh<|cz O S.R.r kQ<|af O<|cK S.R.i (jV eQ)<|aI ⟨a1,j,O,oj,ap,λH1 s1=>av<|c7<|aC<|c7<|af O<|aC ⟨(by show(0:Int) <8;decide),FU<|aI ⟨_,jU j,_,O,g1,ap,ap,ap,λch W N ps qq s2 Vg df pv wj IJ _ tt u=>?_⟩⟩⟩⟩;rw[oA] at u;have dG:=s1.trans s2;have S2:=S.same dG;have tp:aq ps<=320:=by lia
 have Cz:∀k,∀a∈s.getD k [],a.1≠ .inl ((n+3:Nat):Int):=λk a h=>S.who h;obtain⟨rv,vj,IL⟩:=S2.mZ eQ L;refine aN<|bE xU O<|av<|bh<|cz O S2.R.r kQ<|af O<|cK S2.R.i (jV eQ)<|av<|af O<|av<|af O<|aI ⟨a1,ch,.inl ((n+3:Nat):Int),rv,N,j,ps,bF j,qq,O,vj,IL,df,pv,wj,u,lg,ap,(wO tp (XA _ _)),λfF H3 fv s3 IM zc kP=>?_⟩;obtain⟨w,nd,eq⟩:=U7 (g:=.inl ((n+3:Nat):Int)) u (by rw[<-L];exact S.D.nd B) (by rw[<-L];exact Cz B);have sb:=IA (g:=.inl ((n+3:Nat):Int)) (ak ps) j 0;generalize bJ (.inl ((n+3:Nat):Int)) j 0 (ak ps)=d at w nd eq sb kP;have lq:=u.len;have CA:d.length<=3000:=by rw[<-iZ d,eq];lia
 have S3:=S2.same s3;have CB:H fF=none:=dG.free IM;have j':=KB kP;refine aN<|Iw<|af O<|Iy ⟨fv,zc,kP⟩ λst DD H4 s4 k' dn=>?_;have S4:=S3.same s4;obtain⟨g',Vh,Vi⟩:=S4.mZ eQ L;have l':=KB Vi;refine aN<|al1<|bh<|cz O S4.R.r kQ<|af O<|cK S4.R.i (jV eQ) ⟨a1,O,⟨_,ah.of Vh⟩,pV (R:=fP H4) (R':=λy r=>mY H4 y (nm r)) (nw d) Vh Vi ap ?_ ?_⟩;rintro x r' k1 k2 _ ⟨t,nn,rfl,h1,h2⟩ y z;obtain⟨o,g,e⟩:=Co (n:=nm r') dn h2;refine oZ t _ O (aB.of h1) O (UL<|af O<|af O ⟨st,o,O,g,_,O,?_⟩);have e2:(!o.isSome)=nw d r':=by rw[e]
 rw[e2];cases w:nw d r' with
 |true=>exact iT (nT _ O (y w _ (nT nn O h2))) O
 |false=>exact iF (z w) O
 intro cv ct b' Vj;have V:=Xq (o:=.l cv) Vj;have S5:=S4.same V;have nK:wg (upd H4 ct<|.l cv) ct ((j.filter<|nw d).map nm):=nT cv aj (Ve (aX V)<|Y5 b');have Vk:H ct=none:=((dG.trans s3).trans s4).free Vj;generalize upd H4 ct (.l cv)=H5 at V S5 nK⊢;have Vl:=(s4.trans V) _ _ zc;have e':=bN.mono (aX<|s4.trans V) kP;refine GY ?_;refine qB _ O fF O (o3 _ (ah.of Vl)) (pV (R:=fP H5) (R':=fP H5) (λr=>decide<|r.1=.inl ((n+3:Nat):Int)) Vl e' ap ?_ ?_);rintro x r' k1 k2 _ ⟨t,nn,rfl,h1,h2⟩ y z;refine bf<|bh<|bh<|af O<|aC<|kq h1 O<|aC<|kq h2 O<|af O<|al0 ⟨_,O,?_⟩;cases w:decide (r'.1=.inl ((n+3:Nat):Int)) with
 |true=>exact iT (nT _ O (y w _ (oW t nn O h1 h2))) O
 |false=>exact iF (z w) O
 intro CC pu a' Vm;have s6:=Xq (o:=.l CC) Vm;have S6:=S5.same s6;have Vn:Lr (upd H5 pu<|.l CC) pu (d.filter λr=>decide (r.1=.inl ((n+3:Nat):Int))):=nT CC aj (bN.mono (aX s6) a');have Vo:H pu=none:=(((dG.trans s3).trans s4).trans V).free Vm;generalize upd H5 pu (.l CC)=H6 at s6 S6 Vn⊢;have y7:=s4.trans (V.trans s6);have mS:=s3.trans y7;have d':Lr H6 fF d:=Lr.same (nT fv zc kP) y7;have c':wg H6 ct ((j.filter<|nw d).map nm):=by
  obtain⟨cv,h1,h2⟩:=nK;exact nT cv (s6 _ _ h1) (Ve (aX s6) h2)
 have S7:=S6.kt (g:=[fF,ct,pu]) λa ha=>by
  simp only[xW,Zz,Os] at ha;rcases ha with rfl|rfl|rfl
  exact⟨(S.no CB).1,(S.no CB).2.2.1⟩;exact⟨(S.no Vk).1,(S.no Vk).2.2.1⟩;exact⟨(S.no Vo).1,(S.no Vo).2.2.1⟩
 have FF:pY s B (.inl ((n+3:Nat):Int)) ps d ((j.filter<|nw d).map nm) (d.filter λr=>decide (r.1=.inl ((n+3:Nat):Int))):=⟨by rw[show aU s B=(· ∈j.map nm) from funext λx=>by rw[aU,L],L];exact w,nd,by rw[L],O,by rw[L];exact sb⟩;obtain⟨hN,zb,hC,oN,hF,Vd⟩:=FF.facts Cz;have E9:bK H6 ch ps (bF j) qq:=nW N (mS _ _ df) (pv.mono<|aX mS) ⟨wj,IJ,u⟩;refine dP<|wc (HD C) S7.hi O O (by decide+kernel) (by decide+kernel) (by decide+kernel) (by decide+kernel) (by decide+kernel) (by decide+kernel)<|af O ⟨F,ch,M,l,B,Y,_,P,320*n,320,_,yZ A,_,ps,bF j,qq,O,S7.hi,S7.Cs (hB hn),E9,kR vJ,tp,ap,ap,⟨.o,o3 d hF⟩,psg (c:=ps) S.D T hN hC,λM' cX mQ Z b hM hE A0 EP _ hk=>?_⟩;obtain⟨bA,bj,S8,ef,fl⟩:=S7.foreign hn FF tp b hM hE A0 EP hk;have PH:d∈bA:=by
  obtain⟨rs,hx,e,_⟩:=S8.at hh;have:=e.symm.trans ef;subst this;exact Wv hx
 refine Tr S8 RG (h_ hn _) (H0:=H6) ⟨λa o k=>.inr k,d',c',Vn⟩ ef (λk rs h=>⟨S.Il<|Wv h,by have:=(S.gd rs<|Wv h).2.1;lia⟩) (λx h=>S8.Il PH x (ZK.mp h).1) (λx h=>?_) (wO (jL _ _) CA) (λk hk=>?_) λf v bM m' S9 f'=>q _ _ _ _ _ _ _ _ (S9.less λ_ _ h=>.inl h) f';obtain⟨a,ha,rfl⟩:=Yc.mp h;exact(lN a (ZK.mp ha).1).1;obtain⟨g,f0⟩:=fl k hk;exact alH (hN · k) (λ_=>No) zb (λ_=>No) f0
end
end
section
variable{K:Frag}{C f:DL}
inductive IP(C:DL)(vs:ci)(H:Hp)(Q:VK)(E:XK):Prop|i(p:DL)(M Ed:db)(B:Nat)(Y:ac)(au:List am)(t:ac)(T:Nat)(c:DL)(ps:bn)(l r:am)(J:Nat->bn->Prop)(_:vs=[.r p,.r c])(_:aM C H p M Ed B Y au t T)(_:dU H Ed J)(_:bK H c ps l r)(_:c∉M)(_:au[B]?=some l)(_:aq ps<=T)(_:T<=14000)(_:B≠0)(_:B+1=Y.length)(_:∀(X:db)(a:DL)(Z:Hp),aS M H Z->H a=none->(∀x∈X,x∈Ed\/x=a)->aM C Z p M X B Y (au.set B r) t (T+aq ps)->dU Z X (λi q=>i=B/\(∃(e:bn)(j:am),J B e/\pB e ps q j r)\/i≠B/\J i q)->Q (.i (B:Nat)) Z)
abbrev nC(K:Frag)(C:DL)(f:DL)(E:XK):bu:=aH K [("then",tJ),("sizes",ig)] [] [] [("need_over",C,tV C f),("many",C,pK C),("do",C,yC C)] (E:=E)
theorem ami(X:gM K C):bS (IP C) (λE=>nC K C f E) Qg vm:=by
 intro vs H Q E h;obtain⟨p,M,Ed,B,Y,au,a',T,c,ps,l,r,J0,rfl,A0,hE,hc,mM,hl,ht,hT,z0,z1,q⟩:=h;obtain⟨dx,lo,I,s,be,lg,bs,es,A⟩:=X9 (id A0);have kE:(au.map List.length)[B]?=some l.length:=by rw[ZW,hl];rfl
 refine dP<|ko C (tV C f) O<|af O ⟨p,dx,_,O,A.ob.ob,hX,af O ⟨p,dx,lo,I,s,be,lg,B,_,Y,c,ps,l,r,l.length,O,A.ob,hc,ap,kE,.inl ⟨O,λH1 s1=>?_⟩⟩⟩;have m:=A.same s1;have eV:=hc.same s1;have fH:∀{Z:Hp}{Q':VK},gN C Z p dx lo I s be lg B (au.map List.length) Y->Q' (.i (B:Nat)) Z->ae (nC K C f E) (.f (.v 0) "here") [some<|.r p,some<|.r c] Z Q':=λB2 q=>cM (af O (p3 p C dx _ _ O B2.ob X.cl X.g jw q));refine cx<|Bi<|bf<|fH m.ob<|aC<|jP ⟨_,O,?_⟩;rw[VH ap];refine iF (FT<|bf<|fH m.ob<|c7<|tE C (pK C) O<|af O ⟨p,dx,_,O,m.ob.ob,hX,p,dx,lo,I,s,be,lg,B,_,Y,O,m.ob,aC<|GX<|tG ⟨_,O,?_⟩⟩) O;have hr:=A.ob.r;rw[Z2 ap];refine iF (d9 ?_) O;obtain⟨j,hj,jl⟩:=A.ob.tr.up B (WY z0) hr;obtain⟨a0,CG,lj,li,zq⟩:=ZO (m.yL (hE.same s1) B j hj);obtain⟨g1,g2,g3,g4,g5,g6⟩:=Yk zq;rw[hl] at g3;cases g3;have cl:ps.length<=2*aq ps+1:=by obtain⟨_,_,_,G⟩:=hc;exact lP ps "" G.ok G.c
 have d':CG.length<=2*aq CG+1:=by obtain⟨_,_,_,G⟩:=g4;exact lP CG "" G.ok G.c
 have eM:=A.K;have oq:lo∈M/\s∈M:=by rw[eM];simp
 obtain⟨ml,me⟩:=oq;have R1:kA C H1 p dx lo I s be lg bs B _ _ es _ _ λi=>iV (WX Y i):=⟨m.ob.ob,m.ob.d,m.ob.c,m.R,m.D,m.y,m.hk⟩;have tY:=m.live;have vL:(au.map List.length).length=Y.length:=A.ob.l;have kI:au.length=Y.length:=by rw[<-vL,XN]
 refine pJ<|bE tJ O<|av<|bh<|cM<|af O ⟨p,C,dx,_,_,O,R1.a,X.cl,X.q,vF,fH m.ob<|cK R1.d (dv g1)<|av<|af O<|aI<|PN g4 eV ap ap λa W iN s2 fa dc J=>?_⟩;have A2:=m.same s2;have R2:=R1.same s2;refine cM<|af O ⟨p,C,dx,_,_,O,R2.a,X.cl,X.q,vF,fH A2.ob ⟨s,_,_,B,O,O,R2.d,?_,?_⟩⟩;unfold gJ;rw[Id (VI _),Id (by rw[A.le];lia)];rfl;have kJ:a∉M:=tY.no fa;have rB:=tY.same s2;have F:aS M W (upd W s<|.l<|es.set B<|.r a):=aS.upd me;have R3:=(R2.set (xs:=es.set B (.r a)) A.u).2.2.1;have vM:=rB.upd (c:=s) (xs:=es.set B (.r a));have Vp:=dc.keep (λo e=>F a o e kJ) (rB.bB F);have iq:=(eV.same s2).keep (λo e=>F c o e mM) (rB.bB F);have c':=A2.BM F;obtain⟨xs,hx,jH,iW⟩:=id iq;refine pJ<|bh<|bE ig O<|av<|af O<|aI ⟨c,xs,ps,O,hx,jH,iW.ok,iW.c,ap,λt H4 s4 vO=>aC<|kq vO O ?_⟩;have eg:(qA ps).sum=r.length:=iW.run.gives;have R4:=R3.same s4;rw[eg];refine cM<|af O ⟨p,C,dx,_,_,O,R4.a,X.cl,X.t,yv,cM<|af O ⟨p,C,dx,_,_,O,R4.a,X.cl,X.g,jw,lo,_,_,B,O,O,R4.o,?_,?_⟩⟩;unfold gJ;rw[Id (VI _),Id (by rw[XN,vL];lia)];rfl;have el:((au.map List.length).map<|λn=>V.i (n:Nat)).set B (V.i (r.length:Nat))=((au.set B r).map List.length).map (λn=>V.i (n:Nat)):=by rw[V_,V_]
 rw[el];have k5:aS M H4 (upd H4 lo<|.l<|((au.set B r).map List.length).map<|λn=>V.i (n:Nat)):=aS.upd ml;have z:=(R4.set (xs:=((au.set B r).map List.length).map (λn=>V.i (n:Nat))) A.u).1;have N:=(aS.of s4).trans k5;have IQ:=Vp.keep (λo e=>N a o e kJ) (vM.bB N);have Vq:=A2.BM (F.trans N);generalize upd H4 lo (.l<|((au.set B r).map List.length).map<|λn=>V.i (n:Nat))=H5 at k5 z N IQ Vq⊢;have fG:B<es.length:=by rw[A.le];exact hr
 have B5:fQ C H5 p M (pP<|es.set B<|.r a) B Y (au.set B r) a' (T+aq ps) dx lo I s be lg bs (es.set B<|.r a):=by
  refine⟨⟨z.a,z.o,z.r,by rw[XN,gS,kI],A.ob.tr,hr,A.ob.sz⟩,A.K,A.u,z.d,by rw[gS];exact A.le,O,?_,λi k e=>?_,λi b e=>?_,z.j,A.P,z.h7,z.u,A.Q⟩;rw[VE z0];exact A.S;by_cases y:i=B;subst y;rw[hj] at e;cases e;have nj:i≠j:=Ya jl
  exact oT a iN lj r (by rw[YG,Id O,Id fG]) (by rw[VE nj];exact g2) (by rw[YG,Id O,Id (by rw[kI];exact hr)]) IQ (by have:=J.aq;exact wO this (h_ g5 _));obtain⟨b,qs,lk,li,zq⟩:=ZO (Vq i k e);obtain⟨L,e2,e3,e4,e5⟩:=ZE zq;have nk:k≠B:=λw=>by
   subst w;have il:=(Wq.mp e).1;have i0:0<i:=by
    cases i with
    |zero=>rw[A.ob.tr.r] at e;cases e
    |succ n=>exact Nat.succ_pos n
   obtain⟨j2,h2,z_⟩:=A.ob.tr.up i i0 il;rw[h2] at e;cases e;lia
  exact oT b qs lk li (by rw[VE λw=>y w.symm];exact L) (by rw[VE λw=>nk w.symm];exact e2) (by rw[VE λw=>y w.symm];exact e3) e4 (YB e5);by_cases y:i=B;subst y;rw[YG,Id O,Id fG] at e;cases e;exact kJ;rw[VE λw=>y w.symm] at e;exact A.en i b e
 have kH:aS M H H5:=(aS.of<|s1.trans s2).trans (F.trans N);refine di<|cM<|af O ⟨p,C,dx,_,_,O,z.a,X.cl,X.g,jw,q (pP<|es.set B<|.r a) a H5 kH (s1.free fa) (λx hx=>?_) (qC dx lo I s be lg bs (es.set B<|.r a) B5) λi b e=>?_⟩;obtain⟨v,hv,e⟩:=VG.mp hx;rcases y1 hv with hv|rfl
 exact .inl (by rw[<-A.U];exact VG.mpr (nT v hv e));exact .inr (WV e).symm;have L:(es.set B<|.r a)[i+1]?=some (V.r b):=by rw[B5.rD,Xo,ZW,e];rfl
 by_cases y:i+1=B;rw[y,YG,Id O,Id fG] at L;cases L;obtain⟨xs,h1,h2,_⟩:=IQ;exact oW xs iN h1 h2 (.inl (rS y CG lj g6 J));rw[VE λw=>y w.symm,A.rD,Xo,ZW] at L;obtain⟨b',qm,eb⟩:=ZX.mp L;cases eb;obtain⟨xs,p',h1,h2,G⟩:=hE.but A0 kH i b qm;exact oW xs p' h1 h2 (.inr ⟨y,G⟩)
end
section
section
variable{Y:ac}{B:Nat}{l:List bn}{c:sB}{n:bn}{f p:Rows}{q:wT}{m:We}
theorem Vr{o:xz}(h:jz Y v):jz (Y++[o]) v:=by
 obtain⟨t,b,h⟩:=h;refine⟨t,b,λk a=>⟨(h k a).1,(h k a).2.imp id λ⟨j,c,e⟩=>⟨j,c,?_⟩⟩⟩;rw[XG (Wq.mp e).1];exact e
theorem IS:jz Y [k]:=⟨k,.head _,λj h=>by cases Yd.mp h;exact⟨VL _,.inl O⟩⟩
theorem ze{r:Rows}(h:k<c.length):(c++[r]).getD k []=c.getD k []:=by
 rw[WK,WK,XG h]
theorem IT{r:Rows}:(c++[r]).getD c.length []=r:=by simp
theorem Cn.CH(C:Cn Y c l)(h:aU c k x):k<Y.length:=Nat.lt_of_not_le λz=>by
 have h:x∈ (c.getD k []).map nm:=h;rw[uo (C.L▸z)] at h;cases h
theorem pY.new(F:pY c B m n f q p)(w:∀k,∀a∈c.getD k [],a.1≠m){x:Nm}(h:x∈f.map nm)(i:¬aU c B x)(k:Nat):¬aU c k x:=λz=>by
 obtain⟨a,g,rfl⟩:=Yc.mp h;rcases F.sb a g with y|y
 exact i (ZF y);obtain⟨b,d,e⟩:=Yc.mp z;exact w k b d<|(IN (λx:Nm=>x.1) e).trans y
theorem Cn.do(C:Cn Y c l)(T:bD Y)(H:B<Y.length)(F:pY c B m n f q p)(N:∀k,∀a∈c.getD k [],a.1≠m)(S:∀(i j:Nat)(e:bn),Y[i]?=some (some j)->G[i]?=some e->l[i]?=some e)(Q:∀e,G[Y.length]?=some e->e=n):Cn (Y++[some B]) (c++[f]) G:=by
 have u:=C.L;have V:bD (Y++[some B]):=⟨by rw[XG (Wn (Ww _) H)];exact T.r,λi U d=>by
  rw[W0] at d;have d:i<Y.length+1:=d;by_cases z:i=Y.length;subst z;exact⟨B,by rw[Wt<|VL _,Wg];rfl,H⟩;obtain⟨j,e,K⟩:=T.up i U (Y2 (Xe d) z);exact⟨j,by rw[XG (Y2 (Xe d) z)];exact e,K⟩⟩
 have A:∀{k:Nat}{x:Nm},k<Y.length->(aU (c++[f]) k x↔aU c k x):=λ{k x} R=>by
  show x∈ ((c++[f]).getD k []).map nm↔_;rw[ze ap]
 have o:∀{x:Nm},aU (c++[f]) Y.length x↔x∈f.map nm:=λ{x}=>by
  show x∈ ((c++[f]).getD Y.length []).map nm↔_;rw[<-u,IT]
 have P:∀{k:Nat}{x:Nm},aU (c++[f]) k x->k<=Y.length:=λ{k x} h=>Nat.le_of_not_lt λz=>by
  have h:x∈ ((c++[f]).getD k []).map nm:=h;rw[uo (by rw[W0];show _+1<=_;lia)] at h;cases h
 have t:∀{k:Nat}{x:Nm},k≠Y.length->(aU (c++[f]) k x↔aU c k x):=λ{k x} R=>by
  by_cases z:k<Y.length;exact A z;exact⟨λy=>by have:=P y;lia,λy=>by have:=C.CH y;exact (XD _ (YY this (Zw z))).elim⟩
 refine⟨by rw[W0,W0,u];rfl,λk=>?_,λx k h=>?_,λi j e b I=>?_⟩;by_cases z:k<Y.length;rw[ze ap];exact C.nd k;by_cases y:k=Y.length;rw[y,<-u,IT];exact F.nd;rw[uo (by rw[W0];show _+1<=_;lia)];exact WQ;by_cases s:x∈f.map nm;by_cases E:aU c B x;obtain⟨v,D,g⟩:=C.tp x B E;have J:Y.length∉v:=λz=>by have:=C.CH ((g _).mp z);exact (XD _ this).elim
 refine⟨v++[Y.length],((Vr D).add V ((g _).mpr E) J<|.inl (by rw[Wt<|VL _,Wg];rfl)).1,λj=>?_⟩;rw[X0,Yd];by_cases z:j=Y.length;subst z;exact⟨λZ=>o.mpr s,λZ=>.inr O⟩;rw[t z,<-g j];exact⟨λy=>y.resolve_right z,.inl⟩;refine⟨[Y.length],IS,λj=>?_⟩;rw[Yd];by_cases z:j=Y.length;subst z;exact⟨λZ=>o.mpr s,λZ=>O⟩;rw[t z];exact⟨λy=>(z y).elim,λy=>(F.new N s E j y).elim⟩;have M:k≠Y.length:=λz=>by subst z;exact s (o.mp h)
 obtain⟨v,D,g⟩:=C.tp x k ((t M).mp h);refine⟨v,Vr D,λj=>(g j).trans ?_⟩;by_cases z:j=Y.length;subst z;exact⟨λy=>by have:=C.CH y;exact (XD _ this).elim,λy=>(s<|o.mp y).elim⟩;exact(t z).symm;by_cases z:i=Y.length;subst z;rw[Wt<|VL _,Wg] at b;cases b;cases Q e I;show Wk (aU (c++[f]) B) (aU (c++[f]) Y.length) _ ((c++[f]).getD B []) ((c++[f]).getD Y.length []);rw[show aU (c++[f]) B=aU c B from funext λx=>propext (A H),show aU (c++[f]) Y.length=(· ∈f.map nm) from funext λx=>propext o,ze ap,<-u,IT];exact F.w;have d:i<Y.length:=by
  have:=(Wq.mp b).1;rw[W0] at this;have:i<Y.length+1:=this;exact Y2 (Xe this) z
 rw[XG d] at b;have W:=(bz T b).1;have:=C.ed i j e b (S i j e b I);show Wk (aU (c++[f]) j) (aU (c++[f]) i) _ ((c++[f]).getD j []) ((c++[f]).getD i []);rw[show aU (c++[f]) j=aU c j from funext λx=>propext (A (Xf W d)),show aU (c++[f]) i=aU c i from funext λx=>propext (A d),ze ap,ze ap];exact this
theorem Vs{r:Rows}:(c.set i r).getD k []=if i=k/\k<c.length then r else c.getD k []:=by
 rw[WK,WK];by_cases z:i=k;subst z;rw[YG,Id O];by_cases y:i<c.length;rw[Id y,Id ⟨O,y⟩];rfl;rw[Ix y,Ix λw=>y w.2,WL (Zw y)];rw[VE z,Ix λw=>z w.1]
theorem Cn.more(C:Cn Y c l)(T:bD Y)(hh:B+1=Y.length)(F:pY c B m n f q p)(R:∀k,∀a∈c.getD k [],a.1≠m){S:List bn}(he:∀(i:Nat)(e:bn),S[i+1]?=some e->i+1=B/\(∃K N r,l[B]?=some K/\pB K n e N r)\/i+1≠B/\l[i+1]?=some e):Cn Y (c.set B f) S:=by
 have X:=C.L;have g:∀{k:Nat},k≠B->(c.set B f).getD k []=c.getD k []:=λ{k} h=>by rw[Vs,Ix λz=>h z.1.symm]
 have I:(c.set B f).getD B []=f:=by rw[Vs,Id ⟨O,ap⟩]
 have d:∀{k:Nat}{x:Nm},k≠B->(aU (c.set B f) k x↔aU c k x):=λ{k x} h=>by
  show x∈ ((c.set B f).getD k []).map nm↔_;rw[g h]
 have u:∀{x:Nm},aU (c.set B f) B x↔x∈f.map nm:=λ{x}=>by
  show x∈ ((c.set B f).getD B []).map nm↔_;rw[I]
 refine⟨by rw[gS];exact X,λk=>?_,λx k h=>?_,λi j e A CI=>?_⟩;by_cases z:k=B;rw[z,I];exact F.nd;rw[g z];exact C.nd k;by_cases D:x∈f.map nm;by_cases E:aU c B x;obtain⟨v,o,s⟩:=C.tp x B E;refine nT v o (λj=>(s j).trans ?_);by_cases z:j=B;subst z;exact⟨λ_=>u.mpr D,λ_=>E⟩;exact(d z).symm;refine nT [B] IS (λj=>?_);rw[Yd];by_cases z:j=B;subst z;exact⟨λ_=>u.mpr D,λ_=>O⟩;rw[d z];exact⟨λy=>(z y).elim,λy=>(F.new R D E j y).elim⟩;have Z:k≠B:=λz=>by lia
 have G:=(d Z).mp h;have kl:=C.CH G;obtain⟨v,⟨t,ht,o⟩,s⟩:=C.tp x k G;have U:t≠B:=λz=>by have:=(o k<|(s k).mpr G).1;lia
 refine nT (v.filter λj=>decide (j≠B)) (nT t (ZK.mpr ⟨ht,Z2 U⟩) (λP W=>?_)) (λj=>?_);obtain⟨M,m2⟩:=ZK.mp W;refine⟨(o P M).1,(o P M).2.imp id λ⟨j,hj,e⟩=>nT j (ZK.mpr ⟨hj,Z2 λz=>?_⟩) e⟩;have:=bz T e;lia;rw[ZK,s j];by_cases z:j=B;subst z;exact⟨λy=>by simp at y,λy=>(D<|u.mp y).elim⟩;rw[d z];exact⟨λy=>y.1,λy=>⟨y,Z2 z⟩⟩;have hi:=bz T A;obtain⟨b,rfl⟩:∃b,i=b+1:=o3 (i - 1) ap;have Q:j≠B:=by lia
 show Wk (aU (c.set B f) j) (aU (c.set B f)<|b+1) _ ((c.set B f).getD j []) ((c.set B f).getD (b+1) []);rw[show aU (c.set B f) j=aU c j from funext λx=>propext (d Q),g Q];rcases he b e CI with⟨z,K,N,r,H,J⟩|⟨z,H⟩
 rw[z] at A⊢;rw[show aU (c.set B f) B=(· ∈f.map nm) from funext λx=>propext u,I];obtain⟨zs,V,en⟩:=J.aA;refine rH en.symm<|RZ V (λx h3 h4=>Decidable.byContradiction λh5=>F.new R h4 h5 j h3) (C.ed _ _ _ A H) F.w;rw[show aU (c.set B f) (b+1)=aU c (b+1) from funext λx=>propext (d z),g z];exact C.ed _ _ _ A H
end
section
variable{C:DL}{J:pi}{H R W:Hp}{I t v w E q:DL}{M G X:db}{B:Nat}{Y c U:ac}{p f:sB}{K:List bn}{n:Nat}{s:bn}{m Pu:Rows}{bV:wT}{P:am}
theorem amk(A:aM C H I M G B Y au U T):G.length+1=Y.length:=by
 obtain⟨dx,lo,p,d,be,lg,b,e,A⟩:=X9 A;have h:=A.le;rw[A.rD,d_,XN] at h;exact h
theorem SV.aml(S:SV C J H I t v w E M G X hr B Y c U p f K n)(h:Y[i]?=some (some j)):∃e,K[i]?=some e:=by
 obtain⟨dx,lo,b,g,be,lg,k,d,A⟩:=S.hi;obtain⟨Z,s,Z,Z,Z,Z,Z,Z,Z,a⟩:=A.yL S.ep i j h;exact⟨s,a⟩
structure zf(f:sB)(B n:Nat)(s:bn)(m:Rows)(P:am):Prop where
 F:pY f B (.inl ((n+3:Nat):Int)) s m (((f.getD B []).filter<|nw m).map nm) (m.filter λa=>decide (a.1=.inl ((n+3:Nat):Int)))
 e:bF m=P
 g:good (jU m)
 l:m.length<=24+320* (n+1)
theorem SV.wh'(S:SV C J H I t v w E M G X h B Y c U p f K n)(a:B<Y.length)(N:zf f B n s m P):∀r∈m,Wh (n+1) r.1:=λr h=>by
 rcases N.F.sb r h with z|z
 obtain⟨b,x,e,Z⟩:=S.at a;rw[e] at z;rcases (S.gd _<|Wv x).2.2 r z with y|⟨j,y,d⟩
 exact .inl y;exact .inr ⟨j,y,ap⟩;exact .inr ⟨_,z,ap⟩
theorem SV.Vt(S:SV C J H I t v w E M G X e B Y c U p f K n)(i:B<Y.length)(N:zf f B n s m P):∀d,d∈f\/d=m->good (jU d)/\d.length<=24+320* (n+1)/\∀r∈d,Wh (n+1) r.1:=λd h=>by
 rcases h with h|rfl
 obtain⟨a,b,k⟩:=S.gd d h;refine⟨a,ap,λr e=>?_⟩;rcases k r e with y|⟨j,y,o⟩
 exact .inl y;exact .inr ⟨j,y,ap⟩;exact⟨N.g,N.l,S.wh' i N⟩
theorem SV.do(S:SV C J H I t v w E M G X B B Y c U f f K n)(N0:zf f B n s m P)(b1:aS [t,v,w,E] H R)(R1:Rw R t v w E B (Y++[some B]) (c++[none]) (X++[q]))(hF:Lr H q m)(Q:q∉M/\q∉ [t,v,w,E]){b a:DL}(L:aS M R W)(fb:R b=none)(fa:R a=none)(A:aM C W I (M++[b]) (G++[a]) Y.length (Y++[some B]) (f.map bF++[P]) (U++[none]) (320* (n+1)))(ha:∃xs,W a=some (.l xs)/\aF W xs s):
  ∃bj,SV C J W I t v w E (M++[b]) (G++[a]) (X++[q]) B Y.length (Y++[some B]) (c++[none]) (U++[none]) (f++[m]) (f++[m]) bj (n+1):=by
 obtain⟨T,hh,_,lv⟩:=Xn (aM.bP S.hi);have a':=amk S.hi;have t1:=S.R.live.bB b1;have tY:jQ M R:=λx d=>by
  obtain⟨o,e,h⟩:=lv x d;exact⟨o,b1 _ _ e λz=>(S.dj x z).1 d,h⟩
 have t2:=tY.bB L;have Z:∀{x:DL}{o:HO},R x=some o->x≠b/\x≠a:=λe=>⟨(λz=>by rw[z,fb] at e;cases e),(λz=>by rw[z,fa] at e;cases e)⟩;have rl:∀x∈ [t,v,w,E],∃o,R x=some o:=λx d=>by
  obtain⟨o,e,_⟩:=R1.live x d;exact⟨o,e⟩
 have p:∀{x:DL}{o:HO},H x=some o->x∉ [t,v,w,E]->R x=some o:=λe h=>b1 _ _ e h;have Vu:∀x∈X++[q],x∉M/\x∉ [t,v,w,E]/\∃o,R x=some o:=λx d=>by
  rcases X0.mp d with d|d
  obtain⟨i,r⟩:=WM.mp d;obtain⟨_,_,_,e,_⟩:=tS S.le r;have V:x∉ [t,v,w,E]:=λz=>(S.dj x z).2.2 d;exact⟨S.da x d,V,_,p e V⟩;cases Yd.mp d;obtain⟨_,e,_⟩:=hF;exact⟨Q.1,Q.2,_,p e Q.2⟩
 have g1:∀{i:Nat},i<Y.length->((List.range Y.length).map (λi=>K.getD i [])++[s])[i]?=some (K.getD i []):=λ{i} r=>by
  rw[XG (by rw[XN,Wd];exact r),ZW,W_ r];rfl
 have g2:((List.range Y.length).map (λi=>K.getD i [])++[s])[Y.length]?=some s:=by
  rw[Wt (by rw[XN,Wd];exact VL _),XN,Wd,Wg];rfl
 have em:(f++[m]).map bF=f.map bF++[P]:=by rw[Z3,<-N0.e];rfl
 refine⟨(List.range Y.length).map (λi=>K.getD i [])++[s],by rw[em];exact A,λi x d=>?_,S.D.do T hh N0.F (λk a h=>S.who h) (λi j e I he=>?_) (λe he=>by lia),R1.keep λx d o e=>L _ _ e (S.dj x d).1,?_,λx d=>?_,λx d=>?_,λx o k=>?_,λrs kf=>S.Vt hh N0 rs ?_,by rw[W0];have:=S.sz;show _+1<=_;exact h_ this _,O⟩;by_cases z:i<G.length;rw[XG z] at d;obtain⟨xs,p0,g,u,h3⟩:=S.ep i x d;have xe:x∈G:=Wv d;have V:x∉ [t,v,w,E]:=λy=>(S.dj x y).2.1 xe;have IC:x∉M:=λy=>by
  obtain⟨dx,lo,pa,ed,be,lg,bs,ev,A0⟩:=X9 S.hi;exact A0.en (i+1) x (by rw[A0.rD,Xo,ZW,d];rfl) y
 refine⟨xs,p0,L _ _ (p g V) IC,(u.mono t1).mono t2,?_⟩;show((List.range Y.length).map (λi=>K.getD i [])++[s])[i+1]?=some p0;rw[g1 ap,WK,h3];rfl;have hl:=(Wq.mp d).1;rw[W0] at hl;have:i=G.length:=by have:i<G.length+1:=hl;lia
 subst this;rw[Wt<|VL _,Wg] at d;cases d;obtain⟨xs,g,u⟩:=ha;refine⟨xs,s,g,u,?_⟩;rw[a'];exact g2;have r:=(bz T I).2;rw[g1 r] at he;cases he;obtain⟨e,h⟩:=S.aml I;rw[WK,h];rfl;refine Paired.app (uf S.le (λx d o e=>?_) λx N e=>t2 _ _ (t1 _ _ e)) (.cons (hF.keep (λo e=>?_) λx N e=>t2 _ _ (t1 _ _ e)) .nil);exact L _ _ (p e λz=>(S.dj x z).2.2 d) (S.da x d);exact L _ _ (p e Q.2) Q.1;obtain⟨o,e⟩:=rl x d;refine⟨λz=>?_,λz=>?_,λz=>?_⟩;rcases X0.mp z with z|z
 exact(S.dj x d).1 z;exact(Z e).1 (Yd.mp z);rcases X0.mp z with z|z
 exact(S.dj x d).2.1 z;exact(Z e).2 (Yd.mp z);exact(Vu x z).2.1 d;obtain⟨g,_,o,e⟩:=Vu x d;intro z;rcases X0.mp z with z|z
 exact g z;exact(Z e).1 (Yd.mp z);obtain⟨e,g,u⟩:=S.kp x o k;have e1:=p e u;refine⟨L _ _ e1 g,λz=>?_,u⟩;rcases X0.mp z with z|z
 exact g z;exact(Z e1).1 (Yd.mp z);rcases X0.mp kf with h|h
 exact .inl h;exact .inr (Yd.mp h)
theorem SV.amn(S:SV C J H I t v w E M G X B B Y c U (f.set B m) f K n)(L:B+1=Y.length)(h0:B≠0)(N:zf f B n s m P)(tp:aq s<=320){a:DL}(b:aS M H W)(fa:H a=none)(V:∀x∈g,x∈G\/x=a)(A:aM C W I M g B Y ((f.map bF).set B P) U (320*n+aq s))(EP:dU W g (λi q=>i=B/\(∃(e:bn)(l:am),K[B]?=some e/\pB e s q l P)\/i≠B/\K[i]?=some q)):
  ∃j,SV C J W I t v w E M g X B B Y c U (f.set B m) (f.set B m) j (n+1):=by
 obtain⟨T,y,_,p⟩:=aM.bP S.hi;obtain⟨j,E1,E2⟩:=U3 EP;have em:(f.set B m).map bF=(f.map bF).set B P:=by rw[V_,N.e]
 refine⟨j,em▸A.up (Nat.add_le_add_left tp _),E1,S.D.more T L N.F (λk a h=>S.who h)<|λi e Q=>?_,S.R.keep λx d o e=>b _ _ e (S.dj x d).1,uf S.le (λx h o e=>b x o e<|S.da x h) (p.bB b),λx d=>⟨(S.dj x d).1,λz=>?_,(S.dj x d).2.2⟩,S.da,λx o k=>⟨b _ _ (S.kp x o k).1 (S.kp x o k).2.1,(S.kp x o k).2⟩,λr u=>S.Vt y N r<|y1 u,by have:=S.sz;exact hB this,O⟩;rcases E2 i e Q with⟨z,e0,l,Z,J0⟩|h
 exact .inl ⟨z,e0,l,P,Z,J0⟩;exact .inr h;rcases V x z with z|z
 exact(S.dj x d).2.1 z;obtain⟨o,e,_⟩:=S.R.live x d;rw[z,fa] at e;cases e
end
end
section
section
variable{K:Frag}{C J:DL}{F:pi}{H Z:Hp}{Q:VK}{E:XK}{m g l p s:DL}{M G z U:db}{P B d j:Nat}{Y x R A:ac}{X f:sB}{I:List bn}{n:Nat}
inductive IU(C:DL)(vs:ci)(H:Hp)(Q:VK)(E:XK):Prop|i(F:pi)(m g l p s:DL)(M G z:db)(B:Nat)(Y x A:ac)(f:sB)(I:List bn)(n:Nat)(c:Int)(_:vs=[.r m,.r g,.i c,.i ((n+3:Nat):Int)])(_:SV C F H m g l p s M G z B B Y x A f f I n)(_:dS Y B x A)(_:n<=8)(_:∀(k X U:db)(j:Nat)(a R d:ac)(e:sB)(h:List bn)(Z:Hp),SV C F Z m g l p s k X U j j a R d e e h (n+1)->dS a j R d->Q (.b true) Z)
abbrev pZ(K:Frag)(C J:DL)(E:XK):bu:=aH K [("_law_foreign",IF C),("_law_led",wb),("_law_moved",rN C),("_law_change",yY),("_law_signs",ui),("_law_gone",xU)] [] [] [("go",C,rJ C),("undo",C,Cf C J),("redo",C,Cg C J),("more",C,IP C),("do",C,yC C)] (E:=E)
theorem SV.up(S:SV C F H m g l p s M G z P B Y x A X f I n):SV C F H m g l p s M G z P B Y x A X f I (n+1):=by
 refine⟨S.hi.up<|yH _ (Yr _),S.ep,S.D,S.R,S.le,S.dj,S.da,S.kp,λd h=>?_,by have:=S.sz;exact hB this,S.ll⟩;obtain⟨a,b,c⟩:=S.gd d h;refine⟨a,ap,λr P=>?_⟩;rcases c r P with y|⟨j,y,e⟩
 exact .inl y;exact .inr ⟨j,y,ap⟩
theorem IV{j:DL}{D:Rows}(S:SV C F H m g l p s M G z B d Y x A f f I n)(ll:x.length=Y.length)(L:B<Y.length)(N:d<Y.length)(hn:n<=8)(hw:Lp H w ps)(ld:Ld f B d ps)(eQ:z[B]?=some j)(T:f.getD B []=D)(h1:u[1]?=some (some<|.r g))(h5:u[5]?=some (some<|.r l))(no:w∉M/\w∉ [g,l,p,s])(ht:∀{U:VK},U (.i (d:Nat)) H->ae (pZ K C J E) t u H U)(q:∀Z,SV C F Z m g l p s M G z d d Y (iB Y (dz Y B d) x) A f f I n->Q (.b true) Z):ae (pZ K C J E) (.i (.v 5)<|.l 2 [.v 1,t]) u H λv W=>wb [.r j,.r w,v] W Q (pZ K C J E).E:=by
 obtain⟨a2,X,y,pN,P,l2,nY⟩:=S.row N;obtain⟨_,_,_,_,jG,l1,_⟩:=S.row L;have S1:=S.kt λa ha=>by cases Yd.mp ha;exact no
 refine bh<|af h5<|bE (rN C) O<|av<|af h1<|av<|ht<|aI ⟨_,m,g,l,p,s,M,G,z,B,d,d,Y,x,A,f,f,I,n,O,S1,ll,L,N,(hB hn),λW c=>cK c.R.i (jV y) ?_⟩;have k:=λa o k=>(c.kp a o<|.inr k).1;refine⟨j,w,a2,D,X,ps,O,c.mZ eQ T,c.mZ y P,hw.keep (λo e=>k w o ⟨e,.inr<|.head _⟩)<|Iz k,?_,ap,ap,nY,λH3 V=>q H3<|(c.less λ_ _ h=>.inl h).same V⟩;rw[<-T,<-P];exact ld
end
end
section
section
variable{K:Frag}{C X:DL}{R:pi}{H Z:Hp}{Q:VK}{E:XK}{m v f z A:DL}{M J l U:db}{hr B d j:Nat}{Y F P I:ac}{bg G:sB}{es:List bn}{n:Nat}
theorem amo(S:SV C R H m v f z A M J l B B Y F I G G es n)(RG:dS Y B F I)(hn:n<=8)(q:∀(M' cX U:db)(jY:Nat)(a' P bM:ac)(bA:sB)(bj:List bn)(Z:Hp),SV C R Z m v f z A M' cX U jY jY a' P bM bA bA bj (n+1)->dS a' jY P bM->Q (.b true) Z):
  ax (pZ K C X E) (cG.drop 8) (Dn Q) [some<|.r m,some<|.r v,some<|.i c,some<|.i ((n+3:Nat):Int),some<|.i (B:Nat),some<|.r f,some<|.i kd,some<|.i mo,none,none,none] H:=by
 obtain⟨T,hh,_,_⟩:=Xn (aM.bP S.hi);have sz:=S.sz;obtain⟨a1,r1,eQ,oj,e1,l1,lN⟩:=S.row hh;obtain⟨d',vJ,jG,g1,_⟩:=S.at hh;have:=e1.symm.trans jG;subst this;have lg:=iZ r1;have e':=y3 r1;have m8:(0:Int)<=1+mo % 8/\(1+mo % 8).toNat<=8:=by lia
 refine aN<|bE yY O<|av<|c7<|af O<|aC ⟨⟨bc,bc⟩,av<|bE ui O<|av<|bh<|af O<|af O<|cK S.R.i (jV eQ)<|aI ⟨a1,r1,O,oj,ap,λH1 s1=>av<|c7<|aC<|c7<|af O<|aC ⟨(by show(0:Int) <8;decide),FU<|aI ⟨_,jU r1,_,O,g1,ap,ap,ap,λch W N ps qq s2 Vg df pv wj IJ _ tt y=>?_⟩⟩⟩⟩;rw[oA] at y;have dG:=s1.trans s2;have S2:=S.same dG;have tp:aq ps<=320:=by lia
 have Cz:∀k,∀a∈G.getD k [],a.1≠ .inl ((n+3:Nat):Int):=λk a h=>S.who h;obtain⟨rv,vj,IL⟩:=S2.mZ eQ e1;refine aN<|bE xU O<|av<|bh<|af O<|af O<|cK S2.R.i (jV eQ)<|av<|af O<|av<|af O<|aI ⟨a1,ch,.inl ((n+3:Nat):Int),rv,N,r1,ps,bF r1,qq,O,vj,IL,df,pv,wj,y,lg,ap,(wO tp (XA _ _)),λd H3 fv s3 IM zc kP=>?_⟩;obtain⟨w,nd,eq⟩:=U7 (g:=.inl ((n+3:Nat):Int)) y (by rw[<-e1];exact S.D.nd B) (by rw[<-e1];exact Cz B);have sb:=IA (g:=.inl ((n+3:Nat):Int)) (ak ps) r1 0;generalize bJ (.inl ((n+3:Nat):Int)) r1 0 (ak ps)=fresh at w nd eq sb kP;have lq:=y.len;have CA:=iZ fresh;have S3:=S2.same s3;have CB:H d=none:=dG.free IM;have c':H ch=none:=s1.free Vg;have nF:=S.no CB;have nc:=S.no c';have Vv:Lr H3 d fresh:=⟨fv,zc,kP⟩;have iq:bK H3 ch ps (bF r1) qq:=⟨N,s3 _ _ df,pv.mono<|aX s3,wj,IJ,y⟩;have NR:zf G B n ps fresh qq:=by
  refine⟨⟨by rw[show aU G B=(· ∈r1.map nm) from funext λx=>by rw[aU,e1],e1];exact w,nd,O,O,by rw[e1];exact sb⟩,eq,⟨by rw[y3,<-CA,eq];lia,?_⟩,by rw[<-CA,eq];lia⟩;have g2:=g1.2;rw[oA] at g2;rw[oA,eq];exact y.good g2 λp m=>Qx (wj p m)
 have bM:l.length=Y.length:=(KB S.le).trans S.D.L;have IW:ax (pZ K C X E) (cG.drop 11) (Dn Q) [some<|.r m,some<|.r v,some<|.i c,some<|.i ((n+3:Nat):Int),some<|.i (B:Nat),some<|.r f,some<|.i kd,some<|.i mo,none,some<|.r ch,some<|.r d] H3:=by
  refine dP<|iy<|af O ⟨.inl ⟨O,_,ah.of S3.R.i⟩,af O ⟨_,S3.R.i,cQ (by rw[XN];lia),?_⟩⟩;have e2:l.map V.r++[V.r d]=(l++[d]).map V.r:=by rw[Z3];rfl
  rw[e2];have R4:=S3.R.put2 (q:=l++[d]);have b4:aS [v,f,z,A] H3 (upd H3 f<|.l<|(l++[d]).map V.r):=aS.upd aJ;generalize upd H3 f (.l<|(l++[d]).map V.r)=H4 at R4 b4⊢;refine dP<|iy<|cz O R4.r Ij ⟨.inl ⟨O,_,ah.of R4.j⟩,af O ⟨_,R4.j,cQ (by rw[XN];lia),?_⟩⟩;have e3:Y.map gV++[V.i (B:Nat)]=(Y++[some B]).map gV:=by rw[Z3];rfl
  rw[e3];have R5:=R4.put3 (s:=Y++[some B]);have b5:aS [v,f,z,A] H4 (upd H4 z<|.l<|(Y++[some B]).map gV):=aS.upd aJ;generalize upd H4 z (.l<|(Y++[some B]).map gV)=H5 at R5 b5⊢;have ll:=RG.ll;refine dP<|iy<|cz O R5.r Cq ⟨.inl ⟨O,_,ah.of R5.u⟩,aC ⟨_,R5.u,cQ (by rw[XN];lia),?_⟩⟩;have e4:F.map gV++[V.a]=(F++[none]).map gV:=by rw[Z3];rfl
  rw[e4];have R6:=R5.UR (t:=F++[none]);have b6:aS [v,f,z,A] H5 (upd H5 A<|.l<|(F++[none]).map gV):=aS.upd aJ;generalize upd H5 A (.l<|(F++[none]).map gV)=H6 at R6 b6⊢;have CJ:=(b4.trans b5).trans b6;have Vw:=S3.R.live.bB CJ;have A6:aM C H6 m M J B Y (G.map bF) I (320* (n+1)):=(S3.hi.keep (λa o h e=>CJ a o e λq=>h.elim (S3.dj a q).1 (S3.dj a q).2.1) Vw).up (yH _ (Yr _));refine di<|xM<|wc (yC C) A6 O O (by decide+kernel) (by decide+kernel) (by decide+kernel) (by decide+kernel) (by decide+kernel) (by decide+kernel)<|af O ⟨m,M,J,B,Y,_,I,_,ch,ps,bF r1,qq,O,A6,iq.keep (λo e=>CJ _ o e nc.2.2.1) Vw,nc.1,kR vJ,(uU tp),ap,ap,λb a H7 b7 fb fa A7 ha=>?_⟩;obtain⟨bj,S7⟩:=S3.do NR CJ R6 Vv ⟨nF.1,nF.2.2.1⟩ b7 fb fa A7 ha
  obtain⟨T',f',_,_⟩:=Xn (aM.bP S7.hi);have l7:(Y++[some B]).length=Y.length+1:=by rw[W0];rfl
  have b':(l++[d]).length=Y.length+1:=by rw[W0,bM];rfl
  have pk:(Y++[some B])[Y.length]?=some (some B):=by rw[Wt<|VL _,Wg];rfl
  refine bE (rN C) O<|av<|af O<|av<|c7<|gw<|af O<|.inl ⟨_,ah.of S7.R.i,aC<|GX<|aI ?_⟩;have e5:(((l++[d]).map V.r).length:Int) - 1=((Y.length:Nat):Int):=by rw[XN,b'];lia
  rw[e5];refine⟨R,m,v,f,z,A,_,_,_,B,Y.length,Y.length,_,_,_,_,_,bj,n+1,O,S7,by rw[W0,W0,ll];rfl,(Xf hh f'),f',(h_ hn _),λH8 S8=>jP ?_⟩;rw[rL T' pk] at S8;have ef:iB (Y++[some B]) [B,Y.length] (F++[none])=(F++[none]).set B (some Y.length):=by
   show pR _ (jy _ (B,Y.length))=_;unfold jy;rw[Id pk];rfl
  rw[ef] at S8;rw[Z2 O];exact q _ _ _ _ _ _ _ _ _ _ S8<|RG.new T hh
 refine cx<|xQ<|bf<|af O<|aC<|jP ⟨_,O,?_⟩;by_cases k4:kd=4;refine iT ?_ (Z2 k4);refine af9<|af8<|aC<|af O<|ltI ⟨_,O,?_⟩;by_cases h0:B=0;exact iF ⟨_,O,iF (d9 IW) O⟩ (VH ap);refine iT ?_ (Z2 ap);refine c7<|gw<|af O<|.inl ⟨_,ah.of S3.R.i,aC<|GX<|jP ⟨_,O,?_⟩⟩;by_cases h1:B+1=Y.length;refine iT ?_ (Z2 (by rw[XN];lia));refine pJ<|af O<|af O<|af O ⟨f,_,_,B,O,O,S3.R.i,gO (by rw[XN];lia),?_⟩;rw[show(l.map V.r).set B (V.r d)=(l.set B d).map V.r by rw[V_]];have S4:=S3.putN (i:=B) Vv ⟨nF.1,nF.2.2.1⟩;have b4:aS [v,f,z,A] H3 (upd H3 f<|.l<|(l.set B d).map V.r):=aS.upd aJ;have pS:=iq.keep (λo e=>b4 _ o e nc.2.2.1) (S3.R.live.bB b4);generalize upd H3 f (.l<|(l.set B d).map V.r)=H4 at S4 pS⊢;refine di<|xM<|wc (IP C) S4.hi O O (by decide+kernel) (by decide+kernel) (by decide+kernel) (by decide+kernel) (by decide+kernel) (by decide+kernel)<|af O ⟨m,M,J,B,Y,_,I,_,ch,ps,bF r1,qq,_,O,S4.hi,S4.ep,pS,nc.1,kR vJ,ap,ap,h0,h1,λcX a H5 b5 fa hE A5 EP=>af O<|jP ?_⟩;obtain⟨bj,S5⟩:=S4.amn h1 h0 NR tp b5 fa hE A5 EP;rw[Z2 O];exact q _ _ _ _ _ _ _ _ _ _ S5 RG;exact iF (d9 IW) (VH (by rw[XN];lia));exact iF (iF (d9 IW) O) (VH k4)
end
end
section
section
variable{K:Frag}{C e:DL}{s:pi}{H Z:Hp}{Q:VK}{E:XK}{f g k t v:DL}{M x p as':db}{hr B d j:Nat}{Y l Y' m:ac}{bg A:sB}{F:List bn}{n:Nat}
theorem ams(T:bD Y)(R:dS Y B l m)(a:B<Y.length)(h:l[B]?=some (some j)):m[B]?=some (some j)/\Y[j]?=some (some B):=by
 obtain⟨r,e,o⟩:=yJ T a;have V:m[B]?=some (some j):=by
  rw[<-R.no B (e▸λz=>absurd (o B z) (XD _))];exact h
 exact⟨V,R.ok B j V⟩
theorem amt:bS (IU C) (λE=>pZ K C e E) cG iC:=by
 intro vs H Q E h;obtain⟨s,f,g,k,t,v,M,x,p,B,Y,l,m,A,F,n,c,rfl,S,J,hn,q⟩:=h;obtain⟨T,z,_,_⟩:=aM.bP S.hi;have sz:=S.sz;have ll:=J.ll;obtain⟨a1,r1,zq⟩:=XU (S.row z);obtain⟨N,oj,e1,l1,lN⟩:=ZE zq;have bM:p.length=Y.length:=(KB S.le).trans S.D.L;refine aN<|cz O S.R.r Cr ?_;refine aN<|cz O S.R.r kQ ?_;refine aN<|c7<|af O<|aC ⟨(by show(0:Int) <7;decide),?_⟩;refine aN<|c7<|af O<|aC ⟨⟨bc,bc⟩,?_⟩;show ax (pZ K C e E) (cG.drop 4) (Dn Q) [some<|.r f,some<|.r g,some<|.i c,some<|.i ((n+3:Nat):Int),some<|.i (B:Nat),some<|.r k,some<|.i<|c % 7,some<|.i<|c / 7,none,none,none] H;generalize c % 7=kd;generalize c / 7=I;have P':ax (pZ K C e E) (cG.drop 8) (Dn Q) [some<|.r f,some<|.r g,some<|.i c,some<|.i ((n+3:Nat):Int),some<|.i (B:Nat),some<|.r k,some<|.i kd,some<|.i I,none,none,none] H:=amo S J hn q;refine cx<|bf<|af O<|aC<|jP ⟨_,O,?_⟩;by_cases k0:kd=0;refine iT ?_ (Z2 k0);exact di<|bE (IF C) O<|av<|af O<|av<|af O<|av<|af O<|av<|af O<|aI ⟨s,f,g,k,t,v,M,x,p,B,Y,l,m,A,F,n,I,O,S,J,hn,λM' cX as' Y' bM bA bj Z a a'=>q _ _ _ _ _ _ _ _ _ _ a a'⟩;refine iF (d9 ?_)<|VH k0;refine cx<|bf<|af O<|aC<|jP ⟨_,O,?_⟩;by_cases k1:kd=1;refine iT ?_ (Z2 k1);have t0:(0:Int) < ((Y.length:Nat):Int):=by lia
 obtain⟨d,ed⟩:=Int.eq_ofNat_of_zero_le (Xk I (show((Y.length:Nat):Int)≠0 by lia));have hd:d<Y.length:=by have:=Hd I t0;lia
 refine aN<|c7<|af O<|gw<|af O<|.inl ⟨_,ah.of S.R.i,?_⟩;rw[XN,bM];refine⟨t0,?_⟩;show ax _ _ _ [some<|V.r f,some<|V.r g,some<|V.i c,some<|.i ((n+3:Nat):Int),some<|V.i (B:Nat),some<|.r k,some<|V.i kd,some<|V.i I,some<|V.i<|I % ((Y.length:Nat):Int),none,none] _;rw[ed];exact di<|bE wb O<|av<|bh<|af O<|af O<|cK S.R.i (jV N)<|av<|wc (rJ C) S.hi O O (by decide+kernel) (by decide+kernel) (by decide+kernel) (by decide+kernel) (by decide+kernel) (by decide+kernel)<|af O<|UY S (hB hn) hd λw ps Z b fw a hw X G=>av (IV a ll z hd hn hw X N e1 O O ⟨G.1,G.2.2.1⟩ (λq=>af O q) λW S2=>q _ _ _ _ _ _ _ _ _ _ S2.up (jA T J z hd));refine iF (d9 ?_)<|VH k1;refine cx<|xQ<|bf<|af O<|aC<|jP ⟨_,O,?_⟩;have P:ax (pZ K C e E) (cG.drop 7) (Dn Q) [some<|.r f,some<|.r g,some<|.i c,some<|.i ((n+3:Nat):Int),some<|.i (B:Nat),some<|.r k,some<|.i kd,some<|.i I,none,none,none] H:=by
  refine cx<|xQ<|bf<|af O<|aC<|jP ⟨_,O,?_⟩;by_cases k3:kd=3;refine iT ?_ (Z2 k3);obtain⟨o,ho⟩:∃o,l[B]?=some o:=⟨_,Xd ap⟩;refine bf<|bh<|cz O S.R.r Cq<|af O<|cK S.R.u (dv (by rw[ZW,ho];rfl))<|aC ?_;cases o with
  |none=>exact⟨O,_,O,iF (d9 P') O⟩
  |some j=>
   refine⟨O,_,O,iT ?_ O⟩;obtain⟨hl,y⟩:=ams T J z ho;have U:=(bz T y).2;have gK:=jA T J z U;rw[rL T y] at gK;exact di<|bE wb O<|av<|bh<|af O<|af O<|cK S.R.i (jV N)<|av<|U4 (Cg C e) S.hi O O (by decide+kernel) (by decide+kernel) (by decide+kernel) (by decide+kernel) (by decide+kernel) (by decide+kernel)<|alf S (hB hn) hl y λw ps Z b fw a hw X G=>av (IV a ll z U hn hw X N e1 O O ⟨G.1,G.2.2.1⟩ (λq=>bh<|cz O a.R.r Cq<|af O<|cK a.R.u (dv (by rw[ZW,ho];rfl)) q) λW S2=>q _ _ _ _ _ _ _ _ _ _ S2.up (by rw[rL T y];exact gK))
  exact iF (iF (d9 P') O) (VH k3)
 by_cases k2:kd=2;refine iT ?_ (Z2 k2);refine bf<|af O<|aC<|pz ⟨_,O,?_⟩;by_cases h0:B=0;exact iF (d9 P) (VH ap);refine iT ?_ (Z2 ap);obtain⟨j,y,lt⟩:=T.up B (WY h0) z;have U:j<Y.length:=Xf lt z
 have gK:=jA T J z U;rw[v_ T y] at gK;exact di<|bE wb O<|av<|bh<|af O<|af O<|cK S.R.i (jV N)<|av<|U4 (Cf C e) S.hi O O (by decide+kernel) (by decide+kernel) (by decide+kernel) (by decide+kernel) (by decide+kernel) (by decide+kernel)<|ale S (hB hn) y λw ps Z b fw a hw X G=>av (IV a ll z U hn hw X N e1 O O ⟨G.1,G.2.2.1⟩ (λq=>bh<|cz O a.R.r Ij<|af O<|cK a.R.j (dv (by rw[ZW,y];rfl)) q) λW S2=>q _ _ _ _ _ _ _ _ _ _ S2.up (by rw[v_ T y];exact gK));exact iF (iF (d9 P) O) (VH k2)
end
end
section
variable{K:Frag}{C CN:DL}
variable{E:XK}{Q:VK}{H:Hp}
end
section
section
variable{K:Frag}{C I:DL}{G:pi}{H J:Hp}{Q:VK}{E:XK}{F g f s t a:DL}{M c l A:db}{B:Nat}{Y P U:ac}{X:sB}{p:List bn}{n:Nat}{w:AC}
abbrev GL(K:Frag)(C I:DL)(E:XK):bu:=aH K [("_law_text",Ay),("_law_cell_at",EU K),("_law_named",FE),("_law_deed",IU C),("_law_visited",Iu C)] [] [] [] [("History",C,Ht C I)] (E:=E)
theorem Vy(b:ah K J a (w.map V.i))(i:Int)(s:ar J H)(e:u[0]?=some (some<|.r a))(h:0<=i)(q:Q (.i<|cell w i.toNat) H):ae (GL K C I E) (.l 1 [.v 0,(.c<|.i i)]) u H Q:=
 bE (EU K) O (av<|af e<|av<|aC<|aI ⟨a,w,i,O,s.seq b,h,q⟩)
theorem amv(h:ae Γ ea u H λx H1=>ae Γ e u H1 λy W=>oU Γ.K .m [x,y] W Q):ae Γ (.t .m [ea,e]) u H Q:=h
noncomputable def lwB:gu:=[.i (.N<|.l 3 [.v 2,.v 3,(.i (.v 0)<|.v 4),.v 4]) [.r<|.c<|.b false] []]
theorem amx(ha:ah K J a (w.map V.i))(hk:∀y o,J y=some o->G y o)(S:SV C G H F g f s t M c l B B Y P U X X p 0)(R:dS Y B P U)(q:∀Z,Q (.b true) Z):
  ax (GL K C I E) (jT.drop 3) (Dn Q) [some<|.r a,some x1,some<|.r F,some<|.r g,x] H:=by
 have d:∀{Z:Hp}{M' cX A:db}{jY:Nat}{j Y' bM:ac}{bA:sB}{bj:List bn}{n':Nat},SV C G Z F g f s t M' cX A jY jY j Y' bM bA bA bj n'->ar J Z:=λS y o e=>(S.kp y o<|hk y o e).1;obtain⟨m,em,AR,g'⟩:∃m:Nat,(if ((w.length:Nat):Int) <11 then ((w.length:Nat):Int) else 11)=((m:Nat):Int)/\m<=11/\m<=w.length:=by
  by_cases z:((w.length:Nat):Int) <11;exact⟨w.length,Id z,ap,VL _⟩;exact⟨11,Ix z,VL _,ap⟩
 refine aaL<|aC<|amv<|aC<|gw<|af O<|.inl ⟨_,(d S).seq ha,?_⟩;show ∃p0 q:Int,[V.i 3,V.i (if (((w.map V.i).length:Nat):Int) <11 then (((w.map V.i).length:Nat):Int) else 11)]=[.i p0,.i q]/\_;rw[XN,em];refine⟨3,m,O,ap,C_ (λi u W=>acA λM2 N gY h n L D k T x=>tD (u=[some<|.r a,some x1,some<|.r F,some<|.r g,x]) (SV C G W F g f s t M2 N gY h h n L D k k T i) (dS n h L D)) ⟨M,c,l,B,Y,P,U,X,p,x,O,S,R⟩ ?_ ?_⟩;rintro i u W hi ⟨M2,N,gY,h,n,L,D,k,T,x,rfl,S2,R2⟩;have e0:(3:Int)+(i:Int)=((i+3:Nat):Int):=by lia
 rw[e0];obtain⟨v,hv⟩:∃v,w[i+3]?=some v:=⟨_,Xd ap⟩;refine cx<|qL<|sX (IU C) O<|av<|af O<|av<|af O<|av<|bh<|af O<|af O<|.inl ⟨a,_,_,_,O,O,(d S2).seq ha,dv (by rw[ZW,hv];rfl),av<|af O<|aI ⟨G,F,g,f,s,t,M2,N,gY,h,n,L,D,k,T,i,v,O,S2,R2,ap,λM3 f' b' e' d' IG IH c' a' H3 S3 R3=>qK<|iF ?_ O⟩⟩;exact⟨M3,f',b',e',d',IG,IH,c',a',_,O,S3,R3⟩;rintro u W ⟨M2,N,gY,h,n,L,D,k,T,x,rfl,S2,R2⟩;exact di<|bE (Iu C) O<|av<|af O<|av<|af O<|aI ⟨G,F,g,f,s,t,M2,N,gY,h,n,L,D,k,T,_,O,S2,R2.ll,ap,q⟩
theorem amE:ky [] (gE f s t 0)=gE f s t 0:=O
theorem amF(w:We):∀(l:am)(m:Nat),bF (gr w m l)=l:=by
 intro l;induction l with
 |nil=>exact λY=>O
 |cons c l i=>exact λm=>IN (c:: ·) (i<|m+1)
inductive CK(K:Frag)(vs:ci)(H:Hp)(Q:VK)(E:XK):Prop|i(a:DL)(w:AC)(_:vs=[.r a])(_:ah K H a (w.map V.i))(_:∀Z,Q (.b true) Z)
theorem amG:bS (CK K) (λE=>GL K C I E) jT ud:=by
 intro vs H Q E h;obtain⟨a,w,rfl,ha,q⟩:=h;have m0:(0:Int)<=cell w 0 % 25/\cell w 0 % 25<=24:=by lia
 refine aN<|bE Ay O<|av<|Vy ha 1 (ar.refl _) O bc<|av<|c7<|Vy ha 0 (ar.refl _) O bc<|aC ⟨(by show(0:Int) <25;decide),aI ⟨_,_,O,m0.1,by show cell w 0 % 25<=1000;lia,λx H1 gx lx s1=>?_⟩⟩;have lx:x.length<=24:=by rw[lx];show(cell w 0 % 25).toNat<=24;lia
 have g':=Xz x;refine aN<|Bg C (Ht C I) O<|gw<|af O ⟨cI gx.1,λF dx fh fd ne=>⟨F,dx,_,O,aj,.inl (pI x.cps.toList (320*0) (by rw[<-Xz]) (λM W b2 fM A0=> ⟨O,?_⟩))⟩⟩;have s2:ar H1 W:=λy o e=>b2 y o (by rw[ay<|aQ e fh,ay<|aQ e fd];exact e) (aQ e fh);have f2:∀y∈M,H1 y=none:=λy h=>by
  by_cases z:y=F;rw[z];exact fh;have:=fM y h z;rw[ay z] at this;by_cases z2:y=dx;rw[z2];exact fd;rw[ay z2] at this;exact this
 clear b2 fM;refine aN<|R_ λg fr=>?_;have Z:=Xq (o:=.d []) fr;have T:upd W g (.d []) g=some (.d []):=aj;generalize upd W g (.d [])=H3 at Z T⊢;refine av<|aC<|av<|d5<|av<|bE FE O<|av<|af O<|aI ⟨x,O,(wO lx (XA _ _)),λm H4 N s4 fz L hv=>aI ⟨eE,λf R=>?_⟩⟩;have v:=Xq (o:=.l [V.r m]) R;have S:upd H4 f (.l [V.r m]) f=some (.l [V.r m]):=aj;have w4:=s4 _ _ T;have n1:f≠g:=oz w4 R;have zn:m≠g:=oz T fz;have zl:f≠m:=oz L R;have Vz:=Z.trans s4;have c':W m=none:=Z.free fz;have d':W f=none:=Vz.free R;generalize upd H4 f (.l [V.r m])=H5 at v S⊢;have w5:=v _ _ w4;have s5:=Vz.trans v;refine av<|aC<|av<|d5<|av<|aC<|aI ⟨eE,λs J=>?_⟩;have n:=Xq (o:=.l [V.a]) J;have fZ:upd H5 s (.l [V.a]) s=some (.l [V.a]):=aj;have n2:s≠g:=oz w5 J;have n3:s≠f:=oz S J;have b':s≠m:=oz (v _ _ L) J;have f':=s5.free J;generalize upd H5 s (.l [V.a])=H6 at n fZ⊢;have w6:=n _ _ w5;have s6:=s5.trans n;refine av<|aC<|av<|d5<|av<|aC<|aI ⟨eE,λt D=>?_⟩;have A:=Xq (o:=.l [V.a]) D;have cO:upd H6 t (.l [V.a]) t=some (.l [V.a]):=aj;have n4:t≠g:=oz w6 D;have n5:t≠f:=oz (n _ _ S) D;have n6:t≠s:=oz fZ D;have a':t≠m:=oz (n _ _<|v _ _ L) D;have e':=s6.free D;generalize upd H6 t (.l [V.a])=H7 at A cO⊢;have w7:=A _ _ w6;have s7:=s6.trans A;refine av<|aC<|av<|aC<|aI ⟨w7,gE f s t 0,O,(by show 4<=15;decide),?_⟩;rw[amE];have u:aE g H7 (upd H7 g<|.d<|gE f s t 0):=aE.upd;have s8:ar W (upd H7 g<|.d<|gE f s t 0):=qy s7 fr u;have h8:upd H7 g (.d<|gE f s t 0) g=some (.d<|gE f s t 0):=aj;have t8:bR H7 (upd H7 g<|.d<|gE f s t 0):=λy N e=>u _ _ e λz=>by rw[z,w7] at e;cases e
 generalize upd H7 g (.d<|gE f s t 0)=H8 at u s8 h8 t8⊢;have gR:∀y∈ [g,f,s,t],W y=none:=λy h=>by
  simp only[xW,Zz,Os] at h;rcases h with rfl|rfl|rfl|rfl
  exact fr;exact d';exact f';exact e'
 have lv:=(aM.bP A0).2.2.2;have VA:=(v.trans n).trans A;have eg:bF (gr (.inr "old") 0 x.cps.toList)=x.cps.toList:=amF _ _ _;have lr:(gr (.inr "old") 0 x.cps.toList).length<=24:=by rw[vi];lia
 refine amx (G:=λy o=>H y=some o) (M:=M) (c:=[]) (l:=[m]) (B:=0) (Y:=[none]) (P:=[none]) (U:=[none]) (X:=[gr (.inr "old") 0 x.cps.toList]) (p:=[[]]) ha (λ_ _ e=>e) ⟨?_,(λi b e=>by simp at e),⟨O,λk=>?_,λy k h=>?_,λi j e F=>?_⟩,⟨h8,u _ _ (A _ _<|n _ _ S) n1,u _ _ (A _ _ fZ) n2,u _ _ cO n4,?_⟩,.cons ⟨N,u _ _ (VA _ _ L) zn,(bN.mono (aX VA) hv).mono t8⟩ .nil,λy h=>⟨lv.no<|gR y h,(λz=>by cases z),λz=>?_⟩,λy h=>?_,λy o e=>⟨(s1.trans<|s2.trans s8) _ _ e,(λz=>?_),λz=>?_⟩,λrs kf=>?_,VL _,O⟩ ?_ q;show aM C H8 F M [] 0 [none] [bF<|gr (.inr "old") 0 x.cps.toList] [none] _;rw[eg];exact A0.same s8;cases k with
 |zero=>exact Gy _ _ _
 |succ k=>exact WQ
 cases k with
 |zero=>
  refine nT [0] IS (λj=>?_);cases j with
  |zero=>exact⟨λ_=>h,λ_=>.head _⟩
  |succ j=>exact⟨λz=>by simp at z,λz=>by cases z⟩
 |succ k=>cases h
 cases i with
 |zero=>cases F
 |succ i=>simp at F
 simp only[Y8,xW,not_or,Zz,not_false_eq_true,and_true,WQ];exact⟨⟨n1.symm,n2.symm,n4.symm⟩,⟨n3.symm,n5.symm⟩,n6.symm⟩;have z:=Yd.mp z;simp only[xW,Zz,Os] at h;rcases h with h|h|h|h
 exact zn (z.symm.trans h);exact zl (h.symm.trans z);exact b' (h.symm.trans z);exact a' (h.symm.trans z);rw[Yd.mp h];exact lv.no c';rw[s1.free<|f2 y z] at e;cases e;rw[s1.free<|s2.free<|gR y z] at e;cases e;cases Yd.mp kf;refine⟨⟨by rw[y3];exact wO lr (XA _ _),by rw[oA,eg];exact gx.2⟩,lr,λr hr=>?_⟩;exact .inl (yt _ _ _ r hr).1;refine⟨O,O,λa b h1 h2=>?_,λi _=>O,λi k h=>?_⟩;cases a with
 |zero=>cases h2
 |succ a=>simp at h2
 cases i with
 |zero=>cases h
 |succ i=>simp at h
end
end
section
open PySem.W (Frag nsIn findIn isFn keepIn codeIn fnOf mg_of mg_none_of)
def jZ(s:Fr):bi:=(j7 s).args.map (·.arg)
structure Yv(P:Fa)(w:Fk)(K:Frag)(mg:ge)(base:FS):Prop where
 X:K.In base
 G:base.Ns mainGlobals mg
def bZ(K:Frag)(x:Str)(s:Fr):Prop:= ∃f d,nsIn K mainGlobals x=some (some<|.ref f)/\sj K x x s f d
def fA(K:Frag)(C:DL)(x q:Str)(s:Fr):Prop:= ∃f d,findIn K (.ref C) x=some (some<|.ref f)/\isFn K (.ref f)=true/\sj K x q s f d
structure CL(K:Frag)(x:Str)(C:DL):Prop where
 g:nsIn K mainGlobals x=some (some<|.ref C)
 m:makesIn K C=true
 k:keepIn K (.ref C)=true
structure p9(K:Frag)(p:Str×V):Prop where
 ex:∃u0,nsIn K mainGlobals p.1=some (some u0)/\mL p.2 u0
structure wo(K:Frag)(p:Str×DL):Prop where
 g:nsIn K mainGlobals p.1=some (some<|.ref p.2)
 x:PySem.W.excIn K p.2 [.type "ValueError",.type "Exception",.type "BaseException",.type "object"] "ValueError.__new__"=true
section
variable{P:Fa}{w:Fk}{K:Frag}{n:ge}{z:FS}{x q:Str}{m:Fr}{f C:DL}{A:GE}{k:Nat}{I:Sp}
theorem dfk{o n:wP}{j:Array AT}{V d p b t:EQ}(a:nsIn K mainGlobals x=some (some<|.ref f))(l:K.lookup f=some ⟨e,o,.func<|fnOf x x (j7 m) (gp m) (gW m) .none V d p n b t,j⟩)(c:codeIn K b x=true)(k:keepIn K (.ref f)=true):bZ K x m:=⟨f,_,a,KA l c k⟩
theorem dmk{o n:wP}{j:Array AT}{V d p b t:EQ}(a:findIn K (.ref C) x=some (some<|.ref f))(i:isFn K (.ref f)=true)(l:K.lookup f=some ⟨e,o,.func<|fnOf x q (j7 m) (gp m) (gW m) .none V d p n b t,j⟩)(c:codeIn K b q=true)(k:keepIn K (.ref f)=true):fA K C x q m:=⟨f,_,a,i,KA l c k⟩
theorem amP(h:nsIn K mainGlobals x=some (some<|.str y t)):p9 K (x,.s y):=⟨_,h,⟨_,O⟩⟩
theorem amQ{y:DL}(h:nsIn K mainGlobals x=some (some<|.ref y)):p9 K (x,.r y):=⟨_,h,O⟩
theorem amR(h:findIn K (.ref C) y=some none):gI K C y:=h
theorem Yv.gv(Z:Yv P w K n z)(h:p9 K p):EC n p:=by
 obtain⟨u,a,b⟩:=h.ex;exact⟨u,mg_of Z.X Z.G a,b⟩
theorem Yv.no(Z:Yv P w K n z)(h:nsIn K mainGlobals x=some none):n x=none:=mg_none_of Z.X Z.G h
theorem Yv.exc(Z:Yv P w K n z)(h:wo K p):Ap n z p:=af4 Z.X Z.G h.g h.x
structure zh(P:Fa)(w:Fk)(K:Frag)(n:ge)(z:FS)(k:Nat)(m:Fr)(I:Sp):Prop where
 ok:∀{x q:Str}{f:DL}{A:GE},sj K x q m f A->dD P w K n z (jm P w) k f A (jZ m) I
theorem amS{N P:bi}(a:autoParam (s.kind=.function) ee)(b:autoParam (s.isCoroutine=false) ee)(c:autoParam (s.isGenerator=false) ee)(d:autoParam (N.Nodup) fe)(e:autoParam (N.take P.length=P) ee)(f:autoParam (∀x∈P,s.names.lookup x=some .local\/s.names.lookup x=some .cell) fe)(g:autoParam (∀y∈s.names,y.2≠ .free) fe):wF N P s:=⟨a,b,c,d,e,f,g⟩
theorem dL{o j:bi}{i:List (DL×ii)}{b:List (Str×DL×Sp)}{d:v4}(M:Yv P w K n z)(L:∀vs H Q E,I vs H Q E->ax (aH K t g i b c e d E) body {nx:=λY Z=>Q .a Z,r:=Q} (XF o vs) H)(u:∀{J:cZ}{Γ:bu}{X:Cx},iM J (Ao N00 (gW m) (t.map (·.1)) (g.map (·.1)) j (b.map (·.1)) (c.map (·.1)) (e.map (·.1)) (d.map (·.1))) Γ X->gF X (gp m) (ax Γ body))(k:Nat)(l:∀vs H Q E,I vs H Q E->vs.length=(jZ m).length:=by intro Y Y Y Y h;first|(cases h;subst_eqs;show List.length (_::_)=_;kernel_rfl)|repeat (first|(obtain⟨rfl,Y⟩:=h;kernel_rfl)|(obtain⟨Y,h⟩:=h)))(s:∀p∈t,nG P w K n z k p.1 p.2:=by repeat (first|exact q_|refine rf (nG.mono (by assumption) (by first|decide|lia)) ?_))(D:∀p∈g,EC n p:=by repeat (first|exact q_|refine rf (Yv.gv (by assumption) (by assumption)) ?_))(C:∀y∈j,n y=none:=by repeat (first|exact q_|refine rf (Yv.no (by assumption) (by assumption)) ?_))(G:∀q∈i,An P w K q:=by repeat (first|exact q_|refine rf (by assumption) ?_))(B:∀p∈b,nI P w K n z k p:=by repeat (first|exact q_|refine rf (nI.mono (by assumption) (by first|decide|lia)) ?_))(A:∀p∈c,sG P w K n z k p:=by repeat (first|exact q_|refine rf (sG.mono (by assumption) (by first|decide|lia)) ?_))(f:∀p∈e,Ap n z p:=by repeat (first|exact q_|refine rf (Yv.exc (by assumption) (by assumption)) ?_))(x:∀p∈d,ED P w K n z k p.1 p.2:=by repeat (first|exact q_|refine rf (ED.mono (by assumption) (by first|decide|lia)) ?_))(S:wF N00 (jZ m) (gW m):=by exact amS)(v:autoParam (o.length=N00.length) ee):zh P w K n z (k+1) m I:=
 ⟨λF=>abY F S t g j b c e d body u s D C i G B A f x l λvs H Q E h=>by
  have r:=L vs H Q E h;unfold XF at r⊢;rw[v] at r;exact r⟩
def Bd(x q:Str)(m:Fr):Prop:= ∀(k d p:EQ)(a:wP)(b c:EQ)(u:ga),u.length=(jZ m).length->bindArgs (fnOf x q (j7 m) (gp m) (gW m) .none k d p a b c) ⟨u,[]⟩=pure ((jZ m).zip u)
theorem amT(f:(jZ m).length=1)(h:∀(k d p:EQ)(a:wP)(b c e:EQ),bindArgs (fnOf x q (j7 m) (gp m) (gW m) .none k d p a b c) ⟨[e],[]⟩=pure ((jZ m).zip [e])):Bd x q m:=λk d p a b c u l=>by
 rcases u with Y|⟨e,Y|⟨Y,Y⟩⟩ <;>first|exact h k d p a b c _|exact absurd (l.trans f) aJ
theorem amU(g:(jZ m).length=2)(h:∀(k d p:EQ)(a:wP)(b c f e:EQ),bindArgs (fnOf x q (j7 m) (gp m) (gW m) .none k d p a b c) ⟨[f,e],[]⟩=pure ((jZ m).zip [f,e])):Bd x q m:=λk d p a b c u l=>by
 rcases u with Y|⟨f,Y|⟨e,Y|⟨Y,Y⟩⟩⟩ <;>first|exact h k d p a b c _ _|exact absurd (l.trans g) aJ
theorem Kf(i:(jZ m).length=3)(h:∀(k d p:EQ)(a:wP)(b c g f e:EQ),bindArgs (fnOf x q (j7 m) (gp m) (gW m) .none k d p a b c) ⟨[g,f,e],[]⟩=pure ((jZ m).zip [g,f,e])):Bd x q m:=λk d p a b c u l=>by
 rcases u with Y|⟨g,Y|⟨f,Y|⟨e,Y|⟨Y,Y⟩⟩⟩⟩ <;>first|exact h k d p a b c _ _ _|exact absurd (l.trans i) aJ
theorem amW(j:(jZ m).length=4)(h:∀(k d p:EQ)(a:wP)(b c i g f e:EQ),bindArgs (fnOf x q (j7 m) (gp m) (gW m) .none k d p a b c) ⟨[i,g,f,e],[]⟩=pure ((jZ m).zip [i,g,f,e])):Bd x q m:=λk d p a b c u l=>by
 rcases u with Y|⟨i,Y|⟨g,Y|⟨f,Y|⟨e,Y|⟨Y,Y⟩⟩⟩⟩⟩ <;>first|exact h k d p a b c _ _ _ _|exact absurd (l.trans j) aJ
theorem IX(h:Bd x q m:=by first|exact amT (by kernel_rfl) λY Y Y Y Y Y Y=>O|exact amU (by kernel_rfl) λY Y Y Y Y Y Y Y=>O|exact Kf (by kernel_rfl) λY Y Y Y Y Y Y Y Y=>O|exact amW (by kernel_rfl) λY Y Y Y Y Y Y Y Y Y=>O|exact ao2 (by kernel_rfl) λY Y Y Y Y Y Y Y Y Y Y=>O|exact ao3 (by kernel_rfl) λY Y Y Y Y Y Y Y Y Y Y Y=>O|exact ao4 (by kernel_rfl) λY Y Y Y Y Y Y Y Y Y Y Y Y=>O|exact ao5 (by kernel_rfl) λY Y Y Y Y Y=>O):Bd x q m:=h
theorem dT(Z:Yv P w K n z)(D:bZ K x m)(R:zh P w K n z k m I)(h:autoParam (Bd x x m) fj):nG P w K n z k x I:=by
 obtain⟨f,A,a,F⟩:=D;exact⟨f,A,_,R.ok F,mg_of Z.X Z.G a,F.kp,F.binds h⟩
theorem dM(D:fA K C x q m)(c:gT K C)(R:zh P w K n z k m I)(h:autoParam (Bd x q m) fj):nI P w K n z k (x,C,I):=by
 obtain⟨f,A,a,i,F⟩:=D;exact⟨c,f,A,_,⟨a,i,F.kp⟩,R.ok F,F.binds h⟩
theorem dI(Z:Yv P w K n z)(D:fA K C "__init__" q m)(M:CL K c C)(R:zh P w K n z k m I)(h:autoParam (Bd "__init__" q m) fj):sG P w K n z (k+1) (c,C,I):=by
 obtain⟨f,A,a,i,F⟩:=D;exact oT k f A _ (VL _) ⟨M.m,a,i,M.k⟩ (R.ok F) (mg_of Z.X Z.G M.g) (F.binds h)
theorem amX{g:DL}(X:K.In h)(G:h.Ns mainGlobals n)(j:n x=some (.ref g))(D:bZ K x m)(R:∀z,Yv P w K n z->zh P w K n z k m I)(l:autoParam (jZ m=[y]) ee)(o:∀(V d p:EQ)(a:wP)(b c i:EQ),bindArgs (fnOf x x (j7 m) (gp m) (gW m) .none V d p a b c) ⟨[i],[]⟩=pure [(y,i)]:=by exact λY Y Y Y Y Y Y=>O):
  ∃A:GE,(∀(s:Ev)(v:EQ),BindsTo s A ⟨[v],[]⟩ [(y,v)])/\∀z:FS,K.In z->z.Ns mainGlobals n->dD P w K n z wM k g A [y] (λvs H Q Y=>I vs H Q E0):=by
 obtain⟨f,A,e,F⟩:=D;cases j.symm.trans (mg_of X G e);obtain⟨B,u,V,d,p,a,b,c,J,zq⟩:=uJ ((F).ex);obtain⟨rfl,E,C⟩:=Xb zq;refine⟨_,λs v=>.of_eq<|o V d p a b c v,λz q t=>?_⟩;have r:=(R z ⟨q,t⟩).ok F;rw[l] at r;exact dD.top r
end
end
section
open PyProof.Rows
theorem atD{K:Frag}{h:FS}{mg:ge}{fa:DL}(X:K.In h)(G:h.Ns mainGlobals mg)(pA:mg "law"=some (.ref fa))(ao6:p9 K ("BadChange",.r IY))(ao7:p9 K ("BadFit",.r uw))(ao8:p9 K ("NoPlace",.r VB))(ao9:p9 K ("NoNode",.r VC))(am5:CL K "Walk" uv)(am6:CL K "History" gP)(p_:qQ K uv)(dA:gM K gP)(ao_:wo K ("BadChange",IY))(apa:wo K ("BadFit",uw))(apb:wo K ("NoPlace",VB))(apc:wo K ("NoNode",VC))(a0:bZ K "is_whole" SO)(a1:bZ K "is_between" SQ)(a2:bZ K "is_word" SR)(a3:bZ K "is_text" SS)(a4:bZ K "is_part" SU)(a5:bZ K "may_follow" SW)(a6:bZ K "need_change" SX)(a7:bZ K "part_size" SY)(a8:bZ K "sizes" S_)(a9:fA K uv "__init__" "Walk.__init__" Ta)(a10:fA K uv "word" "Walk.word" Tb)(a11:fA K uv "left" "Walk.left" Tc)(a12:fA K uv "take" "Walk.take" Td)(a13:bZ K "add_keep" Te)(a14:bZ K "add_texts" Tf)(a15:bZ K "neat" Tg)(a16:bZ K "back" Th)(a17:bZ K "cut_behind" Ti)(a18:bZ K "parts_behind" Tj)(a19:bZ K "then" Tn)(a20:bZ K "put_first" To)(a21:bZ K "share" Tp)(a22:bZ K "passed" Tq)(a23:bZ K "joined_all" Ts)(a24:fA K gP "__init__" "History.__init__" Tt)(a25:fA K gP "need_node" "History.need_node" Tu)(a26:fA K gP "need_over" "History.need_over" Tv)(a27:fA K gP "many" "History.many" Tw)(a28:fA K gP "size" "History.size" Tx)(a29:fA K gP "do" "History.do" Tz)(a30:fA K gP "more" "History.more" TB)(a31:fA K gP "edge" "History.edge" TC)(a32:fA K gP "along" "History.along" TF)(a33:fA K gP "undo" "History.undo" TH)(a34:fA K gP "redo" "History.redo" TJ)(a35:fA K gP "go" "History.go" TK)(a36:fA K gP "upward" "History.upward" TL)(a37:fA K gP "way" "History.way" TM)(a38:fA K gP "neighbours" "History.neighbours" TN)(a39:fA K gP "foreign" "History.foreign" TQ)(a40:bZ K "_law_cell_at" TR)(a41:bZ K "_law_mixed" TU)(a42:bZ K "_law_text" TV)(a43:bZ K "_law_parts" TX)(a44:bZ K "_law_neat" TY)(a45:bZ K "_law_change" TZ)(a46:bZ K "_law_gone" T_)(a47:bZ K "_law_named" Ua)(a48:bZ K "_law_signs" Ud)(a49:bZ K "_law_followed" eP)(a50:bZ K "_law_in_order" Uh)(a51:bZ K "_law_visited" Uk)(a52:bZ K "_law_foreign" fk)(a53:bZ K "_law_up" Ul)(a54:bZ K "_law_moved" Up)(a55:bZ K "_law_led" Us)(a56:bZ K "_law_deed" c8)(a57:bZ K "law" kO)(apd:p9 K ("SIGNS",.s SG))(ape:p9 K ("WAYS_BACK",.r IZ))(anW:K.lookup IZ=some ⟨.type "dict",none,.dict #[⟨PyData.keyHash w.params "keep",.str "keep" amZ,.str "keep" am0⟩,⟨PyData.keyHash w.params "cut",.str "cut" am1,.str "put" am2⟩,⟨PyData.keyHash w.params "put",.str "put" am3,.str "cut" am4⟩] amY,#[]⟩)(apf:nsIn K mainGlobals "bool"=some none)(apg:nsIn K mainGlobals "dict"=some none)(aph:nsIn K mainGlobals "int"=some none)(api:nsIn K mainGlobals "isinstance"=some none)(apj:nsIn K mainGlobals "len"=some none)(apk:nsIn K mainGlobals "list"=some none)(apl:nsIn K mainGlobals "min"=some none)(apm:nsIn K mainGlobals "range"=some none)(apn:nsIn K mainGlobals "reversed"=some none)(apo:nsIn K mainGlobals "str"=some none)(apq:nsIn K mainGlobals "sum"=some none)(apr:nsIn K mainGlobals "tuple"=some none)(aps:nsIn K mainGlobals "zip"=some none)
  :∃fd:GE,(∀(s:Ev)(v:EQ),BindsTo s fd ⟨[v],[]⟩ [("_law_script",v)])/\∀base:FS,K.In base->base.Ns mainGlobals mg->dD P w K mg base wM 11 fa fd ["_law_script"] (λvs H Q Y=>(CK K) vs H Q E0):=by
 have apt:An P w K (IZ,WB):=af3 anW (.c ⟨_,rfl⟩<|.c ⟨_,rfl⟩<|.c ⟨_,rfl⟩ .n) bc;refine amX X G pA a57 λbase Z7=>?_;have T0:=dT Z7 a0 (dL Z7 adM @aiZ 0);have T1:=dT Z7 a1 (dL Z7 af5 @ai0 1);have T2:=dT Z7 a2 (dL Z7 adO @ai1 0);have T3:=dT Z7 a3 (dL Z7 adN @ai2 0);have T4:=dT Z7 a4 (dL Z7 adQ @ai3 1);have apu:=T4.weak (a:=EX) λY Y Y Y h=>adR h;have T5:=dT Z7 a5 (dL Z7 acg @ai4 0);have T6:=dT Z7 a6 (dL Z7 (Ym (et:=[("BadChange",IY)])) @ai5 2);have T7:=dT Z7 a7 (dL Z7 ach @ai6 0);have T8:=dT Z7 a8 (dL Z7 acw @Ki 3);have T9:=dI Z7 a9 am5 (dL Z7 (ad7 p_) @ai8 0);have T10:=dM a10 p_.cl (dL Z7 (ad8 p_) @ai9 0);have T11:=dM a11 p_.cl (dL Z7 (ad9 p_) @ai_ 1);have apw:=T11.weak (a:=nR uv) λY Y Y Y h=>ad_ h;have T12:=dM a12 p_.cl (dL Z7 (aea p_) @aja 2);have T13:=dT Z7 a13 (dL Z7 acB @ajb 0);have T14:=dT Z7 a14 (dL Z7 acz @L6 0);have T15:=dT Z7 a15 (dL Z7 acD @ajd 1);have T16:=dT Z7 a16 (dL Z7 adp @aje 3);have T17:=dT Z7 a17 (dL Z7 (Jf (et:=[("BadFit",uw)])) @ajf 0);have T18:=dT Z7 a18 (dL Z7 ael @ajg 3);have T19:=dT Z7 a19 (dL Z7 (aeB (et:=[("BadFit",uw)]) p_) @ajh 4);have T20:=dT Z7 a20 (dL Z7 aeP @aji 3);have T21:=dT Z7 a21 (dL Z7 (UE (et:=[("BadFit",uw)])) @ajj 0);have T22:=dT Z7 a22 (dL Z7 (ae3 (et:=[("BadFit",uw)]) p_) @ajk 4);have T23:=dT Z7 a23 (dL Z7 ah7 @ajl 5);have T24:=dI Z7 a24 am6 (dL Z7 (ag4 dA) @ajm 1);have T27:=dM a27 dA.cl (dL Z7 (agf dA) @ajp 0);have T25:=dM a25 dA.cl (dL Z7 agg @ajn 2);have T26:=dM a26 dA.cl (dL Z7 (agn dA) @ajo 4);have T28:=dM a28 dA.cl (dL Z7 (agh dA) @ajq 3);have T29:=dM a29 dA.cl (dL Z7 (agJ dA) @ajr 5);have T30:=dM a30 dA.cl (dL Z7 (ami dA) @ajs 6);have T31:=dM a31 dA.cl (dL Z7 (ahs dA) @ajt 4);have T32:=dM a32 dA.cl (dL Z7 (ah9 dA) @aju 6);have T33:=dM a33 dA.cl (dL Z7 (aio dA) @ajv 7);have T34:=dM a34 dA.cl (dL Z7 (aip dA) @ajw 7);have T36:=dM a36 dA.cl (dL Z7 (agj dA) @VM 0);have T37:=dM a37 dA.cl (dL Z7 agk @ajz 3);have T35:=dM a35 dA.cl (dL Z7 (aiq dA) @Uw 7);have T38:=dM a38 dA.cl (dL Z7 (ahw dA) @ajA 0);have T39:=dM a39 dA.cl (dL Z7 (ah6 (n:=uw) dA) @ajB 5);have T40:=dT Z7 a40 (dL Z7 aci @ajC 0);have T41:=dT Z7 a41 (dL Z7 acj @ajD 0);have T42:=dT Z7 a42 (dL Z7 acL @ajE 1);have T43:=dT Z7 a43 (dL Z7 ais @ajF 2);have T44:=dT Z7 a44 (dL Z7 acT @ajG 0);have T45:=dT Z7 a45 (dL Z7 aiC @ajH 3);have T46:=dT Z7 a46 (dL Z7 adU @ajI 0);have T47:=dT Z7 a47 (dL Z7 adT @NP 0);have T48:=dT Z7 a48 (dL Z7 Xs @ajK 0);have T49:=dT Z7 a49 (dL Z7 ak1 @ajW 1);have T50:=dT Z7 a50 (dL Z7 akN @ajX 0);have T53:=dT Z7 a53 (dL Z7 XY @akc 0);have T54:=dT Z7 a54 (dL Z7 (ald (C:=gP)) @ake 1);have T51:=dT Z7 a51 (dL Z7 alx @aj1 8);have T52:=dT Z7 a52 (dL Z7 al_ @akb 8);have T55:=dT Z7 a55 (dL Z7 alg @akg 2);have T56:=dT Z7 a56 (dL Z7 amt @akw 9);exact dL Z7 amG @akC 10
theorem walk{l:PySem.W.OpenLaw}{q:Fa}{e:bi}{X:(ge)->FS->Prop}{Y:Fk->FS->Prop}{d:DefRec}{K:Params->Frag}(i:l.most=some 63)(k:d.params.defaults=[])(j:∀(w:Fk)(h:FS),Y w h->(K w.params).In h)(F:∀(w:Fk)(m:ge)(g:DL)(h:FS),(K w.params).In h->h.Ns mainGlobals m->m d.name=some (.ref g)->
   ∃c:GE,(∀(s:Ev)(u:EQ),BindsTo s c ⟨[u],[]⟩ [("_law_script",u)])/\∀b:FS,(K w.params).In b->b.Ns mainGlobals m->dD l.prog w (K w.params) m b wM 11 g c ["_law_script"] ((λK=>(λvs H Q Z=>(CK K) vs H Q E0)) (K w.params))):
  PySem.W.WalkO q e X Y l.row.toRowW d [] (λf vs=>PySem.call f vs):=
 aqM i bc k ⟨O,bc,bc,O⟩ j F (λZ Z a n o Z S=>⟨a,n,O,S,λZ=>O⟩) λZ Z Z Z Z z=>z
end
end Internal
structure PySem.W.Fast:Prop where(tw9354483030760663910 tw1257327645020211346 tw164448212464047645 tw390078115813959784 tw14542256870854980220 tw4398194429657112343 tw1579696775175482554 tw2741931806210256558 tw5791745068050578179 tw4056105541723048112 tw16072251118629151968 tw7103360299599408576 tw8620076535930609777 tw7852657094658981510 tw9410823700170712478 tw211612219026120251 tw3822561876512674539 tw14177043788998401183 tw942017368034458463 tw729671048217616245 tw11067565287708524237 tw7772899636664476752 tw6214178668341759843 tw17857884827041087015 tw17042094455558450887 tw4686259843152798985 tw17495980747467075667 tw15277661661802612140 tw1333880296497137637 tw16461040809595812056 tw12132212505514303352 tw13634757407542835744 tw8885519738811305842 tw7345405103680507199 tw11608310161635692583 tw13294380847258502586 tw8299665786059906720 tw11163474803796070052 tw1580630121154963569 tw372495086704067348 tw9774415537321011707 tw4312232858782540251 tw17594690382885540283 tw10763637934318550533 tw1517606240787288239 tw14338233103305933903 tw9854870962537820664 tw6675510338745361880 tw5599878866095872190 tw11101864475364395186 tw2854518856905609083 tw2906965385553562683 tw11693377828529080834 tw6841528802061962811 tw672032181678634905 tw3424955753985521670 tw18118972424371563987 tw3868959500826621829 tw2309961310735377328 tw16145609631411375587 tw16741777343921823655 tw16955626336511561169 tw18214643371071107208 tw11651088128004885149 tw9890321639521025861 tw12687787785026216519 tw15891252859134128582 tw6871557336281936592 tw14493104654339652454 tw17077146983334311821 tw17031448605340039597 tw18086170298678065202 tw5944667318085159203 tw3431076721060393712 tw8093419608578822643 tw6768542003565491228 tw18184992312607660540 tw4046254684553995323 tw1975775354237162299 tw248502939021330007 tw9721721369548755078 tw45466490965995930 tw4976898709209045283 tw12998258370219572518 tw9706312055714429305 tw15044901466461930452 tw10481739298058747788 tw14804093763728730250 tw15887456801023313177 tw8194144910094013084 tw10824463004003685930 tw2526077204795168574 tw11987565619805347940 tw10504989423718002232 tw5568244061474340231 tw11877452315161069863 tw11229892898033723576 tw11057859280675732692 tw13243448887661282486 tw17706022601350198904 tw15676433539293440993 tw6134907761734114336 tw2230837188245195112 tw5783061830432019416 tw14860984364896566770 tw16449975508277599472 tw10218855329180384716 tw1051213397934095763 tw11738146713069393129 tw11795519172017188909 tw14618484935943642390 tw7608532934800335225 tw11617276914554080640 tw5231175059920290638 tw5623012285440732835 tw3630454224552198494 tw18099084619244815676 tw7136633002263492405 tw4099230887914976198 tw3528680877446661406 tw15556974405469394897 tw10994818438246297888 tw490595145592782183 tw14136695056394510673 tw2567369208824817375 tw8347667154385886117 tw9222848526299823163 tw9589650724978604399 tw9874981105215429289 tw8361131484303185174 tw17147648711481189143 tw1378628246133162883 tw10015357621458551861 tw1333841374532798112 tw1935466628119726748 tw14177832963965233456 tw10160753872076962730 tw9029500206095950820 tw9131657217486199420 tw1178163318316678785 tw479784406290905155 tw14623472510254512901 tw8568915960106855891 tw9592428207481225935 tw14948401898464888712 tw17179638528331147941 tw12528805516697935492 tw10110365591807043065 tw15506942818045104362 tw10642614133123403158 tw9407430209720026266 tw8482380995179696002 tw8998207343457254540 tw621792705042759802 tw15057004345469624623 tw4163499636105633129 tw14998930961556061277 tw4709299559940051313 tw5595259165162035898 tw7119769498633073119 tw505530495815802501 tw5999873866861401979 tw10917838236005555940 tw16862147586615790590 tw345752360614356457 tw8289199015774992221 tw4029972020643620660 tw13021588796107911227 tw9207948224852487398 tw5726746784150646086 tw9283828393807854828 tw16278454336404253984 tw3605124784033731232 tw17012369695215502462 tw10334879447101668215 tw11370637828780452403 tw2911696331483677387 tw10016158733277482594 tw2193963324751859399 tw13377696323590840593 tw14575417722070719030 tw11248957483505476534 tw10375971981986351010 tw15855936979510948419 tw4884377936273755159 tw13672924289099870662 tw9037085376460515503 tw10724179689052206894 tw7715413355146399972 tw9553872945290269439 tw13070165291969928528 tw4518801186468257874 tw4287555480140188876 tw3496209098347918971 tw12021064320110152627 tw10511849444365894180 tw15929254429054096089 tw10576891413120305112 tw6253230056608584138 tw7267224809455126564 tw13684799907288325083 tw15789133944507532529 tw15756520590354582382 tw2469855224321724903 tw3491465814650493938 tw74112264381498628 tw611123479036158518 tw3142954136648604322 tw10999895428102672775 tw1955297935189539414 tw15682653133708966535 tw675605272405638754 tw8420348655119442379 tw98518368245404559 tw4631156084552437567 tw7137376131958912640 tw14165778515664981508 tw3195821861685160953 tw11362394087862791366 tw15350324619473636796 tw12485331488174692217 tw519081353531934209 tw2035872314112805818 tw12398925836710643470 tw5057443188498485756 tw1816038951201203983 tw10585089035994098626 tw8087663050246849308 tw479949919377205189 tw13625264025993128562 tw486559565769652831 tw2004243225999592685 tw1272871581584339336 tw1996431005719689054 tw8366908180317798486 tw3375015376498715954 tw3327280506828092099 tw12428740812032495505 tw2289181078759970610 tw9190288882601586449 tw12711594078698087815 tw8176753821439945169 tw5160705923141610564:True)
open PySem PySem.W PyProof.Rows
set_option maxRecDepth 100000 in
set_option maxHeartbeats 0 in
theorem PySem.Challenge.cw_inkloom_k27_whole_foreign_amid_deeds_holds : PySem.Challenge.rw_inkloom_k27_whole_foreign_amid_deeds.Holds := by
 w_on;o_law;k_head;(case hw=>w_witness2)
 k_fill
 refine Internal.walk (l:=PySem.Challenge.rw_inkloom_k27_whole_foreign_amid_deeds) rfl rfl (λw h Y=>PySem.W.kIn_of Y) ?F
 case F=>
  intro w mg fa h KX G wK;refine' Internal.atD KX G wK ..
  all_goals try first | refine' Internal.dfk .. | refine' Internal.amQ .. | refine' Internal.CL.mk .. | refine' Internal.dmk .. | refine' Internal.aqf .. | refine' Internal.amP .. | refine' Internal.wo.mk .. | refine' Internal.qQ.mk (Internal.gT.mk ..) .. | refine' Internal.gM.mk (Internal.gT.mk ..) ..
  all_goals try refine' Internal.amR ..
  all_goals try first | k_is | k_exc | kernel_rfl