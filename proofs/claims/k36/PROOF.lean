import PyProof.Rows.All
import Wide.All
import OpenK.AllK
import Wide.FinOn
import Lean
import PyProof.EqAt
import PyProof.EqKinds
import PyProof.TupleCall
import PyProof.Rows.EqDataRows
import PyProof.DictList
import PyProof.FactsAll.dict_1
import PyProof.FactsAll.subtypes_4
import KE.KTryMore
import PyProof.WalksEnum
import PyProof.EnumMake
import PyProof.ListStr
import PyProof.TupleOfStr
import PyProof.Dict
import PyProof.ToksMono
import PyProof.StrCalls6
import PyProof.StrWalks
import PyProof.ConsumeWalk
import PyProof.CallStr
import PyProof.MeetsStr
import KE.KIntText
import PyProof.StrCalls2
import PyProof.StrOps2
import KE.KDictSum
import PyProof.ReprRoads
import KE.KDictOf
import PyProof.DictTruth
import PyProof.StrLawsIn
import KE.KSortTup
import PyProof.WalksMore
import PyProof.TupleIter
import PyProof.Rows.StrCut
import PyProof.ListRange
import KE.KRevIter
import PyProof.SliceList
import PyProof.ZipIter
import PyProof.ListNew
import PyProof.StrLawsRepr
import PyProof.Rows.StrJoinMade
import PySem.Challenge.RW_inkloom_k36_a_hand_by_plain_rows
set_option Elab.async false
set_option linter.all false
set_option maxRecDepth 100000
set_option compiler.extract_closed false
set_option bootstrap.genMatcherCode false
noncomputable section

theorem ba{p:Prop}(h:p:=by lia):p:=h
inductive XY{a':Type}(p:a'->Prop):Prop|i(a:a')(_:p a)
theorem mD:(∃a,p a)->XY p|⟨a1,h⟩=>⟨a1,h⟩
inductive YQ{a' b':Type}(p:a'->b'->Prop):Prop|i(a:a')(b:b')(_:p a b)
theorem ZL:(∃a b,p a b)->YQ p|⟨a1,b1,h⟩=>⟨a1,b1,h⟩
inductive qX3{a' b' c':Type}(p:a'->b'->c'->Prop):Prop|i(a:a')(b:b')(c:c')(_:p a b c)
theorem ZG:(∃a b c,p a b c)->qX3 p|⟨a1,b1,c1,h⟩=>⟨a1,b1,c1,h⟩
inductive U0{a' b' c' d':Type}(p:a'->b'->c'->d'->Prop):Prop|i(a:a')(b:b')(c:c')(d:d')(_:p a b c d)
theorem Yv:(∃a b c d,p a b c d)->U0 p|⟨a1,b1,c1,d1,h⟩=>⟨a1,b1,c1,d1,h⟩
inductive A4{a' b' c' d' e':Type}(p:a'->b'->c'->d'->e'->Prop):Prop|i(a:a')(b:b')(c:c')(d:d')(e:e')(_:p a b c d e)
theorem YE:(∃a b c d e,p a b c d e)->A4 p:=by
 rintro⟨a,b,c,d,e,z⟩;exact⟨a,b,c,d,e,z⟩
inductive y0{a' b' c' d' e' f' g':Type}(p:a'->b'->c'->d'->e'->f'->g'->Prop):Prop|i(a:a')(b:b')(c:c')(d:d')(e:e')(f:f')(g:g')(_:p a b c d e f g)
theorem Bo:(∃a b c d e f g,p a b c d e f g)->y0 p:=by
 rintro⟨a,b,c,d,e,f,g,z⟩;exact⟨a,b,c,d,e,f,g,z⟩
inductive qX9{a' b' c' d' e' f' g' h' i':Type}(p:a'->b'->c'->d'->e'->f'->g'->h'->i'->Prop):Prop|i(a:a')(b:b')(c:c')(d:d')(e:e')(f:f')(g:g')(h:h')(i:i')(_:p a b c d e f g h i)
theorem xN:(∃a b c d e f g h i,p a b c d e f g h i)->qX9 p:=by
 rintro⟨a,b,c,d,e,f,g,h,i,z⟩;exact⟨a,b,c,d,e,f,g,h,i,z⟩
inductive qA3(a b c:Prop):Prop|i(_:a)(_:b)(_:c)
theorem Yo:a/\b/\c->qA3 a b c|⟨a1,b1,c1⟩=>⟨a1,b1,c1⟩
inductive XB(a b c d:Prop):Prop|i(_:a)(_:b)(_:c)(_:d)
theorem Yq:a/\b/\c/\d->XB a b c d|⟨a1,b1,c1,d1⟩=>⟨a1,b1,c1,d1⟩
inductive xS(a b c d e:Prop):Prop|i(_:a)(_:b)(_:c)(_:d)(_:e)
theorem c3:a/\b/\c/\d/\e->xS a b c d e|⟨a1,b1,c1,d1,e1⟩=>⟨a1,b1,c1,d1,e1⟩
inductive x6(a b c d e f:Prop):Prop|i(_:a)(_:b)(_:c)(_:d)(_:e)(_:f)
theorem Gi:a/\b/\c/\d/\e/\f->x6 a b c d e f|⟨a1,b1,c1,d1,e1,f1⟩=>⟨a1,b1,c1,d1,e1,f1⟩
inductive eT(a b c d e f g:Prop):Prop|i(_:a)(_:b)(_:c)(_:d)(_:e)(_:f)(_:g)
theorem AY:a/\b/\c/\d/\e/\f/\g->eT a b c d e f g|⟨a1,b1,c1,d1,e1,f1,g1⟩=>⟨a1,b1,c1,d1,e1,f1,g1⟩
inductive AI(a b c d e f g h:Prop):Prop|i(_:a)(_:b)(_:c)(_:d)(_:e)(_:f)(_:g)(_:h)
theorem qa8:a/\b/\c/\d/\e/\f/\g/\h->AI a b c d e f g h|⟨a1,b1,c1,d1,e1,f1,g1,h1⟩=>⟨a1,b1,c1,d1,e1,f1,g1,h1⟩
inductive alC(a b c d e f g h i j k:Prop):Prop|i(_:a)(_:b)(_:c)(_:d)(_:e)(_:f)(_:g)(_:h)(_:i)(_:j)(_:k)
theorem Eu:a/\b/\c/\d/\e/\f/\g/\h/\i/\j/\k->alC a b c d e f g h i j k|⟨a1,b1,c1,d1,e1,f1,g1,h1,i1,j1,k1⟩=>⟨a1,b1,c1,d1,e1,f1,g1,h1,i1,j1,k1⟩
inductive aoL(a b c d e f g h i j k l:Prop):Prop|i(_:a)(_:b)(_:c)(_:d)(_:e)(_:f)(_:g)(_:h)(_:i)(_:j)(_:k)(_:l)
theorem apK:a/\b/\c/\d/\e/\f/\g/\h/\i/\j/\k/\l->aoL a b c d e f g h i j k l:=by
 rintro⟨a,b,c,d,e,f,g,h,i,j,k,l⟩;exact⟨a,b,c,d,e,f,g,h,i,j,k,l⟩
inductive mR{a' b' c' d' e' f':Type}(p:a'->b'->c'->d'->e'->f'->Prop):Prop|i(a:a')(b:b')(c:c')(d:d')(e:e')(f:f')(_:p a b c d e f)
namespace Internal
theorem am{p:Prop}(h:p:=by simp):p:=h
theorem ap{p:Prop}(h:p:=by decide):p:=h
def Fk:=@if_neg
def Fr:=@if_pos
def FI:=@PySem.wpAny_bind
def FM:=@congrArg
def FS:=@PySem.Paired.length
def Gc:=@PySem.Heap.lt_size
def Go:=@PySem.wpAny_pure
def GE:=@Ne.symm
def GM:=@decide_eq_true_eq
def GT:=@PySem.Heap.get?_push_of_some
def Id:=@PySem.wpAny_mono
def Ix:=@PySem.piled_cons
def IN:=@PySem.Heap.get?_push_size
def IO:=@PySem.Paired.snoc
def IR:=@of_decide_eq_true
def KB:=@PySem.mem_of_lookup
def KF:=@PySem.wpAny_holding
def KK:=@PySem.call_meets
def KM:=@or_false
def LE:=@PySem.F.plainAttrs_list
def No:=@PySem.wpAny_passesOwn
def NE:=@PySem.wpAny_truthy_bool
def On:=@PySem.Heap.get?_update_other
def Op:=@beq_iff_eq
def Os:=@PySem.wpAny_standAt
def OX:=@PySem.sizeLine_eq
def Pi:=@PySem.Heap.size_push
def Ps:=@PySem.codeAny_mono
def PP:=@PySem.wpAny_newObj_type
def P3:=@PySem.typeIs_str
def Re:=@PySem.F.plainAttrs_str
def Rs:=@PySem.strLen_append
def Sc:=@PyProof.Rows.callWith_type1
def SB:=@PySem.wpAny_Call_Name_kw
def SL:=@PySem.tupleKind_room_in1
def ST:=@PySem.lookup_relabel_local
def SZ:=@Nat.succ.inj
def Tk:=@PySem.StrLaws.reprText_len
def Tm:=@List.take_sublist
def TD:=@PyProof.Rows.subscriptTail_builtinR
def TW:=@PySem.Heap.get?_update_self
def Uf:=@PySem.Calls.callWith_builtin
def UF:=@PySem.Calls.evalArgs_plain
def UV:=@PySem.F.slot_list_append
def VN:=@Option.isSome_map
def Wp:=@PySem.SeqAt.canLay_of_shaped
def WF:=@PyProof.Rows.slot_tuple_getitem
def WP:=@Array.eq_empty_of_size_eq_zero
abbrev z4:=PySem.Addr
abbrev AC:=PySem.Shared
abbrev AT:=PySem.Value
abbrev A9:=PySem.World
abbrev BT:=PySem.Program
abbrev Ch:=PySem.Stmt
abbrev Cl:=Bool
abbrev Db:=PySem.Around
abbrev Do:=PySem.Heap
abbrev Ev:=PySem.FuncData
abbrev EQ:=PySem.PyData
abbrev Fa:=String
section
open PySem PySem.Spec PyProof.Rows
abbrev bn:=List Str
abbrev bv:=List Nat
abbrev ce:=AT->AC->Prop
abbrev cr:=List (z4×Obj)
abbrev db:=Str->Option AT
abbrev ge:=List AT
abbrev jp:=List (Str×z4)
abbrev le:=List Expr
abbrev lv:=List (Str×Nat)
abbrev lV:=List z4
abbrev mB:=Option Int
abbrev ut:=List (Option Nat)
abbrev v0:=Array AT
abbrev v4:=Option z4
abbrev wl:=List (Str×NameKind)
abbrev wr:=List Env
abbrev wv:=Option Nat
abbrev ww:=List Int
abbrev wE:=Unit->AC->Prop
abbrev wP:=List (Str×AT)
abbrev wS:=List Ch
abbrev wT:=Option AT
end
theorem pQ{A:α->Prop}{B:α->Prop}(a:α)(h:A a)(k:B a):∃a,A a/\B a:=⟨a,h,k⟩
theorem p4{A:α->β->Prop}{B:α->β->Prop}{C:α->β->Prop}(a:α)(b:β)(h:A a b)(k:B a b)(p:C a b):∃a,∃b,A a b/\B a b/\C a b:=⟨a,b,h,k,p⟩
theorem qH{A:α->Prop}{B:α->Prop}{C:α->Prop}(a:α)(h:A a)(k:B a)(p:C a):∃a,A a/\B a/\C a:=⟨a,h,k,p⟩
theorem qM{A:α->β->Prop}{B:α->β->Prop}{C:α->β->Prop}{D:α->β->Prop}(a:α)(b:β)(h:A a b)(k:B a b)(p:C a b)(q:D a b):∃a,∃b,A a b/\B a b/\C a b/\D a b:=⟨a,b,h,k,p,q⟩
theorem qX{A:α->Prop}(a:α)(h:A a):∃a,A a:=⟨a,h⟩
theorem q8{A:α->β->Prop}{B:α->β->Prop}{C:α->β->Prop}{D:α->β->Prop}{E:α->β->Prop}(a:α)(b:β)(h:A a b)(k:B a b)(p:C a b)(q:D a b)(r:E a b):∃a,∃b,A a b/\B a b/\C a b/\D a b/\E a b:=⟨a,b,h,k,p,q,r⟩
theorem q9{A:α->β->Prop}{B:α->β->Prop}(a:α)(b:β)(h:A a b)(k:B a b):∃a,∃b,A a b/\B a b:=⟨a,b,h,k⟩
theorem r3{A:α->β->γ->δ->Prop}{B:α->β->γ->δ->Prop}{C:α->β->γ->δ->Prop}{D:α->β->γ->δ->Prop}{E:α->β->γ->δ->Prop}(a:α)(b:β)(c:γ)(d:δ)(h:A a b c d)(k:B a b c d)(p:C a b c d)(q:D a b c d)(r:E a b c d):∃a,∃b,∃c,∃d,A a b c d/\B a b c d/\C a b c d/\D a b c d/\E a b c d:=⟨a,b,c,d,h,k,p,q,r⟩
theorem r4{A:α->β->γ->δ->Prop}{B:α->β->γ->δ->Prop}{C:α->β->γ->δ->Prop}{D:α->β->γ->δ->Prop}{E:α->β->γ->δ->Prop}{F:α->β->γ->δ->Prop}(a:α)(b:β)(c:γ)(d:δ)(h:A a b c d)(k:B a b c d)(p:C a b c d)(q:D a b c d)(r:E a b c d)(s:F a b c d):∃a,∃b,∃c,∃d,A a b c d/\B a b c d/\C a b c d/\D a b c d/\E a b c d/\F a b c d:=⟨a,b,c,d,h,k,p,q,r,s⟩
theorem sA{A:α->β->γ->Prop}{B:α->β->γ->Prop}{C:α->β->γ->Prop}{D:α->β->γ->Prop}{E:α->β->γ->Prop}(a:α)(b:β)(c:γ)(h:A a b c)(k:B a b c)(p:C a b c)(q:D a b c)(r:E a b c):∃a,∃b,∃c,A a b c/\B a b c/\C a b c/\D a b c/\E a b c:=⟨a,b,c,h,k,p,q,r⟩
theorem sL{A:α->Prop}{B:α->β->γ->δ->ε->ζ->Prop}{C:α->β->γ->δ->ε->ζ->Prop}{D:α->β->γ->δ->ε->ζ->Prop}{E:α->β->γ->δ->ε->ζ->Prop}{F:α->β->γ->δ->ε->ζ->Prop}{G:α->β->γ->δ->ε->ζ->η->Prop}{H:α->β->γ->δ->ε->ζ->η->θ->ι->κ->μ->ν->Prop}{I:α->β->γ->δ->ε->ζ->η->θ->ι->κ->μ->ν->Prop}{J:α->β->γ->δ->ε->ζ->η->θ->ι->κ->μ->ν->Prop}{K:α->β->γ->δ->ε->ζ->η->θ->ι->κ->μ->ν->Prop}{L:α->β->γ->δ->ε->ζ->η->θ->ι->κ->μ->ν->Prop}{M:α->β->γ->δ->ε->ζ->η->θ->ι->κ->μ->ν->Prop}(a:α)(h:A a)(b:β)(c:γ)(d:δ)(e:ε)(f:ζ)(k:B a b c d e f)(p:C a b c d e f)(q:D a b c d e f)(r:E a b c d e f)(s:F a b c d e f)(g:η)(t:G a b c d e f g)(i:θ)(j:ι)(l:κ)(m:μ)(n:ν)(u:H a b c d e f g i j l m n)(v:I a b c d e f g i j l m n)(w:J a b c d e f g i j l m n)(x:K a b c d e f g i j l m n)(y:L a b c d e f g i j l m n)(z:M a b c d e f g i j l m n):∃a,A a/\∃b,∃c,∃d,∃e,∃f,B a b c d e f/\C a b c d e f/\D a b c d e f/\E a b c d e f/\F a b c d e f/\∃g,G a b c d e f g/\∃i,∃j,∃l,∃m,∃n,H a b c d e f g i j l m n/\I a b c d e f g i j l m n/\J a b c d e f g i j l m n/\K a b c d e f g i j l m n/\L a b c d e f g i j l m n/\M a b c d e f g i j l m n:=⟨a,h,b,c,d,e,f,k,p,q,r,s,g,t,i,j,l,m,n,u,v,w,x,y,z⟩
theorem sU{A:α->β->γ->δ->ε->Prop}{B:α->β->γ->δ->ε->Prop}{C:α->β->γ->δ->ε->Prop}{D:α->β->γ->δ->ε->Prop}{E:α->β->γ->δ->ε->Prop}{F:α->β->γ->δ->ε->Prop}(a:α)(b:β)(c:γ)(d:δ)(e:ε)(h:A a b c d e)(k:B a b c d e)(p:C a b c d e)(q:D a b c d e)(r:E a b c d e)(s:F a b c d e):∃a,∃b,∃c,∃d,∃e,A a b c d e/\B a b c d e/\C a b c d e/\D a b c d e/\E a b c d e/\F a b c d e:=⟨a,b,c,d,e,h,k,p,q,r,s⟩
theorem sY{A:α->Prop}{B:α->β->Prop}{C:α->β->Prop}(a:α)(h:A a)(b:β)(k:B a b)(p:C a b):∃a,A a/\∃b,B a b/\C a b:=⟨a,h,b,k,p⟩
theorem tA{A:α->β->Prop}{B:α->β->Prop}{C:α->β->Prop}{D:α->β->γ->δ->Prop}{E:α->β->γ->δ->ε->ζ->Prop}{F:α->β->γ->δ->ε->ζ->Prop}{G:α->β->γ->δ->ε->ζ->Prop}(a:α)(b:β)(h:A a b)(k:B a b)(p:C a b)(c:γ)(d:δ)(q:D a b c d)(e:ε)(f:ζ)(r:E a b c d e f)(s:F a b c d e f)(t:G a b c d e f):∃a,∃b,A a b/\B a b/\C a b/\∃c,∃d,D a b c d/\∃e,∃f,E a b c d e f/\F a b c d e f/\G a b c d e f:=⟨a,b,h,k,p,c,d,q,e,f,r,s,t⟩
theorem tH{A:α->Prop}{B:α->Prop}{C:α->Prop}{D:α->Prop}(a:α)(h:A a)(k:B a)(p:C a)(q:D a):∃a,A a/\B a/\C a/\D a:=⟨a,h,k,p,q⟩
theorem tI{A:α->Prop}{B:α->Prop}{C:α->β->Prop}{D:α->β->Prop}(a:α)(h:A a)(k:B a)(b:β)(p:C a b)(q:D a b):∃a,A a/\B a/\∃b,C a b/\D a b:=⟨a,h,k,b,p,q⟩
theorem tL{B:α->Prop}{C:α->Prop}(h:A)(a:α)(k:B a)(p:C a):A/\∃a,B a/\C a:=⟨h,a,k,p⟩
theorem tV{A:α->β->γ->δ->Prop}{B:α->β->γ->δ->Prop}{C:α->β->γ->δ->Prop}{D:α->β->γ->δ->Prop}(a:α)(b:β)(c:γ)(d:δ)(h:A a b c d)(k:B a b c d)(p:C a b c d)(q:D a b c d):∃a,∃b,∃c,∃d,A a b c d/\B a b c d/\C a b c d/\D a b c d:=⟨a,b,c,d,h,k,p,q⟩
theorem tZ{A:α->β->γ->Prop}{B:α->β->γ->Prop}{C:α->β->γ->Prop}{D:α->β->γ->Prop}(a:α)(b:β)(c:γ)(h:A a b c)(k:B a b c)(p:C a b c)(q:D a b c):∃a,∃b,∃c,A a b c/\B a b c/\C a b c/\D a b c:=⟨a,b,c,h,k,p,q⟩
theorem t9{A:α->Prop}{B:α->β->γ->Prop}{C:α->β->γ->Prop}{D:α->β->γ->Prop}{E:α->β->γ->Prop}(a:α)(h:A a)(b:β)(c:γ)(k:B a b c)(p:C a b c)(q:D a b c)(r:E a b c):∃a,A a/\∃b,∃c,B a b c/\C a b c/\D a b c/\E a b c:=⟨a,h,b,c,k,p,q,r⟩
theorem t_{A:α->β->γ->Prop}{B:α->β->γ->Prop}(a:α)(b:β)(c:γ)(h:A a b c)(k:B a b c):∃a,∃b,∃c,A a b c/\B a b c:=⟨a,b,c,h,k⟩
theorem uA{A:α->β->Prop}(a:α)(b:β)(h:A a b):∃a,∃b,A a b:=⟨a,b,h⟩
theorem uJ{B:α->Prop}(h:A)(a:α)(k:B a):A/\∃a,B a:=⟨h,a,k⟩
theorem uK{A:α->Prop}{B:α->β->Prop}{C:α->β->Prop}{D:α->β->Prop}(a:α)(h:A a)(b:β)(k:B a b)(p:C a b)(q:D a b):∃a,A a/\∃b,B a b/\C a b/\D a b:=⟨a,h,b,k,p,q⟩
theorem uR{A:α->Prop}{B:α->β->γ->δ->ε->Prop}{C:α->β->γ->δ->ε->Prop}{D:α->β->γ->δ->ε->Prop}{E:α->β->γ->δ->ε->Prop}{F:α->β->γ->δ->ε->Prop}{G:α->β->γ->δ->ε->Prop}(a:α)(h:A a)(b:β)(c:γ)(d:δ)(e:ε)(k:B a b c d e)(p:C a b c d e)(q:D a b c d e)(r:E a b c d e)(s:F a b c d e)(t:G a b c d e):∃a,A a/\∃b,∃c,∃d,∃e,B a b c d e/\C a b c d e/\D a b c d e/\E a b c d e/\F a b c d e/\G a b c d e:=⟨a,h,b,c,d,e,k,p,q,r,s,t⟩
theorem uS{A:α->β->γ->Prop}{B:α->β->γ->Prop}{C:α->β->γ->Prop}{D:α->β->γ->Prop}{E:α->β->γ->Prop}{F:α->β->γ->Prop}(a:α)(b:β)(c:γ)(h:A a b c)(k:B a b c)(p:C a b c)(q:D a b c)(r:E a b c)(s:F a b c):∃a,∃b,∃c,A a b c/\B a b c/\C a b c/\D a b c/\E a b c/\F a b c:=⟨a,b,c,h,k,p,q,r,s⟩
theorem O{b:Sort u}{a:b}:a=a:=rfl
theorem ei{p:Prop}(a:p:=by repeat (first|exact rG|refine rH (by (first|assumption|apply Yj.gv|apply Yj.no|apply Yj.exc|apply n4.mono|apply og.mono|apply tG.mono|apply F5.mono) <;>first|assumption|decide|lia) ?_)):p:=a
def eh:=ei._auto_1
theorem cy{p:Prop}(a:p:=by first|exact .inl O|exact .inr O|assumption)(b:p:=by decide)(c:p:=by rfl)(d:p:=by intros;exact O)(f:p:=by kernel_rfl)(g:p:=by first|rfl|decide)(h:p:=by decide+kernel)(i:p:=by exact KR):p:=a
def ag:=cy._auto_1
def bc:=cy._auto_2
def bd:=cy._auto_3
def bq:=cy._auto_4
def cm:=cy._auto_5
def cn:=cy._auto_6
def cs:=cy._auto_7
def cu:=cy._auto_8
theorem jM:1≤PySem.sizeLine:=by decide
theorem cI:2≤PySem.sizeLine:=by decide
theorem sq:3≤PySem.sizeLine:=by decide
theorem xx:5≤PySem.sizeLine:=by decide
theorem akH:6≤PySem.sizeLine:=by decide
open PySem.W (Frag callWith_K cellsFrom_some emptyDict exmOne handedIn hasDictIn hideAll hideAll_get instObj kia_one kitOne kitx_dict kitx_list lookIn makesIn methodObj mroIn nsIn of_hideAll plainGet plainGet_of plainOver specialIn takerIn takesIn findIn keepIn fnOf isFn codeIn)
theorem Y4[Decidable p](h:p):decide p=true:=by lia
theorem XH[Decidable p](h: ¬p):decide p=false:=by lia
theorem Yy{c:Type}{a b:List c}:(a++b).length=a.length+b.length:=by simp
theorem Yw(n:Nat):n≤n:=Nat.le_refl n
theorem nE(n:Nat):0≤n:=Nat.zero_le n
def Yh:=@List.append_nil
def Z5:=@List.mem_cons
def ZF:=@List.mem_singleton
def R8:=@List.mem_append
def ZW:=@Bool.and_eq_true
def X_:=@List.mem_of_getElem?
def YO:=@List.getElem?_eq_getElem
def oT:=@Nat.le_trans
def X7:=@List.append_assoc
def Y9:=@List.length_map
def Zb:=@List.not_mem_nil
def KW:=@List.size_toArray
def ZT:=@List.getElem?_eq_some_iff
def X8:=@Option.some.inj
def XS:=@Nat.ne_of_lt
def Zc:=@List.length_cons
def Yf:=@Int.toNat_natCast
def Z4:=@List.map_append
def YH:=@Bool.false_ne_true
def Y0:=@List.length_drop
def XG:=@Nat.lt_of_lt_of_le
def Yl:=@List.mem_cons_of_mem
def YL:=@List.mem_cons_self
def ZU:=@List.map_cons
def Y7:=@List.length_take
def Yc:=@List.mem_append_right
def Yi:=@List.getElem?_map
def Zt:=@Nat.lt_irrefl
def ZX:=@List.mem_append_left
def RP:=@List.take_of_length_le
def CA:=@List.length_eq_zero_iff
def Xy:=@Nat.sub_self
def ZK:=@Int.emod_lt_of_pos
def ZZ:=@Bool.false_xor
def Zy:=@List.drop_eq_getElem_cons
def Zu:=@Int.emod_nonneg
def X4:=@List.getElem?_append_left
def KU:=@Bool.true_xor
def Za:=@List.cons.inj
def X6:=@List.getD_eq_getElem?_getD
def YI:=@List.getElem?_append_right
def Yn:=@List.cons_append
def cV:=@List.find?_cons
def o_:=@List.take_length
def YG:=@Int.le_refl
def gS:=@List.mem_map
def Zq:=@List.map_map
def zaV:=@List.map_nil
def Z7:=@Option.map_some
def YB:=@List.lookup_cons
def ZI:=@Bool.not_eq_true'
def Ym:=@Nat.zero_add
def Yt:=@List.take_append_drop
def Yu:=@Int.natCast_add
def Y8:=@Nat.le_of_eq
def aM:=@List.nodup_cons
def zX:=@List.replicate_succ
def Y6:=@List.length_nil
def YM:=@Option.ne_none_iff_exists'
def Y3:=@Int.eq_ofNat_of_zero_le
def AP:=@Nat.le_of_lt
def o8:=@List.all_cons
def Dr:=@List.flatten_cons
def lJ:=@Nat.le_add_right
def YR:=@List.all_eq_true
def yS:=@List.sum_cons
def Yg:=@List.take_nil
def Hd:=@Nat.ne_of_gt
def XT:=@List.any_cons
def Z0:=@List.length_singleton
def Zr:=@Nat.lt_trans
def YA:=@Nat.le_of_succ_le
def YU:=@List.drop_zero
def Wj:=@List.take_add_one
def Et:=@List.sum_append
def ZD:=@Int.zero_add
def ZH:=@List.mem_of_mem_drop
def zbz:=@List.cons_ne_nil
def YV:=@List.getElem?_drop
def zbB:=@Nat.add_assoc
def zbC:=@Nat.add_right_comm
def zbD:=@Bool.eq_iff_iff
def Zf:=@Nat.lt_succ_self
def dG:=@List.getElem?_take_of_lt
def X1:=@List.length_replicate
def A0:=@Bool.or_false
def Cs:=@List.nil_append
def An:=@Bool.false_eq_true
def XA:=@List.lookup_append
def YF:=@Nat.lt_succ_of_lt
def XF:=@List.mem_flatten
def Zx:=@List.getElem?_of_mem
def Xx:=@List.drop_length
def zU:=@List.take_zero
def X5:=@Nat.add_sub_cancel_left
def XX:=@List.drop_of_length_le
def pI:=@List.mem_of_mem_take
def m8:=@List.mem_map_of_mem
def YK:=@List.map_replicate
def XR:=@List.pairwise_append
def x4:=@List.filterMap_cons
def zbX:=@Array.length_toList
def vJ:=@List.mem_filterMap
def vV:=@List.length_dropLast
def zca:=@List.getLast?_append
def zC:=@List.getElem?_eq_none
def zcc:=@Nat.mul_le_mul_left
def Zs:=@Nat.le_add_left
def j2:=@Nat.add_le_add_right
def YS:=@Nat.le_succ_of_le
def nS:=@Nat.le_add_right_of_le
def Zv:=@Nat.le_of_not_lt
def Yk:=@Nat.le_antisymm
def Y5:=@Nat.le_succ
def Vz:=@Int.natCast_nonneg
def Yd:=@Nat.lt_succ_of_le
def ZV:=@Nat.succ_le_of_lt
def Yr:=@Nat.add_lt_add_right
def Zl:=@Nat.sub_le
def XQ:=@Nat.le_of_lt_succ
def X9:=@Nat.succ_pos
def Z_:=@Nat.le_add_left_of_le
def xO:=@Nat.lt_of_succ_le
def YC:=@Nat.add_le_add
def wR:=@Nat.not_lt_of_le
def xW:=@Nat.add_comm
def vW:=@Nat.lt_of_le_of_ne
def x8:=@Nat.lt_of_not_le
def wX:=@Nat.not_le_of_gt
def zZ:=@Int.lt_irrefl
def Dx:=@Int.lt_of_lt_of_le
def Ep:=@Int.le_of_not_gt
def zF:=@Nat.not_lt_zero
open PySem PySem.Spec
section
open PyProof.Rows
abbrev ZA:=Sum Int Str
abbrev tz:=List (List ZA×z4×AT)
noncomputable def vb:ZA->AT->Cl
 |.inl k,v=>Value.isInt k v
 |.inr x,v=>Value.isStrOf x v
def aoZ(w:A9):ZA->Int
 |.inl k=>hashInt k
 |.inr x=>hashStr w x
theorem oM:∀{k:ZA}{v:AT},vb k v=true->(∃i t,k=Sum.inl i/\v=Value.int i t)\/(∃x t,k=Sum.inr x/\v=Value.str x t)
 |.inl i,v,h=>by
  obtain⟨t,e⟩:=Value.isInt_shape h;exact .inl ⟨i,t,O,e⟩
 |.inr x,v,h=>by
  obtain⟨t,e⟩:=Value.isStrOf_shape h;exact .inr ⟨x,t,O,e⟩
theorem akT(i:Int)(t:Tok):vb (.inl i) (.int i t)=true:=by simp[vb,Value.isInt]
theorem aaL(x:Str)(t:Tok):vb (.inr x) (.str x t)=true:=by simp[vb,Value.isStrOf]
theorem apG(a b:Int):decide ((Sum.inl a:ZA)=Sum.inl b)=(a==b):=by lia
theorem aoJ(a b:Str):decide ((Sum.inr a:ZA)=Sum.inr b)=decide (a=b):=by lia
theorem aoS(a:Int)(b:Str):decide ((Sum.inl a:ZA)=Sum.inr b)=false:=O
theorem anN(a:Str)(b:Int):decide ((Sum.inr a:ZA)=Sum.inl b)=false:=O
def fo(p:BT)(w:A9):PySem.KeyKind p w ZA where
 is:=vb
 hash:=aoZ w
 inj:=λv a b l f=>by
  rcases oM l with⟨i,t,rfl,rfl⟩|⟨x,t,rfl,rfl⟩
  ·rcases oM f with⟨j,u,rfl,e⟩|⟨y,u,rfl,e⟩
   ·injection e with c _;rw[c]
   ·exact nomatch e
  ·rcases oM f with⟨j,u,rfl,e⟩|⟨y,u,rfl,e⟩
   ·exact nomatch e
   ·injection e with c _;rw[c]
 byValue:=λk v h=>by
  rcases oM h with⟨i,t,rfl,rfl⟩|⟨x,t,rfl,rfl⟩ <;>rfl
 pyHash:=λd h=>by
  rcases oM d with⟨i,t,rfl,rfl⟩|⟨x,t,rfl,rfl⟩
  ·exact wpAny_pyHash_int h
  ·exact wpAny_pyHash_str h
 eqBool:=λg d h=>by
  rcases oM g with⟨i,t,rfl,rfl⟩|⟨x,t,rfl,rfl⟩
  ·rcases oM d with⟨j,u,rfl,rfl⟩|⟨y,u,rfl,rfl⟩
   ·rw[apG] at h;exact wpAny_eqBool_int h
   ·rw[aoS] at h;exact SeqAt.EqAt.int_str i t y u _ _ _ _ h
  ·rcases oM d with⟨j,u,rfl,rfl⟩|⟨y,u,rfl,rfl⟩
   ·rw[anN] at h;exact SeqAt.EqAt.str_int x t j u _ _ _ _ h
   ·rw[aoJ] at h;exact wpAny_eqBool_str h
 «strs»:=λk x t v h=>by
  rcases oM h with⟨i,u,rfl,e⟩|⟨y,u,rfl,e⟩
  ·exact nomatch e
  ·injection e with c _
   subst c;cases v<;>rfl
theorem anK(p:BT)(w:A9)(i:Int)(t:Tok):(fo p w).is (.inl i) (.int i t)=true:=akT i t
theorem aiE(p:BT)(w:A9)(x:Str)(t:Tok):(fo p w).is (.inr x) (.str x t)=true:=aaL x t
inductive V where
 |a|b (b:Cl)|i (i:Int)|s (x:Str)|c (b:Array UInt8)|qx (b:UInt64)|r (a:z4)|t (n:Fa)
 deriving DecidableEq
abbrev wn:=List (List ZA×V)
abbrev io:=List (Str×V)
abbrev im:=Option V
abbrev ii:=List (ZA×V)
abbrev bi:=List V
def YD:V->AT->Prop
 |.a,u=>u=Value.none
 |.b b,u=>u=Value.bool b
 |.i i,u=>∃t,u=Value.int i t
 |.s x,u=>∃t,u=Value.str x t
 |.c b,u=>∃t,u=Value.bytes b t
 |.qx b,u=>∃t,u=Value.float b t
 |.r a,u=>u=Value.ref a
 |.t n,u=>u=Value.type n
abbrev Xz:bi->ge->Prop:=Paired YD
theorem Xz.length(r:Xz x u):x.length=u.length:=FS r
theorem Xz.get:∀{s:bi}{a:ge}{i:Nat}{x:V},Xz s a->s[i]?=some x->∃u,a[i]?=some u/\YD x u:=by
 intro Y Y i x h;induction h generalizing i with
 |nil=>intro e;simp at e
 |cons r Y b=>
  intro e;cases i with
  |zero=>simp at e;subst e;exact⟨_,O,r⟩
  |succ i=>
   obtain⟨u,d,c⟩:=b (by simpa using e);exact⟨u,by simpa using d,c⟩
theorem Xz.set(r:YD x u):∀{s:bi}{a:ge}(i:Nat),Xz s a->Xz (s.set i x) (a.set i u)
 |_,_,_,.nil=>.nil
 |_,_,0,.cons _ t=>.cons r t
 |_,_,i+1,.cons q t=>.cons q (Xz.set r i t)
theorem Xz.append:∀{x y:bi}{u w:ge},Xz x u->Xz y w->Xz (x++y) (u++w):=by
 intro Y Y Y Y h s;induction h with
 |nil=>exact s
 |cons r Y i=>exact .cons r i
theorem Xz.take:∀{x:bi}{u:ge}(n:Nat),Xz x u->Xz (x.take n) (u.take n)
 |_,_,0,_=>.nil
 |_,_,_+1,.nil=>.nil
 |_,_,n+1,.cons r t=>.cons r (Xz.take n t)
theorem Xz.drop:∀{x:bi}{u:ge}(n:Nat),Xz x u->Xz (x.drop n) (u.drop n)
 |_,_,0,r=>r
 |_,_,_+1,.nil=>.nil
 |_,_,n+1,.cons _ t=>Xz.drop n t
def ie:im->wT->Prop
 |some v,some u=>YD v u
 |none,none=>True
 |_,_=>False
def KV{a:Type}:List (a×V)->List (a×AT)->Prop:=Paired fun(p:a×V)(q:a×AT)=>p.1=q.1/\YD p.2 q.2
noncomputable def kV:ZA->V
 |.inl i=>.i i
 |.inr x=>.s x
inductive HO where
 |l (a:bi)
 |t (a:bi)
 |d (h:ii)|T (h:wn)
 |s (S:Int->Cl)(n:Nat)
 |i (C v:z4)(b:io)
 |o (x:z4)
 |xd (b:io)
 |m (f x:z4)
 |ee (k q:Int)
 |c (o:Obj)(u:HO)
 |n (p:v0)
 |e (g:Do->Prop)
abbrev Hp:=z4->Option HO
abbrev sK:=Cl->Hp->Prop
def fy(H:Hp)(a:z4)(o:HO):Hp:=λb=>if b=a then some o else H b
theorem av:fy H a o a=some o:=by unfold fy;rw[Fr O]
theorem aw(h:b≠a):fy H a o b=H b:=by unfold fy;rw[Fk h]
theorem AA:fy (fy H a o) a u=fy H a u:=by
 funext b;unfold fy;split<;>rfl
theorem cD{H:Hp}(h:H a=some o)(c:H b=some u)(d:o≠u):a≠b:=by lia
theorem aH{H:Hp}(h:H a=some o)(c:H b=none):a≠b:=by lia
section
variable(P:BT)(w:A9)
def cY(H:Hp)(h:Do)(a:z4):HO->Prop
 |.l b=>b.length<=sizeLine/\∃(r:ge)(n:Nat),Xz b r/\h.get? a=some {cls:=.type "list",data:=.seq r.toArray n}
 |.t b=>b.length<=sizeLine/\∃r:ge,Xz b r/\IsTup h a r.toArray
 |.d j=>j.length<=sizeLine/\(a==sysModules)=false/\∃z,KV j z/\h.DictOf (fo P w) a z
 |.T j=>j.length<=sizeLine/\(a==sysModules)=false/\∃b:tz,
   Paired (fun(p:List ZA×V)(q:List ZA×z4×AT)=>p.1=q.1/\H q.2.1=some (.t<|p.1.map kV)/\YD p.2 q.2.2) j b/\
   ∃o E J,h.get? a=some o/\o.ExactDict/\o.data=.dict E J/\E.toList=b.map (entryOfKey<|tupleKind<|fo P w)/\(b.map (·.1)).Nodup
 |.s S n=>h.SetOf (intKind P w) a S n
 |.i C k g=>H k=some (.o a)/\g.length<=1000/\k≠a/\h.get? a=some (instObj C k)/\
   ∃A,h.Ns1 k A/\(∀f,ie (g.lookup f)<|A f)/\PySem.Within A (g.map (·.1))
 |.o _=>∃o,h.get? a=some o
 |.xd g=>∃A,h.Ns1 a A/\∀f,ie (g.lookup f) (A f)
 |.ee G I=>∃t u v,h.get? a=some {cls:=.type "range",data:=.fields #[.int G t,.int I u,.int 1 v]}
 |.c o u=>h.get? a=some o/\cY H h a u
 |.n F=>h.get? a=some {cls:=.none,data:=.fields F}
 |.m f x=>h.get? a=some (methodObj (.ref f)<|.ref x)
 |.e y=>y h/\(∃o,h.get? a=some o)/\∀D B:Do,y D->(∀o,D.get? a=some o->B.get? a=some o)->y B
def cx(H:Hp)(h:Do):Prop:= ∀a o,H a=some o->cY P w H h a o
end
section
variable{P:BT}{w:A9}{H j:Hp}{h g:Do}{a:z4}{o:HO}
theorem cY.lt(x:cY P w H h a o):a<h.objs.size:=by
 cases o with
 |l b=>obtain⟨Y,Y,Y,Y,e⟩:=x;exact Gc e
 |t b=>obtain⟨Y,Y,Y,p⟩:=x;exact p.lt
 |d j=>obtain⟨Y,Y,Y,Y,o,Y,Y,e,Y⟩:=x;exact Gc e
 |T j=>obtain⟨Y,Y,Y,Y,o,Y,Y,e,Y⟩:=x;exact Gc e
 |s S n=>obtain⟨o,Y,Y,Y,e,Y⟩:=Yv x;exact Gc e
 |i C A g=>obtain⟨Y,Y,Y,e,Y⟩:=c3 x;exact Gc e
 |o y=>obtain⟨Y,e⟩:=x;exact Gc e
 |xd g=>obtain⟨Y,⟨Y,Y,Y,e,Y⟩,Y⟩:=x;exact Gc e
 |ee v z=>obtain⟨Y,Y,Y,e⟩:=x;exact Gc e
 |c r u=>obtain⟨e,Y⟩:=x;exact Gc e
 |n q=>exact Gc (show h.get? a=some _ from x)
 |m f y=>exact Gc (show h.get? a=some _ from x)
 |e k=>obtain⟨Y,⟨Y,e⟩,Y⟩:=x;exact Gc e
theorem Paired.bX:∀{c:List e}{l:List d},Paired F c l->(∀a b,F a b->G a b)->Paired G c l:=by
 intro Y Y h f;induction h with
 |nil=>exact .nil
 |cons r Y i=>exact .cons (f _ _ r) i
theorem cY.nG(x:cY P w H h a o)(k:∀b u,(b=a\/H b=some (.o a))->h.get? b=some u->g.get? b=some u)(Q:∀b,H b=some (.o a)->j b=some (.o a))(N:∀b E,H b=some (.t E)->j b=some (.t E)):cY P w j g a o:=by
 induction o with
 |l E=>obtain⟨z,I,n,r,e⟩:=x;exact uJ z I ⟨n,r,k _ _ (.inl O) e⟩
 |t E=>obtain⟨z,I,r,A,e,c⟩:=x;exact tL z I r ⟨A,k _ _ (.inl O) e,c⟩
 |d V=>obtain⟨z,y,K,r,A,B,D,e,c⟩:=x;exact⟨z,tL y K r ⟨A,B,D,k _ _ (.inl O) e,c⟩⟩
 |T V=>
  obtain⟨z,y,E,r,A,B,D,e,c⟩:=x;exact⟨z,tL y E (Paired.bX r λp q z=> ⟨z.1,N _ _ z.2.1,z.2.2⟩) ⟨A,B,D,k _ _ (.inl O) e,c⟩⟩
 |s S n=>obtain⟨A,B,D,t,e,c⟩:=Yv x;exact uA A B ⟨D,t,k _ _ (.inl O) e,c⟩
 |i C dx R=>
  obtain⟨d,z,L,e,G,⟨F,B,D,U,c⟩,r⟩:=x;exact⟨Q _ d,z,L,tL (k _ _ (.inl O) e) G (t_ F B D (k _ _ (.inr d) U) c) r⟩
 |o y=>obtain⟨A,e⟩:=x;exact qX A (k _ _ (.inl O) e)
 |xd R=>obtain⟨G,⟨F,B,D,e,c⟩,r⟩:=x;exact pQ G (t_ F B D (k _ _ (.inl O) e) c) r
 |ee Y Z=>obtain⟨t,u,v,e⟩:=x;exact uA t u ⟨v,k _ _ (.inl O) e⟩
 |c A u M=>obtain⟨e,q⟩:=x;exact⟨k _ _ (.inl O) e,M q⟩
 |n X=>
  have e:=x;exact k a _ (.inl O) e
 |m f y=>
  have e:=x;exact k a _ (.inl O) e
 |e W=>obtain⟨p,⟨o,e⟩,J⟩:=x;exact⟨J _ _ p λo q=>k _ _ (.inl O) q,qX o (k _ _ (.inl O) e),J⟩
theorem cx.lt(x:cx P w H h)(e:H a=some o):a<h.objs.size:=(x a o e).lt
theorem cx.fresh(x:cx P w H h)(e:h.objs.size<=a):H a=none:=by
 cases q:H a with
 |none=>rfl
 |some u=>exact absurd (XG (x.lt q) e) (Zt _)
theorem cx.kept(x:cx P w H h)(k:∀b u,h.get? b=some u->g.get? b=some u):cx P w H g:=λa o e=>
 (x a o e).nG (λb u Y q=>k b u q) (λY q=>q) λY Y q=>q
theorem cx.laid(x:cx P w H h)(k:∀b u,h.get? b=some u->g.get? b=some u)(p:h.objs.size<=a)(n:cY P w (fy H a o) g a o):cx P w (fy H a o) g:=λb u e=>by
 have d:=x.fresh p;by_cases f:b=a;subst f;rw[av] at e;cases e;exact n;rw[aw f] at e;exact(x b u e).nG (λc v Y q=>k c v q) (λc q=>by rw[aw<|aH q d];exact q) λc s q=>by rw[aw<|aH q d];exact q
end
noncomputable def Rd(H:Hp)(a:z4)(u:HO):Prop:=H a=some u\/∃o,H a=some (.c o u)
theorem Rd.ok(r:Rd H a u)(x:cx P w H h):cY P w H h a u:=by
 rcases r with r|⟨o,r⟩
 exact x a u r;obtain⟨Y,q⟩:=x a _ r;exact q
def xy:Option HO->Prop
 |some (.l _)=>True
 |some (.d _)=>True
 |some (.T _)=>True
 |some (.s _ _)=>True
 |some (.i _ _ _)=>True
 |some (.e _)=>True
 |_=>False
section
variable{P:BT}{w:A9}{H:Hp}{h a:Do}{x e:z4}{d:HO}
theorem cx.write(A:cx P w H h)(m:xy (H x))(l:e=x\/H e=some (.o x))(k:∀b u,b≠e->h.get? b=some u->a.get? b=some u)(p:∃u,a.get? e=some u)(n:cY P w (fy H x d) a x d):cx P w (fy H x d) a:=λb u q=>by
 have K:∀c y,H c=some (.o y)->c≠x:=λc y r z=>by subst z;rw[r] at m;exact m
 have X:∀c s,H c=some (.t s)->c≠x:=λc s r z=>by subst z;rw[r] at m;exact m
 by_cases g:b=x;subst g;rw[av] at q;cases q;exact n;rw[aw g] at q;by_cases i:b=e;have j:H b=some (.o x):=by
  rcases l with z|z
  cases g (i.trans z);rw[i];exact z
 rw[q] at j;cases j;obtain⟨v,B⟩:=p;exact⟨v,ba⟩;refine(A b u q).nG (λc v f r=>k c v ?_ r) (λc r=>by rw[aw<|K c b r];exact r) λc s r=>by rw[aw<|X c s r];exact r
 rcases f with rfl|f
 exact i;rintro rfl;rcases l with z|z
 exact K c b f z;rw[f] at z;cases z;exact g O
end
structure Un(fs ex:lV)(H H':Hp)(h h':Do):Prop where
 keep:∀b o,h.get? b=some o->H b=none->b∉fs->b∉ex->h'.get? b=some o
 slot:∀b o,h.get? b=some o->H b=none->b∈fs->b∉ex->∃sl,h'.get? b=some {o with slots:=sl}
 free:∀b o,h.get? b=some o->H b=none->b∉ex->H' b=none
 there:∀b o,h.get? b=some o->b∉ex->∃o',h'.get? b=some o'
 dS:∀b xs,H b=some (.t xs)->H' b=some (.t xs)
 iM:∀b o u,H b=some (.c o u)->H' b=some (.c o u)
 jj:∀b ps,H b=some (.n ps)->∃more,H' b=some (.n<|ps++more)
section
variable{d oN f ex':lV}{H H1 H2:Hp}{h g h2 c:Do}{a x e:z4}{o:HO}
theorem Un.any(u:Un d f H H1 h g){b:z4}{o:Obj}(q:h.get? b=some o)(n:H b=none)(x:b∉f):∃s,g.get? b=some {o with slots:=s}:=by
 by_cases a:b∈d;exact u.slot b o q n a x;exact⟨o.slots,u.keep b o q n a x⟩
theorem Un.kept(k:∀b u,h.get? b=some u->c.get? b=some u):Un d f H H h c:=
 ⟨λb o q Y Y Y=>k b o q,λb o q Y Y Y=>⟨o.slots,k b o q⟩,λY Y Y n Y=>n,λb o q Y=>⟨o,k b o q⟩,λY Y q=>q,λY Y Y q=>q,λY p q=>⟨#[],by rw[q];simp⟩⟩
theorem Un.refl:Un d f H H h h:=Un.kept λY Y q=>q
theorem Un.laid(k:∀b u,h.get? b=some u->c.get? b=some u)(p:h.objs.size<=a)(e:H a=none):Un d f H (fy H a o) h c where
 keep:=λb u q Y Y Y=>k b u q
 slot:=λb u q Y Y Y=>⟨u.slots,k b u q⟩
 free:=λb u q n Y=>by rw[aw<|XS<|XG (Gc q) p];exact n
 there:=λb u q Y=>⟨u,k b u q⟩
 dS:=λb x q=>by rw[aw<|aH q e];exact q
 iM:=λb u x q=>by rw[aw<|aH q e];exact q
 jj:=λb s q=>⟨#[],by rw[aw<|aH q e,q];simp⟩
theorem Un.write(a:xy (H x))(l:e=x\/H e=some (.o x))(k:∀b u,b≠e->h.get? b=some u->c.get? b=some u)(v:∃u,c.get? e=some u):Un d f H (fy H x o) h c:=by
 have g:∀b,H b=none->b≠x:=λb n z=>by subst z;rw[n] at a;exact a
 have i:∀b,H b=none->b≠e:=λb n z=>by
  subst z;rcases l with r|r
  exact g b n r;rw[n] at r;cases r
 have m:∀b u,H b=some u-> ¬xy (some u)->b≠x:=λb u q t z=>by lia
 refine⟨λb u q n Y Y=>k b u (i b n) q,λb u q n Y Y=>⟨u.slots,k b u (i b n) q⟩,λb u q n Y=>by rw[aw (g b n)];exact n,λb u q Y=>?_,
  λb j q=>by rw[aw (m b _ q λz=>z)];exact q,λb u j q=>by rw[aw (m b _ q λz=>z)];exact q,λb p q=>⟨#[],by rw[aw (m b _ q λz=>z),q];simp⟩⟩
 by_cases s:b=e;subst s;exact v;exact⟨u,k b u s q⟩
end
noncomputable def nH(h:Do)(H:Hp):lV:=(List.range h.objs.size).filter λa=>(H a).isSome
def oO(h:Do)(H:Hp):Do:=hideAll h (nH h H)
theorem apM(h:Do)(H:Hp):(oO h H).objs.size=h.objs.size:=PySem.W.hideAll_size _ _
theorem adY{H:Hp}(e:h.get? b=some o)(n:H b=none):(oO h H).get? b=some o:=
 hideAll_get _ e λm=>by
  have q:=(List.mem_filter.mp m).2;rw[n] at q;simp at q
theorem aiQ{b:z4}(e:(oO h H).get? b=some o):h.get? b=some o/\H b=none:=by
 have a:=of_hideAll (nH h H) e;refine⟨a,?_⟩;cases q:H b with
 |none=>rfl
 |some x=>
  have m:b∈nH h H:=List.mem_filter.mpr ⟨List.mem_range.mpr<|Gc a,by simp[q]⟩;have z:(oO h H).get? b=none:=PySem.W.hideAll_none (nH h H) m;rw[z] at e;cases e
structure Mod(K:Frag)(mg:db)(base:Do):Prop where
 xB:K.In base
 glob:base.Ns mainGlobals mg
 blt:∃mb,base.Ns builtinsNs mb/\∀x:Str,x≠"__name__"->mb x=bootBuiltins x
 nolimit:base.NoLimit
structure Cx where
 prog:BT
 w:A9
 K:Frag
 g:Str->wT
 base:Do
 A:Db
 N:bn
 S:AC
 H:Hp
 env:Env
 r:wr
 stack:wr
 ex:lV
 fn:Str->Cl
 calm:Cl
 n:cr
 a:AT->AC->Prop
noncomputable def bL(l:wr):lV:=l.filterMap (·.frame)
abbrev Cx.fs(X:Cx):lV:=bL X.r
def AB(s:Scope)(x:Str):Prop:=s.names.lookup x=some .local\/s.names.lookup x=some .cell\/s.names.lookup x=some .free
def ZQ(s:Scope)(x:Str):Prop:=s.names.lookup x=some .local\/s.names.lookup x=some .cell
def aaN(e:Env)(h:Do)(m:db)(x:Str)(u:AT):Prop:=
 (e.kindOf x=some .local/\m x=some u)\/((e.kindOf x=some .cell\/e.kindOf x=some .free)/\∃c,e.cells.lookup x=some c/\h.IsCell c (some u))
structure Cx.Ok(X:Cx):Prop where
 mod:Mod X.K X.g X.base
 kind:X.env.scope.kind=.function
 glob:X.env.globals=mainGlobals
 blt:X.env.builtins=builtinsNs
 above:X.S.heap.objs.size<=X.env.locals
 inj:∀x y c,X.env.cells.lookup x=some c->X.env.cells.lookup y=some c->x=y
 has:∀x,(X.env.kindOf x=some .cell\/X.env.kindOf x=some .free)->∃c,X.env.cells.lookup x=some c
 AD:∀x c,X.fn x=true->X.env.cells.lookup x=some c->X.S.heap.objs.size<=c
 hd:X.calm=true->X.A.handled=none
 frames:X.A.frames=some X.stack
 mf:X.stack=X.r\/(X.stack=X.env::X.r/\X.env.frame=some X.env.locals)
 KZ:∀b∈X.ex,b≠X.env.locals/\∀x c,X.env.cells.lookup x=some c->c≠b
 bs:∀b o,X.base.get? b=some o->X.S.heap.get? b=some o/\X.H b=none
 sx:X.base.objs.size<=X.S.heap.objs.size
 AE:∀b o,X.base.get? b=some o->b∉X.ex
 AF:∀b∈X.ex,b∉X.fs
 mh:X.S.heap.FunFrames X.base X.r
 ve:∀b∈X.fs,X.H b=none
structure d4(X:Cx)(B':cr)(σ:List im)(H:Hp)(s:AC):Prop where
 ok:X.Ok
 os:s.os=X.S.os
 E:AllBare s.gens
 base:Un X.fs X.ex X.H H X.S.heap s.heap
 G:∃m,s.heap.Ns X.env.locals m/\∀(i:Nat)(x:Str)(v:V),X.N[i]?=some x->σ[i]?=some (some v)->AB X.env.scope x->∃u,YD v u/\aaN X.env s.heap m x u
 cell:∀x c,X.env.cells.lookup x=some c->∃v,s.heap.IsCell c v
 free:H X.env.locals=none
 P:∀x c,X.env.cells.lookup x=some c->H c=none
 pin:∀p∈X.n++B',s.heap.get? p.1=some p.2/\H p.1=none/\p.1≠X.env.locals/\p.1∉X.fs/\∀v,p.2.data≠ .cell v
 aE:cx X.prog X.w H s.heap
 len:σ.length=X.N.length
section
variable{X:Cx}{f:cr}{g:List im}{H B:Hp}{s:AC}{w:Do}
theorem Cx.Ok.XI(k:X.Ok){b:z4}(e:X.base.get? b=some o):b∉X.fs:=λh=>by
 have:=(k.mh.mem h).1;rw[e] at this;cases this
theorem d4.bs(I:d4 X f g H s):∀b o,X.base.get? b=some o->s.heap.get? b=some o/\H b=none:=λb o e=>
 ⟨I.base.keep b o (I.ok.bs b o e).1 (I.ok.bs b o e).2 (I.ok.XI e)<|I.ok.AE b o e,I.base.free b o (I.ok.bs b o e).1 (I.ok.bs b o e).2<|I.ok.AE b o e⟩
theorem d4.bk(I:d4 X f g H s):∀b o,X.base.get? b=some o->s.heap.get? b=some o:=λb o e=>(I.bs b o e).1
theorem d4.mod(I:d4 X f g H s):Mod X.K X.g X.base:=I.ok.mod
theorem d4.dU(I:d4 X f g H s):X.K.In s.heap:=I.ok.mod.xB.keeps I.bk
theorem d4.lt(I:d4 X f g H s):X.env.locals<s.heap.objs.size:=by
 obtain⟨_,h,_⟩:=I.G;exact h.lt
theorem d4.sz(I:d4 X f g H s):X.S.heap.objs.size<=s.heap.objs.size:=oT I.ok.above (AP I.lt)
theorem d4.K1(I:d4 X f g H s){a:z4}(h:s.heap.objs.size<=a):a∉X.fs:=λc=>by
 obtain⟨Y,o,b,Y⟩:=I.ok.mh.mem c;cases Zt _ (XG (Gc b)<|oT I.sz h)
theorem d4.sy(I:d4 X f g H s):∀x c,X.env.cells.lookup x=some c->c≠X.env.locals:=λx c e z=>by
 obtain⟨v,o,h,d⟩:=I.cell x c e;obtain⟨m,⟨a,b,p,j,P,Y⟩,Y⟩:=I.G;rw[z,j] at h;cases h;rw[P] at d;cases d
theorem d4.mh(I:d4 X f g H s):s.heap.FunFrames X.base X.r:=by
 have d:∀(l:wr),(∀b∈bL l,b∈X.fs)->X.S.heap.FunFrames X.base l->s.heap.FunFrames X.base l:=by
  intro l;induction l with
  |nil=>intro Y Y;trivial
  |cons v r j=>
   intro i p;obtain⟨q,⟨L,o,h,n,m,t⟩,k⟩:=p;have c:=i L (by unfold bL;rw[x4,h];exact YL);obtain⟨u,e⟩:=I.base.slot L o m (I.ok.ve L c) c λz=>I.ok.AF L z c;exact⟨q,qM L _ h n e t,j (λb a=>i b (by unfold bL;rw[x4,h];exact Yl _ a)) k⟩
 exact d X.r (λY a=>a) I.ok.mh
theorem d4.stack(I:d4 X f g H s):s.heap.FunFrames X.base X.stack:=by
 rcases I.ok.mf with e|⟨e,a⟩
 rw[e];exact I.mh;rw[e];obtain⟨m,h,Y⟩:=I.G;refine .cons (by rw[I.ok.kind];decide) a h ?_ I.mh;exact Heap.get?_none_of_le<|oT I.ok.sx I.ok.above
theorem d4.AG(I:d4 X f g H s):∀b∈bL X.stack,b∈X.env.locals::X.fs:=λb h=>by
 rcases I.ok.mf with e|⟨e,a⟩
 rw[e] at h;exact Yl _ h;rw[e] at h;unfold bL at h;rw[x4,a] at h;exact h
theorem d4.AH(I:d4 X f g H s):∀b∈bL X.stack,H b=none:=λb h=>by
 rcases Z5.mp (I.AG b h) with e|h
 rw[e];exact I.free;obtain⟨Y,o,a,Y⟩:=I.ok.mh.mem h;exact I.base.free b o a (I.ok.ve b h) λz=>I.ok.AF b z h
theorem d4.step{ch:lV}(I:d4 X f g H s)(Z:∀b∈ch,(b∈X.ex\/X.S.heap.objs.size<=b)/\b≠X.env.locals/\(∀x c,X.env.cells.lookup x=some c->c≠b)/\∀p∈X.n++f,p.1≠b)(j:∀b o,b≠X.env.locals->b∉X.fs->b∉ch->s.heap.get? b=some o->H b=none->w.get? b=some o)(C:∀b o,b≠X.env.locals->b∈X.fs->b∉ch->s.heap.get? b=some o->H b=none->∃T,w.get? b=some {o with slots:=T})(a:∀b o,b∉ch->s.heap.get? b=some o->H b=none->B b=none)(D:∀b o,b∉ch->s.heap.get? b=some o->∃L,w.get? b=some L)(dS:∀b A,H b=some (.t A)->B b=some (.t A))(iM:∀b o u,H b=some (.c o u)->B b=some (.c o u))(jj:∀b Q,H b=some (.n Q)->∃M,B b=some (.n<|Q++M))(ns:∀m,s.heap.Ns X.env.locals m->w.Ns X.env.locals m)(aE:cx X.prog X.w B w)(hg:AllBare g'):
  d4 X f g B {s with heap:=w,gens:=g',drawn:=d',toks:=t'}:=by
 have K2:∀b o,X.S.heap.get? b=some o->b≠X.env.locals:=λb o e=>XS (XG (Gc e) I.ok.above);have R:∀b o,X.S.heap.get? b=some o->b∉X.ex->b∉ch:=λb o e h E=>by
  rcases (Z b E).1 with z|z
  exact h z;cases Zt _ (XG (Gc e) z)
 have K:∀x c,X.env.cells.lookup x=some c->∀v,s.heap.IsCell c v->w.IsCell c v:=λx c e v ⟨o,F,U⟩=>by
  have J:=λz=>(Z c z).2.2.1 x c e O;by_cases hc:c∈X.fs;obtain⟨T,q⟩:=C c o (I.sy x c e) hc J F (I.P x c e);exact pQ _ q U;exact pQ o (j c o (I.sy x c e) hc J F<|I.P x c e) U
 refine⟨I.ok,I.os,hg,⟨λb o e n E h=>?_,λb o e n E h=>?_,λb o e n h=>?_,λb o e h=>?_,λb A e=>dS b A<|I.base.dS b A e,λb o A e=>iM b o A<|I.base.iM b o A e,λb Q e=>?_⟩,?_,λx c e=>?_,?_,λx c e=>?_,λp Y=>?_,aE,I.len⟩;exact j b o (K2 b o e) E (R b o e h) (I.base.keep b o e n E h) (I.base.free b o e n h);obtain⟨T,y⟩:=I.base.slot b o e n E h;obtain⟨XJ,N⟩:=C b _ (K2 b o e) E (R b o e h) y (I.base.free b o e n h);exact qX XJ N;obtain⟨L,y⟩:=I.base.there b o e h;exact a b L (R b o e h) y<|I.base.free b o e n h;obtain⟨L,y⟩:=I.base.there b o e h;exact D b L (R b o e h) y;obtain⟨m1,y⟩:=I.base.jj b Q e;obtain⟨m2,N⟩:=jj b _ y;exact qX (m1++m2) (by rw[N,Array.append_assoc]);obtain⟨m,hn,hl⟩:=I.G;refine pQ m (ns m hn) (λi x v y N e3=>?_);obtain⟨u,r,l⟩:=hl i x v y N e3;refine pQ u r ?_;rcases l with l|⟨k,c,e,z⟩
 exact .inl l;exact .inr (tL k c e (K x c e _ z));obtain⟨v,z⟩:=I.cell x c e;exact qX v (K x c e v z);obtain⟨m,⟨o,_,_,F,_⟩,_⟩:=I.G;exact a _ o (λz=>(Z _ z).2.1 O) F I.free;obtain⟨v,o,F,U⟩:=I.cell x c e;exact a c o (λz=>(Z c z).2.2.1 x c e O) F<|I.P x c e;obtain⟨e,n,W,V,d⟩:=c3 (I.pin p Y);have J:=λz=>(Z p.1 z).2.2.2 p Y O;exact⟨j p.1 p.2 W V J e n,a p.1 p.2 J e n,W,V,d⟩
theorem d4.un(I:d4 X f g H s)(u:Un X.fs [] H B s.heap w)(j:cx X.prog X.w B w):d4 X f g B {s with heap:=w,toks:=l}:=by
 obtain⟨m,⟨o,x,y,a,r⟩,Y⟩:=id I.G;obtain⟨p,L⟩:=u.any a I.free am;exact I.step (ch:=[]) (λY z=>nomatch z) (λb o Y h Y e n=>u.keep b o e n h ba) (λb o Y h Y e n=>u.slot b o e n h am) (λb o Y e n=>u.free b o e n ba) (λb o Y e=>u.there b o e ba) u.dS u.iM u.jj (λv i=>by
  obtain⟨q,t,k,d,c⟩:=i;rw[a] at d;cases d;exact t_ _ t k L c) j I.E
theorem d4.call(I:d4 X f g H s)(u:Un (bL X.stack) i H B s.heap w)(E:cx X.prog X.w B w)(l:AllBare v)(Z:∀b∈i,(b∈X.ex\/X.S.heap.objs.size<=b)/\b≠X.env.locals/\(∀x c,X.env.cells.lookup x=some c->c≠b)/\∀p∈X.n++f,p.1≠b):
  d4 X f g B {s with heap:=w,gens:=v,drawn:=y,toks:=t}:=by
 obtain⟨m,⟨o,K,M,a,r⟩,Y⟩:=id I.G;obtain⟨D,L⟩:=u.any a I.free λz=>(Z _ z).2.1 O;exact I.step Z (λb o L q h e n=>u.keep b o e n (λz=>(Z5.mp (I.AG b z)).elim L q) h) (λb o Y Y h e n=>u.any e n h) (λb o h e n=>u.free b o e n h) (λb o h e=>u.there b o e h) u.dS u.iM u.jj (λJ k=>by
  obtain⟨F,C,A,d,j⟩:=k;rw[a] at d;cases d;exact t_ _ C A L j) E l
theorem d4.turned{i:z4}(I:d4 X f g H s)(k:∀b o,b≠i->s.heap.get? b=some o->w.get? b=some o)(F:H i=none)(L:i≠X.env.locals)(y:i∈X.ex\/X.S.heap.objs.size<=i)(t:∀x c,X.env.cells.lookup x=some c->c≠i)(l:∀p∈X.n++f,p.1≠i):d4 X f g H {s with heap:=w,toks:=C}:=by
 have K:∀b u,H b=some u->b≠i:=λb u e z=>by lia
 refine I.step (ch:=[i]) (λb j=>?_) (λb o Y Y h e Y=>k b o (λz=>h (by simp[z])) e) (λb o Y Y h e Y=>qX o.slots (k b o (λz=>h (by simp[z])) e)) (λY Y Y Y n=>n)
  (λb o h e=>qX o (k b o (λz=>h (by simp[z])) e)) (λY Y e=>e) (λY Y Y e=>e) (λb D e=>qX (#[]) (by rw[e];simp)) (λm d=>?_) (λb u e=>?_) I.E
 have e:=by simpa using j
 subst e;exact⟨y,L,t,l⟩;obtain⟨o,A,B,a,r⟩:=d;exact t_ o A B (k _ o (GE L) a) r;refine(I.aE b u e).nG (λc v h q=>k c v ?_ q) (λY q=>q) λY Y q=>q;rcases h with z|z
 rw[z];exact K b u e;exact K c _ z
theorem d4.tok(I:d4 X f g H s)(t:Nat):d4 X f g H {s with toks:=t}:=I.un Un.refl I.aE
theorem d4.kept(I:d4 X f g H s)(k:∀b u,s.heap.get? b=some u->w.get? b=some u):d4 X f g H {s with heap:=w,toks:=t'}:=I.un (Un.kept k) (I.aE.kept k)
theorem d4.laid{a:z4}(I:d4 X f g H s)(k:∀b u,s.heap.get? b=some u->w.get? b=some u)(h:s.heap.objs.size<=a)(n:cY X.prog X.w (fy H a o) w a o):
  d4 X f g (fy H a o) {s with heap:=w,toks:=t'}:=I.un (Un.laid k h<|I.aE.fresh h) (I.aE.laid k h n)
theorem d4.write(I:d4 X f g H s)(m:xy (H x))(h:e=x\/H e=some (.o x))(k:∀b u,b≠e->s.heap.get? b=some u->w.get? b=some u)(v:∃u,w.get? e=some u)(n:cY X.prog X.w (fy H x o) w x o):d4 X f g (fy H x o) {s with heap:=w,toks:=t}:=I.un (Un.write m h k v) (I.aE.write m h k v n)
theorem d4.vg(I:d4 X f g H s)(h:∀p∈pins',s.heap.get? p.1=some p.2/\H p.1=none/\p.1≠X.env.locals/\p.1∉X.fs/\∀v,p.2.data≠ .cell v):d4 X pins' g H s:=
 ⟨I.ok,I.os,I.E,I.base,I.G,I.cell,I.free,I.P,λp a=>(R8.mp a).elim (λz=>I.pin p<|ZX _ z)<|h p,I.aE,I.len⟩
theorem K4{N:bn}(h:N.Nodup){j:Nat}(a:N[i]?=some x)(b:N[j]?=some x):i=j:=by
 obtain⟨f,c⟩:=ZT.mp a;obtain⟨d,e⟩:=ZT.mp b;exact(List.getElem_inj h).mp<|c.trans e.symm
theorem K5{A:Db}{E:ce}{Q:wE}(I:d4 X f g H s)(hN:X.N.Nodup)(R:X.N[i]?=some x)(D:ZQ X.env.scope x)(r:YD v u)(h:∀s',d4 X f (g.set i<|some v) H s'->(∃a,Heap.SameBut a s.heap s'.heap/\(a=X.env.locals\/X.env.cells.lookup x=some a))->Q () s')(hf:autoParam (X.fn x=true\/X.env.scope.names.lookup x=some .local) ag):wpAny M A (storeName X.env x u) Q E s:=by
 obtain⟨m,hn,hl⟩:=id I.G;have XM:(X.env.scope.kind==.class ||(X.env.scope.kind==.module && X.env.locals !=X.env.globals))=false:=I.ok.kind▸O;have K6:i<g.length:=by rw[I.len];exact(ZT.mp R).1
 have Z:=I.sy;have t:∀{a:z4}{w:Do},(∃o,s.heap.get? a=some o/\H a=none)->Heap.SameBut a s.heap w->cx X.prog X.w H w:=λ{a w} ha l b ob e=>by
  obtain⟨V,V,vh⟩:=ha;refine(I.aE b ob e).nG (λc S C q=>(l.2 c ?_).trans q) (λV q=>q) λV V q=>q;rintro rfl;rcases C with rfl|C
  rw[vh] at e;cases e;rw[vh] at C;cases C
 rcases D with J|J
 refine wpAny_storeName_local J hn (λw Ew l=>?_) XM;obtain⟨oL,V,V,XN,V⟩:=id hn;refine h _ ⟨I.ok,I.os,I.E,⟨λb o e n L D=>?_,λb o e n L D=>?_,I.base.free,λb o e D=>?_,I.base.dS,I.base.iM,I.base.jj⟩,pQ _ Ew (λj y W B F e3=>?_),λy c e=>?_,I.free,I.P,λp hp=>?_,t (pQ oL XN I.free) l,by simpa using I.len⟩ (pQ _ l (.inl O));exact(l.2 b<|XS<|XG (Gc e) I.ok.above).trans (I.base.keep b o e n L D);obtain⟨sl,B⟩:=I.base.slot b o e n L D;exact qX sl ((l.2 b<|XS<|XG (Gc e) I.ok.above).trans B);obtain⟨o',B⟩:=I.base.there b o e D;exact qX o' ((l.2 b<|XS<|XG (Gc e) I.ok.above).trans B);by_cases K:j=i;subst K;rw[R] at B;cases B;rw[List.getElem?_set_self K6] at F;cases F;exact pQ u r (.inl ⟨J,ba⟩);rw[List.getElem?_set_ne<|GE K] at F;obtain⟨Y,r',q⟩:=hl j y W B F e3;refine pQ Y r' ?_;rcases q with⟨k,e⟩|⟨k,c,e,z⟩
 refine .inl ⟨k,?_⟩;have:y≠x:=λe=>K (K4 hN B<|e ▸ R);simp[this,e];exact .inr (tL k c e (z.sameBut l<|Z y c e));obtain⟨S,z⟩:=I.cell y c e;exact qX S (z.sameBut l<|Z y c e);obtain⟨e,n,T,nf,d⟩:=I.pin p hp;exact⟨(l.2 p.1 T).trans e,n,T,nf,d⟩;have Ex:X.fn x=true:=by
  rcases hf with z|z
  exact z;rw[z] at J;cases J
 obtain⟨c,C⟩:=I.ok.has x (.inl J);obtain⟨S,z⟩:=I.cell x c C;refine wpAny_storeName_cell I.ok.kind J C z<|λw eL l=>?_;obtain⟨oc,K7,XO⟩:=id z;refine h {s with heap:=w} ⟨I.ok,I.os,I.E,⟨λb o e n L D=>?_,λb o e n L D=>?_,I.base.free,λb o e D=>?_,I.base.dS,I.base.iM,I.base.jj⟩,pQ m (hn.sameBut l<|GE<|Z x c C) (λj y W B F e3=>?_),λy U e=>?_,I.free,I.P,λp hp=>?_,t (pQ oc K7 (I.P x c C)) l,by simpa using I.len⟩ (pQ c l (.inr C));exact(l.2 b<|XS<|XG (Gc e)<|I.ok.AD x c Ex C).trans (I.base.keep b o e n L D);obtain⟨sl,B⟩:=I.base.slot b o e n L D;exact qX sl ((l.2 b<|XS<|XG (Gc e)<|I.ok.AD x c Ex C).trans B);obtain⟨o',B⟩:=I.base.there b o e D;exact qX o' ((l.2 b<|XS<|XG (Gc e)<|I.ok.AD x c Ex C).trans B);by_cases K:j=i;subst K;rw[R] at B;cases B;rw[List.getElem?_set_self K6] at F;cases F;exact pQ u r (.inr (tL (.inl J) c C eL));rw[List.getElem?_set_ne<|GE K] at F;obtain⟨Y,r',q⟩:=hl j y W B F e3;refine pQ Y r' ?_;rcases q with q|⟨k,U,e,z'⟩
 exact .inl q;refine .inr (tL k U e (z'.sameBut l ?_));rintro rfl;exact K<|K4 hN B<|I.ok.inj _ _ _ e C ▸ R;by_cases K8:U=c;subst K8;exact qX _ eL;obtain⟨w2,z2⟩:=I.cell y U e;exact qX w2 (z2.sameBut l K8);obtain⟨e,n,T,nf,d⟩:=I.pin p hp;refine⟨(l.2 p.1 ?_).trans e,n,T,nf,d⟩;intro q;exact d S ba
theorem K9{A:Db}{E:ce}{Q:wE}(I:d4 X f g H s)(e:X.N.Nodup)(c:X.N[i]?=some x)(b:ZQ X.env.scope x)(r:YD v u)(h:∀a,d4 X f (g.set i<|some v) H a->Q () a)(d:autoParam (X.fn x=true\/X.env.scope.names.lookup x=some .local) ag):wpAny M A (storeName X.env x u) Q E s:=
 K5 I e c b r (λa j Y=>h a j) d
theorem d4.Ey(I:d4 X f g H s)(h:s'.os=s.os)(u:Un (bL X.stack) ch H B s.heap s'.heap)(E:cx X.prog X.w B s'.heap)(a:AllBare s'.gens)(e:∀b∈ch,(b∈X.ex\/X.S.heap.objs.size<=b)/\b≠X.env.locals/\(∀x c,X.env.cells.lookup x=some c->c≠b)/\∀p∈X.n++f,p.1≠b):d4 X f g B s':=by
 obtain⟨w,d,i,t,o⟩:=s';subst h;exact I.call u E a e
end
abbrev XK:=AT->v4->Hp->Prop
abbrev St:=List im
abbrev x0:=St->Hp->Prop
abbrev VK:=V->Hp->Prop
abbrev TE:=St->Hp->VK->Prop
abbrev TT:=St->Hp->(sK)->Prop
abbrev TA:=St->Hp->(bi->Hp->Prop)->Prop
structure En where
 nx:St->Hp->Prop
 r:VK
 bk:St->Hp->Prop:=λ_ _=>False
 c:St->Hp->Prop:=λ_ _=>False
abbrev TS:=En->St->Hp->Prop
inductive EP(X:Cx)(B:cr)(a:St)(Q:VK)(u:AT)(s:AC):Prop|i(v H)(_:d4 X B a H s)(_:YD v u)(_:Q v H)
inductive TP(X:Cx)(B:cr)(a:St)(Q:sK)(b:Cl)(s:AC):Prop|i(H)(_:d4 X B a H s)(_:Q b H)
inductive akE(X:Cx)(B:cr)(a:St)(Q:bi->Hp->Prop)(u:ge)(s:AC):Prop|i(v H)(_:d4 X B a H s)(_:Xz v u)(_:Q v H)
def SP(X:Cx)(B:cr)(D:En)(f:Flow)(s:AC):Prop:=
 match f with
 |.next=>∃V H,d4 X B V H s/\D.nx V H
 |.brk=>∃V H,d4 X B V H s/\D.bk V H
 |.cont=>∃V H,d4 X B V H s/\D.c V H
 |.ret u=>∃v V H,d4 X B V H s/\YD v u/\D.r v H
def PE(X:Cx)(e:Expr)(t:TE):Prop:=
 ∀(B:cr)(s:AC)(b:St)(H:Hp)(Q:VK),d4 X B b H s->t b H Q->wpAny (model X.prog X.w) X.A (eval e X.env) (EP X B b Q) X.a s
def PT(X:Cx)(e:Expr)(t:TT):Prop:=
 ∀(B:cr)(s:AC)(b:St)(H:Hp)(Q:sK),d4 X B b H s->t b H Q->wpAny (model X.prog X.w) X.A (isTrue e X.env<|eval e X.env) (TP X B b Q) X.a s
def PW(X:Cx)(e:Expr)(t:TT):Prop:=
 ∀(b:Sem AT)(B:cr)(s:AC)(c:St)(H:Hp)(Q:sK),d4 X B c H s->t c H Q->wpAny (model X.prog X.w) X.A (isTrue e X.env b) (TP X B c Q) X.a s
theorem PW.pt(h:PW X e t):PT X e t:=h _
def PA(X:Cx)(e:le)(t:TA):Prop:=
 ∀(p:Pos)(B:cr)(s:AC)(b:St)(H:Hp)(Q:bi->Hp->Prop),d4 X B b H s->t b H Q->wpAny (model X.prog X.w) X.A (spliced<|backTo p<|starEach e X.env) (akE X B b Q) X.a s
def PS(X:Cx)(c:Ch)(t:TS):Prop:=
 ∀(B:cr)(s:AC)(b:St)(H:Hp)(D:En),d4 X B b H s->t D b H->wpAny (model X.prog X.w) X.A (exec c X.env) (SP X B D) X.a s
def e7(X:Cx)(c:wS)(t:TS):Prop:=
 ∀(B:cr)(s:AC)(b:St)(H:Hp)(D:En),d4 X B b H s->t D b H->wpAny (model X.prog X.w) X.A (execs c X.env) (SP X B D) X.a s
theorem aI{Q b:c->AC->Prop}{A:Db}{E:ce}{s:AC}(h:wpAny M A t Q E s)(d:∀a s,Q a s->b a s):wpAny M A t b E s:=Id h d λY Y x=>x
section
variable{X:Cx}
def Ez(i:Nat):TE:=λa H Q=>∃v,a[i]?=some (some v)/\Q v H
def tC(v:V):TE:=λ_ H Q=>Q v H
theorem aoM{p:Pos}(q:X.N[i]?=some x)(f:AB X.env.scope x)(d:autoParam ((x==("__debug__":Str))=false) bc)(n:autoParam ((x==("__classdict__":Str))=false) bc):PE X (.Name x p) (Ez i):=by
 intro B s b H Q I h;obtain⟨v,e,h⟩:=h;obtain⟨m,g,o⟩:=I.G;obtain⟨u,r,l⟩:=o i x v q e f;have V:EP X B b Q u s:=⟨v,H,I,r,h⟩;rcases l with⟨k,j⟩|⟨k,c,a,K⟩
 exact wpAny_Name (wpAny_loadName_local I.ok.kind k g j V) d;rcases k with k|k
 exact wpAny_Name (wpAny_loadName_cell I.ok.kind k a K V) d;exact wpAny_Name (wpAny_loadName_free I.ok.kind k a K V n) d
theorem aoX:PE X (.Constant (.int i) j p) (tC<|.i i):=λY Y Y H Y I h=>wpAny_Constant_int ⟨.i i,H,I.tok _,⟨_,O⟩,h⟩
theorem aiD:PE X (.Constant (.bool b) j p) (tC<|.b b):=λY Y Y H Y I h=>Constant_bool ⟨.b b,H,I,O,h⟩
theorem aoB:PE X (.Constant .none j p) (tC .a):=λY Y Y H Y I h=>Constant_none ⟨.a,H,I,O,h⟩
theorem apA:PE X (.Constant (.str x) j p) (tC<|.s x):=λY Y Y H Y I h=>Calls.Constant_str ⟨.s x,H,I.tok _,⟨_,O⟩,h⟩
def Gl(X:Cx)(x:Str):Prop:=X.env.kindOf x=some .globalImplicit
theorem AJ{a:St}{Q:ce}(I:d4 X B a H s)(b:Gl X x)(m:X.g x=some u)(h:Q u s)(d:autoParam ((x==("__debug__":Str))=false) bc):wpAny (model X.prog X.w) X.A (eval (.Name x p) X.env) Q E s:=
 Calls.Name_function_global I.ok.kind b (Calls.loadGlobal_global (I.ok.glob▸I.mod.glob.keeps I.bk) m h) d
theorem vi{E:ce}{a:St}{u:AT}{p:Pos}{Q:ce}(I:d4 X B a H s)(b:Gl X x)(m:X.g x=none)(v:bootBuiltins x=some u)(h:Q u s)(n:autoParam (x≠"__name__") bc)(d:autoParam ((x==("__debug__":Str))=false) bc):wpAny (model X.prog X.w) X.A (eval (.Name x p) X.env) Q E s:=by
 obtain⟨f,e,c⟩:=I.mod.blt;exact Calls.Name_function_global I.ok.kind b (Calls.loadGlobal_builtin (I.ok.glob▸I.mod.glob.keeps I.bk) m (I.ok.blt▸e.keeps I.bk) ((c x n).trans v) h) d
theorem La(a:Gl X x)(m:X.g x=some u)(r:YD v u)(d:autoParam ((x==("__debug__":Str))=false) bc):PE X (.Name x p) (tC v):=
 λY Y Y H Y I h=>AJ I a m ⟨v,H,I,r,h⟩ d
theorem alL{u:AT}{p:Pos}(b:Gl X x)(m:X.g x=none)(a:bootBuiltins x=some u)(r:YD v u)(n:autoParam (x≠"__name__") bc)(d:autoParam ((x==("__debug__":Str))=false) bc):PE X (.Name x p) (tC v):=
 λY Y Y H Y I h=>vi I b m a ⟨v,H,I,r,h⟩ n d
variable{a b:Expr}{g i:TE}{f:Pos}
def PC(X:Cx)(o:CmpOp)(a b:Expr)(t:TE):Prop:=
 ∀(B:cr)(s:AC)(c:St)(H:Hp)(Q:VK),d4 X B c H s->t c H Q->
  wpAny (model X.prog X.w) X.A (eval a X.env) (λv R=>wpAny (model X.prog X.w) X.A (eval b X.env) (λu U=>wpAny (model X.prog X.w) X.A (compareOp o v u) (EP X B c Q) X.a U) X.a R) X.a s
def tB(t:TE):TT:=λa H Q=>t a H λx d=>∃c,x=.b c/\Q c d
theorem Lb(h:PC X o a b t)(e:behindInMarks o b=false:=by first|exact apv _ ap ap|rfl):PT X (.Compare a [o] [b] f) (tB t):=by
 intro B s g H Q I w;refine wpAny_isTrue_Compare1 (aI (h B s g H _ I w) λv p e=>aI e λu n j=>aI j λc m ⟨x,l,k,r,i⟩=>?_) e;obtain⟨d,rfl,q⟩:=i;cases r;exact NE ⟨l,k,q⟩
variable{j l:TT}{k:le}
def Ld(t u:TT):TT:=λa H Q=>t a H λc b=>if c=true then u a b Q else Q false b
def Le(t u:TT):TT:=λa H Q=>t a H λc b=>if c=true then Q true b else u a b Q
def Lf(t:TT):TT:=λa H Q=>t a H λc b=>Q (!c) b
theorem acH(ha:PT X a j):PW X (.BoolOp .And [a] f) j:=by
 intro wh B' s σ H Q I h;refine isTrue_and<|aI (ha B' s σ H Q I h) λc s1 e=>?_;cases c with
 |true=>exact isTrue_and_nil e
 |false=>exact e
theorem adS(ha:PT X a j):PW X (.BoolOp .Or [a] f) j:=by
 intro wh B' s σ H Q I h;refine isTrue_or<|aI (ha B' s σ H Q I h) λc s1 e=>?_;cases c with
 |false=>exact isTrue_or_nil e
 |true=>exact e
theorem anF(ha:PT X a j)(hb:PW X (.BoolOp .And (b::k) f) l):PW X (.BoolOp .And (a::b::k) f) (Ld j l):=by
 intro wh B' s σ H Q I h;refine isTrue_and<|aI (ha B' s σ H _ I h) λc s1 ⟨H1,I1,q1⟩=>?_;cases c with
 |true=>exact hb wh B' s1 σ H1 Q I1 q1
 |false=>exact⟨H1,I1,q1⟩
theorem ajE(ha:PT X a j)(hb:PW X (.BoolOp .Or (b::k) f) l):PW X (.BoolOp .Or (a::b::k) f) (Le j l):=by
 intro wh B' s σ H Q I h;refine isTrue_or<|aI (ha B' s σ H _ I h) λc s1 ⟨H1,I1,q1⟩=>?_;cases c with
 |true=>exact⟨H1,I1,q1⟩
 |false=>exact hb wh B' s1 σ H1 Q I1 q1
theorem aoV(e:PT X a j):PT X (.UnaryOp .Not a f) (Lf j):=by
 intro B s d H Q I h;exact isTrue_not (aI (e B s d H (λc g=>Q (!c) g) I h) λ_ _⟨a,b,c⟩=>⟨a,b,c⟩)
def Lh(g i:TE):TE:=λa H Q=>g a H λx d=>∃c,x=.b c/\if c=true then i a d Q else Q (.b false) d
def Li(g i:TE):TE:=λa H Q=>g a H λx d=>∃c,x=.b c/\if c=true then Q (.b true) d else i a d Q
theorem Lj(h:PE X a t):PE X (.BoolOp o [a] f) t:=λB s b H Q I w=>BoolOp_one (h B s b H Q I w)
theorem apI(n:PE X a g)(m:PE X (.BoolOp .And (b::k) f) i):PE X (.BoolOp .And (a::b::k) f) (Lh g i):=by
 intro B s d H Q I h;refine BoolOp_and<|aI (n B s d H _ I h) λv l ⟨x,j,e,r,q⟩=>?_;obtain⟨c,rfl,q⟩:=q;cases r;refine NE ?_;cases c with
 |true=>exact m B l d j Q e q
 |false=>exact⟨.b false,j,e,O,q⟩
theorem amS(n:PE X a g)(m:PE X (.BoolOp .Or (b::k) f) i):PE X (.BoolOp .Or (a::b::k) f) (Li g i):=by
 intro B s d H Q I h;refine BoolOp_or<|aI (n B s d H _ I h) λv l ⟨x,j,e,r,q⟩=>?_;obtain⟨c,rfl,q⟩:=q;cases r;refine NE ?_;cases c with
 |false=>exact m B l d j Q e q
 |true=>exact⟨.b true,j,e,O,q⟩
def Lk(t:TT)(g i:TE):TE:=λa H Q=>t a H λc b=>if c=true then g a b Q else i a b Q
theorem alO(n:PT X c j)(p:PE X a g)(o:PE X b i):PE X (.IfExp c a b f) (Lk j g i):=by
 intro B s e H Q I h;refine wpAny_IfExp<|aI (n B s e H _ I h) λd k ⟨m,l,q⟩=>?_;cases d with
 |true=>exact p B k e m Q l q
 |false=>exact o B k e m Q l q
end
def ax(K:Frag)(H:Hp)(a:z4)(x:bi):Prop:=
 Rd H a (.l x)\/
  ∃(o:Obj)(r:v0)(n:Nat),K.lookup a=some o/\o.cls=.type "list"/\o.dict=none/\o.data=.seq r n/\r.size<=sizeLine/\Xz x r.toList
def aF(K:Frag)(H:Hp)(a:z4)(x:bi):Prop:=
 Rd H a (.t x)\/
  ∃(o:Obj)(r:v0)(n:Nat),K.lookup a=some o/\o.cls=.type "tuple"/\o.data=.seq r n/\r.size<=sizeLine/\Xz x r.toList
noncomputable def apJ:AT->im
 |.none=>some .a
 |.bool b=>some (.b b)
 |.int i _=>some (.i i)
 |.str x _=>some (.s x)
 |.bytes b _=>some (.c b)
 |.float b _=>some (.qx b)
 |.ref a=>some (.r a)
 |.type n=>some (.t n)
 |_=>none
theorem YD.abs(r:YD x u):apJ u=some x:=by
 cases x with
 |a=>cases r;rfl
 |b Y=>cases r;rfl
 |i Y=>obtain⟨t,rfl⟩:=r;rfl
 |s Y=>obtain⟨t,rfl⟩:=r;rfl
 |c Y=>obtain⟨t,rfl⟩:=r;rfl
 |qx Y=>obtain⟨t,rfl⟩:=r;rfl
 |r Y=>cases r;rfl
 |t Y=>cases r;rfl
theorem YD.inj{u:AT}(r:YD x u)(q:YD y u):x=y:=X8 (r.abs.symm.trans q.abs)
theorem Xz.inj:∀{x y:bi}{u:ge},Xz x u->Xz y u->x=y:=by
 intro x y u h;induction h generalizing y with
 |nil=>intro k;cases k;rfl
 |cons r Y i=>
  intro k;cases k with
  |cons a t=>rw[r.inj a,i t]
section
variable{X:Cx}{c:cr}{f:St}{H:Hp}{s:AC}{a:z4}{b g:bi}
theorem ax.of{K:Frag}(h:H a=some (.l b)):ax K H a b:=.inl (.inl h)
theorem aF.of{K:Frag}(h:H a=some (.t b)):aF K H a b:=.inl (.inl h)
theorem d4.list(I:d4 X c f H s)(h:ax X.K H a b):∃d:ge,Xz b d/\PlainL s.heap a d.toArray/\b.length<=sizeLine:=by
 rcases h with h|⟨o,d,n,k,j,i,g,l,r⟩
 obtain⟨z,d,n,r,e⟩:=h.ok I.aE;exact qH d r (qM _ n e O O O) z;refine qH d.toList r (qM o n (I.dU a o k) j i (by simpa using g)) ?_;exact oT (Y8 r.length) l
theorem d4.tuple(I:d4 X c f H s)(h:aF X.K H a b):∃d:ge,Xz b d/\IsTup s.heap a d.toArray/\b.length<=sizeLine:=by
 rcases h with h|⟨o,d,n,k,i,g,j,r⟩
 obtain⟨z,d,r,p⟩:=h.ok I.aE;exact qH d r p z;refine qH d.toList r (qH o (I.dU a o k) i ⟨n,by simpa using g⟩) ?_;exact oT (Y8 r.length) j
theorem d4.EA(I:d4 X c f H s)(h:ax X.K H a b)(l:ax X.K H a g):b=g:=by
 obtain⟨m,r,⟨o,n,e,Y,Y,d⟩,Y⟩:=I.list h;obtain⟨i,k,⟨p,q,j,Y,Y,t⟩,Y⟩:=I.list l;rw[e] at j;cases j;have:m=i:=by lia
 subst this;exact r.inj k
theorem d4.X3(I:d4 X c f H s)(h:aF X.K H a b)(l:aF X.K H a g):b=g:=by
 obtain⟨m,r,⟨o,e,Y,n,d⟩,Y⟩:=I.tuple h;obtain⟨i,k,⟨p,j,Y,q,t⟩,Y⟩:=I.tuple l;rw[e] at j;cases j;have:m=i:=by lia
 subst this;exact r.inj k
end
section
variable{X:Cx}{j:Ch}{k:wS}{t u:TS}{e:Expr}{g:TE}{i:Pos}
def EB:TS:=λD a H=>D.nx a H
def Ll(t u:TS):TS:=λD a H=>t {D with nx:=u D} a H
theorem Lm:e7 X [] EB:=λY Y a H Y I h=>wpAny_execs_nil ⟨a,H,I,h⟩
theorem alH(d:PS X j t)(c:e7 X k u):e7 X (j::k) (Ll t u):=by
 intro B s a H D I h;refine wpAny_execs_cons<|aI (d B s a H {D with nx:=u D} I h) λf b q=>?_;cases f with
 |next=>
  obtain⟨V,g,e,q⟩:=q;exact c B b V g D e q
 |ret v=>exact q
 |brk=>exact q
 |cont=>exact q
def aoW:TS:=λD a H=>D.bk a H
def Ln:TS:=λD a H=>D.c a H
theorem alE:PS X (.Continue i) Ln:=λY Y a H Y I h=>wpAny_Continue ⟨a,H,I,h⟩
theorem d4.quiet{a:St}(I:d4 X B a H s):interactive X.env=false:=by simp[interactive,I.ok.kind]
def Lo(g:TE):TS:=λD a H=>g a H λ_ b=>D.nx a b
theorem acQ(c:PE X e g)(b:autoParam (swapsWith e none i.line X.env=pure false) bd):PS X (.Expr e i) (Lo g):=by
 intro B s a H D I h;exact wpAny_Expr_any (aI (c B s a H _ I h) λv j ⟨x,f,d,r,q⟩=>⟨a,f,d,q⟩) I.quiet b
def Lp(g:TE):TS:=λD a H=>g a H D.r
theorem aiK(b:PE X e g):PS X (.Return (some e) i) (Lp g):=by
 intro B s a H D I h;exact wpAny_Return_some<|aI (b B s a H _ I h) λv f ⟨x,d,c,r,q⟩=>⟨x,a,d,c,r,q⟩
def aoG:TS:=λD _ H=>D.r .a H
def Lq(c:TT)(t u:TS):TS:=λD a H=>c a H λb d=>if b=true then t D a d else u D a d
theorem acB(l:PT X c f)(n:e7 X a t)(m:e7 X b u):PS X (.If c a b i) (Lq f t u):=by
 intro B s e H D I h;refine wpAny_If<|aI (l B s e H _ I h) λd g ⟨k,j,q⟩=>?_;cases d with
 |true=>exact n B g e k D j q
 |false=>exact m B g e k D j q
def Ya:TS:=λ_ _ _=>False
end
abbrev TG:=V->St->Hp->(x0)->Prop
abbrev nJ:=bi->St->Hp->(x0)->Prop
def PG(X:Cx)(b:Expr)(t:TG):Prop:=
 ∀(B:cr)(s:AC)(c:St)(H:Hp)(v:V)(u:AT)(Q:x0),d4 X B c H s->YD v u->t v c H Q->
  wpAny (model X.prog X.w) X.A (assign b X.env u) (λ_ f=>∃d e,d4 X B d e f/\Q d e) X.a s
def vj(X:Cx)(d:le)(t:nJ):Prop:=
 ∀(B:cr)(s:AC)(b:St)(H:Hp)(v:bi)(u:ge)(Q:x0),d4 X B b H s->Xz v u->t v b H Q->
  wpAny (model X.prog X.w) X.A (assignInOrder ((assignEach d X.env).map (·.2)) u) (λ_ e=>∃V c,d4 X B V c e/\Q V c) X.a s
abbrev EC:=V->V->V->Hp->(Hp->Prop)->Prop
def Ls(X:Cx)(t:EC):Prop:=
 ∀(B:cr)(s:AC)(b:St)(H:Hp)(o i v:V)(c d u:AT)(Q:Hp->Prop),d4 X B b H s->YD o c->YD i d->YD v u->t o i v H Q->
  wpAny (model X.prog X.w) X.A (setItem c d u) (λ_ f=>∃e,d4 X B b e f/\Q e) X.a s
section
variable{X:Cx}{d:Pos}
def gH(i:Nat):TG:=λv a H Q=>Q (a.set i<|some v) H
theorem AL(c:X.N.Nodup)(b:X.N[i]?=some x)(a:ZQ X.env.scope x)(f:autoParam (X.fn x=true\/X.env.scope.names.lookup x=some .local) ag):PG X (.Name x d) (gH i):=by
 intro B s g H v u Q I r h;exact wpAny_assign_Name<|K9 I c b a r (λj e=>⟨_,H,e,h⟩) f
def ED:nJ:=λv a H Q=>v=[]/\Q a H
def AM(t:TG)(u:nJ):nJ:=λs a H Q=>∃v r,s=v::r/\t v a H λV b=>u r V b Q
theorem Lu:vj X [] ED:=by
 intro B s a H v u Q I r h;obtain⟨e,h⟩:=h;subst e;cases r;exact assignInOrder_nil ⟨a,H,I,h⟩
theorem EE(j:PG X e t)(i:vj X a u)(g:autoParam ((assignEach (e::a) X.env).map (·.2)=assign e X.env::(assignEach a X.env).map (·.2)) bd):vj X (e::a) (AM t u):=by
 intro B s c H n p Q I r h;obtain⟨v,o,k,h⟩:=h;subst k;cases r with
 |cons r f=>
  rw[g];exact assignInOrder_cons<|aI (j B s c H _ _ _ I r h) (by rintro _ d ⟨b,m,l,q⟩;exact i B d b m _ _ Q l f q)
def Lv(K:Frag)(n:Nat)(t:nJ):TG:=λv b H Q=>∃a x,v=.r a/\aF K H a x/\x.length=n/\t x b H Q
theorem Lw{k:Nat}(y:X.calm=true)(h:vj X c t)(m:autoParam ((assignEach c X.env).length=n) bd)(q:autoParam ((assignEach c X.env).findIdx? (·.1)=none) bd):PG X (.Tuple c k d) (Lv X.K n t):=by
 intro B s f H v u Q I r w;obtain⟨a,x,z,l,p,w⟩:=w;subst z;cases r;obtain⟨D,g,j,A⟩:=I.tuple l;refine assign_Tuple_tuple (I.ok.hd y) j (by simp[m,<-p,g.length]) q λC i=>?_;exact h B _ f H x _ Q (I.kept λb o e=>i b o (XS<|Gc e) e) ba w
def Lx(b c:TE)(t:EC):TG:=λv a H Q=>b a H λo f=>c a f λi e=>t o i v e λd=>Q a d
theorem aaD(w:PE X o e)(z:PE X i f)(p:Ls X t)(K:autoParam (∀v,assign (.Subscript o i d) X.env v=(do
   let a <-holding [v] (eval o X.env)
   let b <-holding [v,a] (eval i X.env)
   standAt d
   holding [v,a,b] (setItem a b v)
   release [v,a,b] [])) bq):PG X (.Subscript o i d) (Lx e f t):=by
 intro B s c H v u Q I r h;exact FI<|KF<|aI (w B s c H _ I h) (by rintro a j ⟨x,G,D,l,n⟩;exact FI<|KF<|aI (z B j c G _ D n) (by rintro b g ⟨y,F,C,k,m⟩;exact FI<|Os<|FI<|KF<|aI (p B g c F x y v a b u _ C l k r m) (by rintro _ J ⟨E,A,q⟩;exact wpAny_release ⟨c,E,A,q⟩)))
def mj(t:TE)(g:TG):TS:=λD a H=>t a H λx b=>g x a b D.nx
theorem Ly(k:PE X e b)(j:PG X t g)(i:autoParam (swapsWithSole [t] e d.line X.env=pure false) bd)(w:autoParam (swappedStores [t] e X.env=pure none) bd)(l:autoParam ((assignEach [t] X.env).map (·.2)=[assign t X.env]) bd):PS X (.Assign [t] e d) (mj b g):=by
 intro B s a H D I h;refine wpAny_Assign_stores (aI (k B s a H _ I h) λv c ⟨x,n,m,r,f⟩=>?_) i w;rw[l];exact aI (j B c a n x v _ m r f) λY o q=>q
theorem ajY(k:X.N.Nodup)(f:X.N[i]?=some x)(b:ZQ X.env.scope x)(j:PE X e t)(c:autoParam (swapsWith e (some<|.Name x p) d.line X.env=pure false) bd)(g:autoParam (X.fn x=true\/X.env.scope.names.lookup x=some .local) ag):
  PS X (.Assign [.Name x p] e d) (mj t<|gH i):=by
 intro B s a H D I h;exact wpAny_Assign_Name (aI (j B s a H _ I h) λv u ⟨y,n,m,r,q⟩=>K9 m k f b r (λo l=>q9 _ n l q) g) c
def Lz(c:TT)(t:TS):TS:=λD a H=>∃W:Nat->St->Hp->Prop,(∃m,W m a H)/\∀m a H,W m a H->
 c a H λb e=>if b=true then ∃N:St->Hp->Prop,(∀V f,N V f->∃d,d<m/\W d V f)/\t {D with nx:=N,c:=N,bk:=D.nx} a e else D.nx a e
theorem amG(x:PassesOwn (model X.prog X.w) X.A X.env X.a)(S:PT X c r)(T:e7 X y u):PS X (.While c y [] d) (Lz r u):=by
 intro B s J H D I h;obtain⟨W,⟨R,L⟩,t⟩:=h;refine wpAny_While<|codeAny_whileLoop (λn Q=>∃V G,d4 X B V G Q/\W n V G) ?_ R (q9 J H I L);rintro n P zq;obtain⟨g,F,U,K⟩:=ZL zq;refine No x<|aI (S B P g F _ U<|t n g F K) λb M h=>?_;obtain⟨E,C,j⟩:=h;cases b with
 |true=>
  obtain⟨N,z,j⟩:=j;refine No x<|aI (T B M g E _ C j) λf Y q=>?_;cases f with
  |next=>
   obtain⟨e,i,p,l⟩:=q;obtain⟨m,o,k⟩:=z e i l;exact pQ m o ⟨e,i,p,k⟩
  |cont=>
   obtain⟨e,i,p,l⟩:=q;obtain⟨m,o,k⟩:=z e i l;exact pQ m o ⟨e,i,p,k⟩
  |brk=>exact q
  |ret v=>exact q
 |false=>
  exact wpAny_execs_nil (q9 g E C j)
end
structure It where
 go:Nat->Hp->Prop
 gh:Nat->Hp->V->Hp->Prop
 stop:Nat->Hp->Prop
def ka(X:Cx)(B:cr)(H:Hp)(b:z4):Prop:=
 H b=none/\b≠X.env.locals/\b∉X.fs/\(b∈X.ex\/X.S.heap.objs.size<=b)/\(∀x c,X.env.cells.lookup x=some c->c≠b)/\∀p∈X.n++B,p.1≠b
theorem d4.xD{a:St}{b:z4}(I:d4 X B a H s)(h:s.heap.objs.size<=b)(n:H' b=none):ka X B H' b:=by
 refine⟨n,Hd<|XG I.lt h,I.K1 h,.inr<|oT I.sz h,λx c e z=>?_,λp d z=>?_⟩;obtain⟨v,q⟩:=I.cell x c e;cases Zt _ (XG q.lt ba);cases Zt _ (XG (Gc (I.pin p d).1) ba)
structure Ye(P:BT)(w:A9)(K:Frag)(tg:Expr)(J:It)(fp:lV)(it:z4)(tn:Nat->Do->Prop):Prop where
 mem:it∈fp
 obj:∀i h,tn i h->∀b∈fp,∃o,h.get? b=some o/\∀v,o.data≠ .cell v
 keep:∀i h h',tn i h->(∀b∈fp,∀o,h.get? b=some o->h'.get? b=some o)->tn i h'
 item:∀(X:Cx),X.prog=P->X.w=w->X.K=K->X.calm=true->∀(i:Nat)(B':cr)(s:AC)(σ:St)(H:Hp)(E:ce),d4 X B' σ H s->(∀b∈fp,ka X B' H b)->tn i s.heap->J.go i H->
  wpAny (model P w) X.A (pyNext (.ref it)) (λr s1=>∃u,r=some u/\
   wpAny (model P w) X.A (letOwnedTupleGo tg (.ref it) u) (λ_ s2=>∃x H',d4 X B' σ H' s2/\YD x u/\J.gh i H x H'/\tn (i+1) s2.heap/\∀b∈fp,H' b=none) E s1) E s
 done:∀(X:Cx),X.prog=P->X.w=w->X.K=K->X.calm=true->∀(i:Nat)(B':cr)(s:AC)(σ:St)(H:Hp)(E:ce),d4 X B' σ H s->(∀b∈fp,ka X B' H b)->tn i s.heap->J.stop i H->
  wpAny (model P w) X.A (pyNext<|.ref it) (λr s1=>r=none/\d4 X B' σ H s1) E s
 self:∀(A:Db)(i:Nat)(s:AC)(Q:ce)(E:ce),tn i s.heap->Q (.ref it) s->wpAny (model P w) A (pyIter<|.ref it) Q E s
abbrev TI:=St->Hp->(It->Hp->Prop)->Prop
def LA(X:Cx)(B:cr)(a:St)(g:Expr)(R:It->Hp->Prop)(A:AT)(s:AC):Prop:=
 ∃(i:z4)(f:lV)(t:Nat->Do->Prop)(J:It)(H:Hp),A=.ref i/\d4 X B a H s/\Ye X.prog X.w X.K g J f i t/\t 0 s.heap/\(∀b∈f,ka X B H b)/\R J H
def PI(X:Cx)(t i:Expr)(c:TI):Prop:=
 ∀(B:cr)(s:AC)(b:St)(H:Hp)(R:It->Hp->Prop),d4 X B b H s->c b H R->
  wpAny (model X.prog X.w) X.A (eval i X.env) (λv d=>wpAny (model X.prog X.w) X.A (pyIter v) (LA X B b t R) X.a d) X.a s
theorem AN{A:Db}{E:ce}{i:z4}{u:AT}{n:Fa}{v:v0}{Q:wE}(a:s.heap.get? i=some o)(c:o.cls=.type n)(d:o.data=.fields v)(b:["enumerate","zip","dict_itemiterator","dict_reverseitemiterator","odict_iterator","itertools.zip_longest","itertools.pairwise"].contains n=false)(h:Q () s):wpAny M A (letOwnedTupleGo t (.ref i) u) Q E s:=by
  cases t<;>first
    |exact Go h
    | (cases u<;>first
        |exact Go h
        | (refine FI (wpAny_load a ?_)
           rw[c,d];show wpAny M A (if (["enumerate","zip","dict_itemiterator","dict_reverseitemiterator","odict_iterator","itertools.zip_longest","itertools.pairwise"].contains n && v[0]?==some (rawInt _))=true then _ else _) Q E s;rw[Fk ba];exact Go h))
def jN(K:Frag)(a:z4):It:=
 ⟨λi H=>∃s x,ax K H a s/\s[i]?=some x,λi H x b=>b=H/\∀s,ax K H a s->s[i]?=some x,λi H=>∃s,ax K H a s/\s.length<=i⟩
def mq(K:Frag)(a:z4):It:=
 ⟨λi H=>∃s x,aF K H a s/\s[i]?=some x,λi H x b=>b=H/\∀s,aF K H a s->s[i]?=some x,λi H=>∃s,aF K H a s/\s.length<=i⟩
def fu(l:Int)(n:Nat):It:=⟨λi _=>i<n,λi H x a=>a=H/\x=.i (l+i),λi _=>n<=i⟩
theorem anC{K:Frag}(a g:z4):Ye P w K R (jN K a) [g] g (λi h=>h.IsListIter g a i) where
 mem:=by simp
 obj:=λi h t b f=>by
  have e:=by simpa using f
  subst e;obtain⟨o,e,c,d⟩:=t;exact pQ o e (λv z=>by lia)
 keep:=λi h M t k=>t.at λo e=>k g am o e
 item:=by
  intro X y m A L i B' s N H E I j t n;subst y m A;obtain⟨Q,x,q,l⟩:=n;obtain⟨ar,r,p,U⟩:=I.list q;obtain⟨u,W,T⟩:=r.get l;obtain⟨G,F,Y,D,C,B⟩:=Gi (j g am);refine wpAny_pyNext_list_item t p.isList (by simpa using W) λM J S=>?_;obtain⟨o,e,c,d⟩:=id J;exact pQ u O (AN e c d (O) (q8 x H (I.turned (λb o f e=>(S.2 b f).trans e) G F D C B) T ⟨O,λys V=>by rw[I.EA V q];exact l⟩ J (λb f=>(j b f).1)))
 done:=by
  intro X y m A L i B' s N H E I j t n;subst y m A;obtain⟨Q,q,l⟩:=n;obtain⟨ar,r,p,U⟩:=I.list q;obtain⟨G,F,Y,D,C,B⟩:=Gi (j g am);have hl:=r.length;exact wpAny_pyNext_list_end (I.ok.hd L) t p.isList (by simp;lia) λM Z=>⟨O,I.turned (λb o f e=>Z b o f e) G F D C B⟩
 self:=λ_ _ _ _ _ t h=>wpAny_pyIter_listiter t h
theorem aiY{K:Frag}(a g:z4):Ye P w K S (mq K a) [g] g (λi h=>h.IsTupleIter g a i) where
 mem:=by simp
 obj:=λi h t b f=>by
  have e:=by simpa using f
  subst e;obtain⟨o,e,c,d⟩:=t;exact pQ o e (λv z=>by lia)
 keep:=λi h N t k=>t.at λo e=>k g am o e
 item:=by
  intro X y m A M i B' s Q H E I j t n;subst y m A;obtain⟨R,x,q,l⟩:=n;obtain⟨J,r,p,V⟩:=I.tuple q;obtain⟨u,Y,U⟩:=r.get l;obtain⟨G,F,Z,D,C,B⟩:=Gi (j g am);refine wpAny_pyNext_tuple_item t (show s.heap.IsTuple a J.toArray from p) (by simpa using Y) λN L T=>?_;obtain⟨o,e,c,d⟩:=id L;exact pQ u O (AN e c d (O) (q8 x H (I.turned (λb o f e=>(T.2 b f).trans e) G F D C B) U ⟨O,λys W=>by rw[I.X3 W q];exact l⟩ L (λb f=>(j b f).1)))
 done:=by
  intro X y m A M i B' s Q H E I j t n;subst y m A;obtain⟨R,q,l⟩:=n;obtain⟨J,r,p,V⟩:=I.tuple q;obtain⟨G,F,Z,D,C,B⟩:=Gi (j g am);have hl:=r.length;exact wpAny_pyNext_tuple_end (I.ok.hd M) t (show s.heap.IsTuple a J.toArray from p) (by simp;lia) λN eb=>⟨O,I.turned (λb o f e=>eb b o f e) G F D C B⟩
 self:=λ_ _ _ _ _ t h=>wpAny_pyIter_tupleiter t h
theorem anQ{K:Frag}(c:z4)(l:Int)(n:Nat):Ye P w K J (fu l n) [c] c (λi h=>IsRangeIter h c (l+(i:Nat)*1) ((n:Int) - (i:Nat)) 1) where
 mem:=by simp
 obj:=λi h a b d=>by
  have e:=by simpa using d
  subst e;exact pQ _ a (λv z=>by
   cases z)
 keep:=λi h m a k=>k c am _ a
 item:=by
  intro X C B D j i F s y H E I f a g;obtain⟨x,u,N,r,q,p⟩:=Gi (f c am);refine (Walks.range (I.ok.hd j) c l 1 n).item i s _ _ g a λv m G M A L=>?_;obtain⟨t,rfl⟩:=M;have R:d4 X F y H {s with heap:=m,toks:=G}:=I.turned (λb o d e=>L b o (by simpa using d) e) x u r q p;refine pQ _ O (AN A O O (O) (q8 (.i<|l+i) H R ⟨t,?_⟩ ⟨O,O⟩ A (λb d=>(f b d).1)));rw[Int.mul_one]
 done:=by
  intro X C B D j i F s y H E I f a g;obtain⟨x,u,N,r,q,p⟩:=f c am;exact wpAny_pyNext_range_end (I.ok.hd j) a (by have:n<=i:=g;lia) λm Q=>⟨O,I.turned (λb o d e=>Q b o d e) x u r q p⟩
 self:=λY Y Y Y Y a h=>wpAny_pyIter_rangeiter a h
section
variable{X:Cx}{c:Expr}
def EF(K:Frag)(t:TE):TI:=λc H R=>t c H λx b=>∃a,x=.r a/\(∃s,ax K b a s)/\R (jN K a) b
def EG(K:Frag)(t:TE):TI:=λc H R=>t c H λx b=>∃a,x=.r a/\(∃s,aF K b a s)/\R (mq K a) b
theorem aaP(k:PE X l t):PI X c l (EF X.K t):=by
 intro B s g H R I h;refine aI (k B s g H _ I h) λv f ⟨x,n,d,r,i⟩=>?_;obtain⟨a,e,⟨u,j⟩,q⟩:=i;subst e;cases r;obtain⟨y,w,p,z⟩:=d.list j;refine wpAny_pyIter_list p.isList (sU f.heap.objs.size [f.heap.objs.size] _ _ n O (d.kept λb o e=>GT _ e) (anC a _) (qH _ (IN _ O) O O) (λb m=>?_) q);have e:=by simpa using m
 subst e;exact d.xD (Yw _)<|d.aE.fresh<|Yw _
theorem ajV(k:PE X l t):PI X c l (EG X.K t):=by
 intro B s g H R I h;refine aI (k B s g H _ I h) λv f ⟨x,u,d,r,i⟩=>?_;obtain⟨a,e,⟨w,j⟩,q⟩:=i;subst e;cases r;obtain⟨n,y,p,z⟩:=d.tuple j;refine wpAny_pyIter_tuple (show f.heap.IsTuple a n.toArray from p) (sU f.heap.objs.size [f.heap.objs.size] _ _ u O (d.kept λb o e=>GT _ e) (aiY a _) (qH _ (IN _ O) O O) (λb m=>?_) q);have e:=by simpa using m
 subst e;exact d.xD (Yw _)<|d.aE.fresh<|Yw _
theorem LB{a:St}{E:ce}(I:d4 X B a H s)(m: -(2 ^ 62)<=l)(j:l<2 ^ 62)(i: -(2 ^ 62)<=h)(g:h<2 ^ 62)(q:R (fu l (h - l).toNat) H):wpAny (model X.prog X.w) X.A (pyIter<|.ref s.heap.objs.size) (LA X B a c R) E {s with heap:=s.heap.push {cls:=.type "range",data:=.fields #[.int l t,.int h u,.int 1 v]},toks:=k}:=by
 refine wpAny_pyIter_range (IsRange.new ..) (small_one m j i g) ?_;have d:d4 X B a H {s with heap:=s.heap.push {cls:=.type "range",data:=.fields #[.int l t,.int h u,.int 1 v]},toks:=k}:=I.kept λb o e=>GT _ e;refine⟨(s.heap.push {cls:=.type "range",data:=.fields #[.int l t,.int h u,.int 1 v]}).objs.size,[(s.heap.push {cls:=.type "range",data:=.fields #[.int l t,.int h u,.int 1 v]}).objs.size],_,_,H,O,
  d.kept λb o e=>GT _ e,anQ _ l (h - l).toNat,?_,λb f=>?_,q⟩
 have p:l+((0:Nat):Int)*1=l:=by lia
 have n:(((h - l).toNat:Nat):Int) - ((0:Nat):Int)=Builtin.Range.rangeSize l h 1:=by rw[rangeSize_one];split<;>omega
 rw[p,n];exact IN _ O;have e:b=(s.heap.push {cls:=.type "range",data:=.fields #[.int l t,.int h u,.int 1 v]}).objs.size:=by simpa using f
 subst e;exact d.xD (Yw _)<|d.aE.fresh<|Yw _
def LC(t:TA):TI:=λa H R=>t a H λv b=>∃j:Int,v=[.i j]/\ -(2 ^ 62)<=j/\j<2 ^ 62/\R (fu 0 j.toNat) b
def LD(t:TA):TI:=λa H R=>t a H λv b=>∃i j:Int,v=[.i i,.i j]/\(-(2 ^ 62)<=i/\i<2 ^ 62/\ -(2 ^ 62)<=j/\j<2 ^ 62)/\R (fu i (j - i).toNat) b
theorem akW(u:Gl X "range")(o:X.g "range"=none)(v:PA X [a] f)(n:autoParam (starEach [a] X.env=[(false,eval a X.env)]) bd):PI X c (.Call (.Name "range" p) [a] [] b) (LC f):=by
 intro B s i H R I h;refine Call_<|vi I u o boot_range<|Sc (aI (v b B s i H _ I h) λy z ⟨x,A,w,l,d⟩=>?_) n O;obtain⟨j,e,d,m,q⟩:=d;subst e;cases l with
 |cons r k=>
  cases k;obtain⟨t,rfl⟩:=r;exact call_range_1<|LB w ba ba d m ba
theorem akU{p d:Pos}(y:Gl X "range")(x:X.g "range"=none)(z:PA X [a,b] l)(J:autoParam (starEach [a,b] X.env=[(false,eval a X.env),(false,eval b X.env)]) bd)(A:autoParam (starEach [b] X.env=[(false,eval b X.env)]) bd):
  PI X c (.Call (.Name "range" p) [a,b] [] d) (LD l):=by
 intro C s m H R I h;refine Call_<|vi I y x boot_range<|Sc (aI (z d C s m H _ I h) λE G ⟨D,K,B,n,k⟩=>?_) ba (A▸O);obtain⟨i,j,e,⟨k,w,v,u⟩,q⟩:=k;subst e;cases n with
 |cons r f=>
  cases f with
  |cons o f=>
   cases f;obtain⟨t,rfl⟩:=r;obtain⟨F,rfl⟩:=o;exact call_range_2<|LB B k w v u q
def AO(w:TI)(g:TG)(t:TS):TS:=λD a H=>w a H λJ h=>∃W:Nat->Nat->St->Hp->Prop,(∃m,W 0 m a h)/\∀i m a H,W i m a H->
 (J.stop i H/\D.nx a H)\/(J.go i H/\∃N:St->Hp->Prop,(∀V b,N V b->∃e,e<m/\W (i+1) e V b)/\∀x b,J.gh i H x b->g x a b λd f=>t {D with nx:=N,c:=N,bk:=D.nx} d f)
def vk(f:lV)(h:Do):cr:=f.filterMap λb=>(h.get? b).map λo=>(b,o)
theorem AQ(a:b∈f)(e:h.get? b=some o):(b,o)∈vk f h:=vJ.mpr ⟨b,a,e▸O⟩
theorem ajC(a:p∈vk f h):p.1∈f/\h.get? p.1=some p.2:=by
 obtain⟨b,c,e⟩:=vJ.mp a;cases q:h.get? b with
 |none=>rw[q] at e;cases e
 |some o=>
  rw[q] at e;have d:=X8 e;subst d;exact⟨c,q⟩
theorem d4.pinned{a:St}{f:lV}(I:d4 X B a H s)(j:∀b∈f,ka X B H b)(i:∀b∈f,∃o,s.heap.get? b=some o/\∀v,o.data≠ .cell v):d4 X (B++vk f s.heap) a H s:=
 I.vg λp g=>(R8.mp g).elim (λz=>I.pin p<|Yc _ z) λz=>by
  obtain⟨h,e⟩:=ajC z;obtain⟨m,l,k,Y⟩:=Yq (j p.1 h);obtain⟨o,c,d⟩:=i p.1 h;rw[e] at c;cases c;exact⟨e,m,l,k,d⟩
theorem d4.EH{a:St}(I:d4 X (B++l) a H s):d4 X B a H s:=I.vg λp h=>I.pin p (Yc _<|ZX _ h)
theorem LF(M:PassesOwn (model X.prog X.w) X.A X.env X.a)(hc:X.calm=true)(hi:PI X c B wi)(hg:PG X c g)(l:e7 X C tb)(hs:autoParam (∀x,foldedSetIterable B X.env x=pure x) bq):PS X (.For c B C [] Z) (AO wi g tb):=by
 intro E s σ H D I h;refine wpAny_For (aI (hi E s σ H _ I h) λv s1 h1=>aI h1 λsA s2 h2=>?_) hs;obtain⟨it,P,tn,J,H2,e,I2,T,xE,f2,W,⟨m0,w0⟩,F⟩:=h2;subst e;have U:∀{y:Hp},(∀b∈P,y b=none)->∀b∈P,ka X E y b:=λhn b l=>⟨hn b l,(f2 b l).2⟩;refine codeAny_forLoop_any (λn s'=>∃i V y,d4 X E V y s'/\tn i s'.heap/\(∀b∈P,y b=none)/\W i n V y) ?_ m0 (tZ 0 σ H2 I2 xE (λb l=>(f2 b l).1) w0);rintro n s3 zq;obtain⟨i,k,Q,zq⟩:=ZG zq;obtain⟨I3,LG,sE,w3⟩:=Yq zq;rcases F i n k Q w3 with⟨G,qn⟩|⟨go,N,hN,K⟩
 refine No M (aI (T.done X O O O hc i E s3 k Q X.a I3 (U sE) LG G) λr s4 h=>?_);obtain⟨hr,I4⟩:=h;subst hr;exact wpAny_execs_nil (q9 k Q I4 qn);refine No M (aI (T.item X O O O hc i E s3 k Q X.a I3 (U sE) LG go) λr s4 h=>?_);obtain⟨u,hr,h4⟩:=h;subst hr;refine No M<|aI h4 λ_ s5 h=>?_;obtain⟨x,H5,I5,r5,y5,S,EI⟩:=h;refine No M<|aI (hg _ s5 k H5 x u _ (I5.pinned (U EI) (T.obj _ _ S)) r5<|K x H5 y5) λ_ s6 h=>?_;obtain⟨R,H6,I6,q6⟩:=h;refine No M<|aI (l _ s6 R H6 _ I6 q6) λf Y z=>?_;have p:∀{j:St}{t:Hp},d4 X (E++vk P s5.heap) j t Y->N j t->∃m,m<n/\∃i V y,d4 X E V y Y/\tn i Y.heap/\(∀b∈P,y b=none)/\W i m V y:=λ{j t} q L=>by
  obtain⟨m',hm,w7⟩:=hN j t L;refine pQ m' hm ⟨i+1,j,t,q.EH,T.keep _ _ _ S λb l o e=>(q.pin (b,o)<|Yc _<|Yc _<|AQ l e).1,λb l=>?_,w7⟩;obtain⟨o,e,d⟩:=T.obj _ _ S b l;exact(q.pin (b,o)<|Yc _<|Yc _<|AQ l e).2.1
 cases f with
 |next=>obtain⟨j,t,q,L⟩:=z;exact p q L
 |cont=>obtain⟨j,t,q,L⟩:=z;exact p q L
 |brk=>obtain⟨j,t,q,z⟩:=z;exact q9 j t q.EH z
 |ret v=>obtain⟨x7,j,t,zq⟩:=ZG z;obtain⟨q,r7,z⟩:=Yo zq;exact t_ x7 j t q.EH ⟨r7,z⟩
end
theorem jk{K:Frag}{g:TG}{t:TS}{D:En}(P:Nat->St->Hp->Prop)(r:P 0 b H)(l:∀i b H,i<=xs.length->P i b H->ax K H a xs)(s:∀i x b H,xs[i]?=some x->P i b H->g x b H λd h=>t {D with nx:=P (i+1),c:=P (i+1),bk:=D.nx} d h)(o:∀b H,P xs.length b H->D.nx b H):
  ∃W:Nat->Nat->St->Hp->Prop,(∃m,W 0 m b H)/\∀i m b H,W i m b H->
   ((jN K a).stop i H/\D.nx b H)\/((jN K a).go i H/\∃N:St->Hp->Prop,(∀V f,N V f->∃j,j<m/\W (i+1) j V f)/\∀x f,(jN K a).gh i H x f->g x b f λd h=>t {D with nx:=N,c:=N,bk:=D.nx} d h):=by
 refine pQ (λi m b H=>m=xs.length - i/\i<=xs.length/\P i b H) (qH xs.length O (nE _) r) ?_;rintro i m b H ⟨rfl,n,p⟩;have q:=l i b H n p;by_cases R:i<xs.length;refine .inr (tL (q9 xs (xs[i]) q am) (P<|i+1) (λV f k=>tH (xs.length - (i+1)) ba O R k) (λx f y=>?_));obtain⟨e,y⟩:=y;subst e;exact s i x b _ (y xs q) p;have e:=Yk n (Zv R);subst e;exact .inl ⟨pQ xs q (Yw _),o b H p⟩
theorem qz{lo:Int}{g:TG}{t:TS}{D:En}(P:Nat->St->Hp->Prop)(l:P 0 a H)(s:∀i a H,i<n->P i a H->g (.i<|lo+i) a H λb f=>t {D with nx:=P (i+1),c:=P (i+1),bk:=D.nx} b f)(k:∀a H,P n a H->D.nx a H):
  ∃W:Nat->Nat->St->Hp->Prop,(∃m,W 0 m a H)/\∀i m a H,W i m a H->
   ((fu lo n).stop i H/\D.nx a H)\/((fu lo n).go i H/\∃N:St->Hp->Prop,(∀V d,N V d->∃h,h<m/\W (i+1) h V d)/\∀x d,(fu lo n).gh i H x d->g x a d λb f=>t {D with nx:=N,c:=N,bk:=D.nx} b f):=by
 refine pQ (λi m a H=>m=n - i/\i<=n/\P i a H) (qH n O (nE _) l) ?_;rintro i m a H ⟨rfl,o,p⟩;by_cases R:i<n;refine .inr (tL R (P<|i+1) (λV d j=>tH (n - (i+1)) ba O R j) (λx d y=>?_));obtain⟨e,y⟩:=y;subst e y;exact s i a _ R p;have e:=Yk o (Zv R);subst e;exact .inl ⟨Yw _,k a H p⟩
abbrev R2:=V->V->Hp->VK->Prop
def bG(X:Cx)(f:AT->AT->Sem AT)(r:R2):Prop:=
 ∀(B:cr)(s:AC)(b:St)(H:Hp)(x y:V)(v u:AT)(Q:VK),d4 X B b H s->YD x v->YD y u->r x y H Q->
  wpAny (model X.prog X.w) X.A (f v u) (EP X B b Q) X.a s
def AR(X:Cx)(f:AT->Sem AT)(r:V->Hp->VK->Prop):Prop:=
 ∀(B:cr)(s:AC)(b:St)(H:Hp)(x:V)(v:AT)(Q:VK),d4 X B b H s->YD x v->r x H Q->
  wpAny (model X.prog X.w) X.A (f v) (EP X B b Q) X.a s
def d0(X:Cx)(f:AT)(r:bi->Hp->VK->Prop):Prop:=
 ∀(B:cr)(s:AC)(b:St)(H:Hp)(x:bi)(u:ge)(Q:VK),d4 X B b H s->Xz x u->r x H Q->
  wpAny (model X.prog X.w) X.A (call f u) (EP X B b Q) X.a s
def amD(X:Cx)(r:V->Hp->(sK)->Prop):Prop:=
 ∀(B:cr)(s:AC)(b:St)(H:Hp)(x:V)(v:AT)(Q:sK),d4 X B b H s->YD x v->r x H Q->
  wpAny (model X.prog X.w) X.A (truthy v) (TP X B b Q) X.a s
def gJ(r:R2)(b t:TE):TE:=λa H Q=>b a H λx d=>t a d λy c=>r x y c Q
def LH(r:V->Hp->VK->Prop)(t:TE):TE:=λa H Q=>t a H λx b=>r x b Q
def rI(C:Int->Int->Prop)(g:Int->Int->V):R2:=λx y H Q=>∃i j,x=.i i/\y=.i j/\C i j/\Q (g i j) H
def oQ(g:Int->Int->V):R2:=λx y H Q=>∃i j,x=.i i/\y=.i j/\Q (g i j) H
def rU(g:Int->V):V->Hp->VK->Prop:=λx H Q=>∃i,x=.i i/\Q (g i) H
section
variable{X:Cx}{a b c:Expr}{d e tc:TE}{k:Pos}
theorem EJ(p:PE X a d)(o:PE X b e){c:St}{R:V->V->Hp->Prop}(I:d4 X B c H s)(h:d c H λx j=>e c j λy g=>R x y g){Q:ce}{f:AT->AT->Sem AT}(n:∀v u i x y g,d4 X B c g i->YD x v->YD y u->R x y g->wpAny (model X.prog X.w) X.A (f v u) Q X.a i):
  wpAny (model X.prog X.w) X.A (eval a X.env) (λv t=>wpAny (model X.prog X.w) X.A (eval b X.env) (λu U=>wpAny (model X.prog X.w) X.A (f v u) Q X.a U) X.a t) X.a s:=by
 exact aI (p B s c H _ I h) (by rintro v k ⟨x,j,C,l,m⟩;exact aI (o B k c j _ C m) (by rintro u i ⟨y,g,z,r,q⟩;exact n v u i x y g z l r q))
theorem alN(j:bG X (binaryOp o) r)(m:PE X a d)(l:PE X b e):PE X (.BinOp a o b k) (gJ r d e):=by
 intro B s c H Q I h;exact wpAny_BinOp<|EJ m l I h λv u f x y p n i g q=>j B f c p x y v u Q n i g q
theorem aiF(f:AR X (unaryOp o) r)(g:PE X a d):PE X (.UnaryOp o a k) (LH r d):=by
 intro B s b H Q I h;exact UnaryOp_<|aI (g B s b H _ I h) λv c ⟨x,j,i,e,q⟩=>f B c b j x v Q i e q
theorem AS{g:Int->Int->Int}(r:∀(i j:Int)(t u:Tok)(s:AC)(Q:ce)(E:ce),C i j->Q (.int (g i j) s.toks) {s with toks:=s.toks+1}->wpAny (model X.prog X.w) X.A (f (.int i t)<|.int j u) Q E s):
  bG X f (rI C λi j=>.i (g i j)):=by
 intro B s e H x y v u Q I c b h;obtain⟨i,j,rfl,rfl,d,q⟩:=h;obtain⟨t,rfl⟩:=c;obtain⟨a,rfl⟩:=b;exact r i j t a s _ _ d ⟨.i<|g i j,H,I.tok _,⟨_,O⟩,q⟩
theorem LJ{g:Int->Int->Int}(r:∀(i j:Int)(t u:Tok)(s:AC)(Q:ce)(E:ce),Q (.int (g i j) s.toks) {s with toks:=s.toks+1}->wpAny (model X.prog X.w) X.A (f (.int i t)<|.int j u) Q E s):
  bG X f (oQ λi j=>.i (g i j)):=by
 intro B s d H x y v u Q I c b h;obtain⟨i,j,rfl,rfl,q⟩:=h;obtain⟨t,rfl⟩:=c;obtain⟨a,rfl⟩:=b;exact r i j t a s _ _ ⟨.i<|g i j,H,I.tok _,⟨_,O⟩,q⟩
theorem AU{g:Int->Int->Cl}(r:∀(i j:Int)(t u:Tok)(s:AC)(Q:ce)(E:ce),Q (.bool<|g i j) s->wpAny (model X.prog X.w) X.A (f (.int i t)<|.int j u) Q E s):
  bG X f (oQ λi j=>.b (g i j)):=by
 intro B s e H x y v u Q I d c h;obtain⟨i,j,rfl,rfl,q⟩:=h;obtain⟨t,rfl⟩:=d;obtain⟨a,rfl⟩:=c;exact r i j t a s _ _ ⟨.b<|g i j,H,I,O,q⟩
def EK(i j:Int):Prop:=0<j/\j<1073741824
def LK(i j:Int):Prop:=0<=j/\j<=1000000/\i.natAbs<2 ^ 64
def xG(i j:Int):Prop:=(-(2 ^ 64) <i/\i<2 ^ 64)\/(-(2 ^ 64) <j/\j<2 ^ 64)
theorem xG.ok(h:xG i j):IntMulOk i j:=by
 rcases h with⟨b,a⟩|⟨b,a⟩
 exact .of_left (intBits_le_64 b a);exact .of_right (intBits_le_64 b a)
theorem acA:bG X (binaryOp .Add) (oQ λi j=>.i (i+j)):=LJ λY Y Y Y Y Y Y q=>add_int q
theorem abE:bG X (binaryOp .Sub) (oQ λi j=>.i (i - j)):=LJ λY Y Y Y Y Y Y q=>sub_int q
theorem amR:bG X (binaryOp .Mult) (rI xG λi j=>.i (i*j)):=AS λY Y Y Y Y Y Y h q=>mul_int q h.ok
theorem akG:bG X (binaryOp .FloorDiv) (rI EK λi j=>.i (i / j)):=AS λi j Y Y Y Y Y h q=>by
 have b:=h.1;have a:=h.2;exact floordiv_int (by omega) (by rw[Int.fdiv_eq_ediv_of_nonneg i (by omega)];exact q)<|.inl<|PyProof.noPylong_small (by omega)
theorem amK:bG X (binaryOp .Mod) (rI (λY j=>0<j) λi j=>.i (i % j)):=AS λi j Y Y Y Y Y h q=>by
 exact mod_int' (by lia) (by rw[Int.fmod_eq_emod_of_nonneg i (by lia)];exact q)
theorem amJ:bG X (binaryOp .Pow) (rI LK λi j=>.i (i ^ j.toNat)):=AS λY Y Y Y Y Y Y h q=>pow_int_small h.1 h.2.1 h.2.2 q
theorem ajB{g:Int->Int}(r:∀(i:Int)(t:Tok)(s:AC)(Q:ce)(E:ce),Q (.int (g i) s.toks) {s with toks:=s.toks+1}->wpAny (model X.prog X.w) X.A (f<|.int i t) Q E s):
  AR X f (rU λi=>.i (g i)):=by
 intro B s b H x v Q I a h;obtain⟨i,rfl,q⟩:=h;obtain⟨t,rfl⟩:=a;exact r i t s _ _ ⟨.i<|g i,H,I.tok _,⟨_,O⟩,q⟩
theorem aaG:AR X (unaryOp .USub) (rU λi=>.i (-i)):=ajB λY Y Y Y Y q=>neg_int q
end
noncomputable def nK:V->V->Cl
 |.a,.a=>true|.a,.i _=>true|.i _,.a=>true|.a,.b _=>true|.b _,.a=>true|.a,.s _=>true|.s _,.a=>true
 |.i _,.i _=>true|.b _,.b _=>true|.s _,.s _=>true|.c _,.c _=>true
 |.i _,.s _=>true|.s _,.i _=>true|.b _,.s _=>true|.s _,.b _=>true
 |_,_=>false
def anD:R2:=λx y H Q=>nK x y=true/\Q (.b<|decide<|x=y) H
def aaR:R2:=λx y H Q=>nK x y=true/\Q (.b<|!decide (x=y)) H
theorem LL:decide (V.i i=V.i j)=(i==j):=by lia
theorem LM:decide (V.b i=V.b j)=(i==j):=by lia
theorem iN:decide (V.s i=V.s j)=(i==j):=by lia
theorem LN:decide (V.c i=V.c j)=(i.toList==j.toList):=by
 rw[zbD];cases i;cases j;simp
section
variable{X:Cx}{a b c:Expr}{g l o:TE}{w:Pos}
theorem cM{a:St}{c:Cl}(I:d4 X B a H s)(q:Q (.b k) H)(e:k=c):EP X B a Q (.bool c) s:=by
 subst e;exact⟨.b k,H,I,O,q⟩
theorem Yz:bG X (compareOp .Eq) anD:=by
 intro B s g H x y v u Q I f r h;obtain⟨e,q⟩:=h;cases x with
 |a=>
  cases f;cases y with
  |a=>cases r;exact PySem.EqNone.eq_none_none (cM I q (O))
  |b j=>cases r;exact PySem.EqNone.eq_none_bool (cM I q (O))
  |i j=>obtain⟨d,rfl⟩:=r;exact PySem.EqNone.eq_none_int (cM I q (O))
  |s j=>obtain⟨d,rfl⟩:=r;exact PySem.EqNone.eq_none_str (cM I q (O))
  |_=>exact absurd (show false=true from e) YH
 |b i=>
  cases f;cases y with
  |a=>cases r;exact PySem.EqNone.eq_bool_none (cM I q am)
  |b j=>cases r;exact eq_bool (cM I q LM)
  |s j=>obtain⟨d,rfl⟩:=r;exact PySem.EqMixed.eq_bool_str (cM I q am)
  |_=>exact absurd (show false=true from e) YH
 |i i=>
  obtain⟨t,rfl⟩:=f;cases y with
  |a=>cases r;exact PySem.EqNone.eq_int_none (cM I q (O))
  |i j=>obtain⟨d,rfl⟩:=r;exact eq_int (cM I q LL)
  |s j=>obtain⟨d,rfl⟩:=r;exact PySem.EqMixed.eq_int_str (cM I q am)
  |_=>exact absurd (show false=true from e) YH
 |s i=>
  obtain⟨t,rfl⟩:=f;cases y with
  |a=>cases r;exact PySem.EqNone.eq_str_none (cM I q am)
  |b j=>cases r;exact PySem.EqMixed.eq_str_bool (cM I q am)
  |i j=>obtain⟨d,rfl⟩:=r;exact PySem.EqMixed.eq_str_int (cM I q am)
  |s j=>obtain⟨d,rfl⟩:=r;exact eq_str (cM I q iN)
  |_=>exact absurd (show false=true from e) YH
 |c i=>
  obtain⟨t,rfl⟩:=f;cases y with
  |c j=>obtain⟨d,rfl⟩:=r;exact PySem.W.eq_bytes (cM I q LN)
  |_=>exact absurd (show false=true from e) YH
 |_=>cases y<;>exact absurd (show false=true from e) YH
theorem akV:bG X (compareOp .NotEq) aaR:=by
 intro B s g H x y v u Q I f r h;obtain⟨e,q⟩:=h;cases x with
 |a=>
  cases f;cases y with
  |a=>cases r;exact PySem.EqNone.ne_none_none (cM I q (O))
  |b j=>cases r;exact PySem.EqNone.ne_none_bool (cM I q (O))
  |i j=>obtain⟨d,rfl⟩:=r;exact PySem.EqNone.ne_none_int (cM I q (O))
  |s j=>obtain⟨d,rfl⟩:=r;exact PySem.EqNone.ne_none_str (cM I q (O))
  |_=>exact absurd (show false=true from e) YH
 |b i=>
  cases f;cases y with
  |a=>cases r;exact PySem.EqNone.ne_bool_none (cM I q ba)
  |b j=>cases r;exact ne_bool (cM I q<|FM not LM)
  |s j=>obtain⟨d,rfl⟩:=r;exact PySem.EqMixed.ne_bool_str (cM I q am)
  |_=>exact absurd (show false=true from e) YH
 |i i=>
  obtain⟨t,rfl⟩:=f;cases y with
  |a=>cases r;exact PySem.EqNone.ne_int_none (cM I q (O))
  |i j=>obtain⟨d,rfl⟩:=r;exact ne_int (cM I q<|FM not LL)
  |s j=>obtain⟨d,rfl⟩:=r;exact PySem.EqMixed.ne_int_str (cM I q am)
  |_=>exact absurd (show false=true from e) YH
 |s i=>
  obtain⟨t,rfl⟩:=f;cases y with
  |a=>cases r;exact PySem.EqNone.ne_str_none (cM I q am)
  |b j=>cases r;exact PySem.EqMixed.ne_str_bool (cM I q am)
  |i j=>obtain⟨d,rfl⟩:=r;exact PySem.EqMixed.ne_str_int (cM I q am)
  |s j=>obtain⟨d,rfl⟩:=r;exact ne_str (cM I q<|FM not iN)
  |_=>exact absurd (show false=true from e) YH
 |c i=>
  obtain⟨t,rfl⟩:=f;cases y with
  |c j=>obtain⟨d,rfl⟩:=r;exact PySem.W.ne_bytes (cM I q<|FM not LN)
  |_=>exact absurd (show false=true from e) YH
 |_=>cases y<;>exact absurd (show false=true from e) YH
theorem amT:bG X (compareOp .Lt) (oQ λi j=>.b (decide<|i<j)):=AU λY Y Y Y Y Y Y q=>lt_int q
theorem aoR:bG X (compareOp .LtE) (oQ λi j=>.b (decide<|i<=j)):=AU λY Y Y Y Y Y Y q=>le_int q
theorem aaM:bG X (compareOp .Gt) (oQ λi j=>.b (decide<|j<i)):=AU λY Y Y Y Y Y Y q=>gt_int q
theorem alB:bG X (compareOp .GtE) (oQ λi j=>.b (decide<|j<=i)):=AU λY Y Y Y Y Y Y q=>ge_int q
theorem anL:bG X (compareOp .In) (λx y H Q=>∃i j,x=.s i/\y=.s j/\Q (.b<|!(Builtin.Str.occurrences j i 0 j.length 1).isEmpty) H):=by
 intro B s c H x y v u Q I a r h;obtain⟨i,j,rfl,rfl,q⟩:=h;obtain⟨t,rfl⟩:=a;obtain⟨d,rfl⟩:=r;exact in_str<|cM I q O
theorem amB:bG X (compareOp .Is) (λx y H Q=>y=.a/\Q (.b<|decide<|x=.a) H):=by
 intro B s d H x y v u Q I r c h;obtain⟨rfl,q⟩:=h;cases c;refine is_none_gen<|cM I q ?_;cases x<;>first
  | (cases r;rfl)
  | (obtain⟨t,rfl⟩:=r;rfl)
theorem ajG:bG X (compareOp .IsNot) (λx y H Q=>y=.a/\Q (.b<|!decide (x=.a)) H):=by
 intro B s d H x y v u Q I r c h;obtain⟨rfl,q⟩:=h;cases c;refine isnot_none_gen<|cM I q ?_;cases x<;>first
  | (cases r;rfl)
  | (obtain⟨t,rfl⟩:=r;rfl)
theorem alM:bG X (compareOp .NotIn) (λx y H Q=>∃i j,x=.s i/\y=.s j/\Q (.b<|!(!(Builtin.Str.occurrences j i 0 j.length 1).isEmpty)) H):=by
 intro B s c H x y v u Q I a r h;obtain⟨i,j,rfl,rfl,q⟩:=h;obtain⟨t,rfl⟩:=a;obtain⟨d,rfl⟩:=r;exact notIn_str<|cM I q O
theorem bG.or(h:bG X f r)(e:bG X f d):bG X f (λx y H Q=>r x y H Q\/d x y H Q):=by
 intro B s a H x y v u Q I c b q;rcases q with q|q
 exact h B s a H x y v u Q I c b q;exact e B s a H x y v u Q I c b q
theorem YJ(i:bG X (compareOp op) r)(k:PE X a g)(j:PE X b l)(m:behindInMarks op b=false):PE X (.Compare a [op] [b] w) (gJ r g l):=by
 intro B s c H Q I h;exact wpAny_Compare1 (EJ k j I h λv u d x y p n f e q=>i B d c p x y v u Q n f e q) m
def vm(t:TE):TT:=λa H Q=>t a H λx c=>∃k,x=.b k/\Q k c
theorem apP(A:bG X (compareOp op) r)(E:PE X a g)(D:PE X b l)(C:behindInMarks op b=false):PT X (.Compare a [op] [b] w) (vm<|gJ r g l):=by
 intro B s d H Q I h;refine wpAny_isTrue_Compare1 (aI (E B s d H _ I h) λv i ⟨x,M,J,n,t⟩=>aI (D B i d M _ J t) λu f ⟨y,L,G,m,p⟩=>
  aI (A B f d L x y v u _ G n m p) λc N ⟨z,K,F,j,k,e,q⟩=>?_) C
 subst e;cases j;exact NE ⟨K,F,q⟩
def AV(r d:R2)(g l o:TE):TE:=λa H Q=>g a H λx h=>l a h λy f=>r x y f λz c=>∃k,z=.b k/\
 (if k=true then o a c λw e=>d y w e Q else Q (.b false) c)
theorem ajF(R:bG X (compareOp p) r)(W:bG X (compareOp m) j)(V:PE X a g)(U:PE X b l)(T:PE X c o)(S:lastMarks [p,m] [b,c]=false:=by with_unfolding_all rfl):PE X (.Compare a [p,m] [b,c] w) (AV r j g l o):=by
 intro B s f H Q I h;refine Compare_chain (aI (V B s f H _ I h) λv G h=>?_) S;obtain⟨x,H1,I1,L,P⟩:=h;refine chain_link (aI (U B G f H1 _ I1 P) λu F ⟨y,H2,Z,i,N⟩=>
  aI (R B F f H2 x y v u _ Z L i N) λd E ⟨z,t,n,K,k,e,q⟩=>?_)
 subst e;cases K;refine NE ?_;cases k with
 |false=>exact ite_ff ⟨.b false,t,n,O,q⟩
 |true=>exact ite_tt (chain_last<|aI (T B E f t _ n q) (by rintro C D ⟨A,H4,Y,J,M⟩;exact W B D f H4 y A u C Q Y i J M))
def LO(K:Frag)(x:V)(H:Hp)(k:Cl):Prop:=
 match x with
 |.a=>k=false
 |.b b=>k=b
 |.i i=>k=(i !=0)
 |.s y=>y.length<=sizeLine/\k=((y.length:Int) !=0)
 |.c y=>y.size<=sizeLine/\k=((y.size:Int) !=0)
 |.r p=>(∃e,ax K H p e/\k= !e.isEmpty)\/(∃e,aF K H p e/\k= !e.isEmpty)\/∃h,H p=some (.d h)/\k= !h.isEmpty
 |_=>False
theorem amV{a:List (κ×V)}(r:KV a v):(!v.isEmpty)= !a.isEmpty:=by
 cases r<;>rfl
theorem LP{a:ge}(r:Xz x a):(!a.toArray.isEmpty)= !x.isEmpty:=by
 cases r<;>simp
theorem sH:(sizeLine:Nat) <2 ^ 63:=by decide
theorem LQ:amD X (λx H Q=>∃k,LO X.K x H k/\Q k H):=by
 intro F s C H x v Q I f h;obtain⟨k,e,q⟩:=h;have E:=sH;have D:=OX;cases x with
 |a=>
  cases f;have d:k=false:=e;subst d;exact truthy_none ⟨H,I,q⟩
 |b b=>
  cases f;have d:k=b:=e;subst d;exact NE ⟨H,I,q⟩
 |i i=>
  obtain⟨t,rfl⟩:=f;have d:k=(i !=0):=e;subst d;exact PySem.P.truthy_int ⟨H,I,q⟩
 |s y=>
  obtain⟨t,rfl⟩:=f;obtain⟨A,d⟩:y.length<=sizeLine/\k=((y.length:Int) !=0):=e;subst d;exact PySem.P.truthy_str ba ⟨H,I.tok _,q⟩
 |c y=>
  obtain⟨t,rfl⟩:=f;obtain⟨A,d⟩:y.size<=sizeLine/\k=((y.size:Int) !=0):=e;subst d;exact PySem.W.truthy_bytes ba ⟨H,I.tok _,q⟩
 |r p=>
  cases f;have d:=e;rcases d with⟨u,g,d⟩|⟨u,g,d⟩|⟨o,g,d⟩
  subst d;obtain⟨B,r,l,z⟩:=I.list g;have n:=r.length;exact wpAny_truthy_list l.isList (by simp only[KW];lia) ⟨H,I.tok _,by rw[LP r];exact q⟩;subst d;obtain⟨B,r,l,z⟩:=I.tuple g;have n:=r.length;exact truthy_tuple l (by simp only[KW];lia) ⟨H,I.tok _,by rw[LP r];exact q⟩;subst d;obtain⟨z,S,j,r,m⟩:o.length<=sizeLine/\(p==sysModules)=false/\∃j,KV o j/\s.heap.DictOf (fo X.prog X.w) p j:=I.aE p _ g;have n:=FS r;exact wpAny_truthy_dict S m ba ⟨H,I.tok _,by rw[amV r];exact q⟩
 |_=>exact(show False from e).elim
theorem aaT:bG X (binaryOp .Add) (λx y H Q=>∃i j,x=.s i/\y=.s j/\i.length+j.length<=sizeLine/\Q (.s<|i++j) H):=by
 intro B s c H x y v u Q I b r h;obtain⟨i,j,rfl,rfl,z,q⟩:=h;obtain⟨t,rfl⟩:=b;obtain⟨a,rfl⟩:=r;exact add_str (λa k=>⟨.s<|i++j,H,I.tok _,⟨_,O⟩,q⟩) z
theorem XW(r:Xz [x] s):∃u,s=[u]/\YD x u:=by
 cases r with
 |cons b a=>cases a;exact⟨_,O,b⟩
theorem Z9(r:Xz [x,y] s):∃u w,s=[u,w]/\YD x u/\YD y w:=by
 cases r with
 |cons d c=>
  cases c with
  |cons b a=>cases a;exact⟨_,_,O,d,b⟩
theorem acO(c:X.calm=true):d0 X (.builtin "min") (λx H Q=>∃i j,x=[.i i,.i j]/\Q (.i (if j<i then j else i)) H):=by
 intro B s b H x d Q I r h;obtain⟨i,j,rfl,q⟩:=h;obtain⟨u,w,rfl,⟨t,rfl⟩,⟨f,rfl⟩⟩:=Z9 r;refine min_two_ints (I.ok.hd c) λg e k=>⟨_,H,I.kept k,?_,q⟩;by_cases a:j<i;rw[Fr a,Fr a];exact⟨_,O⟩;rw[Fk a,Fk a];exact⟨_,O⟩
theorem apB:d0 X (.type "int") (λx H Q=>(∃i,x=[.i i]/\Q (.i i) H)\/∃k,x=[.b k]/\Q (.i (if k then 1 else 0)) H):=by
 intro B s c H x d Q I r h;rcases h with⟨i,rfl,q⟩|⟨k,rfl,q⟩
 obtain⟨u,rfl,t,rfl⟩:=XW r;exact call_int_int ⟨.i i,H,I,⟨_,O⟩,q⟩;obtain⟨u,rfl,a⟩:=XW r;cases a;exact call_int_bool ⟨.i (if k then 1 else 0),H,I.tok _,⟨_,O⟩,q⟩
def LR(K:Frag)(x:V)(H:Hp)(n:Nat):Prop:=
 match x with
 |.s y=>y.length<=sizeLine/\n=y.length
 |.c y=>y.size<=sizeLine/\n=y.size
 |.r p=>(∃a,ax K H p a/\n=a.length)\/∃a,aF K H p a/\n=a.length
 |_=>False
theorem aoA:d0 X (.builtin "len") (λd H Q=>∃x n,d=[x]/\LR X.K x H n/\Q (.i n) H):=by
 intro B s o H d v Q I r h;obtain⟨x,n,rfl,e,q⟩:=h;obtain⟨u,rfl,f⟩:=XW r;have w:=OX;cases x with
 |s y=>
  obtain⟨t,rfl⟩:=f;obtain⟨k,b⟩:y.length<=sizeLine/\n=y.length:=e;subst b;exact len_str ba ⟨.i _,H,I.tok _,⟨_,O⟩,q⟩
 |c y=>
  obtain⟨t,rfl⟩:=f;obtain⟨k,b⟩:y.size<=sizeLine/\n=y.size:=e;subst b;exact PySem.W.len_bytes ba ⟨.i _,H,I.tok _,⟨_,O⟩,q⟩
 |r p=>
  cases f;have b:=e;rcases b with⟨d,j,b⟩|⟨d,j,b⟩
  subst b;obtain⟨m,g,l,z⟩:=I.list j;have a:=g.length;exact Calls.call_len_list l.isList (by simp;lia) ⟨.i d.length,H,I.tok _,⟨_,by simp only[KW];rw[a]⟩,q⟩;subst b;obtain⟨m,g,l,z⟩:=I.tuple j;have a:=g.length;exact len_tuple l (by simp;lia) ⟨.i d.length,H,I.tok _,⟨_,by simp only[KW];rw[a]⟩,q⟩
 |_=>exact(show False from e).elim
end
structure sI(h:Do)(x dx C:z4)(mA:db):Prop where
 obj:h.get? x=some (instObj C dx)
 ns:h.Ns1 dx mA
 ne:dx≠x
theorem aiG{h:Do}{x:z4}{m:db}(n:h.Ns1 x m):∃d,h.get? x=some d/\∀b,lookIn b d=some (m b):=by
 obtain⟨o,s,p,zq⟩:=ZG n;obtain⟨f,i,k,Z,g⟩:=c3 zq;refine⟨o,f,λb=>?_⟩;have e:=g b;unfold nsFind findBy at e;rw[<-Array.find?_toList] at e;unfold lookIn;rw[i];dsimp only;split;rename_i y q;rw[q] at e;exact FM some e;rename_i q;rw[q] at e;have a:s.toList.any (·.refKey)=false:=by
  rw[List.any_eq_false];intro y c;obtain⟨z,t,Y⟩:=k y (Array.mem_toList_iff.mp c);simp[DictEntry.refKey,Y]
 have j:¬s.toList.any (·.refKey)=true:=by lia
 rw[Fk j];exact FM some e
theorem sI.look(I:sI h x d C m):∃o,PySem.W.InstAt h x (instObj C d) C (some o)/\∀n,lookIn n o=some (m n):=
 let ⟨o,a,l⟩:=aiG I.ns
 ⟨o,⟨I.obj,O,O,a⟩,l⟩
section
variable{e:BT}{w:A9}{A:Db}{E:ce}{s:AC}{K:Frag}{x i C f:z4}{c:db}{a:Str}{v:AT}
theorem apC{Q:ce}(X:K.In s.heap)(I:sI s.heap x i C c)(g:plainGet K C a=true)(d:hasDictIn K C=true)(f:findIn K (.ref C) a=some none)(b:c a=some v)(o:handedIn v=true)(h:Q v {s with toks:=s.toks+1}):
  wpAny (model e w) A (getAttr (.ref x) a r) Q E s:=by
 obtain⟨j,J,l⟩:=I.look;exact PySem.W.get_value X J (plainGet_of g).1 (PySem.W.findObj_own d f O (by rw[l,b])) o h
theorem aoQ{Q:AT×ge->AC->Prop}(X:K.In s.heap)(I:sI s.heap x i C c)(g:plainGet K C a=true)(b:findIn K (.ref C) a=some (some<|.ref f))(t:isFn K (.ref f)=true)(v:c a=none)(h:Q (.ref f,[.ref x]) s):
  wpAny (model e w) A (getMethod (.ref x) a p) Q E s:=by
 obtain⟨o,J,l⟩:=I.look;exact PySem.W.method_fn X J (plainGet_of g).1 (plainGet_of g).2 b (beq_iff_eq.mp t) (by show(lookIn a o).map (·.isSome)=some false;rw[l,v];rfl) h
theorem aoO{Q:wE}(X:K.In s.heap)(I:sI s.heap x i C c)(j:findIn K (.ref C) "__setattr__"=some (some<|.builtin "object.__setattr__"))(p:plainOver K C=true)(t:takerIn K C a=some none)(l:hasDictIn K C=true)(f:PySem.Within c n)(z:n.length<=sizeLine)(h:∀d,sI d x i C (λy=>if y=a then some v else c y)->Heap.SameBut i s.heap d->Q () {s with heap:=d,toks:=s.toks+2}):
  wpAny (model e w) A (setAttr (.ref x) a v) Q E s:=by
 obtain⟨B,J,G⟩:=I.look;refine PySem.W.set_plain X J j<|PySem.W.osa_open X J p t λb=>?_;obtain⟨H,m,o⟩:=PySem.W.any_some l;refine FI<|Go<|FI<|FI<|wpAny_loadPart I.obj<|FI<|PySem.W.Looks.here (PySem.W.looks_clsIn X m) ?_;rw[o];refine Go<|FI<|Go<|FI (wpAny_nsSet1 I.ns λd k g=>?_);obtain⟨F,D,q,zq⟩:=ZG (k.count (PySem.Within.cons a v f));obtain⟨u,r,Y⟩:=Yo zq;exact FI<|wpAny_lookBehind u (r▸pastItsLine_dict (oT Y (Zc▸j2 z _))) (Go<|h _ ⟨(g.2 _<|GE I.ne).trans I.obj,k,I.ne⟩ g)
theorem akZ{v:ge}{k:wP}(X:K.In s.heap)(m:makesIn K C=true)(i:findIn K (.ref C) "__init__"=some (some<|.ref f))(b:PySem.W.typeIn K (.ref f)=some (.type "function"))(h:codeAny (model e w) (A.under (.builtin "type.__call__" ⟨.ref C::v,k⟩)) (.call (.ref f) ⟨.ref (s.heap.objs.size+1)::v,k⟩) (PySem.W.InitBack (s.heap.objs.size+1) R)
   {s with heap:=(s.heap.push emptyDict).push (instObj C s.heap.objs.size)}):
  codeAny (model e w) A (.call (.ref C) ⟨v,k⟩) R s:=by
 obtain⟨c,g,d,t,o⟩:=s;exact PySem.W.make_core (PySem.W.makes_of X m) (PySem.W.looks_findIn X i) (λa=>PySem.W.bind_fn X a b) (.inl O) h
end
noncomputable def aU(f:Str)(v:V):io->io
 |[]=>[(f,v)]
 |(g,x)::r=>if g=f then (g,v)::r else (g,x)::aU f v r
theorem LS(f g:Str)(v:V):∀s:io,(aU f v s).lookup g=if g=f then some v else s.lookup g
 |[]=>by
  show List.lookup g [(f,v)]=_;by_cases h:g=f;simp only[List.lookup,(beq_iff_eq.mpr h),Fr h];simp only[List.lookup,(beq_eq_false_iff_ne.mpr h),Fk h]
 |(k,x)::r=>by
  rw[show aU f v ((k,x)::r)=(if k=f then (k,v)::r else (k,x)::aU f v r) from O];by_cases a:k=f;rw[Fr a];by_cases h:g=k;simp only[List.lookup,(beq_iff_eq.mpr h),Fr<|h.trans a];simp only[List.lookup,(beq_eq_false_iff_ne.mpr h),Fk (λe:g=f=>h (e.trans a.symm))];rw[Fk a];by_cases h:g=k;simp only[List.lookup,(beq_iff_eq.mpr h),Fk (λe:g=f=>a (h.symm.trans e))];simp only[List.lookup,(beq_eq_false_iff_ne.mpr h)];exact (LS f g v r)
theorem EL(f:Str)(v:V):∀s:io,f∈ (aU f v s).map (·.1)/\∀g,g∈s.map (·.1)->g∈ (aU f v s).map (·.1)
 |[]=>⟨by simp[aU],λg h=>by simp at h⟩
 |(k,x)::r=>by
  obtain⟨b,i⟩:=EL f v r;rw[show aU f v ((k,x)::r)=(if k=f then (k,v)::r else (k,x)::aU f v r) from O];by_cases a:k=f;subst a;exact⟨am,λg h=>by simpa using h⟩;rw[Fk a];refine⟨?_,λg h=>?_⟩;exact Yl _ b;rcases Z5.mp h with e|e
  exact Z5.mpr (.inl e);exact Yl _ (i g e)
theorem LU(f:Str)(v:V):∀s:io,(aU f v s).length<=s.length+1
 |[]=>by simp[aU]
 |(k,x)::r=>by
  rw[show aU f v ((k,x)::r)=(if k=f then (k,v)::r else (k,x)::aU f v r) from O];by_cases h:k=f;rw[Fr h];exact Y5 _;rw[Fk h];exact j2 (LU f v r) _
theorem ie.some_of(r:ie (some v) o):∃u,o=some u/\YD v u:=by
 cases o with
 |none=>exact(show False from r).elim
 |some u=>exact⟨u,O,r⟩
theorem ie.none_of(r:ie none o):o=none:=by
 cases o with
 |none=>rfl
 |some u=>exact(show False from r).elim
theorem ajH(r:YD v u):handedIn u=true:=by
 cases v with
 |a=>cases (show u=.none from r);rfl
 |b b=>cases (show u=.bool b from r);rfl
 |i i=>obtain⟨t,e⟩:=(show ∃t,u=.int i t from r);cases e;rfl
 |s x=>obtain⟨t,e⟩:=(show ∃t,u=.str x t from r);cases e;rfl
 |c b=>obtain⟨t,e⟩:=(show ∃t,u=.bytes b t from r);cases e;rfl
 |qx b=>obtain⟨t,e⟩:=(show ∃t,u=.float b t from r);cases e;rfl
 |r a=>cases (show u=.ref a from r);rfl
 |t n=>cases (show u=.type n from r);rfl
section
variable{P:BT}{w:A9}{H H':Hp}{h h':Do}{a C c:z4}{b oN:io}
theorem AW(E:cx P w H h)(e:H a=some (.i C c b)):∃m,sI h a c C m/\(∀f,ie (b.lookup f)<|m f)/\PySem.Within m (b.map (·.1))/\b.length<=1000/\H c=some (.o a):=by
 obtain⟨d,z,j,g,m,n,r,q⟩:=(show cY P w H h a (.i C c b) from E a _ e);exact⟨m,⟨g,n,j⟩,r,q,z,d⟩
end
structure gj(K:Frag)(C:z4):Prop where
 pg:plainGet K C Str.empty=true
 hd:hasDictIn K C=true
 po:plainOver K C=true
 sa:findIn K (.ref C) "__setattr__"=some (some<|.builtin "object.__setattr__")
theorem gj.get{K:Frag}{C:z4}(c:gj K C)(f:Str):plainGet K C f=true:=c.pg
def fZ(K:Frag)(C:z4)(f:Str):Prop:=findIn K (.ref C) f=some none
theorem fZ.Y1{K:Frag}(n:fZ K C f):takerIn K C f=some none:=by
 unfold takerIn;rw[show findIn K (.ref C) f=some none from n];rfl
structure v9(K:Frag)(C:z4)(m:Str)(f:z4):Prop where
 at_:findIn K (.ref C) m=some (some<|.ref f)
 fn:isFn K (.ref f)=true
 kp:keepIn K (.ref f)=true
section
variable{X:Cx}{i:cr}{j:St}{H:Hp}{s:AC}{a C p:z4}{d:io}{f:Str}{v:V}{A:Db}{E:ce}
theorem abO{Q:ce}(I:d4 X i j H s)(e:H a=some (.i C p d))(c:gj X.K C)(n:fZ X.K C f)(l:d.lookup f=some v)(h:∀u k,d4 X i j H k->YD v u->Q u k):wpAny (model X.prog X.w) A (getAttr (.ref a) f b) Q E s:=by
 obtain⟨q,zq⟩:=mD (AW I.aE e);obtain⟨g,r,Y,Y,Y⟩:=c3 zq;obtain⟨u,o,m⟩:=ie.some_of (l▸r f);exact apC I.dU g (c.get f) c.hd n o (ajH m)<|h u _ (I.tok _) m
theorem LV{f:Sem Cl}{Q:AT×ge->AC->Prop}(I:d4 X i j H s)(e:H a=some (.i C p d))(c:gj X.K C)(k:v9 X.K C m g)(l:d.lookup m=none)(h:Q (.ref g,[.ref a]) s):wpAny (model X.prog X.w) A (getMethod (.ref a) m f) Q E s:=by
 obtain⟨n,zq⟩:=mD (AW I.aE e);obtain⟨b,r,Y,Y,Y⟩:=c3 zq;exact aoQ I.dU b (c.get m) k.at_ k.fn (ie.none_of (l▸r m)) h
theorem amW{Q:wE}(I:d4 X i j H s)(e:H a=some (.i C p d))(c:gj X.K C)(n:fZ X.K C f)(P:d.length<1000)(D:YD y u)(h:∀t,d4 X i j (fy H a<|.i C p<|aU f y d) t->Q () t):wpAny (model X.prog X.w) A (setAttr (.ref a) f u) Q E s:=by
 obtain⟨v,k,r,m,Y,x⟩:=AW I.aE e;have F:(d.map (·.1)).length<=sizeLine:=by rw[Y9];exact oT Y (Zs _ _)
 refine aoO I.dU k c.sa c.po n.Y1 c.hd m F λM l B=>h _ ?_;have J:∃o,M.get? p=some o:=(by obtain⟨o,_,_,N,_⟩:=l.ns;exact⟨o,N⟩);refine I.write (e▸True.intro) (.inr x) (λb q L z=>(B.2 b L).trans z) J (⟨by rw[aw k.ne];exact x,?_,k.ne,l.obj,_,l.ns,λg=>?_,λg G=>?_⟩);have:=LU f y d;exact oT this (ZV P);rw[LS];by_cases q:g=f;rw[Fr q,Fr q];exact D;rw[Fk q,Fk q];exact r g;by_cases q:g=f;rw[q];exact(EL f y d).1;refine(EL f y d).2 g (m g λz=>G ?_);show(if g=f then some u else v g)=none;rw[Fk q];exact z
theorem d4.made(I:d4 X i j H s):d4 X i j (fy (fy H s.heap.objs.size<|.o<|s.heap.objs.size+1) (s.heap.objs.size+1)<|.i C s.heap.objs.size [])
  {s with heap:=(s.heap.push emptyDict).push (instObj C s.heap.objs.size)}:=by
 have a:(s.heap.push emptyDict).get? s.heap.objs.size=some emptyDict:=IN s.heap O;have f:=by
  have:=IN (s.heap.push emptyDict) (o:=instObj C s.heap.objs.size) O
  rwa [Pi] at this
 have d:(s.heap.push emptyDict).Ns s.heap.objs.size (λY=>none):=tZ emptyDict (#[]) _ a O (λe c=>absurd c am) (λY=>O);refine (I.laid (o:=.o (s.heap.objs.size+1)) (t':=s.toks) (λb u q=>GT _ q) (Yw _) (qX _ a)).laid (λb u q=>GT _ q) (Y8<|Pi _ _) ?_;have n:s.heap.objs.size≠s.heap.objs.size+1:=XS (Zf _);refine⟨by rw[aw n,av],nE _,n,tL f (λY=>none) ((Heap.Ns1.of_empty d).at λo q=>GT _ q) ⟨λY=>True.intro,λy h=>absurd O h⟩⟩
theorem aaX{w:A9}{v:Env}{a:Pos}{Q:ce}(b:attributeBase e f v (eval e v)=eval e v)(h:wpAny (model prog w) A (eval e v) (λo R=>wpAny (model prog w) A (getAttr o f true) Q E R) E s):wpAny (model prog w) A (eval (.Attribute e f a) v) Q E s:=
 Attribute_any_ h (by rw[arm_eval_Attribute,b])
end
def AX(K:Frag)(t:TE)(f:Str):TE:=λc H Q=>t c H λx b=>∃a C d s v,x=.r a/\b a=some (.i C d s)/\gj K C/\fZ K C f/\s.lookup f=some v/\Q v b
def EM(K:Frag)(e t:TE)(f:Str):TS:=λD b H=>t b H λy g=>e b g λx c=>∃a C d s,x=.r a/\c a=some (.i C d s)/\gj K C/\fZ K C f/\s.length<1000/\
 D.nx b (fy c a<|.i C d<|aU f y s)
section
variable{X:Cx}{o e d:Expr}{f:Str}{g i EN:Pos}{b j:TE}
theorem amE(j:PE X e b)(k:attributeBase e f X.env (eval e X.env)=eval e X.env):PE X (.Attribute e f g) (AX X.K b f):=by
 intro B s d H Q I h;refine aaX k<|aI (j B s d H _ I h) λu A q=>?_;obtain⟨x,w,t,r,a,C,E,D,v,m,o,c,n,l,q⟩:=q;subst m;obtain rfl:u=.ref a:=r;exact abO t o c n l λy z p i=>⟨v,w,p,i,q⟩
theorem anY(z:PE X o b)(t:PE X d j)(w:swapsWith d (some<|.Attribute o f i) g.line X.env=pure false):PS X (.Assign [.Attribute o f i] d g) (EM X.K b j f):=by
 intro B s e H D I h;refine plainObj_wpAny_Assign_Attribute (aI (t B s e H _ I h) λu k h=>?_) w;obtain⟨y,L,J,r,q⟩:=h;refine aI (z B k e L _ J q) λv N h=>?_;obtain⟨x,R,G,m,a,C,Q,P,A,E,c,n,l,p⟩:=h;subst A;obtain rfl:v=.ref a:=m;exact amW G E c n l r λM F=>⟨e,_,F,p⟩
end
section
variable{X:Cx}{B':cr}{σ:St}{H:Hp}{s:AC}{A:Db}{E:ce}{Q:ce}{c:AT}{b:Cl}
inductive k7(K:Frag)(H:Hp):V->AT->Prop where
 |aj:k7 K H .a (.type "NoneType")
 |bl (x:Cl):k7 K H (.b x) (.type "bool")
 |int (i:Int):k7 K H (.i i) (.type "int")
 |str (x:Str):k7 K H (.s x) (.type "str")
 |qx (x:UInt64):k7 K H (.qx x) (.type "float")
 |lst {a:z4}{f:bi} (e:H a=some (.l f)):k7 K H (.r a) (.type "list")
 |cw {a:z4}{o:Obj}{f:bi} (e:H a=some (.c o<|.l f)):k7 K H (.r a) (.type "list")
 |tup {a:z4}{f:bi} (e:H a=some (.t f)):k7 K H (.r a) (.type "tuple")
 |dK {a:z4}{h:ii} (e:H a=some (.d h)):k7 K H (.r a) (.type "dict")
 |dT {a:z4}{h:wn} (e:H a=some (.T h)):k7 K H (.r a) (.type "dict")
 |ins {a C q:z4}{n:io} (e:H a=some (.i C q n)) (E:gj K C) (z:findIn K (.ref C) "__class__"=some (some<|.builtin "object.__class__"))
   (w:specialIn K (.builtin "object.__class__") "__get__"=some (some<|.builtin "getset_descriptor.__get__")) (v:takesIn K (.builtin "object.__class__")=some true)
   (y:mroIn K C (.type "object")=some true):k7 K H (.r a) (.ref C)
theorem oS(I:d4 X B' σ H s)(r:YD x u)(D:k7 X.K H x t)(e:kitOne X.K t c=some b)(h:∀F,Q (.bool b) {s with toks:=F}):
  wpAny (model X.prog X.w) A (call (.builtin "isinstance") [u,c]) Q E s:=by
 cases D with
 |aj=>cases (show u=.none from r);exact kia_one PySem.W.kitx_none I.dU True.intro e (λz=>nomatch z) h
 |bl y=>cases (show u=.bool y from r);exact kia_one PySem.W.kitx_bool I.dU True.intro e (λz=>nomatch z) h
 |int i=>obtain⟨t,q⟩:=(show ∃t,u=.int i t from r);cases q;exact kia_one PySem.W.kitx_int I.dU True.intro e (λz=>nomatch z) h
 |str y=>obtain⟨t,q⟩:=(show ∃t,u=.str y t from r);cases q;exact kia_one PySem.W.kitx_str I.dU True.intro e (λz=>nomatch z) h
 |qx y=>obtain⟨t,q⟩:=(show ∃t,u=.float y t from r);cases q;exact kia_one PySem.W.kitx_float I.dU True.intro e (λz=>nomatch z) h
 | @lst a k g=>
  cases (show u=.ref a from r);obtain⟨_,_,n,_,j⟩:=(show cY X.prog X.w H s.heap a (.l k) from I.aE a _ g);exact kia_one kitx_list I.dU ⟨_,j,O⟩ e (λz=>nomatch z) h
 | @cw a G k g=>
  cases (show u=.ref a from r);obtain⟨_,_,_,n,_,j⟩:=(show cY X.prog X.w H s.heap a (.c G<|.l k) from I.aE a _ g);exact kia_one kitx_list I.dU ⟨_,j,O⟩ e (λz=>nomatch z) h
 | @tup a k g=>
  cases (show u=.ref a from r);obtain⟨_,_,_,p⟩:=(show cY X.prog X.w H s.heap a (.t k) from I.aE a _ g);obtain⟨o,j,m,_⟩:=p;exact kia_one PySem.W.kitx_tuple I.dU ⟨o,j,m⟩ e (λz=>nomatch z) h
 | @dK a v g=>
  cases (show u=.ref a from r);obtain⟨_,_,U,_,p⟩:=(show cY X.prog X.w H s.heap a (.d v) from I.aE a _ g);obtain⟨o,R,S,j,m,_⟩:=p;exact kia_one kitx_dict I.dU ⟨o,j,m.1⟩ e (λz=>nomatch z) h
 | @dT a v g=>
  cases (show u=.ref a from r);obtain⟨_,_,k,_,o,R,S,j,m,_⟩:=(show cY X.prog X.w H s.heap a (.T v) from I.aE a _ g);exact kia_one kitx_dict I.dU ⟨o,j,m.1⟩ e (λz=>nomatch z) h
 | @ins a C dx Z g B P M L N=>
  cases (show u=.ref a from r);obtain⟨Y,f,_⟩:=AW I.aE g;obtain⟨V,J,_⟩:=f.look;exact kia_one (PySem.W.kitx_own (B.get _) B.hd P M L N) I.dU J e (λz=>nomatch z) h
end
structure d5(k:Nat)(A:Db):Prop where
 hd:A.handled=none
 dp:A.depth+3*k+5<recursionLimit
 un:A.units+16*k+200<cLine
 gd:A.guards=some []:=by rfl
theorem d5.mono(r:d5 k A)(h:j<=k):d5 j A:=⟨r.hd,by have:=r.dp;lia,by have:=r.un;lia,r.gd⟩
theorem d5.deeper(r:d5 (k+1) A)(e:Env):d5 k (A.deeper e):=
 ⟨r.hd,by have:=r.dp;show A.depth+1+3*k+5<_;lia,by have:=r.un;show A.units+3+16*k+200<_;lia,r.gd⟩
theorem ajO{A:Db}{C:z4}{u:ge}{k:wP}:(A.under<|.builtin "type.__call__" ⟨.ref C::u,k⟩).depth=A.depth+1:=O
theorem agV{A:Db}{C:z4}{u:ge}{k:wP}:(A.under<|.builtin "type.__call__" ⟨.ref C::u,k⟩).units=A.units+1:=O
theorem d5.make(r:d5 (k+1) A)(C:z4)(u:ge)(w:wP):d5 k (A.under<|.builtin "type.__call__" ⟨.ref C::u,w⟩):=
 ⟨r.hd,by have:=r.dp;rw[ajO];lia,by have:=r.un;rw[agV];lia,by first|exact r.gd|simp⟩
theorem d5.depth(r:d5 k A):A.depth<recursionLimit:=by have:=r.dp;lia
theorem d5.units(r:d5 k A):A.units+64<cLine:=by have:=r.un;lia
def k8:TA:=λ_ H Q=>Q [] H
def fA(b:TE)(t:TA):TA:=λa H Q=>b a H λx d=>t a d λs c=>Q (x::s) c
section
variable{X:Cx}{e:Expr}{a:le}{d:TE}{t:TA}{c:Pos}
theorem xH:PA X [] k8:=λY Y Y Y H Q I h=>Calls.spliced_nil ⟨[],H,I,.nil,h⟩
theorem qA(m:PE X e d)(l:PA X a t)(k:autoParam (starEach (e::a) X.env=(false,eval e X.env)::starEach a X.env) bd):PA X (e::a) (fA d t):=by
 intro c B s b H Q I h;rw[k];exact Calls.spliced_cons<|aI (m B s b H _ I h) (by rintro u g ⟨x,v,o,i,j⟩;exact aI (l c B g b v _ o j) (by rintro w y ⟨f,p,n,r,q⟩;exact ⟨x::f,p,n,.cons i r,q⟩))
def LW(t:TA):TE:=λb H Q=>t b H λx a=>x.length<=sizeLine/\∀p,a p=none->Q (.r p) (fy a p<|.t x)
def LX(t:TA):TE:=λb H Q=>t b H λx a=>x.length<=sizeLine/\∀p,a p=none->Q (.r p) (fy a p<|.l x)
theorem acR(h:PA X a t):PE X (.Tuple a l c) (LW t):=by
 intro B s g H Q I j;exact wpAny_Tuple_spliced<|aI (h c B s g H _ I j) λi d ⟨x,k,f,r,z,q⟩=>⟨r.length▸z,⟨.r d.heap.objs.size,fy k d.heap.objs.size<|.t x,f.laid (λb u e=>GT _ e) (Yw _) (⟨z,i,r,⟨_,IN _ O,O,_,O⟩⟩),O,q _ (f.aE.fresh (Yw _))⟩⟩
theorem Y_(h:PA X a t):PE X (.List a c) (LX t):=by
 intro B s g H Q I j;exact wpAny_List_spliced<|aI (h c B s g H _ I j) λi d ⟨x,k,f,r,z,q⟩=>⟨r.length▸z,⟨.r d.heap.objs.size,fy k d.heap.objs.size<|.l x,f.laid (λb u e=>GT _ e) (Yw _) (⟨z,i,0,r,IN _ O⟩),O,q _ (f.aE.fresh (Yw _))⟩⟩
end
abbrev Sp:=bi->Hp->VK->XK->Prop
abbrev ol:=List (Str×Sp)
abbrev c5:=wr->Hp->AC->XK->AT->AC->Prop
structure qB(P:BT)(w:A9)(K:Frag)(mg:db)(base:Do)(A:Db)(outer:wr)(s:AC)(H:Hp):Prop where
 frames:A.frames=some outer
 mod:Mod K mg base
 bs:∀b o,base.get? b=some o->s.heap.get? b=some o/\H b=none
 sx:base.objs.size<=s.heap.objs.size
 mh:s.heap.FunFrames base outer
 ve:∀b∈bL outer,H b=none
 aE:cx P w H s.heap
 B:AllBare s.gens
def CE(o:wr)(P:BT)(w:A9)(H:Hp)(s:AC)(Q:VK)(u:AT)(a:AC):Prop:=
 ∃v b,a.os=s.os/\AllBare a.gens/\Un (bL o) [] H b s.heap a.heap/\cx P w b a.heap/\YD v u/\Q v b
def CR(C:c5)(o:wr)(P:BT)(w:A9)(H:Hp)(s:AC)(Q:VK)(E:XK)(r:Result)(a:AC):Prop:=
 match r with
 |.ok (.ret u)=>CE o P w H s Q u a
 |.ok _=>False
 |.error e=>C o H s E e a
structure dH(P:BT)(w:A9)(K:Frag)(mg:db)(base:Do)(CX:c5)(k:Nat)(f:z4)(fd:Ev)(ps:bn)(sp:Sp):Prop where
 len:∀vs H Q E,sp vs H Q E->vs.length=ps.length
 run:∀(A:Db)(outer:wr)(s:AC)(H:Hp)(args:Args)(us:ge)(vs:bi)(Q:VK)(E:XK),d5 k A->qB P w K mg base A outer s H->BindsTo s fd args (ps.zip us)->Xz vs us->sp vs H Q E->
  codeAny (model P w) A (.call (.ref f) args) (CR CX outer P w H s Q E) s
theorem dH.mono{K:Frag}(F:dH P w K m b C j f d c p)(h:j<=k):
  dH P w K m b C k f d c p:=⟨F.len,λA o s H a u v Q E r=>F.run A o s H a u v Q E<|r.mono h⟩
theorem qB.make{K:Frag}(e:qB P w K m b A o s H)(C:z4)(u:ge)(k:wP):
  qB P w K m b (A.under<|.builtin "type.__call__" ⟨.ref C::u,k⟩) o s H:=⟨by first|exact e.frames| (simpa[Around.under,Code.envs,Code.isFrame,pushEnvs] using e.frames),e.mod,e.bs,e.sx,e.mh,e.ve,e.aE,e.B⟩
section
variable{X:Cx}{a:cr}{c:St}{H:Hp}{s e:AC}
theorem d4.LY(I:d4 X a c H s):qB X.prog X.w X.K X.g X.base X.A X.stack s H:=
 ⟨I.ok.frames,I.ok.mod,I.bs,oT I.ok.sx I.sz,I.stack,I.AH,I.aE,I.E⟩
theorem d4.after(I:d4 X a c H s)(h:CE X.stack X.prog X.w H s Q u e):EP X a c Q u e:=by
 obtain⟨v,i,o,f,n,E,r,q⟩:=h;obtain⟨j,g,d,t,A⟩:=e;obtain rfl:A=s.os:=o;exact⟨v,i,I.call n E f<|λb z=>absurd z am,r,q⟩
end
def EO(s:Sp)(i:bi)(E:XK)(t:TA):TE:=λa H Q=>t a H λv b=>s (v++i) b Q E
def sJ(C:z4)(m:Str)(s:Sp)(k:bi)(E:XK)(d:TE)(t:TA):TE:=λb H Q=>d b H λx c=>∃a e f,x=.r a/\c a=some (.i C e f)/\f.lookup m=none/\
 t b c λv g=>s (x::(v++k)) g Q E
def AZ(C:z4)(p:Sp)(k:bi)(E:XK)(t:TA):TE:=λc H Q=>t c H λs b=>∀x d,b x=none->b d=none->d≠x->
 p (.r x::(s++k)) (fy (fy b d<|.o x) x<|.i C d []) (λv e=>v=.a/\Q (.r x) e) E
def zc(K:Frag)(f:Ev)(p:bn)(d:ge):Prop:=
 ∀(s:AC)(u:ge),K.In s.heap->(u++d).length=p.length->BindsTo s f ⟨u,[]⟩ (p.zip<|u++d)
theorem zc.all{K:Frag}{f:Ev}{p:bn}(h:∀u:ge,u.length=p.length->bindArgs f ⟨u,[]⟩=pure (p.zip u)):zc K f p []:=λs u Y l=>by
 rw[Yh] at l⊢;exact .of_eq<|h u l
def X0(C:c5)(X:Cx)(E:XK):Prop:= ∀(B:cr)(c:St)(H:Hp)(s:AC)(e:AT)(b:AC),d4 X B c H s->C X.stack H s E e b->X.a e b
section
variable{X:Cx}{d:c5}{k:Nat}{f C:z4}{g:Ev}{i:bn}{j:Sp}{b:bi}{a:ge}{E:XK}{x m:Str}{p l Z':Pos}{e o:Expr}{c:le}{ta:TE}{t:TA}
theorem ER{l:St}{c:ge}(F:dH X.prog X.w X.K X.g X.base d k f g i j)(o:d5 k X.A)(t:zc X.K g i a)(p:Xz b a)(x:X0 d X E)(I:d4 X B l H s)(r:Xz vs c)(h:j (vs++b) H Q E):wpAny (model X.prog X.w) X.A (call (.ref f) c) (EP X B l Q) X.a s:=by
 have m:=r.append p;refine wpAny_call<|Ps (F.run X.A X.stack s H ⟨c,[]⟩ (c++a) (vs++b) Q E o I.LY (t s c I.dU (m.length▸F.len _ _ _ _ h)) m h) λr n q=>?_;cases r with
 |error e=>exact x B l H s e n I q
 |ok v=>
  cases v with
  |ret u=>exact I.after q
  |next=>cases q
  |brk=>cases q
  |cont=>cases q
theorem alJ(F:dH X.prog X.w X.K X.g X.base d k f g i j)(v:d5 k X.A)(B:Gl X x)(y:X.g x=some (.ref f))(z:keepIn X.K (.ref f)=true)(G:zc X.K g i a)(D:Xz b a)(u:X0 d X E)(J:PA X (e::c) t)(L:autoParam ((x==("__debug__":Str))=false) bc)(C:autoParam (starEach (e::c) X.env=(false,eval e X.env)::starEach c X.env) bd)(o:autoParam ((backTo l<|starEach c X.env).any (·.1)=false) bd):
  PE X (.Call (.Name x p) (e::c) [] l) (EO j b E t):=by
 intro M s n H Q I h;exact SB<|AJ I B y (callWith_K I.ok.mod.xB z (aI (J l M s n H _ I h) λP R ⟨N,S,m,r,q⟩=>⟨m.dU,ER F v G D u m r q⟩) C o) L
structure Mk(K:Frag)(C f:z4):Prop where
 m:makesIn K C=true
 init:findIn K (.ref C) "__init__"=some (some<|.ref f)
 fn:isFn K (.ref f)=true
 kp:keepIn K (.ref C)=true
theorem aiA{q:St}{c:ge}{t:bi}(M:Mk X.K C f)(F:dH X.prog X.w X.K X.g X.base d k f g i j)(N:d5 (k+1) X.A)(S:zc X.K g i a)(R:Xz b a)(L:X0 d X E)(I:d4 X B q H s)(r:Xz t c)(h:∀x n,H x=none->H n=none->n≠x->j (.r x::(t++b)) (fy (fy H n<|.o x) x<|.i C n []) (λv Y=>v=.a/\Q (.r x) Y) E):
  wpAny (model X.prog X.w) X.A (call (.ref C) c) (EP X B q Q) X.a s:=by
 have z:=h (s.heap.objs.size+1) s.heap.objs.size (I.aE.fresh<|Nat.le_succ _) (I.aE.fresh<|Yw _) (XS<|Zf _);have p:=d4.made (C:=C) I;have y:Xz (.r (s.heap.objs.size+1)::(t++b)) (.ref (s.heap.objs.size+1)::(c++a)):=.cons O (r.append R);have P:=by
  have e:=y.length;rw[F.len _ _ _ _ z] at e;exact e.symm
 refine wpAny_call (akZ I.dU M.m M.init (beq_iff_eq.mp M.fn) (Ps (F.run _ X.stack _ _ ⟨.ref (s.heap.objs.size+1)::c,[]⟩ (.ref (s.heap.objs.size+1)::(c++a)) _ _ E (N.make C c [])
  (p.LY.make C c []) (S _ (.ref (s.heap.objs.size+1)::c) p.dU P) y z) λr D l=>?_))
 cases r with
 |error e=>exact L B q _ _ e D p l
 |ok T=>
  cases T with
  |ret u=>
   obtain⟨v,Z,W,G,U,J⟩:=p.after l;subst U;exact⟨G,⟨.r<|s.heap.objs.size+1,Z,W,O,J⟩⟩
  |next=>cases l
  |brk=>cases l
  |cont=>cases l
theorem aiJ(M:Mk X.K C f)(F:dH X.prog X.w X.K X.g X.base d k f g i j)(v:d5 (k+1) X.A)(z:Gl X x)(y:X.g x=some (.ref C))(G:zc X.K g i a)(D:Xz b a)(u:X0 d X E)(J:PA X (e::c) t)(L:autoParam ((x==("__debug__":Str))=false) bc)(B:autoParam (starEach (e::c) X.env=(false,eval e X.env)::starEach c X.env) bd)(o:autoParam ((backTo l<|starEach c X.env).any (·.1)=false) bd):
  PE X (.Call (.Name x p) (e::c) [] l) (AZ C j b E t):=by
 intro N s n H Q I h;exact SB<|AJ I z y (callWith_K I.ok.mod.xB M.kp (aI (J l N s n H _ I h) (by rintro R S ⟨P,T,m,r,q⟩;exact ⟨m.dU,aiA M F v G D u m r q⟩)) B o) L
end
structure xI(N P:bn)(sc:Scope):Prop where
 kind:sc.kind=.function
 co:sc.isCoroutine=false
 gen:sc.isGenerator=false
 nd:N.Nodup
 pre:N.take P.length=P
 par:∀x∈P,sc.names.lookup x=some .local\/sc.names.lookup x=some .cell
 Zd:∀y∈sc.names,y.2≠ .free
theorem LZ:∀{b:wP}{m:db},(∀v,(x,v)∉b)->bindL k b m x=m x
 |[],_,_=>O
 |(n,v)::r,m,h=>by
  unfold bindL;rw[LZ λw a=>h w (Yl _ a)];split;have:x≠n:=by rintro rfl;exact h v YL
  simp[this];rfl
theorem L0:∀{b:wP}{m:db},(∀v,(x,v)∉b)->bindC k b m x=m x
 |[],_,_=>O
 |(n,v)::r,m,h=>by
  unfold bindC;rw[L0 λw a=>h w (Yl _ a)];split;rfl;have:x≠n:=by rintro rfl;exact h v YL
  simp[this]
theorem L1:∀{P:bn}{s:ge}{i:Nat}{m:db},P.Nodup->P[i]?=some x->s[i]?=some v->k x=some .local->
  bindL k (P.zip s) m x=some v:=by
 intro P;induction P with
 |nil=>intro s i m _ h;cases h
 |cons p P r=>
  intro s i m n b a c;cases s with
  |nil=>cases a
  |cons w s=>
   cases i with
   |zero=>
    simp at b a;subst b;subst a;show bindL k ((p,w)::P.zip s) m p=_;unfold bindL;rw[LZ λv d=>(aM.mp n).1 (List.of_mem_zip d).1,Fr c];simp
   |succ i=>unfold bindL;exact r (aM.mp n).2 (by simpa using b) (by simpa using a) c
theorem L4:∀{P:bn}{s:ge}{i:Nat}{m:db},P.Nodup->P[i]?=some x->s[i]?=some v->k x≠some .local->
  bindC k (P.zip s) m x=some v
 |[],_,_,_,_,h,_,_=>by simp at h
 |_::_,[],_,_,_,_,h,_=>by simp at h
 |p::P,w::s,0,m,n,b,a,c=>by
  simp at b a;subst b;subst a;show bindC k ((p,w)::P.zip s) m p=_;unfold bindC;rw[L0 λv d=>(aM.mp n).1 (List.of_mem_zip d).1,Fk c];simp
 |p::P,w::s,i+1,m,n,b,a,c=>by
  unfold bindC;exact L4 (aM.mp n).2 (by simpa using b) (by simpa using a) c
noncomputable def Y2(N:bn)(v:bi):St:=v.map some++List.replicate (N.length - v.length) none
noncomputable def sM(C:c5)(P:BT)(w:A9)(K:Frag)(m:db)(c:Do)(N:bn)(q:Str)(b:Scope)(f:z4)(d:AT)(A:Db)(o:wr)(s:AC)(H:Hp)(E:XK):Cx where
 prog:=P
 w:=w
 K:=K
 g:=m
 base:=c
 A:=A.deeper (envOfC q b s.heap.objs.size f d)
 N:=N
 S:=s
 H:=H
 env:=envOfC q b s.heap.objs.size f d
 r:=o
 stack:=envOfC q b s.heap.objs.size f d::o
 ex:=[]
 calm:=true
 fn:=λ_=>true
 n:=[]
 a:=λe h=>wpAny (model P w) (A.deeper<|envOfC q b s.heap.objs.size f d) (leaving (envOfC q b s.heap.objs.size f d) e) (λ_ j=>C o H s E e j) (λi j=>C o H s E i j) h
theorem L5{s:Scope}(h:s.names.lookup x=some .cell):∃c,(cellsFrom n s.names []).lookup x=some c:=by
 exact Option.isSome_iff_exists.mp (cellsFrom_some s.names n [] (.inl h))
theorem acT{K:Frag}{f:z4}{I:AT}{Q:AC}(S:xI N t d)(W:A.handled=none)(m:qB P w K M j A o s H)(hl:n.length=t.length)(r:Xz n L)(x:InCallC s s.heap.objs.size (bindL (envOfC l d s.heap.objs.size f I).kindOf (t.zip L) λ_=>none) (cellsFrom (s.heap.objs.size+1) d.names []) (bindC (envOfC l d s.heap.objs.size f I).kindOf (t.zip L) λ_=>none) Q):
  d4 (sM Y P w K M j N l d f I A o s H E) [] (Y2 N n) H Q:=by
 have nO:t.length<=N.length:=by have:=FM List.length S.pre;rw[Y7] at this;lia
 obtain⟨G,Z,rfl,T⟩:=x.done;have J:∀b:z4,b∉ (sM Y P w K M j N l d f I A o s H E).ex:=λb z=>absurd (show b∈ ([]:lV) from z) am;refine⟨⟨m.mod,S.kind,O,O,Yw _,λy z c G g=>?_,λy C=>?_,λy c _ h=>?_,λ_=>W,Around.frames_deeper m.frames,.inr ⟨O,O⟩,λb z=>absurd z (J b),m.bs,m.sx,λb _ _=>J b,λb z=>absurd z (J b),m.mh,m.ve⟩,
  rfl,m.B,Un.kept T,pQ _ x.toInCall.ns (λi y v G g h3=>?_),λy c h=>qX _ (x.cell y c h),m.aE.fresh (Yw _),λy c h=>?_,λp D=>absurd (show p∈ ([]:cr) from D) am,m.aE.kept T,?_⟩
 exact name_of_addr x.apart (KB G) (KB g);rcases C with C|C
 exact L5 C;cases (S.Zd _<|KB C) O;exact AP (x.above y c<|KB h);have F:i<n.length:=by
  unfold Y2 at g;by_cases F:i<n.length;exact F;rw[YI (by simpa using F)] at g;rw[List.getElem?_replicate] at g;split at g<;>cases g
 have X:n[i]?=some v:=by
  unfold Y2 at g;rw[X4 (by simpa using F),Yi] at g;cases e:n[i]? with
  |none=>rw[e] at g;cases g
  |some a=>rw[e] at g;cases g;rfl
 obtain⟨u,R,V⟩:=r.get X;have D:t[i]?=some y:=by
  rw[<-S.pre,dG (XG F (Y8 hl))];exact G
 have U:=S.pre▸S.nd.sublist (Tm _ _);refine pQ u V ?_;rcases S.par y (X_ D) with k|k
 exact .inl ⟨k,L1 U D R k⟩;obtain⟨c,e⟩:=L5 k;refine .inr (tL (.inl k) c e ?_);have q:=x.cell y c e;rw[L4 U D R (by show d.names.lookup y≠_;rw[k];decide)] at q;exact q;exact m.aE.fresh (AP<|x.above y c<|KB h);unfold Y2;show _=N.length;rw[Yy,Y9,X1];lia
theorem alG{K:Frag}{f:z4}{h:wS}{dV kV ZB pm z ct oc:AT}{an od:v4}{kb:Array wT}(lk:K.lookup f=some ⟨oc,od,.func<|fnOf j l p h c dV kV ZB pm an z ct,kb⟩)(nI:codeIn K z l=true)(S:xI N F c)(C:∀i H Q E,M i H Q E->i.length=F.length)(Zg:∀(A:Db)(d:wr)(s:AC)(H:Hp)(i:bi)(Q:VK)(E:XK),d5 k (A.deeper (envOfC l c s.heap.objs.size f z))->M i H Q E->
   ∃t,e7 (sM X P w K G g N l c f z A d s H E) h t/\t {nx:=λ_ m=>Q .a m,r:=Q} (Y2 N i) H):
  dH P w K G g X (k+1) f (fnOf j l p h c dV kV ZB pm an z ct) F M:=by
 refine⟨C,λA d s H a' us i Q E U D hb r Z=>?_⟩;have KX:=D.mod.xB.keeps λb o e=>(D.bs b o e).1;have Zh:∀y∈F.zip us,c.names.lookup y.1=some .local\/(c.names.lookup y.1=some .cell/\((cellsFrom (s.heap.objs.size+1) c.names []).lookup y.1).isSome=true):=λ⟨n,v⟩ hy=>by
  rcases S.par n (List.of_mem_zip hy).1 with q|q
  exact .inl q;exact .inr ⟨q,cellsFrom_some _ _ _<|.inl q⟩
 refine codeAny_call_function U.depth (KX _ _ lk) O S.co S.gen O (PySem.W.codeRec_of KX nI)<|hb _ _ _ _ (wpAny_newFunctionEnv_cells S.kind Zh λb' he Y x=>?_);subst he;refine⟨(D.mod.nolimit.keeps λb o e=>(D.bs b o e).1).keeps x.toInCall.keep,codeAny_func ?_⟩;obtain⟨t,ht,hq⟩:=Zg A d s H i Q E (U.deeper _) Z;have I:d4 (sM X P w K G g N l c f z A d s H E) [] (Y2 N i) H Y:=acT S U.hd D (C _ _ _ _ Z) r x;refine Id (ht [] Y (Y2 N i) H _ I hq) (λfl R B=>?_) λe R B=>B;have XV:∀{L:St}{m:Hp}{v:V}{u:AT},d4 (sM X P w K G g N l c f z A d s H E) [] L m R->YD v u->Q v m->CE d P w H s Q u R:=
  λ{L m v u} J T q=>q8 v m J.os J.E J.base J.aE ⟨T,q⟩
 cases fl with
 |ret u=>
  obtain⟨v,L,m,zq⟩:=ZG B;obtain⟨J,T,q⟩:=Yo zq;exact XV J T q
 |next=>
  obtain⟨L,m,J,q⟩:=B;exact XV (v:=.a) J O q
 |brk=>
  obtain⟨_,_,_,q⟩:=B;cases q
 |cont=>
  obtain⟨_,_,_,q⟩:=B;cases q
section
variable{X:Cx}{x:Str}{p b:Pos}{e:Expr}{a:le}{t:TA}{c T:Fa}{r:bi->Hp->VK->Prop}
def jO(r:bi->Hp->VK->Prop)(t:TA):TE:=λa H Q=>t a H λv b=>r v b Q
theorem ES(w:d0 X (.builtin c) r)(l:Gl X x)(m:X.g x=none)(j:bootBuiltins x=some (.builtin c))(y:PA X (e::a) t)(k:autoParam (x≠"__name__") bc)(L:autoParam ((x==("__debug__":Str))=false) bc)(o:autoParam (starEach (e::a) X.env=(false,eval e X.env)::starEach a X.env) bd)(n:autoParam ((backTo b<|starEach a X.env).any (·.1)=false) bd):PE X (.Call (.Name x p) (e::a) [] b) (jO r t):=by
 intro B s d H Q I h;exact SB<|vi I l m j (PyProof.Rows.callWith_builtin1 (aI (y b B s d H _ I h) λu f ⟨v,A,z,i,q⟩=>w B f d A v u Q z i q) o n) k L
theorem L7(o:d0 X (.type T) r)(k:Gl X x)(m:X.g x=none)(i:bootBuiltins x=some (.type T))(w:PA X (e::a) t)(j:autoParam (x≠"__name__") bc)(L:autoParam ((x==("__debug__":Str))=false) bc)(l:autoParam (starEach (e::a) X.env=(false,eval e X.env)::starEach a X.env) bd)(n:autoParam ((backTo b<|starEach a X.env).any (·.1)=false) bd):PE X (.Call (.Name x p) (e::a) [] b) (jO r t):=by
 intro B s c H Q I h;exact SB<|vi I k m i (Sc (aI (w b B s c H _ I h) λu d ⟨v,z,y,f,q⟩=>o B d c z v u Q y f q) l n) j L
end
end
namespace HT
open PySem PyProof.Rows
section
variable{a:BT}{w:A9}{A:Db}{E:ce}{s:AC}
theorem Zi{v c:ge}{Q:ce}(q:IsTup s.heap t v.toArray)(y:IsTup s.heap b c.toArray)(m:v≠ [])(C:c=[]->Q (.ref t) s)(B:c≠ []->Q (.ref s.heap.objs.size) {s with heap:=s.heap.push {cls:=.type "tuple",data:=.seq (v++c).toArray}})(z:v.length+c.length<=sizeLine):wpAny (model a w) A (binaryOp .Add (.ref t)<|.ref b) Q E s:=by
 obtain⟨⟨j,p,d,l⟩,o,u,n,r⟩:=id q;obtain⟨⟨G,L,i,x⟩,g,D,k,f⟩:=id y;subst u r D f;have e:v.toArray++c.toArray=(v++c).toArray:=by simp
 by_cases h:c=[];exact concat_meets ⟨_,o,O⟩ ⟨_,g,O⟩ noFill_tuple_add seq_tuple_add PySem.F.slot_tuple_add PySem.F.entry_tuple_add (PySem.F.args_tuple_add_2 _ _)
  (tuple_addW1 t b v.toArray c.toArray n k p L l x (by simpa using m) (by simp[h])) ⟨o,g,C h⟩
 refine concat_meets ⟨_,o,O⟩ ⟨_,g,O⟩ noFill_tuple_add seq_tuple_add PySem.F.slot_tuple_add PySem.F.entry_tuple_add (PySem.F.args_tuple_add_2 _ _)
  (tuple_addW2 t b v.toArray c.toArray n k p L l x (by simpa using m) (by simpa using h) (by exact z)) ⟨o,g,?_⟩
 rw[e];exact B h
def bh(n d:Nat):mB->Nat
 |none=>d
 |some v=>if v<0 then (v+(n:Int)).toNat else min v.toNat n
theorem Zj(n d:Nat):bh n d none=d:=O
theorem nQ(n d k:Nat):bh n d (some (k:Int))=min k n:=O
theorem ET(n d:Nat)(a:d<=n)(o:mB):bh n d o<=n:=by
 cases o with
 |none=>exact a
 |some v=>
  show(if v<0 then (v+(n:Int)).toNat else min v.toNat n)<=n;by_cases h:v<0;lia;rw[Fk h];exact Nat.min_le_right _ _
theorem L9(v:Int)(n d:Nat):(if v<0 then max (v+(n:Int)) 0 else min v (n:Int))=((bh n d (some v):Nat):Int):=by
 show(if v<0 then max (v+(n:Int)) 0 else min v (n:Int))=(((if v<0 then (v+(n:Int)).toNat else min v.toNat n):Nat):Int);by_cases h:v<0;lia;lia
theorem aaS(l h:mB)(n:Nat):Builtin.Slice.sliceAdjust l h 1 (n:Int)=(((bh n 0 l:Nat):Int),((bh n n h:Nat):Int)):=by
 refine Prod.ext ?_ ?_;cases l with
 |none=>rfl
 |some v=>exact L9 v n 0
 cases h with
 |none=>rfl
 |some v=>exact L9 v n n
theorem aoH(i j:Nat):Builtin.Slice.slicePlaces (i:Int) (j:Int) 1=j - i:=by
 unfold Builtin.Slice.slicePlaces;split<;>lia
theorem L_{o:mB}{Q:mB->AC->Prop}(p:IsPart v o)(h:Q o s):wpAny (model a w) A (Builtin.Slice.slicePartIndex v) Q E s:=by
 cases p with
 |none=>exact slicePart_none h
 |int i t=>exact slicePart_int h
theorem aoN{c v:AT}{l i:mB}{Q:Int×Int×Nat->AC->Prop}(f:s.heap.IsSliceOf d c v .none)(e:IsPart c l)(p:IsPart v i)(h:Q (((bh n 0 l:Nat):Int),1,bh n n i - bh n 0 l) s):wpAny (model a w) A (Builtin.Slice.sliceApplied (.ref d)<|pure (n:Int)) Q E s:=by
 obtain⟨o,x,M,b⟩:=id f;refine FI<|FI<|wpAny_field x b O<|FI<|wpAny_field x b O<|FI<|wpAny_field x b O<|Go (FI<|slicePart_none (FI<|L_ e<|FI<|L_ p<|FI<|Go ?_));show wpAny _ _ (match Builtin.Slice.sliceAdjust l i 1 (n:Int) with|(l,i)=>pure (l,(1:Int),Builtin.Slice.slicePlaces l i 1)) _ _ s;rw[aaS l i n];show wpAny _ _ (pure (((bh n 0 l:Nat):Int),(1:Int),Builtin.Slice.slicePlaces ((bh n 0 l:Nat):Int) ((bh n n i:Nat):Int) 1)) _ _ s;rw[aoH];exact Go h
theorem anX(s:v0)(i k:Nat):((List.range k).filterMap fun(m:Nat)=>s[((i:Int)+(m:Int)*1).toNat]?).toArray=((s.toList.drop i).take k).toArray:=by
 have e:(fun(m:Nat)=>s[((i:Int)+(m:Int)*1).toNat]?)=λm=>s[i+m]?:=by
  funext m;have:((i:Int)+(m:Int)*1).toNat=i+m:=by lia
  rw[this]
 rw[e];have:=pick_run s i k;rw[List.filterMap_map] at this;have a:((λx=>s[x]?)∘λx=>i+x)=λm=>s[i+m]?:=O;rw[a] at this;rw[this]
theorem Zo{i:v0}{e v:AT}{l b:mB}{Q:ce}(c:IsTup s.heap t i)(g:s.heap.IsSliceOf f e v .none)(j:IsPart e l)(p:IsPart v b)(k:¬(bh i.size 0 l=0/\bh i.size i.size b=i.size))(h:Q (.ref s.heap.objs.size) {s with heap:=s.heap.push {cls:=.type "tuple",data:=.seq ((i.toList.drop<|bh i.size 0 l).take<|bh i.size i.size b - bh i.size 0 l).toArray}})(z:i.size<=sizeLine):wpAny (model a w) A (getItem (.ref t)<|.ref f) Q E s:=by
 have d:=by
  show((i.toList.drop<|bh i.size 0 l).take<|bh i.size i.size b - bh i.size 0 l).toArray.size<=sizeLine;rw[KW,Y7,Y0,zbX];omega
 obtain⟨o,x,M,u⟩:=id g;have Z:s.TypeIs (.ref f) "slice":=⟨o,x,M⟩;unfold getItem
 try with_reducible refine KF ?_
 refine FI<|wpAny_sequenceKey c.typeIs (O) ?_;refine FI (wpAny_callSpecial?_slot c.typeIs WF
  (wpAny_call_entry WF c.typeIs entry_tuple_getitem ?_ (args_tuple_getitem _ _)))
 show wpAny _ _ (Builtin.Tuple.tupleItemsOf (.ref t) >>=_) _ _ s;refine FI<|tupleItemsOf_ c (FI<|wpAny_typeOf Z (FI<|aoN g j p ?_));have U:¬((((bh i.size 0 l:Nat):Int)==0 && (1:Int)==1 && (bh i.size i.size b - bh i.size 0 l)==i.size)=true):=by
  intro q;exact k ⟨ba,ba⟩
 show wpAny _ _ (if (((bh i.size 0 l:Nat):Int)==0 && (1:Int)==1 && (bh i.size i.size b - bh i.size 0 l)==i.size)=true then _ else _) _ _ s;rw[Fk U,anX]
 first
  |exact FI (PP (Go ⟨_,O,Go h⟩) d)
  |exact FI (PP (FI<|Go<|Go ⟨_,O,Go h⟩) d)
  |exact FI (FI<|PP (Go<|Go ⟨_,O,Go h⟩) d)
  |exact FI (FI<|PP (Go ⟨_,O,Go h⟩) d)
end
end HT
section
open PyProof.Rows
abbrev TO:=St->Hp->(mB->Hp->Prop)->Prop
def PO(X:Cx)(e:Option Expr)(t:TO):Prop:=
 ∀(B:cr)(s:AC)(b:St)(H:Hp)(Q:mB->Hp->Prop),d4 X B b H s->t b H Q->
  wpAny (model X.prog X.w) X.A (evalPart e X.env) (λu d=>∃o c,d4 X B b c d/\IsPart u o/\Q o c) X.a s
def Mb:TO:=λ_ H Q=>Q none H
def A5(t:TE):TO:=λa H Q=>t a H λx b=>∃i,x=.i i/\Q (some i) b
theorem DA:∀{u:ge},Xz (s.map V.i) u->IntsAre u s:=by
 induction s with
 |nil=>intro u r;cases r;exact .nil
 |cons n s h=>
  intro u r;cases r with
  |cons b a=>
   obtain⟨t,e⟩:=b;subst e;exact .cons n t<|h a
section
variable{X:Cx}{e:Expr}{f:TE}{c d:Option Expr}{g j:TO}{pos k:Pos}
theorem amI:PO X none Mb:=by
 intro B s a H Q I h;exact Go ⟨none,H,I,.none,h⟩
theorem anI(h:PE X e f):PO X (some e) (A5 f):=by
 intro B s a H Q I w;refine aI (h B s a H _ I w) λu g ⟨x,d,c,r,b⟩=>?_;obtain⟨i,rfl,q⟩:=b;obtain⟨t,rfl⟩:=r;exact p4 (some i) d c (.int i t) q
def A6(X:Cx)(r:V->mB->mB->Hp->VK->Prop):Prop:=
 ∀(B:cr)(s:AC)(b:St)(H:Hp)(x:V)(v l u:AT)(c d:mB)(e:z4)(Q:VK),d4 X B b H s->YD x v->s.heap.IsSliceOf e l u .none->IsPart l c->IsPart u d->r x c d H Q->
  ∃T i,typeLookup (.type T) "__getitem__"=pure (some<|.builtin i)/\s.TypeIs v T/\wpAny (model X.prog X.w) X.A (getItem v<|.ref e) (EP X B b Q) X.a s
def EV(r:V->mB->mB->Hp->VK->Prop)(f:TE)(g j:TO):TE:=λa H Q=>f a H λx d=>g a d λl c=>j a c λu b=>r x l u b Q
theorem aaI(G:A6 X r)(L:PE X e f)(J:PO X c g)(E:PO X d j):PE X (.Subscript e (.Slice c d none k) pos) (EV r f g j):=by
 intro B s a H Q I h;refine Subscript_<|aI (L B s a H _ I h) λv t h=>?_;obtain⟨x,V,S,w,A⟩:=h;refine wpAny_Slice<|aI (J B t a V _ S A) λn p h=>?_;obtain⟨l,U,R,D,z⟩:=h;refine aI (E B p a U _ R z) λm i h=>?_;obtain⟨u,o,P,C,y⟩:=h;refine Go ?_;have N:d4 X B a o {i with heap:=i.heap.push {cls:=.type "slice",data:=.fields #[n,m,.none]}}:=P.kept λb W q=>GT _ q;obtain⟨T,Y,zq⟩:=ZL (G B {i with heap:=i.heap.push {cls:=.type "slice",data:=.fields #[n,m,.none]}} a o x v n m l u i.heap.objs.size Q N w (Heap.IsSliceOf.new ..) D C y);obtain⟨M,F,K⟩:=Yo zq;exact tail_any F M K (O)
noncomputable def iP(x:bi)(c d:mB):bi:=(x.drop<|HT.bh x.length 0 c).take (HT.bh x.length x.length d - HT.bh x.length 0 c)
theorem Mc(x:bi)(c d:mB):(iP x c d).length<=x.length:=by
 unfold iP;rw[Y7,Y0];lia
def ajZ(K:Frag):V->mB->mB->Hp->VK->Prop:=λx c d H Q=>∃a s,x=.r a/\aF K H a s/\
 ¬(HT.bh s.length 0 c=0/\HT.bh s.length s.length d=s.length)/\∀p,H p=none->Q (.r p) (fy H p<|.t<|iP s c d)
theorem alI:A6 X (ajZ X.K):=by
 intro B s j H x v k u c d m Q I f i l p h;obtain⟨a,e,zq⟩:=ZL h;obtain⟨rfl,g,w,q⟩:=Yq zq;cases f;obtain⟨y,r,t,z⟩:=I.tuple g;have n:=KW▸r.length.symm;refine p4 ("tuple") _ PyProof.Rows.slot_tuple_getitem.lookup t.typeIs (HT.Zo t i l p ba ?_ (oT (Y8 n) z));rw[n];refine⟨.r s.heap.objs.size,_,I.laid (λb o q=>GT _ q) (Yw _) ?_,O,q _<|I.aE.fresh<|Yw _⟩;exact tL (oT (Mc e c d) z) _ ((r.drop<|HT.bh e.length 0 c).take<|HT.bh e.length e.length d - HT.bh e.length 0 c) (IsTup.new _ _)
def Md(K:Frag):R2:=λx y H Q=>∃a b c s,x=.r a/\y=.r b/\aF K H a c/\aF K H b s/\c≠ []/\c.length+s.length<=sizeLine/\
 (s=[]->Q (.r a) H)/\(s≠ []->∀p,H p=none->Q (.r p) (fy H p<|.t<|c++s))
theorem Xz.EW(r:Xz x u):u=[]↔x=[]:=by
 cases r with
 |nil=>simp
 |cons Y Y=>simp
theorem akF:bG X (binaryOp .Add) (Md X.K):=by
 intro E s o H x y v u Q I g f h;obtain⟨a,b,A,t,zq⟩:=Yv h;obtain⟨rfl,rfl,n,m,l,e,j,i⟩:=qa8 zq;cases g;cases f;obtain⟨D,d,p,Y⟩:=I.tuple n;obtain⟨C,c,k,Y⟩:=I.tuple m;refine HT.Zi p k (λz=>l<|d.EW.mp z) (λz=>⟨.r a,H,I,O,j<|c.EW.mp z⟩) (λz=>?_) (by rw[<-d.length,<-c.length];exact e);refine⟨.r s.heap.objs.size,_,I.laid (λb B q=>GT _ q) (Yw _) ?_,O,i (λw=>z<|c.EW.mpr w) _<|I.aE.fresh<|Yw _⟩;exact⟨Yy▸e,_,d.append c,IsTup.new _ _⟩
end
noncomputable def kf(n:Nat)(i:Int):wv:=if 0<=i then (if i<n then some i.toNat else none) else if -(n:Int)<=i then some (i+n).toNat else none
def e8{a:Type}(x:List a)(i:Int):Option a:=(kf x.length i).bind λj=>x[j]?
theorem Me(h:kf n i=some j):seqIndex? i n=some j/\j<n/\ -(n:Int)<=i/\i<n:=by
 unfold kf at h;by_cases b:0<=i;rw[Fr b] at h;by_cases a:i<n;rw[Fr a] at h;exact⟨by rw[seqIndex_of b a,(X8 h)],ba,ba,a⟩;rw[Fk a] at h;cases h;rw[Fk b] at h;by_cases a: -(n:Int)<=i;rw[Fr a] at h;exact⟨by rw[seqIndex_neg ba a,(X8 h)],ba,a,ba⟩;rw[Fk a] at h;cases h
theorem EX(h:e8 x i=some v):∃j,seqIndex? i x.length=some j/\x[j]?=some v/\j<x.length/\ -(x.length:Int)<=i/\i<x.length:=by
 unfold e8 at h;cases e:kf x.length i with
 |none=>rw[e] at h;cases h
 |some j=>
  rw[e] at h;obtain⟨f,d,c,b⟩:=Me e;exact⟨j,f,h,d,c,b⟩
theorem eM{xs:List a}{j:Nat}(h:xs[j]?=some v):e8 xs (j:Int)=some v:=by
 have b:=(ZT.mp h).1;have e:kf xs.length (j:Int)=some j:=by
  unfold kf;rw[Fr (Vz _),Fr ba];simp
 unfold e8;rw[e];exact h
theorem vn(x:List a)(v:a):e8 (x++[v]) (-1)=some v:=by
 have h:(x++[v]).length=x.length+1:=by simp
 have e:kf (x++[v]).length (-1)=some x.length:=by
  unfold kf;rw[Fk ba,Fr ba];congr 1;lia
 unfold e8;rw[e];simp
def Mg(b:Expr):Prop:= ∀o i,subscripted b false o i=operate [o,i] (getItem o i)
def nR(X:Cx)(r:R2):Prop:=
 ∀(e Z:Expr)(B:cr)(s:AC)(b:St)(H:Hp)(x y:V)(v u:AT)(Q:VK),d4 X B b H s->YD x v->YD y u->r x y H Q->
  subscripted Z false v u=operate [v,u] (getItem v u)->wpAny (model X.prog X.w) X.A (subscriptTail e Z v u) (EP X B b Q) X.a s
def sN(X:Cx)(i:Fa)(r:V->bi->Hp->VK->Prop):Prop:=
 ∀(B:cr)(s:AC)(b:St)(H:Hp)(x:V)(c:bi)(v:AT)(u:ge)(Q:VK),d4 X B b H s->YD x v->Xz c u->r x c H Q->
  wpAny (model X.prog X.w) X.A (call (.builtin i) (v::u)) (EP X B b Q) X.a s
section
variable{X:Cx}{a b:Expr}{d g:TE}{pos:Pos}
theorem nR.or(h:nR X r)(g:nR X f):nR X (λx y H Q=>r x y H Q\/f x y H Q):=by
 intro e Z B s a H x y v u Q I c b q d;rcases q with q|q
 exact h e Z B s a H x y v u Q I c b q d;exact g e Z B s a H x y v u Q I c b q d
theorem aaQ(k:nR X r)(m:PE X a d)(l:PE X b g)(j:Mg b):PE X (.Subscript a b pos) (gJ r d g):=by
 intro B s c H Q I h;exact Subscript_<|EJ m l I h λv u e x y o n i f q=>k a b B e c o x y v u Q n i f q (j _ _)
def Mh(K:Frag):R2:=λx y H Q=>∃p s i v,x=.r p/\y=.i i/\ax K H p s/\e8 s i=some v/\Q v H
def Mi(K:Frag):R2:=λx y H Q=>∃p s i v,x=.r p/\y=.i i/\aF K H p s/\e8 s i=some v/\Q v H
def Mj:R2:=λx y H Q=>∃z i c,x=.s z/\y=.i i/\z.length<=sizeLine/\e8 z.cps.toList i=some c/\Q (.s ⟨#[c]⟩) H
theorem apH:nR X (Mh X.K):=by
 intro e Z G s g H x y v u Q I m k h c;obtain⟨p,J,i,z,zq⟩:=Yv h;obtain⟨rfl,rfl,o,B,q⟩:=c3 zq;cases m;obtain⟨t,rfl⟩:=k;obtain⟨F,r,l,L⟩:=I.list o;obtain⟨j,a,E,N,D,C⟩:=EX B;obtain⟨w,f,n⟩:=r.get E;have A:=r.length;have M:=sH;have V:EP X G g Q w s:=⟨z,H,I,n,q⟩;by_cases d:0<=i;have b:=by
  rw[seqIndex_of d C] at a;exact X8 a
 exact item_listR l.isList d ba (by rw[b];simpa using f) V c;have b:(i+(F.toArray.size:Int)).toNat=j:=by
  rw[seqIndex_neg ba D] at a;rw[KW,<-A];exact X8 a
 exact TD l.isList.typeIs slot_list_getitem.lookup
  (wpAny_getItem_list_neg l.isList ba (by rw[KW] <;>lia) ba (by rw[b];simpa using f) ⟨O,V⟩) c
theorem akY:nR X (Mi X.K):=by
 intro e Z B s a H x y v u Q I c b h f;obtain⟨p,A,i,z,zq⟩:=Yv h;obtain⟨rfl,rfl,g,k,q⟩:=c3 zq;cases c;obtain⟨t,rfl⟩:=b;obtain⟨J,r,l,C⟩:=I.tuple g;obtain⟨j,n,m,G,F,E⟩:=EX k;obtain⟨w,o,d⟩:=r.get m;have D:=sH;have V:EP X B a Q w s:=⟨z,H,I,d,q⟩;exact TD l.typeIs slot_tuple_getitem.lookup
  (getItem_tuple l ba ba (by rw[KW,<-r.length];exact n) (by simpa using o) ⟨O,V⟩) f
theorem apN:nR X Mj:=by
 intro e Z D s p H x y v u Q I b r h d;obtain⟨z,i,c,zq⟩:=ZG h;obtain⟨rfl,rfl,A,f,q⟩:=c3 zq;obtain⟨t,rfl⟩:=b;obtain⟨w,rfl⟩:=r;obtain⟨j,zq⟩:=mD (EX f);obtain⟨a,m,C,k,g⟩:=c3 zq;have l:z.cps.toList.length=z.length:=O;rw[l] at a k g;have B:=sH;exact tail_any (P3 s z t) slot_str_getitem.lookup (getItem_str (by
  have o:decide (i< -(2 ^ 63:Int))=false:=XH ba;have n:decide (i≥2 ^ 63)=false:=XH ba;rw[o,n,A0]) (by rw[a];simpa using m) ⟨.s ⟨#[c]⟩,H,I.tok _,⟨_,O⟩,q⟩) d
theorem agT(a:ge)(n j:Nat)(u:AT):Obj.mapSeq (·.setIfInBounds j u) {cls:=.type "list",data:=.seq a.toArray n}={cls:=.type "list",data:=.seq (a.set j u).toArray n}:=by
 simp[Obj.mapSeq]
theorem d4.lst{b:St}{H:Hp}{s:AC}{p:z4}{x:bi}(I:d4 X B b H s)(h:H p=some (.l x)):
  ∃(a:ge)(n:Nat),Xz x a/\s.heap.get? p=some {cls:=.type "list",data:=.seq a.toArray n}/\x.length<=sizeLine:=by
 obtain⟨z,a,n,r,e⟩:=I.aE p _ h;exact⟨a,n,r,e,z⟩
theorem d4.ZC{c:St}{g:ge}{a:Nat}(I:d4 X B c H s)(h:H p=some (.l x))(o:s.heap.get? p=some {cls:=.type "list",data:=.seq g.toArray n})(d:f {cls:=.type "list",data:=.seq g.toArray n}={cls:=.type "list",data:=.seq i.toArray a})(r:Xz y i)(z:y.length<=sizeLine)(t:Nat):
  d4 X B c (fy H p<|.l y) {s with heap:=s.heap.update p f,toks:=t}:=by
 have e:(s.heap.update p f).get? p=some {cls:=.type "list",data:=.seq i.toArray a}:=by
  rw[TW f o (by rw[d] <;>rfl),d]
 refine I.write (by rw[h];trivial) (.inl O) (λb u j q=>(On _ _<|GE j).trans q) ⟨_,e⟩ ?_;exact⟨z,i,a,r,e⟩
def A7:V->V->V->Hp->(Hp->Prop)->Prop:=λo i v H Q=>∃p x k j,o=.r p/\i=.i k/\H p=some (.l x)/\kf x.length k=some j/\Q (fy H p<|.l<|x.set j v)
theorem Ff:Ls X A7:=by
 intro K s C H o i v E F u Q I y z x h;obtain⟨p,D,k,j,zq⟩:=Yv h;obtain⟨rfl,rfl,d,B,q⟩:=c3 zq;cases y;obtain⟨t,rfl⟩:=z;obtain⟨m,n,r,b,A⟩:=I.lst d;obtain⟨a,J,f,e⟩:=Yq (Me B);have l:=r.length;have G:=sH;have w:=
  I.ZC d b (agT m n j u) (r.set x j) (by rw[List.length_set];exact A) s.toks
 by_cases g:0<=k;have c:=by
  rw[seqIndex_of g e] at a;exact X8 a
 exact PySem.W.ki_setAt b g ba (by rw[KW,<-l];exact e) (by rw[c];exact⟨_,w,q⟩);have c:(k+(m.toArray.size:Int)).toNat=j:=by
  rw[seqIndex_neg ba f] at a;rw[KW,<-l];exact X8 a
 exact PySem.W.ki_setBack b ba (by rw[KW,<-l];exact f) ba (by rw[c];exact⟨_,w,q⟩)
theorem EY(l a:mB)(n:Nat):(sliceBounds l a none n).1=((HT.bh n 0 l:Nat):Int)/\(sliceBounds l a none n).2.1=((HT.bh n n a:Nat):Int)/\(sliceBounds l a none n).2.2=1:=by
 refine⟨?_,?_,O⟩;cases l with
 |none=>simp[sliceBounds,HT.bh]
 |some i=>
  simp only[sliceBounds,HT.bh,Option.getD_none,show(1:Int) >0 by lia,if_true];by_cases h:i<0;simp only[h,if_true] <;>lia
  simp only[h,if_false] <;>lia
 cases a with
 |none=>simp[sliceBounds,HT.bh]
 |some i=>
  simp only[sliceBounds,HT.bh,Option.getD_none,show(1:Int) >0 by lia,if_true];by_cases h:i<0;simp only[h,if_true] <;>lia
  simp only[h,if_false] <;>lia
theorem aoI(a:ge)(l h:mB):slicePick a.toArray l h none=((a.drop<|HT.bh a.length 0 l).take<|HT.bh a.length a.length h - HT.bh a.length 0 l).toArray:=by
 obtain⟨d,c,b⟩:=EY l h a.toArray.size;unfold slicePick;rw[d,c,b];simp only[sliceRange_one,pick_run,KW] <;>rfl
def ZE(K:Frag):V->mB->mB->Hp->VK->Prop:=λx o h H Q=>∃a s,x=.r a/\ax K H a s/\∀p,H p=none->Q (.r p) (fy H p<|.l<|iP s o h)
theorem abN:A6 X (ZE X.K):=by
 intro B s j H x v k u l i m Q I d g e p h;obtain⟨a,c,rfl,f,q⟩:=h;cases d;obtain⟨w,r,t,z⟩:=I.list f;have n:=r.length;refine p4 ("list") _ slot_list_getitem.lookup t.isList.typeIs (wpAny_getItem_list_slice t.isList g e p .none ba ?_ (by rw[KW] <;>lia));rw[aoI,<-n];refine⟨.r s.heap.objs.size,_,I.laid (λb o q=>GT _ q) (Yw _) ?_,O,q _<|I.aE.fresh<|Yw _⟩;exact uJ (oT (Mc c l i) z) _ ⟨0,(r.drop<|HT.bh c.length 0 l).take<|HT.bh c.length c.length i - HT.bh c.length 0 l,IN _ O⟩
def jP:V->Cl
 |.a=>true
 |.b _=>true
 |.i _=>true
 |.s _=>true
 |_=>false
noncomputable def jn:V->V->Cl
 |.a,.a=>true
 |.b a,.b b=>a==b
 |.b a,.i b=>(if a then 1 else 0)==b
 |.i a,.b b=>a==(if b then 1 else 0)
 |.i a,.i b=>a==b
 |.s a,.s b=>a==b
 |_,_=>false
theorem aiH{s:AC}(d:YD y u)(r:YD x v)(e:jP y=true)(f:jP x=true):SeqAt.EqAt A s u v (jn y x):=by
 cases y with
 |a=>
  cases d;cases x with
  |a=>cases r;exact SeqAt.EqAt.same _
  |b b=>cases r;exact SeqAt.EqAt.none_bool b
  |i b=>obtain⟨t,rfl⟩:=r;exact SeqAt.EqAt.none_int b t
  |s b=>obtain⟨t,rfl⟩:=r;exact SeqAt.EqAt.none_str b t
  |_=>cases f
 |b a=>
  cases d;cases x with
  |a=>cases r;exact SeqAt.EqAt.bool_none a
  |b b=>cases r;exact SeqAt.EqAt.bool_bool a b
  |i b=>obtain⟨t,rfl⟩:=r;exact SeqAt.EqAt.bool_int a b t
  |s b=>obtain⟨t,rfl⟩:=r;exact SeqAt.EqAt.bool_str a b t
  |_=>cases f
 |i a=>
  obtain⟨c,rfl⟩:=d;cases x with
  |a=>cases r;exact SeqAt.EqAt.int_none a c
  |b b=>cases r;exact SeqAt.EqAt.int_bool a c b
  |i b=>obtain⟨t,rfl⟩:=r;exact SeqAt.EqAt.int_int a c b t
  |s b=>obtain⟨t,rfl⟩:=r;exact SeqAt.EqAt.int_str a c b t
  |_=>cases f
 |s a=>
  obtain⟨c,rfl⟩:=d;cases x with
  |a=>cases r;exact SeqAt.EqAt.str_none a c
  |b b=>cases r;exact SeqAt.EqAt.str_bool a c b
  |i b=>obtain⟨t,rfl⟩:=r;exact SeqAt.EqAt.str_int a c b t
  |s b=>obtain⟨t,rfl⟩:=r;exact SeqAt.EqAt.str_str a c b t
  |_=>cases f
 |_=>cases e
def gL(x:V)(u:AT):Cl:=match u with
 |.none=>jn .a x
 |.bool b=>jn (.b b) x
 |.int i _=>jn (.i i) x
 |.str z _=>jn (.s z) x
 |_=>false
theorem EZ(r:YD y u)(f:jP y=true):gL x u=jn y x:=by
 cases y with
 |a=>cases r;rfl
 |b b=>cases r;rfl
 |i i=>obtain⟨t,rfl⟩:=r;rfl
 |s z=>obtain⟨t,rfl⟩:=r;rfl
 |_=>cases f
theorem A8:∀{s:bi}{u:ge},Xz s u->s.all jP=true->u.any (gL x)=s.any λy=>jn y x:=by
 intro Y Y h;induction h with
 |nil=>exact λY=>O
 |cons r Y i=>
  intro f;rw[o8,ZW] at f;rw[XT,XT,EZ r f.1,i f.2]
theorem xQ{s:AC}(e:YD x v)(g:jP x=true):∀{b:bi}{c:ge},Xz b c->b.all jP=true->∀u∈c,SeqAt.EqAt A s u v (gL x u):=by
 intro Y Y h;induction h with
 |nil=>intro _ _ h;cases h
 |cons r Y i=>
  intro f d a;rw[o8,ZW] at f;rcases Z5.mp a with rfl|a
  rw[EZ r f.1];exact aiH r e f.1 g;exact i f.2 d a
def iR(x:V)(s:bi):Cl:=s.any λy=>jn y x
def E1(K:Frag)(n:Cl):R2:=λx y H Q=>∃p s,y=.r p/\(ax K H p s\/aF K H p s)/\jP x=true/\s.all jP=true/\Q (.b (if n then !iR x s else iR x s)) H
theorem aoE:bG X (compareOp .In) (E1 X.K false):=by
 intro B s j H x y v u Q I e i h;obtain⟨p,k,zq⟩:=ZL h;obtain⟨rfl,a,g,f,q⟩:=c3 zq;cases i;rcases a with a|a
 obtain⟨c,r,l,z⟩:=I.list a;refine SeqAt.in_listAt (gL x) l.isList (λw d=>xQ e g r f w (by simpa using d)) ⟨.b _,H,I,O,?_⟩;rw[show c.toArray.any (gL x)=c.any (gL x) by simp,A8 r f];exact q;obtain⟨c,r,l,z⟩:=I.tuple a;refine SeqAt.in_tupleAt (gL x) l (λw d=>xQ e g r f w (by simpa using d)) ⟨.b _,H,I,O,?_⟩;rw[show c.toArray.any (gL x)=c.any (gL x) by simp,A8 r f];exact q
theorem amH:bG X (compareOp .NotIn) (E1 X.K true):=by
 intro B s j H x y v u Q I e i h;obtain⟨p,k,zq⟩:=ZL h;obtain⟨rfl,a,g,f,q⟩:=c3 zq;cases i;rcases a with a|a
 obtain⟨c,r,l,z⟩:=I.list a;refine SeqAt.notIn_listAt (gL x) l.isList (λw d=>xQ e g r f w (by simpa using d)) ⟨.b _,H,I,O,?_⟩;rw[show c.toArray.any (gL x)=c.any (gL x) by simp,A8 r f];exact q;obtain⟨c,r,l,z⟩:=I.tuple a;refine SeqAt.notIn_tupleAt (gL x) l (λw d=>xQ e g r f w (by simpa using d)) ⟨.b _,H,I,O,?_⟩;rw[show c.toArray.any (gL x)=c.any (gL x) by simp,A8 r f];exact q
theorem d0.or(h:d0 X f r)(d:d0 X f c):d0 X f (λx H Q=>r x H Q\/c x H Q):=by
 intro B s a H x u Q I b q;rcases q with q|q
 exact h B s a H x u Q I b q;exact d B s a H x u Q I b q
theorem ZJ:d0 X (.type "list") (λx H Q=>∃p y,x=[.r p]/\(ax X.K H p y\/aF X.K H p y)/\∀l,H l=none->Q (.r l) (fy H l<|.l y)):=by
 intro D s B H x E Q I r h;obtain⟨p,y,rfl,g,q⟩:=h;obtain⟨u,rfl,C⟩:=XW r;cases C;have V:∀(c:ge),Xz y c->y.length<=sizeLine->∀(a:Do)(f:Nat),(∀b A,s.heap.get? b=some A->a.get? b=some A)->
   a.get? s.heap.objs.size=some {cls:=.type "list",dict:=none,data:=.seq c.toArray f,slots:= #[]}->EP X D B Q (.ref s.heap.objs.size) {s with heap:=a}:=λc d z a f k e=>
  ⟨.r s.heap.objs.size,_,I.laid k (Yw _) (show cY X.prog X.w _ a _ (.l y) from⟨z,c,f,d,e⟩),O,q _<|I.aE.fresh<|Yw _⟩
 rcases g with g|g
 obtain⟨c,d,j,z⟩:=I.list g;have i:=d.length;obtain⟨o,m,v,n,t⟩:=j.isList;exact call_list_seq p (.inl O) m v t (λa f k e=>V c d z a f k e) (by simp <;>lia);obtain⟨c,d,j,z⟩:=I.tuple g;have i:=d.length;obtain⟨o,m,v,n,t⟩:=j;exact call_list_seq p (.inr O) m v t (λa f k e=>V c d z a f k e) (by simp <;>lia)
def sO(K:Frag)(T:Fa)(x:V)(H:Hp):Prop:=match x with
 |.s _=>T="str"
 |.i _=>T="int"
 |.r p=>(T="list"/\∃b,ax K H p b)\/(T="tuple"/\∃o,K.lookup p=some o/\o.cls=.type "tuple"/\o.dict=none)\/
   (T="dict"/\((∃a,H p=some (.d a))\/∃a,H p=some (.T a)))\/(T="set"/\∃S n,H p=some (.s S n))
 |_=>False
theorem Ml{j:St}(I:d4 X B j H s)(r:YD x v)(y:sO X.K T x H):
  s.TypeIs v T/\∀a,v=.ref a->∃g,s.heap.get? a=some g/\g.dict=none:=by
 cases x with
 |s z=>
  obtain⟨t,rfl⟩:=r;cases (show T="str" from y);exact⟨P3 s z t,λY e=>nomatch e⟩
 |i i=>
  obtain⟨t,rfl⟩:=r;cases (show T="int" from y);exact⟨typeIs_int s i t,λY e=>nomatch e⟩
 |r p=>
  cases r;rcases y with⟨rfl,u,q⟩|⟨rfl,o,h,k,d⟩|⟨rfl,h⟩|⟨rfl,S,n,h⟩
  obtain⟨w,zq⟩:=mD (I.list q);obtain⟨Y,l,Y⟩:=Yo zq;refine⟨l.isList.typeIs,λa e=>?_⟩;cases e;obtain⟨o,n,e,c,d,Y⟩:=l;exact pQ o e d;refine⟨pQ o (I.dU p o h) k,λa e=>?_⟩;cases e;exact pQ o (I.dU _ o h) d;have z:∃o,s.heap.get? p=some o/\o.ExactDict:=by
   rcases h with⟨m,h⟩|⟨m,h⟩
   obtain⟨Y,Y,Y,Y,o,Y,Y,e,b,Y⟩:=I.aE p _ h;exact pQ o e b;obtain⟨Y,Y,Y,Y,o,Y,Y,e,b,Y⟩:=I.aE p _ h;exact pQ o e b
  obtain⟨o,e,b⟩:=z;refine⟨pQ o e b.1,λa f=>?_⟩;cases f;exact pQ o e b.2.1;obtain⟨o,Y,Y,Y,zq⟩:=Yv (I.aE p _ h);obtain⟨e,b,Y⟩:=Yo zq;refine⟨pQ o e b.1,λa f=>?_⟩;cases f;exact pQ o e b.2.1
 |_=>exact False.elim y
def amQ(K:Frag)(T:Fa)(r:V->bi->Hp->VK->Prop)(t:TE):TE:=λb H Q=>t b H λx a=>sO K T x a/\r x [] a Q
def abQ(K:Frag)(T:Fa)(r:V->bi->Hp->VK->Prop)(o:TE)(t:TA):TE:=λa H Q=>o a H λx b=>sO K T x b/\t a b λs c=>r x s c Q
variable{o e:Expr}{f:le}{k:TE}{t:TA}{j:Str}{l c:Pos}{T i:Fa}{r:V->bi->Hp->VK->Prop}
theorem anR(p:PlainAttrs T)(t:Slot T j i)(e:typeOf (.builtin i)=pure (.type "method_descriptor"))(m:sN X i r)(g:PE X o k)(z:autoParam (attributeBase o j X.env (eval o X.env)=eval o X.env) bd)(E:autoParam ((l.endLine==c.line)=true) bd):PE X (.Call (.Attribute o j l) [] [] c) (amQ X.K T r k):=by
 intro B s a H Q I h;refine wpAny_Call_method0_late z E<|aI (g B s a H _ I h) λv f h=>?_;obtain⟨x,w,d,b,y,q⟩:=h;obtain⟨u,n⟩:=Ml d b y;exact q8 T i p t e u ⟨n,Uf O<|PySem.evalArgs_none<|m B f a w x [] v [] Q d b .nil q⟩
theorem ZN(D:PlainAttrs T)(a:Slot T j i)(n:typeOf (.builtin i)=pure (.type "method_descriptor"))(G:sN X i r)(F:PE X o k)(J:PA X (e::f) t)(V:autoParam (attributeBase o j X.env (eval o X.env)=eval o X.env) bd)(N:autoParam (((backTo c (starEach (e::f) X.env)).all (λx=> !x.1) && (backToKw c (keywordEach [] X.env)).all (λx=>x.1.isSome)
   && decide ((e::f).length+([]:List Keyword).length+(if ([]:List Keyword).isEmpty then 0 else 1) <30))=true) bd)(U:autoParam ((l.endLine==c.line)=true) bd)(E:autoParam (starEach (e::f) X.env=(false,eval e X.env)::starEach f X.env) bd)(Z:autoParam ((backTo c<|starEach f X.env).any (·.1)=false) bd):
  PE X (.Call (.Attribute o j l) (e::f) [] c) (abQ X.K T r k t):=by
 intro B s b H Q I h;refine wpAny_Call_method_late V N U O<|aI (F B s b H _ I h) λv q h=>?_;obtain⟨x,S,g,d,y,C⟩:=h;obtain⟨M,L⟩:=Ml g d y;refine q8 T i D a n M ⟨L,?_⟩;have A:=J c B q b S _ g C;rw[E] at A⊢;refine Uf (by show(false ||(backTo c<|starEach f X.env).any (·.1))=false;rw[Z] <;>rfl)<|UF ?_;exact aI A (by rintro u p ⟨m,R,P,w,z⟩;exact G B p b R x m v u Q P d w z)
end
theorem Xz.one:∀{x:V}{s:ge},Xz [x] s->∃u,s=[u]/\YD x u:=by
 intro Y Y h;cases h with
 |cons r k=>cases k;exact⟨_,O,r⟩
theorem Xz.zero:∀{u:ge},Xz [] u->u=[]
 |_,.nil=>O
theorem Xz.dropLast(h:Xz x u):Xz x.dropLast u.dropLast:=by
 induction h with
 |nil=>exact .nil
 |cons r t i=>
  cases t with
  |nil=>exact .nil
  |cons q a=>exact .cons r i
theorem Xz.rep(h:Xz x u):∀k:Nat,Xz (List.replicate k x).flatten (List.replicate k u).flatten
 | 0=>.nil
 |k+1=>by
  exact Xz.append h<|Xz.rep h k
theorem alK{c:Type}(l:List c):l.eraseIdx (l.length - 1)=l.dropLast:=by
 induction l with
 |nil=>rfl
 |cons a r i=>
  cases r with
  |nil=>rfl
  |cons b r=>
   have e:(a::b::r).length - 1=((b::r).length - 1)+1:=by
    have d:(a::b::r).length=r.length+2:=O;have h:(b::r).length=r.length+1:=O;lia
   rw[e,List.eraseIdx_cons_succ,i]
   all_goals rfl
theorem E4(a:ge):∀(k:Nat)(X:ge),
  List.foldl (λb x=>b++x) X.toArray (List.replicate k a.toArray)=(X++(List.replicate k a).flatten).toArray
 | 0,X=>by simp
 |k+1,X=>by
  have e:X.toArray++a.toArray=(X++a).toArray:=by simp
  have c:(X++a)++(List.replicate k a).flatten=X++(List.replicate (k+1) a).flatten:=by
   rw[zX,Dr,X7]
  rw[<-c,<-E4 a k (X++a),<-e,zX,List.foldl_cons]
section
variable{X:Cx}{a:cr}{c:St}{H:Hp}{s:AC}{l b:z4}{g d zs:bi}
theorem d4.A_{r:ge}{f:v0->v0}(I:d4 X a c H s)(m:H l=some (.l g))(e:s.heap.get? l=some {cls:=.type "list",data:=.seq r.toArray n})(j:f r.toArray=i.toArray)(v:Xz d i)(h:d.length<=sizeLine):
  d4 X a c (fy H l<|.l d) {s with heap:=s.heap.update l (.mapSeq f),toks:=t}:=by
 have q:=PySem.IsL.update e f;rw[j] at q;exact I.write (m▸trivial) (.inl O) (λo u k b=>(On s.heap (.mapSeq f)<|GE k).trans b) ⟨_,q⟩ (⟨h,i,_,v,q⟩)
theorem d4.Mm(I:d4 X a c H s)(v:Xz d r)(h:d.length<=sizeLine):
  d4 X a c (fy H s.heap.objs.size<|.l d) {s with heap:=s.heap.push {cls:=.type "list",data:=.seq r.toArray},toks:=t}:=
 I.laid (λY Y q=>GT _ q) (Yw _) ⟨h,r,0,v,IN _ O⟩
theorem d4.fresh(I:d4 X a c H s):H s.heap.objs.size=none:=I.aE.fresh (Yw _)
theorem d4.qD(I:d4 X a c H s)(h:H l=some (.l g)):g.length<=sizeLine/\∃(b:ge)(n:Nat),Xz g b/\g.length=b.length/\s.heap.get? l=some {cls:=.type "list",data:=.seq b.toArray n}:=by
 obtain⟨z,b,n,r,e⟩:=I.aE l _ h;exact⟨z,b,n,r,r.length,e⟩
theorem Mn(h:n<=sizeLine):Builtin.List.listTooLong n=false:=by
 exact XH (wR h)
end
section
variable{X:Cx}
def agS:V->bi->Hp->VK->Prop:=λx v H Q=>∃l s y,x=.r l/\v=[y]/\H l=some (.l s)/\s.length<sizeLine/\Q .a (fy H l<|.l<|s++[y])
theorem aaO:sN X "list.append" agS:=by
 intro B s i H x k v m Q I c d h;obtain⟨l,j,y,rfl,rfl,b,o,q⟩:=h;cases c;obtain⟨u,rfl,f⟩:=d.one;obtain⟨z,g,n,r,p,e⟩:=I.qD b;refine KK UV ⟨_,e,O⟩ F.entry_list_append (F.args_list_append_2 _ _) (PySem.list_append l g.toArray n u (by rw[KW];lia)) ⟨e,?_⟩;refine⟨.a,_,I.A_ b e am (r.append<|.cons f .nil) ?_,O,q⟩;rw[Yy];exact ZV o
def agZ:V->bi->Hp->VK->Prop:=λx v H Q=>∃l b s z,x=.r l/\v=[.r b]/\H l=some (.l s)/\H b=some (.l z)/\s.length+z.length<=sizeLine/\Q .a (fy H l<|.l<|s++z)
theorem alU:sN X "list.extend" agZ:=by
 intro K s t H x C v D Q I g j h;obtain⟨l,b,A,w,zq⟩:=Yv h;obtain⟨rfl,rfl,f,B,G,q⟩:=Gi zq;cases g;obtain⟨u,rfl,k⟩:=j.one;cases k;obtain⟨z,c,n,r,J,e⟩:=I.qD f;obtain⟨y,i,o,m,R,p⟩:=I.qD B;have d:c.toArray.size+i.toArray.size<=sizeLine:=by rw[KW,KW];lia
 have E:¬(!c.toArray.isEmpty && Builtin.List.listTooLong (c.toArray.size+i.toArray.size))=true:=by
  rw[Mn d,Bool.and_false];exact YH
 refine KK F.slot_list_extend ⟨_,e,O⟩ F.entry_list_extend (F.args_list_extend_2 _ _)
  (AutoSeq1.list_extend_list_list_0 l c.toArray n b i.toArray o E (oT (lJ _ _) d) (YS d)) ⟨e,p,?_⟩
 refine⟨.a,_,I.A_ f e am (r.append m) ?_,O,q⟩;rw[Yy];exact G
def amY:V->bi->Hp->VK->Prop:=λx v H Q=>∃l s y,x=.r l/\v=[]/\H l=some (.l s)/\s[s.length - 1]?=some y/\Q y (fy H l<|.l s.dropLast)
theorem acL:sN X "list.pop" amY:=by
 intro B s m H x p v t Q I c d h;obtain⟨l,o,y,zq⟩:=ZG h;obtain⟨rfl,rfl,b,g,q⟩:=c3 zq;cases c;have k:=d.zero;subst k;obtain⟨z,a,n,r,j,e⟩:=I.qD b;obtain⟨u,i,f⟩:=r.get g;have E:=by
  show a.toArray[a.length - 1]?=some u;rw[<-Array.getElem?_toList,<-j];exact i
 refine KK F.slot_list_pop ⟨_,e,O⟩ F.entry_list_pop (F.args_list_pop_1 _) (MeetsSeq.list_pop_last l a.toArray n u E (by rw[KW];lia)) ⟨e,?_⟩;refine⟨y,_,I.A_ b e ?_ r.dropLast ?_,f,q⟩;rw[KW,List.eraseIdxIfInBounds_toArray,alK];rw[vV];exact oT (Zl _ _) z
def akL:V->bi->Hp->VK->Prop:=λx v H Q=>∃l s,x=.r l/\v=[]/\H l=some (.l s)/\Q .a (fy H l<|.l [])
theorem ZY:sN X "list.clear" akL:=by
 intro B s g H x j v u Q I c d h;obtain⟨l,i,rfl,rfl,b,q⟩:=h;cases c;have E:=d.zero;subst E;obtain⟨z,f,n,r,k,e⟩:=I.qD b;refine KK F.slot_list_clear ⟨_,e,O⟩ F.entry_list_clear (F.args_list_clear_1 _) (AutoSeq1.list_clear_list_0 l f.toArray n (by rw[KW];lia)) ⟨e,?_⟩;exact⟨.a,_,I.A_ b e O .nil<|nE _,O,q⟩
def Mo:R2:=λx y H Q=>∃l b s z,x=.r l/\y=.r b/\H l=some (.l s)/\H b=some (.l z)/\s.length+z.length<=sizeLine/\∀p,H p=none->Q (.r p) (fy H p<|.l<|s++z)
theorem amN:bG X (binaryOp .Add) Mo:=by
 intro D s m H x y v u Q I d c h;obtain⟨l,b,t,o,zq⟩:=Yv h;obtain⟨rfl,rfl,g,B,A,q⟩:=Gi zq;cases d;cases c;obtain⟨z,a,n,r,C,e⟩:=I.qD g;obtain⟨p,i,w,f,R,k⟩:=I.qD B;refine PySem.P.add_list e k ?_ (by rw[KW,KW];lia);have j:a.toArray++i.toArray=(a++i).toArray:=by simp
 rw[j];exact⟨.r _,_,I.Mm (r.append f) (Yy▸A),O,q _ I.fresh⟩
def Mp:R2:=λx y H Q=>∃l k s,x=.r l/\y=.i k/\H l=some (.l s)/\ -(2 ^ 63)<=k/\k<2 ^ 63/\s.length*k.toNat<=sizeLine/\
 ∀p,H p=none->Q (.r p) (fy H p<|.l (List.replicate k.toNat s).flatten)
theorem alA{a:Type}(x:List a)(k:Nat):(List.replicate k x).flatten.length=k*x.length:=by simp
theorem aoT:bG X (binaryOp .Mult) Mp:=by
 intro M s J H x y v u Q I o j h;obtain⟨l,k,K,zq⟩:=ZG h;obtain⟨rfl,rfl,w,B,A,d,q⟩:=AY zq;cases o;obtain⟨t,rfl⟩:=j;obtain⟨z,b,n,r,p,e⟩:=I.qD w;have c:b.toArray.size*k.toNat<=sizeLine:=by rw[KW,<-p];exact d
 have E:=by
  have:(sizeLine:Nat)<= (2 ^ 63 - 1) / 8:=by decide
  exact wR (oT c this)
 have D:¬(!Builtin.List.listFitsIndex k)=true:=by
  rw[fitsIndex_both B A];exact YH
 have G:¬Builtin.List.listTooLong (b.toArray.size*k.toNat)=true:=by
  rw[Mn c];exact YH
 have Z:List.foldl (λg f=>g++f) #[] (List.replicate (if b.toArray.isEmpty=true then 0 else k.toNat) b.toArray)=(List.replicate k.toNat b).flatten.toArray:=by
  have C:=λm=>by
   have:=E4 b m [];rw[Cs] at this;exact this
  rw[C];cases b with
  |nil=>simp
  |cons a L=>rw[Fk am]
 refine wpAny_binaryOp_repeat_ref (O) ⟨_,e,O⟩ (λi=>typeIs_int i k t) noFill_list_mul F.fills_int_mul F.slot_int_rmul repeat_list F.slot_int_index.lookup
  (KK F.slot_int_rmul (typeIs_int s k t) F.entry_int_rmul (F.args_int_rmul_2 _ _) (int___rmul___int_list k t l b.toArray n)
   ⟨e,O,⟨_,e,O⟩,KK F.slot_list_mul ⟨_,e,O⟩ F.entry_list_mul (F.args_list_mul_2 _ _) (AutoListH.list___mul___list_int_3 l b.toArray n k t D E G) ⟨e,?_⟩⟩)
 rw[Z];exact⟨.r _,_,I.Mm (r.rep k.toNat) (by rw[alA,Nat.mul_comm];exact d),O,q _ I.fresh⟩
end
end
namespace Mq
open PySem PySem.W PySem.Calls PyProof.Rows
theorem aiZ{h:Do}:∀(s:ww)(v:ge),WellAll P h v (s.map WData.int)->IntsAre v s:=by
 intro s;induction s with
 |nil=>
  intro v w;cases w;exact .nil
 |cons n s i=>
  intro v w;cases w with
  |cons a b=>
   cases a;exact .cons _ _<|i _ b
theorem aaW{l:OpenLaw}(k:l.most=some n){h:Do}{v:ge}(o:l.row.toRowW.claim.pre s=true)(B:WellAll P h v s):
  ∃a g b,v=[Value.ref a]/\s=[WData.list<|b.map WData.int]/\h.get? a=some {cls:=.type "list",data:=.seq g.toArray}/\IntsAre g b/\b.length<=n:=by
 obtain⟨d,r,rfl,t,p⟩:=hasAllW_cons ((pre_splitW o).1);obtain rfl:=hasAllW_nil p;obtain⟨x,rfl,m⟩:=hasW_list t;obtain⟨b,rfl⟩:=items_int m;have c:b.length<=n:=by
  have e:=by
   have e:=(holds_andW ((pre_splitW o).2)).1;rw[k] at e;exact e
  have f:=condW_of e (w_not<|w_lt w_lit<|w_len_list<|w_arg O);refine Nat.le_of_not_lt λq=>?_
  first
   | (rw[Y4 q'] at f;cases (O) f)
   | (simp at f;omega)
 cases B with
 |cons i w=>
  cases w;cases i with
  |list j E=>exact sA _ _ b O O j (aiZ b _ E) c
theorem amO(l:OpenLaw)(a:List WData):l.row.toRowW.claim.post a (.bool true) a=true:=
 postW_of
  (show WShape.has [] (.bool true) .bool=true by first|rfl|decide|simp)
  (show(WTm.eq .res<|.lit<|.bool true).value [] {args:=a,res:=some (.bool true),after:=a}=some (.bool<|true==true) from w_eq_bool (w_res O) w_lit) O
theorem Z8{l:OpenLaw}{q:BT}{e:bn}{X:(db)->Do->Prop}{P:A9->Do->Prop}(C:l.most=some n)(S:d.params.defaults=[])(g:∀(w:A9)(s R:AC)(m t:db)(c:z4)(o:Obj)(p k Z:AT)(a:z4)(v:ge)(j:ww),
   Ground q e [] X w s m t R.heap->P w R.heap->
   R.heap.get? c=some o->o.data=.func (docDef d.name d.params d.body d.scope p k Z)->R.heap.CodeRec k d.name->m d.name=some (.ref c)->
   R.heap.get? a=some {cls:=.type "list",data:=.seq v.toArray}->IntsAre v j->j.length<=n->R.gens= #[]->
   codeAny (model l.prog w) callerA (.call (.ref c) ⟨[.ref a],[]⟩) (λr i=>r=.ok (.ret (.bool true))/\OldK R.heap i.heap/\i.os=R.os/\AllBare i.gens) R):
  WalkO q e X P l.row.toRowW d [] (λf v=>PySem.call f v):=by
 intro w s R m t G Y c o p k Z N V B J I D y H x u as U T z Ba F;obtain rfl:N=.none:=Dflts.none D S;obtain rfl:V=.none:=Dflts.noKw D;obtain⟨a,v,j,zq⟩:=ZG (aaW C U Ba);obtain⟨rfl,rfl,W,h,b⟩:=c3 zq;refine enter_call<|Ps (g w s R m t c o p k Z a v j G Y B (fd_plain J) I y W h b H) λr i A=>?_;obtain⟨rfl,M,L,K⟩:=A;exact⟨.inl (sA (.bool true) (.bool true) [] O (λQ=>O) (.bool true) (amO l _) (λQ=> ⟨List.Pairwise.nil,λQ E=>(nomatch E)⟩)),M,L,K⟩
section
variable{prog:BT}{w:A9}{A:Db}{E:ce}{s:AC}{K:Frag}
end
end Mq
section
open PyProof.Rows
theorem aoU:∀{v:ge}{s:ww},IntsAre v s->Xz (s.map V.i) v:=by
 intro Y Y h;induction h with
 |nil=>exact .nil
 |cons n t Y i=>exact .cons ⟨t,O⟩ i
def E8(H:Hp):Prop:= ∀b,H b=none\/∃o x,H b=some (.c o<|.l x)
theorem aoC{K:Frag}{A J:db}{t:ge}{y:ww}(KX:K.In R.heap)(Bb:R.heap.Ns mainGlobals A)(f:R.heap.Ns builtinsNs J)(M:∀x:Str,x≠"__name__"->J x=bootBuiltins x)(U:R.heap.NoLimit)(hg:R.gens= #[])(C:R.heap.get? a=some {cls:=.type "list",data:=.seq t.toArray})(hi:IntsAre t y)(Z:y.length<=sizeLine)(hr:d5 k callerA)(F:∀j:Do,K.In j->j.Ns mainGlobals A->dH P w K A j CX k N fd [x] X)(T:∀(s:AC)(u:AT),BindsTo s fd ⟨[u],[]⟩ [(x,u)])(qC:∀H:Hp,E8 H->ax K H a (y.map .i)->X [.r a] H (λv I=>v=.b true) λI I I=>False)(E9:∀H e g,CX [] H R (λI I I=>False) e g->False):
  codeAny (model P w) callerA (.call (.ref N) ⟨[.ref a],[]⟩) (λr g=>r=.ok (.ret<|.bool true)/\OldK R.heap g.heap/\g.os=R.os/\AllBare g.gens) R:=by
 have rv:=aoU hi;have p:∀H:Hp,E8 H->ax K H a (y.map .i)->cx P w H R.heap->(∀b,H b≠none->b=a)->(H a≠none->K.lookup a=none)->
   codeAny (model P w) callerA (.call (.ref N) ⟨[.ref a],[]⟩) (λr g=>r=.ok (.ret<|.bool true)/\OldK R.heap g.heap/\g.os=R.os/\AllBare g.gens) R:=by
  intro H hO hS aE hA hK;have Y:∀{b:z4}{o:Obj},R.heap.get? b=some o->H b=none->(oO R.heap H).get? b=some o:=λe n=>adY e n;have xJ:∀{b:z4}{o:Obj}{D:Array DictEntry}{E:Nat},R.heap.get? b=some o->o.data=.dict D E->H b=none:=λ{b o D E} e d=>by
   cases q:H b with
   |none=>rfl
   |some u=>
    have Q:=hA b (by lia);subst Q;rw[C] at e;cases e;cases d
  have G:∀{b:z4}{m:db},R.heap.Ns b m->(oO R.heap H).Ns b m:=λ{b m} ⟨o,D,E,e,d,r⟩=>t_ o D E (Y e<|xJ e d) ⟨d,r⟩;have Mr:=λb o e=>Y (KX b o e) (by
   cases q:H b with
   |none=>rfl
   |some u=>
    have Q:=hA b (by lia);subst Q;rw[hK (by lia)] at e;cases e)
  have hM:Mod K A (oO R.heap H):=⟨Mr,G Bb,pQ J (G f) M,let ⟨mc,h1,h2⟩:=U;(pQ mc (G h1) h2)⟩;have e0:qB P w K A (oO R.heap H) callerA [] R H:=⟨O,hM,λb o e=>aiQ e,Y8<|apM _ _,trivial,λb f=>absurd (show b∈ ([]:lV) from f) am,aE,.of_eq hg⟩;refine Ps ((F _ Mr<|G Bb).run callerA [] R H ⟨[.ref a],[]⟩ [.ref a] [.r a] _ _ hr e0 (T R<|.ref a) (.cons O .nil)<|qC H hO hS) λr g h=>?_;cases r with
  |error e=>exact(E9 H e g h).elim
  |ok fl=>
   cases fl with
   |next=>cases h
   |brk=>cases h
   |cont=>cases h
   |ret u=>
    obtain⟨v,H',zq⟩:=ZL h;obtain⟨os,B,W,S,r',q⟩:=Gi zq;subst q;obtain rfl:u=.bool true:=r';refine⟨O,OldK.of_keep λb o e=>?_,os,B⟩;cases q:H b with
    |none=>exact W.keep b o e q (by intro z;cases am (show b∈ ([]:lV) from z)) am
    |some u=>
     rcases hO b with z|⟨ob,xs,z⟩
     rw[q] at z;cases z;obtain⟨e1,I⟩:=aE b _ z;obtain⟨e2,I⟩:=S b _ (W.iM b ob _ z);rw[e] at e1;cases e1;exact e2
 cases L:K.lookup a with
 |some o=>
  have e:=KX a o L;rw[C] at e;cases e;refine p (λI=>none) (λI=>.inl O) (.inr (uS _ t.toArray _ L O O O (by rw[KW,hi.length];exact Z) ba)) (λb u z=>by lia) (λb z=>absurd O z) λz=>absurd O z
 |none=>
  refine p (λb=>if b=a then some (.c {cls:=.type "list",data:=.seq t.toArray}<|.l<|y.map .i) else none) (λb=>?_) (.inl<|.inr ⟨{cls:=.type "list",data:=.seq t.toArray},Fr O⟩) (λb u z=>?_) (λb z=>?_) λI=>L;by_cases f:b=a;exact .inr (uA _ _ (Fr f));exact .inl (Fk f);by_cases f:b=a;cases ((Fr f).symm.trans z);subst f;exact⟨C,uJ (by rw[Y9];exact Z) t ⟨_,rv,C⟩⟩;cases ((Fk f).symm.trans z);by_cases f:b=a;exact f;cases z (Fk f)
theorem aae{l:PySem.W.OpenLaw}{q:BT}{m:bn}{XP:(db)->Do->Prop}{P:A9->Do->Prop}{K:Params->Frag}{I:A9->c5}{E:A9->Sp}(N:l.most=some n)(Z:n<=sizeLine)(S:d.params.defaults=[])(M:d5 k callerA)(U:∀(w:A9)(h:Do),P w h->(K w.params).In h)(F:∀(w:A9)(t:db)(z:z4)(h:Do),(K w.params).In h->h.Ns mainGlobals t->t d.name=some (.ref z)->
   ∃B:Ev,(∀(s:AC)(u:AT),BindsTo s B ⟨[u],[]⟩ [(x,u)])/\
    ∀c:Do,(K w.params).In c->c.Ns mainGlobals t->dH l.prog w (K w.params) t c (I w) k z B [x] (E w))(L:∀(w:A9)(H:Hp)(a:z4)(y:ww),y.length<=n->E8 H->ax (K w.params) H a (y.map V.i)->E w [.r a] H (λv O=>v=.b true) λO O O=>False)(E9:∀(w:A9)(H:Hp)(s:AC)(e:AT)(A:AC),I w [] H s (λO O O=>False) e A->False):
  PySem.W.WalkO q m XP P l.row.toRowW d [] (λf C=>PySem.call f C):=by
 refine Mq.Z8 N S λw D R' t mb z o pm cd ZB a C y G Y ho hd nI J E7 p j Q=>?_;have X:=U w _ Y;obtain⟨B,R,hF⟩:=F w t z _ X G.T.g J;exact aoC X G.T.g G.T.b G.T.builtins G.T.nolimit Q E7 p (oT j Z) M hF R (λH hO hS=>L w H a y j hO hS) λH e A=>E9 w H R' e A
noncomputable def Ys(s:Ch)(j:Nat):Ch:=match s with
 |.ClassDef _ _ _ b _ _ _ _ _ _ _=>b.getD j (.Pass ⟨0,0,0,0⟩)
 |_=>.Pass ⟨0,0,0,0⟩
noncomputable def kg(s:Ch):Arguments:=match s with
 |.FunctionDef _ a _ _ _ _ _ _ _ _=>a
 |_=> {posonlyargs:=[],args:=[],vararg:=none,kwonlyargs:=[],kw_defaults:=[],kwarg:=none,defaults:=[]}
noncomputable def gM(s:Ch):wS:=match s with
 |.FunctionDef _ _ b _ _ _ _ _ _ _=>b
 |_=>[]
noncomputable def g6(s:Ch):Scope:=match s with
 |.FunctionDef _ _ _ _ _ _ c _ _ _=>c
 |_=> {kind:=.function,names:=[],isGenerator:=false,isCoroutine:=false}
abbrev xT:c5:=λ_ _ _ _ _ _=>False
abbrev E0:XK:=λ_ _ _=>False
structure sQ(K:Frag)(x qual:Str)(st:Ch)(f:z4)(fd:Ev):Prop where
 ex:∃(oc:AT)(od:v4)(kV ZB pm:AT)(an:v4)(bS ct:AT)(kb:Array wT),
  fd=fnOf x qual (kg st) (gM st) (g6 st) .none kV ZB pm an bS ct/\K.lookup f=some ⟨oc,od,.func fd,kb⟩/\codeIn K bS qual=true
 kp:keepIn K (.ref f)=true
section
variable{P:BT}{w:A9}{K:Frag}{mg:db}{base:Do}
theorem sQ.binds{p:bn}(F:sQ K x q s f d)(h:∀(k Z m:AT)(a:v4)(b c:AT)(u:ge),u.length=p.length->bindArgs (fnOf x q (kg s) (gM s) (g6 s) .none k Z m a b c) ⟨u,[]⟩=pure (p.zip u)):zc K d p []:=by
 obtain⟨e,o,k,Z,m,a,b,c,g,zq⟩:=xN F.ex;obtain⟨rfl,l,n⟩:=Yo zq;exact .all<|h k Z m a b c
theorem Ms{f:z4}{d:AT}{o a:v4}{e:Array wT}{V Z p b t:AT}(l:K.lookup f=some ⟨d,o,.func<|fnOf x q (kg s) (gM s) (g6 s) .none V Z p a b t,e⟩)(c:codeIn K b q=true)(k:keepIn K (.ref f)=true):sQ K x q s f (fnOf x q (kg s) (gM s) (g6 s) .none V Z p a b t):=⟨uA d o ⟨V,Z,p,a,b,t,e,O,l,c⟩,k⟩
end
theorem jo{B:Prop}(h:B):if false=true then A else B:=by lia
theorem gN{B:Prop}(h:A):if true=true then A else B:=by lia
theorem du{B:Prop}[Decidable c](a:c->A)(h:¬c->B):if c then A else B:=by lia
def aA(H a:Hp):Prop:= ∀b o,H b=some o->a b=some o
theorem aA.refl(H:Hp):aA H H:=λY Y h=>h
theorem aA.trans(a:aA H e)(b:aA e d):aA H d:=λc o h=>b c o (a c o h)
theorem aA.free(e:aA H a)(h:a l=Option.none):H l=Option.none:=by
 cases q:H l with
 |none=>rfl
 |some o=>
  rw[e l o q] at h;cases h
theorem aA.seq{K:Frag}(e:aA H b)(h:ax K H a x):ax K b a x:=by
 rcases h with(h|⟨o,h⟩)|h
 exact .inl (.inl<|e _ _ h);exact .inl (.inr ⟨o,e _ _ h⟩);exact .inr h
section
variable{c:Type}[DecidableEq c]
noncomputable def cv(a:List (c×V))(k:c):im:=(a.find? λv=>decide (v.1=k)).map (·.2)
noncomputable def ZR(h:List (c×V))(k:c)(v:V):List (c×V):=
 if (h.any λa=>decide (a.1=k))=true then h.map (λa=>if a.1=k then (a.1,v) else a) else h++[(k,v)]
noncomputable def gO(a:List (c×V))(k:c):List (c×V):=a.filter λv=>decide (v.1≠k)
theorem jQ{r:List (c×V)}(e:p.1=k):cv (p::r) k=some p.2:=by simp[cv,cV,e]
theorem iS{r:List (c×V)}(e:¬p.1=k):cv (p::r) k=cv r k:=by simp[cv,cV,e]
theorem vq(k:c):∀a:List (c×V),(a.any λv=>decide (v.1=k))=(cv a k).isSome
 |[]=>O
 |p::r=>by
  rw[XT];by_cases e:p.1=k;simp only[jQ e,Y4 e,Bool.true_or,Option.isSome_some];rw[iS e,XH e];exact vq k r
theorem Mt(k j:c)(y:V):∀a:List (c×V),cv (a.map λv=>if v.1=k then (v.1,y) else v) j=(cv a j).map λx=>if j=k then y else x
 |[]=>O
 |p::r=>by
  have i:=Mt k j y r;rw[ZU];by_cases h:p.1=k;rw[Fr h];by_cases e:p.1=j;rw[jQ (p:=(p.1,y)) e,jQ e,Z7,Fr<|e.symm.trans h];rw[iS (p:=(p.1,y)) e,iS e,i];rw[Fk h];by_cases e:p.1=j;rw[jQ e,jQ e,Z7,Fk<|λz=>h<|e.trans z];rw[iS e,iS e,i]
theorem Mu(k j:c)(y:V):∀a:List (c×V),cv a k=none->cv (a++[(k,y)]) j=if j=k then some y else cv a j
 |[],_=>by
  by_cases e:k=j;rw[Fr e.symm];exact jQ e;rw[Fk<|λz=>e z.symm];exact iS e
 |p::r,h=>by
  rw[Yn];have b:¬p.1=k:=λz=>by rw[jQ z] at h;cases h
  rw[iS b] at h;by_cases e:p.1=j;rw[jQ e,jQ e,Fk<|λz=>b<|e.trans z];rw[iS e,iS e,(Mu k j y r h)]
theorem Be(h:List (c×V))(k j:c)(y:V):cv (ZR h k y) j=if j=k then some y else cv h j:=by
 unfold ZR;by_cases a:(h.any λv=>decide (v.1=k))=true;rw[Fr a,Mt];rw[vq] at a;by_cases e:j=k;obtain⟨x,b⟩:=Option.isSome_iff_exists.mp a;rw[Fr e,e,b,Z7,Fr O];rw[Fk e];cases cv h j with
 |none=>rfl
 |some x=>rw[Z7,Fk e]
 rw[Fk a];refine Mu k j y h ?_;rw[vq] at a;cases q:cv h k with
 |none=>rfl
 |some x=>rw[q] at a;cases a O
theorem sR(a:List (c×V))(k:c)(v:V):(ZR a k v).length<=a.length+1:=by
 unfold ZR;split;rw[Y9];exact Y5 _;rw[Yy];exact Yw _
theorem aaf{k:c}(v:V)(h:cv a k=none):ZR a k v=a++[(k,v)]:=by
 unfold ZR;rw[vq,h];exact Fk am
theorem ie.xU(r:ie o u):o.isSome=u.isSome:=by
 cases o with
 |none=>cases u with
  |none=>rfl
  |some Y=>exact(show False from r).elim
 |some Y=>cases u with
  |none=>exact(show False from r).elim
  |some Y=>rfl
theorem KV.val(r:KV g v)(k:c):ie (cv g k) (valueAt v k):=by
 induction r with
 |nil=>exact True.intro
 | @cons p q j s h t i=>
  obtain⟨d,f⟩:=h;by_cases e:p.1=k;have a:=d.symm.trans e;have b:valueAt (q::s) k=some q.2:=by simp[valueAt,cV,a]
  rw[jQ e,b];exact f;have a:¬q.1=k:=λz=>e (d.trans z);have b:valueAt (q::s) k=valueAt s k:=by simp[valueAt,cV,a]
  rw[iS e,b];exact i
theorem KV.any(r:KV a s)(k:c):(a.any λv=>decide (v.1=k))=s.any λv=>decide (v.1=k):=by
 induction r with
 |nil=>rfl
 |cons h t i=>rw[XT,XT,i,h.1]
theorem KV.E_(r:KV f s)(k:c)(b:YD y u):
  KV (f.map λv=>if v.1=k then (v.1,y) else v) (s.map λv=>if v.1=k then (v.1,u) else v):=by
 induction r with
 |nil=>exact .nil
 | @cons p q j g h t i=>
  rw[ZU,ZU];refine .cons ?_ i;obtain⟨a,d⟩:=h;by_cases e:p.1=k;rw[Fr e,Fr<|a.symm.trans e];exact⟨a,b⟩;rw[Fk e,Fk<|λz=>e<|a.trans z];exact⟨a,d⟩
theorem KV.put(r:KV h v)(k:c)(a:YD y u):KV (ZR h k y) (stored v k u):=by
 unfold ZR stored;rw[r.any k];by_cases e:(v.any λb=>decide (b.1=k))=true;rw[Fr e,Fr e];exact r.E_ k a;rw[Fk e,Fk e];exact IO r ⟨O,a⟩
theorem KV.drop(r:KV g v)(k:c):KV (gO g k) (without v k):=by
 unfold gO without;induction r with
 |nil=>exact .nil
 | @cons p q j s h t i=>
  obtain⟨d,f⟩:=h;rw[List.filter_cons,List.filter_cons];by_cases e:p.1=k;have a:¬decide (p.1≠k)=true:=by lia
  have b:¬decide (q.1≠k)=true:=by lia
  rw[Fk a,Fk b];exact i;have a:decide (p.1≠k)=true:=by lia
  have b:decide (q.1≠k)=true:=by lia
  rw[Fr a,Fr b];exact .cons ⟨d,f⟩ i
theorem KV.length{v:List (c×AT)}(r:KV a v):a.length=v.length:=FS r
theorem Mv(a:List (c×V))(k:c):(gO a k).length<=a.length:=List.length_filter_le _ _
end
theorem sS(r:YD (kV k) u):(fo P w).is k u=true:=by
 cases k with
 |inl i=>obtain⟨t,e⟩:=(show ∃t,u=.int i t from r);subst e;exact anK P w i t
 |inr x=>obtain⟨t,e⟩:=(show ∃t,u=.str x t from r);subst e;exact aiE P w x t
theorem Mw:∀{s:List ZA}{u:ge},Xz (s.map kV) u->ItemsAre (fo P w) s u
 |[],_,r=>by cases r;exact .nil
 |k::s,_,r=>by
  cases r with
  |cons h t=>exact .cons (sS h) (Mw t)
abbrev KT(H:Hp):wn->tz->Prop:=Paired λp q=>p.1=q.1/\H q.2.1=some (.t<|p.1.map kV)/\YD p.2 q.2.2
theorem KT.val(r:KT H d x)(k:List ZA):ie (cv d k) ((atKey x k).map (·.2)):=by
 induction r with
 |nil=>exact True.intro
 | @cons p q g s h t i=>
  obtain⟨c,Y,f⟩:=h;by_cases e:p.1=k;have a:=c.symm.trans e;have b:atKey (q::s) k=some q.2:=by simp[atKey,cV,a]
  rw[jQ e,b];exact f;have a:¬q.1=k:=λz=>e (c.trans z);have b:atKey (q::s) k=atKey s k:=by simp[atKey,cV,a]
  rw[iS e,b];exact i
theorem KT.E_(r:KT H c x)(k:List ZA)(d:YD y u):
  KT H (c.map λv=>if v.1=k then (v.1,y) else v) (x.map<|putAt k u):=by
 induction r with
 |nil=>exact .nil
 | @cons p q g s h t i=>
  rw[ZU];refine .cons ?_ i;obtain⟨a,b,f⟩:=h;unfold putAt;by_cases e:p.1=k;rw[Fr e,Fr<|a.symm.trans e];exact⟨a,b,d⟩;rw[Fk e,Fk<|λz=>e<|a.trans z];exact⟨a,b,f⟩
theorem KT.put(r:KT H a x)(k:List ZA)(h:H b=some (.t<|k.map kV))(c:YD y u):
  KT H (ZR a k y) (storedH x k b u):=by
 have e:(a.any λv=>decide (v.1=k))=(atKey x k).isSome:=by
  rw[vq,(r.val k).xU,VN]
 unfold ZR storedH;rw[e];by_cases q:(atKey x k).isSome=true;rw[Fr q,Fr q];exact r.E_ k c;rw[Fk q,Fk q];exact IO r ⟨O,h,c⟩
theorem KT.keeps(r:KT H a x)(h:∀b y,H b=some (.t y)->c b=some (.t y)):KT c a x:=
 Paired.bX r λY Y z=>⟨z.1,h _ _ z.2.1,z.2.2⟩
section
variable{P:BT}{w:A9}{H:Hp}{h:Do}{a:z4}
theorem Mx(o:cx P w H h)(e:Rd H a u):cY P w H h a u:=e.ok o
theorem vt(o:cx P w H h)(e:Rd H a (.d b)):b.length<=sizeLine/\(a==sysModules)=false/\∃v,KV b v/\h.DictOf (fo P w) a v:=
 show cY P w H h a (.d b) from Mx o e
theorem Bf(o:cx P w H h)(e:H a=some (.d b)):b.length<=sizeLine/\(a==sysModules)=false/\∃v,KV b v/\h.DictOf (fo P w) a v:=vt o (.inl e)
theorem xV(b:cx P w H h)(e:H a=some (.t<|k.map kV)):(tupleKind<|fo P w).is h k a:=by
 obtain⟨Y,g,r,o,f,d,n,c⟩:=(show cY P w H h a (.t<|k.map kV) from b a _ e);exact tZ o g.toArray n f d c (by simpa using Mw r)
theorem vv(k:cx P w H h)(e:Rd H a (.T d)):d.length<=sizeLine/\(a==sysModules)=false/\
  ∃s,KT H d s/\h.DictOfH (tupleKind<|fo P w) a s:=by
 obtain⟨z,y,s,r,o,v,A,u,n,j,g,f⟩:=(show cY P w H h a (.T d) from Mx k e);refine⟨z,y,s,r,o,v,A,u,n,j,g,λx b=>?_,f⟩;have c:∀{l:wn}{m:tz},KT H l m->∀x∈m,(tupleKind<|fo P w).is h x.1 x.2.1:=by
  intro l m q;induction q with
  |nil=>intro x b;exact nomatch b
  | @cons p q C B D t i=>
   intro x b;rcases Z5.mp b with e|b
   exact xV k ba;exact i x b
 exact c r x b
theorem aag(o:cx P w H h)(e:H a=some (.T b)):b.length<=sizeLine/\(a==sysModules)=false/\
  ∃x,KT H b x/\h.DictOfH (tupleKind<|fo P w) a x:=vv o (.inl e)
end
def f_(H:Hp)(a:z4)(y:V)(r:im):Prop:=
 (∃h k,Rd H a (.d h)/\y=kV k/\r=cv h k)\/∃h k b,Rd H a (.T h)/\y=.r b/\H b=some (.t<|k.map kV)/\r=cv h k
def ip(H:Hp)(a:z4)(y v:V)(c:Hp):Prop:=
 (∃h k,H a=some (.d h)/\y=kV k/\h.length<sizeLine/\c=fy H a (.d<|ZR h k v))\/
 ∃h k b,H a=some (.T h)/\y=.r b/\H b=some (.t<|k.map kV)/\h.length<sizeLine/\c=fy H a (.T<|ZR h k v)
theorem f_.k{h:ii}{k:ZA}(e:H a=some (.d h)):f_ H a (kV k) (cv h k):=.inl ⟨h,k,.inl e,O,O⟩
theorem ip.k{h:ii}{k:ZA}{v:V}(e:H a=some (.d h))(l:h.length<sizeLine):ip H a (kV k) v (fy H a<|.d<|ZR h k v):=.inl ⟨h,k,e,O,l,O⟩
section
variable{X:Cx}{d:cr}{f:St}{H:Hp}{s:AC}{a:z4}{y v:V}{u r:AT}{o:im}{A:Db}{E:ce}
theorem d4.big(I:d4 X d f H s):sysModules<s.heap.objs.size:=by
 exact Zr ap ((I.mod.glob.keeps I.bk).lt)
theorem aah(t:A.units+1<cLine)(I:d4 X d f H s)(g:f_ H a y (some v))(q:YD y u)(h:∀c o,d4 X d f H o->YD v c->Q c o):
  wpAny (model X.prog X.w) A (getItem (.ref a) u) Q E s:=by
 rcases g with⟨F,k,e,m,l⟩|⟨F,k,b,e,m,D,l⟩
 subst m;obtain⟨z,B,J,r,n⟩:=vt I.aE e;obtain⟨c,j,i⟩:=ie.some_of (l▸r.val k);exact wpAny_getItem_of (sS q) n.mapOf j<|h c _ (I.tok _) i;subst m;cases (show u=.ref b from q);obtain⟨z,B,G,r,n⟩:=vv I.aE e;obtain⟨c,j,i⟩:=ie.some_of (l▸r.val k);obtain⟨p,x,C⟩:=Option.map_eq_some_iff.mp j;refine wpAny_getItem_heap (SL t) (xV I.aE D) n x ?_;rw[C];exact h c _ (I.tok _) i
theorem aai(p:A.units+1<cLine)(I:d4 X d f H s)(g:f_ H a y o)(n:YD y u)(h:∀m,d4 X d f H m->Q (.bool o.isSome) m):
  wpAny (model X.prog X.w) A (compareOp .In u<|.ref a) Q E s:=by
 rcases g with⟨v,k,e,i,l⟩|⟨v,k,b,e,i,t,l⟩
 subst i;obtain⟨z,c,B,r,j⟩:=vt I.aE e;refine wpAny_in_of (sS n) c j.mapOf ?_;rw[<-(r.val k).xU,<-l];exact h _<|I.tok _;subst i;cases (show u=.ref b from n);obtain⟨z,c,x,r,j⟩:=vv I.aE e;refine wpAny_in_heap (SL p) (xV I.aE t) c j ?_;have q:=(r.val k).xU;rw[VN] at q;rw[<-q,<-l];exact h _<|I.tok _
theorem aaj(p:A.units+1<cLine)(I:d4 X d f H s)(g:f_ H a y o)(n:YD y u)(h:∀m,d4 X d f H m->Q (.bool<|!o.isSome) m):
  wpAny (model X.prog X.w) A (compareOp .NotIn u<|.ref a) Q E s:=by
 rcases g with⟨v,k,e,i,l⟩|⟨v,k,b,e,i,t,l⟩
 subst i;obtain⟨z,c,B,r,j⟩:=vt I.aE e;refine wpAny_notIn_of (sS n) c j.mapOf ?_;rw[<-(r.val k).xU,<-l];exact h _<|I.tok _;subst i;cases (show u=.ref b from n);obtain⟨z,c,x,r,j⟩:=vv I.aE e;refine wpAny_notIn_heap (SL p) (xV I.aE t) c j ?_;have q:=(r.val k).xU;rw[VN] at q;rw[<-q,<-l];exact h _<|I.tok _
theorem Bg{o:HO}(I:d4 X d f H s)(m:xy (H a))(c:Heap.SameBut a s.heap h)(e:∃q,h.get? a=some q)(n:cY X.prog X.w (fy H a o) h a o):
  d4 X d f (fy H a o) {s with heap:=h,toks:=t}:=
 I.write m (.inl O) (λb q g z=>(c.2 b g).trans z) e n
theorem Fb{h:ii}{v:List (ZA×AT)}(z:h.length<=sizeLine)(c:(a==sysModules)=false)(r:KV h v)(e:b.DictOf (fo P w) a v):
  cY P w H b a (.d h):=⟨z,c,v,r,e⟩
theorem aak{Q:wE}(P:A.units+1<cLine)(I:d4 X d f H s)(g:ip H a y v Z)(F:YD y u)(G:YD v r)(h:∀D,d4 X d f Z D->Q () D):
  wpAny (model X.prog X.w) A (setItem (.ref a) u r) Q E s:=by
 rcases g with⟨j,k,e,x,l,B⟩|⟨j,k,b,e,x,L,l,B⟩
 subst x B;obtain⟨z,t,vs,i,C⟩:=Bf I.aE e;have N:=i.length▸z;have p:(ZR j k v).length<=sizeLine:=by have:=sR j k v;omega
 refine wpAny_setItem_pairs (sS F) C λJ n o=>h _ ?_;have R:∃q,J.get? a=some q:=(by obtain⟨q,_,_,m,_⟩:=n;exact⟨q,m⟩);exact Bg I (e▸True.intro) o R<|Fb p t (i.put k G) n;subst x B;cases (show u=.ref b from F);obtain⟨z,t,M,i,C⟩:=aag I.aE e;have N:M.length<=sizeLine:=by rw[<-FS i];exact z
 have p:(ZR j k v).length<=sizeLine:=by have:=sR j k v;omega
 refine wpAny_setItem_heap (SL P) (xV I.aE L) C λJ n o=>h _ ?_;obtain⟨q,W,Y,zq⟩:=ZG n;obtain⟨m,V,U,T,O,S⟩:=Gi zq;refine Bg I (e▸True.intro) o ⟨q,m⟩ ⟨p,t,_,(i.put k L G).keeps λc ys K=>?_,q,W,Y,m,V,U,T,S⟩;rw[aw<|cD K e<|λz=>nomatch z];exact K
end
section
variable{X:Cx}{c:cr}{d:St}{H:Hp}{s:AC}{a:z4}{b:ii}{k:ZA}{u:AT}{A:Db}{E:ce}
theorem aal{m:ge}{Q:ce}(I:d4 X c d H s)(e:H a=some (.d b))(y:YD (kV k) u)(l:cv b k=some v)(j:m=[]\/∃x,m=[x])(h:∀f g,d4 X c d (fy H a<|.d<|gO b k) g->YD v f->Q f g):wpAny (model X.prog X.w) A (call (.builtin "dict.pop") (.ref a::u::m)) Q E s:=by
 obtain⟨z,L,p,r,o⟩:=Bf I.aE e;obtain⟨f,C,B⟩:=ie.some_of (l▸r.val k);have J:(keyPart u).isSome=true:=by
  cases k with
  |inl i=>obtain⟨t,q⟩:=(show ∃t,u=.int i t from y);subst q;rfl
  |inr x=>obtain⟨t,q⟩:=(show ∃t,u=.str x t from y);subst q;rfl
 have M:argsOk "dict.pop" ⟨.ref a::u::m,[]⟩:=by
  rcases j with q|⟨x,q⟩
  subst q;exact PySem.F.args_dict_pop_2 _ _;subst q;exact PySem.F.args_dict_pop_3 _ _ _
 refine call_meetsIn PySem.F.slot_dict_pop o.typeIs PySem.F.entry_dict_pop M (meets_dict_pop_there (fo X.prog X.w) a (sS y) m j J)
  (qM p f o (r.length▸z) C (λN n D=>h f _ ?_ B))
 have K:=let ⟨q,_,_,G,_⟩:=n;(qX q G);exact Bg I (e▸True.intro) D K<|Fb (oT (Mv b k) z) L (r.drop k) n
end
def Fc(i:Expr):Prop:= ∀o v,subscripted i false o v=operate [o,v] (getItem o v)
theorem aam{w:A9}{A:Db}{E:ce}{s:AC}{T f:Fa}{Q:ce}(l:typeLookup (.type T) "__getitem__"=pure (some<|.builtin f))(g:Fc Z)(h:wpAny (model p w) A (eval v e) (λo R=>wpAny (model p w) A (eval Z e) (λi U=>U.TypeIs o T/\wpAny (model p w) A (getItem o i) Q E U) E R) E s):
  wpAny (model p w) A (eval (.Subscript v Z d) e) Q E s:=by
 refine Subscript_<|Id h (λo R c=>Id c (λi U a=>?_) λY Y x=>x) λY Y x=>x;obtain⟨j,a⟩:=a;refine FI (FI<|wpAny_specialOf j l ?_);have X:wpAny (model p w) A (subscripted Z false o i) (λr W=>wpAny (model p w) A (letTemporaryGo v o r>>=λY=>pure r) Q E W) E U:=by
  rw[g o i];exact wpAny_operating<|Id a (λr W b=>FI<|wpAny_letTemporaryGo<|Go b) λY Y x=>x
 first
  |exact Go (FI X)
  |exact FI (Go<|FI X)
  |exact FI X
theorem aan{c:St}(I:d4 X B c H s)(g:f_ H a y o):s.TypeIs (.ref a) "dict":=by
 rcases g with⟨h,k,e,Y,Y⟩|⟨h,k,b,e,Y,Y,Y⟩
 obtain⟨Y,Y,v,Y,d⟩:=vt I.aE e;exact d.typeIs;obtain⟨Y,Y,x,Y,d⟩:=vv I.aE e;exact d.typeIs
def My(d t:TE):TE:=λb H Q=>d b H λx e=>t b e λy c=>∃a v,x=.r a/\f_ c a y (some v)/\Q v c
def Fd(t e:TE):TE:=λc H Q=>t c H λy f=>e c f λx d=>∃a o,x=.r a/\f_ d a y o/\Q (.b o.isSome) d
def Fe(t e:TE):TE:=λc H Q=>t c H λy f=>e c f λx d=>∃a o,x=.r a/\f_ d a y o/\Q (.b<|!o.isSome) d
def Mz(e t d:TE):TS:=λD b H=>d b H λv h=>e b h λx g=>t b g λy f=>∃a c,x=.r a/\ip f a y v c/\D.nx b c
section
variable{X:Cx}{o i e d:Expr}{f j EN:Pos}{b c k:TE}
theorem aao(n:X.A.units+1<cLine)(t:PE X o b)(w:PE X i c)(p:Fc i):PE X (.Subscript o i f) (My b c):=by
 intro B s d H Q I h;refine aam PySem.F.slot_dict_getitem.lookup p<|aI (t B s d H _ I h) λu j h=>?_;obtain⟨x,G,D,k,l⟩:=h;refine aI (w B j d G _ D l) λM L h=>?_;obtain⟨y,E,e,r,a,v,z,g,q⟩:=h;subst z;obtain rfl:u=.ref a:=k;exact⟨aan e g,aah n e g r λJ K C m=>⟨v,E,C,m,q⟩⟩
theorem aap(k:X.A.units+1<cLine)(m:PE X i c)(l:PE X o b):PC X .In i o (Fd c b):=by
 intro B s d H Q I h;refine aI (m B s d H _ I h) λF e h=>?_;obtain⟨y,C,w,r,j⟩:=h;refine aI (l B e d C _ w j) λu E h=>?_;obtain⟨x,z,t,f,a,v,n,g,q⟩:=h;subst n;obtain rfl:u=.ref a:=f;exact aai k t g r λD p=>⟨.b v.isSome,z,p,O,q⟩
theorem FO(k:X.A.units+1<cLine)(m:PE X i c)(l:PE X o b):PC X .NotIn i o (Fe c b):=by
 intro B s d H Q I h;refine aI (m B s d H _ I h) λF e h=>?_;obtain⟨y,C,w,r,j⟩:=h;refine aI (l B e d C _ w j) λu E h=>?_;obtain⟨x,z,t,f,a,v,n,g,q⟩:=h;subst n;obtain rfl:u=.ref a:=f;exact aaj k t g r λD p=>⟨.b<|!v.isSome,z,p,O,q⟩
theorem aar(E:X.A.units+1<cLine)(G:PE X o b)(J:PE X i c)(C:PE X d k)(F:swapsWith d (some<|.Subscript o i j) f.line X.env=pure false):
  PS X (.Assign [.Subscript o i j] d f) (Mz b c k):=by
 intro B s e H D I h;refine wpAny_Assign_Subscript (aI (C B s e H _ I h) λr m h=>?_) F;obtain⟨v,S,P,q,z⟩:=h;refine aI (G B m e S _ P z) λu l h=>?_;obtain⟨x,R,N,p,w⟩:=h;refine aI (J B l e R _ N w) λV U h=>?_;obtain⟨y,W,M,n,a,Q,K,g,t⟩:=h;subst K;obtain rfl:u=.ref a:=p;exact aak E M g n q λT L=>⟨e,Q,L,t⟩
end
theorem MA(h:Do)(b:sysModules<h.objs.size):cY P w H (h.push {cls:=.type "dict",data:=.dict #[]}) h.objs.size (.d []):=
 ⟨nE _,beq_eq_false_iff_ne.mpr<|GE<|XS b,[],.nil,Heap.DictOf.new h⟩
def aas:TE:=λ_ H Q=>∀p,H p=none->Q (.r p) (fy H p<|.T [])
def Bh(H:Hp)(a:z4):Prop:=(∃h,Rd H a<|.d h)\/∃h,Rd H a (.T h)
theorem aat{i:St}(I:d4 X B i H s)(d:Bh H a):
  s.TypeIs (.ref a) "dict"/\(∀b,Value.ref a=.ref b->∃o,s.heap.get? b=some o/\o.dict=none)/\(a==sysModules)=false:=by
 rcases d with⟨j,e⟩|⟨j,e⟩
 obtain⟨Y,h,v,Y,c⟩:=vt I.aE e;refine⟨c.typeIs,λb q=>?_,h⟩;cases q;obtain⟨o,Y,Y,zq⟩:=ZG c;obtain⟨g,f,Y⟩:=Yo zq;exact⟨o,g,f.2.1⟩;obtain⟨Y,h,x,Y,c⟩:=vv I.aE e;refine⟨c.typeIs,λb q=>?_,h⟩;cases q;obtain⟨o,Y,Y,zq⟩:=ZG c;obtain⟨g,f,Y⟩:=Yo zq;exact⟨o,g,f.2.1⟩
def aau(f t e:TE):TE:=λb H Q=>f b H λx d=>∃a,x=.r a/\Bh d a/\t b d λy g=>e b g λz c=>∃o,f_ c a y o/\Q (o.getD z) c
end
set_option maxHeartbeats 4000000
section
open PyProof.Rows
theorem vx:∀(s:wl)(n:Nat)(X:jp),cellsFrom n s X=cellsFrom n s []++X:=by
 intro s;induction s with
 |nil=>intros;rfl
 |cons y r i=>
  intro n X;obtain⟨e,k⟩:=y;unfold cellsFrom;split;rw[i (n+1) ((e,n)::X),i (n+1) [(e,n)],X7];rfl;exact i n X
theorem aav{c:z4}:∀(s:wl)(n:Nat),(x,c)∈cellsFrom n s []->(x,NameKind.cell)∈s:=by
 intro s;induction s with
 |nil=>intro n h;cases h
 |cons y r i=>
  intro n h;obtain⟨e,k⟩:=y;unfold cellsFrom at h;split at h;rw[vx] at h;rcases R8.mp h with h|h
  exact Yl _ (i _ h);cases ZF.mp h;rw[show k=.cell by lia];exact YL;exact Yl _ (i _ h)
theorem MB:∀(l:jp),(x,c)∈l->∃c,l.lookup x=some c:=by
 intro l;induction l with
 |nil=>intro h;cases h
 |cons y r i=>
  intro h;rw[YB];cases e:x==y.1 with
  |true=>exact⟨_,O⟩
  |false=>
   rcases Z5.mp h with h|h
   rw[<-h] at e;simp at e;exact i h
theorem MC:∀(s:wl)(n:Nat),(x,NameKind.cell)∈s->∃c,(x,c)∈cellsFrom n s []:=by
 intro s;induction s with
 |nil=>intro n h;cases h
 |cons y r i=>
  intro n h;obtain⟨e,k⟩:=y;unfold cellsFrom;split;rw[vx];rcases Z5.mp h with h|h
  cases h;exact⟨n,Yc _<|.head _⟩;obtain⟨c,b⟩:=i (n+1) h;exact⟨c,ZX _ b⟩;rename_i a;rcases Z5.mp h with h|h
  cases h;cases a O;exact i n h
theorem aaw{A:Db}{E:ce}{s:AC}{g:z4}{c:jp}{Q:Env->AC->Prop}(j:∀h,h.Ns s.heap.objs.size (λY=>none)->(∀b o,s.heap.get? b=some o->h.get? b=some o)->CellsOk h (s.heap.objs.size+1) (cellsFrom (s.heap.objs.size+1) a.names [])->
   Q (newEnv a s.heap.objs.size g (cellsFrom (s.heap.objs.size+1) a.names c) q none .none (some r) builtinsNs) {s with heap:=h}):
  wpAny M A (newFunctionEnv a g c [] q none .none<|some r) Q E s:=by
 simp only[newFunctionEnv,Option.isSome_some,if_true];refine FI<|wpAny_alloc (FI<|wpAny_layCells _ (λn i f=>O) _ _ _ _ ?_);rw[show({s with heap:=s.heap.push {cls:=.type "dict",data:=.dict #[]}}:AC).heap.objs.size=s.heap.objs.size+1 from Pi ..];have k:=cellsFrom_ok a.names (s.heap.push {cls:=.type "dict",data:=.dict #[]}) (s.heap.objs.size+1) [] ⟨λY Y m=>(nomatch m),List.Pairwise.nil⟩ am;rw[Pi] at k;exact FI (Go<|Go<|j _ ((Heap.Ns.new s.heap<|.type "dict").keeps<|pushCells_keeps _ _) (λb o e=>pushCells_keeps _ _ b o<|GT _ e) k)
section
variable{X:Cx}{d:cr}{f:St}{H:Hp}{s:AC}{a:z4}{o:HO}
theorem d4.MD(I:d4 X d f H s)(A:H a=none)(B:X.S.heap.objs.size<=a)(L:a≠X.env.locals)(C:∀x c,X.env.cells.lookup x=some c->c≠a)(y:∀p∈X.n++d,p.1≠a)(h:cY X.prog X.w (fy H a o) s.heap a o):d4 X d f (fy H a o) s:=by
 have i:∀b u,X.S.heap.get? b=some u->b≠a:=λb u e=>XS (XG (Gc e) B);have W:∀b u,H b=some u->b≠a:=λb u e=>aH e A;refine⟨I.ok,I.os,I.E,⟨I.base.keep,I.base.slot,λb u e n v=>?_,I.base.there,λb g e=>?_,λb u g e=>?_,λb t e=>?_⟩,I.G,I.cell,?_,λx c e=>?_,λp q=>?_,λb u e=>?_,I.len⟩;rw[aw<|i b u e];exact I.base.free b u e n v;have z:=I.base.dS b g e;rw[aw<|W b _ z];exact z;have z:=I.base.iM b u g e;rw[aw<|W b _ z];exact z;obtain⟨m,z⟩:=I.base.jj b t e;exact⟨m,by rw[aw<|W b _ z];exact z⟩;rw[aw<|GE L];exact I.free;rw[aw<|C x c e];exact I.P x c e;obtain⟨r,l,k⟩:=I.pin p q;exact⟨r,by rw[aw<|y p q];exact l,k⟩;by_cases j:b=a;subst j;rw[av] at e;cases e;exact h;rw[aw j] at e;exact(I.aE b u e).nG (λY Y Y q=>q) (λc q=>by rw[aw<|W c _ q];exact q) λc g q=>by rw[aw<|W c _ q];exact q
end
noncomputable def dA(c:jp):wl->jp->jp
 |[],X=>X
 |(n,k)::r,X=>dA c r (if k=.free then (n,(c.lookup n).getD 0)::X else X)
theorem ME(v:Env):∀(s:wl)(X:jp),(∀y∈s,y.2=.free->∃c,v.cells.lookup y.1=some c)->
  (forIn s X (fun(x:Str×NameKind)(j:jp)=>match x with
   |(b,d)=>if (d==NameKind.free)=true then do let a <-cellOf v b;pure (ForInStep.yield ((b,a)::j)) else pure (ForInStep.yield j)):Sem jp)=pure (dA v.cells s X)
 |[],X,_=>O
 |(n,k)::r,X,h=>by
  have i:=λF=>ME v r F λy l=>h y (Yl _ l);by_cases f:k=.free;subst f;obtain⟨c,e⟩:=h (n,.free) YL O;have o:cellOf v n=pure c:=by unfold cellOf;rw[e]
  have g:dA v.cells ((n,.free)::r) X=dA v.cells r ((n,c)::X):=by simp[dA,e]
  rw[g,<-i];simp[o];have g:dA v.cells ((n,k)::r) X=dA v.cells r X:=by simp[dA,f]
  rw[g,<-i];simp[(by simpa using f)]
theorem aaz(h:∀y∈s.names,y.2=.free->∃c,e.cells.lookup y.1=some c):closureFor s e=pure (dA e.cells s.names []):=by
 have:=ME e s.names [] h;simp only[closureFor];rw[<-this];simp
theorem MF:∀(s:wl)(X:jp)(x:Str)(c:z4),(dA a s X).lookup x=some c->(X.lookup x=some c)\/((x,.free)∈s/\(a.lookup x).getD 0=c)
 |[],X,x,c,h=>.inl h
 |(n,k)::r,X,x,c,h=>by
  rcases MF r _ x c h with z|⟨g,f⟩
  by_cases e:k=.free;subst e;simp at z;rw[YB] at z;by_cases d:x==n;simp only[d] at z;have b:=eq_of_beq d;subst b;exact .inr ⟨YL,X8 z⟩;have o:(x==n)=false:=by lia
  simp only[o] at z;exact .inl z;simp only[Fk e] at z;exact .inl z;exact .inr ⟨Yl _ g,f⟩
theorem Fg:∀(s:wl)(X:jp)(x:Str),((x,NameKind.free)∈s\/∃c,X.lookup x=some c)->∃c,(dA cells s X).lookup x=some c
 |[],X,x,h=>by
  rcases h with h|h
  cases h;exact h
 |(n,k)::r,X,x,h=>by
  refine Fg r _ x ?_;rcases h with h|⟨c,h⟩
  rcases Z5.mp h with e|h
  cases e;refine .inr ?_;simp;exact .inl h;refine .inr ?_;by_cases a:k=.free;simp only[Fr a,YB];cases b:x==n;exact⟨c,h⟩;exact⟨_,O⟩;simp only[Fk a];exact⟨c,h⟩
theorem Fh{env:Env}:∀(s:wl)(x:Str),
  (s.map fun(n,k)=>if (k==NameKind.free && env.scope.kind==.function && env.kindOf n==some .cell) then (n,NameKind.cell) else (n,k)).lookup x=
   (s.lookup x).map λk=>if (k==NameKind.free && env.scope.kind==.function && env.kindOf x==some .cell) then NameKind.cell else k
 |[],_=>O
 |(n,k)::r,x=>by
  have i:=Fh (env:=env) r x;show List.lookup x ((if (k==.free && env.scope.kind==.function && env.kindOf n==some .cell)=true then (n,.cell) else (n,k))::_)=_;cases a:x==n with
  |true=>
   have e:=eq_of_beq a;subst e;by_cases h:(k==.free && env.scope.kind==.function && env.kindOf x==some .cell)=true;rw[Fr h];simp only[YB,beq_self_eq_true,Z7];rw[Fr h];rw[Fk h];simp only[YB,beq_self_eq_true,Z7];rw[Fk h]
  |false=>
   by_cases h:(k==.free && env.scope.kind==.function && env.kindOf n==some .cell)=true;rw[Fr h];simp only[YB,a];exact i;rw[Fk h];simp only[YB,a];exact i
section
variable{a:BT}{w:A9}{A:Db}{R:Result->AC->Prop}{s:AC}
theorem aaB{q:le}{C X:AT}(I:Nat->AC->Prop)(l:∀n s,I n s->wpAny (model a w) A (pyNext C) (λr E=>match r with
   |none=>R (.ok .next) E
   |some v=>wpAny (model a w) A (letOwnedTupleGo t C v) (λY M=>wpAny (model a w) A (assign t e v) (λY U=>
     wpAny (model a w) A (forIn q true λc r=>if r=true then do let o <-isTrue c e (eval c e);pure (ForInStep.yield o) else pure (ForInStep.yield r)) (λo W=>
      if o=true then wpAny (model a w) A (eval D e) (λx f=>
       wpAny (model a w) A (call (.builtin "list.append") [X,x]) (λY d=>∃m,m<n/\I m d) (λY Y=>False) f) (λY Y=>False) W
      else ∃m,m<n/\I m W) (λY Y=>False) U) (λY Y=>False) M) (λY Y=>False) E) (λY Y=>False) s)(n:Nat)(h:I n s):codeAny (model a w) A (.compLoop (.ListComp D [⟨t,p,q,0⟩] j B) 0 C X e) R s:=by
 refine codeAny_loop O I (λn s F=>wpAny_noted (FI<|Os<|FI<|Id (l n s F) (λr E i=>?_) λY Y b=>b.elim)) n h;cases r with
 |none=>exact Go i
 |some v=>
  refine FI<|Id i (λY M k=>FI<|Id k (λY U z=>FI<|Id z (λo W g=>?_) λY Y b=>b.elim) λY Y b=>b.elim) λY Y b=>b.elim;cases o with
  |false=>exact Go ⟨O,g⟩
  |true=>
   exact FI<|FI<|Id g (λx f y=>FI<|Id y (λY d u=>Go<|Go ⟨O,u⟩) λY Y b=>b.elim) λY Y b=>b.elim
end
def jq(X:Cx)(e:Scope)(N:bn)(b:lV)(C:z4)(s:AC)(H:Hp):Cx where
 prog:=X.prog
 w:=X.w
 K:=X.K
 g:=X.g
 base:=X.base
 A:=X.A
 N:=N
 S:=s
 H:=H
 env:=compEnvC e (cellsFrom (C+1) e.names<|dA X.env.cells e.names []) C X.env
 r:=X.stack
 stack:=X.stack
 ex:=b
 fn:=λx=>decide (e.names.lookup x=some .cell)
 calm:=X.calm
 n:=[]
 a:=λ_ _=>False
structure mv(X:Cx)(scope:Scope)(ln:bn)(fv:lv):Prop where
 kind:scope.kind=.function
 own:∀y∈scope.names,y.2=.cell->scope.names.lookup y.1=some .cell
 locals:∀y∈scope.names,y.2=.local->scope.names.lookup y.1=some .local
 free:∀y∈scope.names,y.2=.free->(X.env.kindOf y.1=some .cell\/X.env.kindOf y.1=some .free)
 fvs:∀p∈fv,X.N[p.2]?=some p.1/\scope.names.lookup p.1=some .free
noncomputable def cN(a:St)(f:lv):St:=f.map λp=>(a[p.2]?).join
def jR(K:Frag):wv->V->Hp->(bi->Prop)->Prop
 |none,x,_,Q=>Q [x]
 |some n,x,H,Q=>if n=102 then ∃a s,x=.r a/\ax K H a s/\s.length=2/\Q s else ∃a s,x=.r a/\aF K H a s/\s.length=n/\Q s
theorem Tf{K:Frag}(h:jR K (some n) x H P)(k:∀s,P s->Q s):jR K (some n) x H Q:=by
 by_cases e:n=102;have h:if n=102 then ∃a s,x=.r a/\ax K H a s/\s.length=2/\P s else ∃a s,x=.r a/\aF K H a s/\s.length=n/\P s:=h
 show if n=102 then ∃a s,x=.r a/\ax K H a s/\s.length=2/\Q s else ∃a s,x=.r a/\aF K H a s/\s.length=n/\Q s
 rw[Fr e] at h⊢;obtain⟨a,s,d,c,b,q⟩:=h;exact qM a s d c b (k _ q);have h:if n=102 then ∃a s,x=.r a/\ax K H a s/\s.length=2/\P s else ∃a s,x=.r a/\aF K H a s/\s.length=n/\P s:=h
 show if n=102 then ∃a s,x=.r a/\ax K H a s/\s.length=2/\Q s else ∃a s,x=.r a/\aF K H a s/\s.length=n/\Q s
 rw[Fk e] at h⊢;obtain⟨a,s,d,c,b,q⟩:=h;exact qM a s d c b (k _ q)
def k_:Option TT->TT
 |none=>λ_ H k=>k true H
 |some t=>t
def sT(K:Frag)(w:TI)(t:wv)(v:lv)(j:Option TT)(h:TE):TE:=λd H Q=>
 w d H λJ n=>∃W:Nat->Nat->bi->Hp->Prop,(∃m,W 0 m [] n)/\∀i m s a,W i m s a->
  (J.stop i a/\∀p,a p=none->Q (.r p) (fy a p<|.l s))\/
  (J.go i a/\∀x e,J.gh i a x e->jR K t x e λf=>
   k_ j (f.map some++cN d v) e λb g=>
    if b=true then h (f.map some++cN d v) g λy k=>s.length<sizeLine/\∃c,c<m/\W (i+1) c (s++[y]) k
    else ∃c,c<m/\W (i+1) c s g)
section
variable{X:Cx}{A:cr}{s:St}{H:Hp}{f j:AC}{a:Scope}{g:bn}{n:lv}{w:lV}{B:Do}{D C:z4}{m:db}{t:Nat}
theorem mv.cells(S:mv X a g n)(I:d4 X A s H f)(h:(dA X.env.cells a.names []).lookup x=some c):X.env.cells.lookup x=some c/\(x,NameKind.free)∈a.names:=by
 rcases MF _ _ _ _ h with z|⟨d,b⟩
 cases z;obtain⟨i,e⟩:=I.ok.has x (S.free _ d O);rw[e] at b;subst b;exact⟨e,d⟩
theorem mv.MH(S:mv X a g n)(I:d4 X A s H f):closureFor a X.env=pure (dA X.env.cells a.names []):=
 aaz λy h k=>I.ok.has y.1 (S.free y h k)
theorem aaF(S:mv X a g n)(I:d4 X A s H f)(f2:∀b∈w,ka X A H b)(xX:∀b∈w,∃o,f.heap.get? b=some o)(os:j.os=f.os)(a':j.gens=f.gens)(W:∀b o,f.heap.get? b=some o->j.heap.get? b=some o)(Y:D=f.heap.objs.size)(h3:j.heap.objs.size=f.heap.objs.size+1)(Z:C=j.heap.objs.size)(k4:∀b o,j.heap.get? b=some o->B.get? b=some o)(Bb:B.Ns C m)(N:CellsOk B (C+1) (cellsFrom (C+1) a.names [])):
  d4 (jq X a (g++n.map (·.1)) (D::w) C j H) [] (g.map (λ_=>none)++cN s n) H {j with heap:=B,toks:=t}:=by
 have M:∀{x c},(dA X.env.cells a.names []).lookup x=some c->X.env.cells.lookup x=some c:=λh=>(S.cells I h).1;have Fi:∀{x c},(dA X.env.cells a.names []).lookup x=some c->c<f.heap.objs.size:=λh=>by
  obtain⟨v,q⟩:=I.cell _ _ (M h);exact q.lt
 have b':∀b∈w,b<f.heap.objs.size:=λb F=>by obtain⟨o,e⟩:=xX b F;exact Gc e
 have MI:∀b∈D::w,b<=f.heap.objs.size:=λb F=>by
  rcases Z5.mp F with e|F
  rw[e,Y];exact Yw _;exact AP (b' b F)
 have MJ:∀x,(relabel a X.env).names.lookup x=(a.names.lookup x).map λk=>if (k==.free && X.env.scope.kind==.function && X.env.kindOf x==some .cell) then .cell else k:=λx=>Fh a.names x
 have h':∀x,a.names.lookup x=some .free->((relabel a X.env).names.lookup x=some .cell\/(relabel a X.env).names.lookup x=some .free):=λx e=>by
  rw[MJ,e];simp only[Z7];split;exact .inl O;exact .inr O
 have g':∀x,((relabel a X.env).names.lookup x=some .cell\/(relabel a X.env).names.lookup x=some .free)->(x,.free)∈a.names\/(x,.cell)∈a.names:=λx e=>by
  rw[MJ] at e;cases q:a.names.lookup x with
  |none=>rw[q] at e;rcases e with e|e<;>cases e
  |some k=>
   rw[q] at e;have hm:=KB q;simp only[Z7] at e;by_cases Q:k=.free;rw[Q] at hm;exact .inl hm;have F:(k==.free)=false:=by simpa using Q
   simp only[F,Bool.false_and,An,if_false] at e;rcases e with e|e
   rw[X8 e] at hm;exact .inr hm;exact absurd (X8 e) Q
 have V:∀{x c},(cellsFrom (C+1) a.names<|dA X.env.cells a.names []).lookup x=some c->(x,c)∈cellsFrom (C+1) a.names []\/(dA X.env.cells a.names []).lookup x=some c:=λ{x c} h=>by
  rw[vx,XA] at h;cases e:(cellsFrom (C+1) a.names []).lookup x with
  |none=>rw[e] at h;exact .inr h
  |some d=>rw[e] at h;cases h;exact .inl (KB e)
 have lo:∀{x c},(x,.cell)∈a.names->(cellsFrom (C+1) a.names<|dA X.env.cells a.names []).lookup x=some c->(x,c)∈cellsFrom (C+1) a.names []:=λ{x c} K h=>by
  obtain⟨d,L⟩:=MC a.names (C+1) K;obtain⟨d',e⟩:=MB _ L;rw[vx,XA,e] at h;cases h;exact KB e
 have lh:∀{x},(x,.free)∈a.names\/(x,.cell)∈a.names->∃c,(cellsFrom (C+1) a.names<|dA X.env.cells a.names []).lookup x=some c:=λ{x} K=>by
  rw[vx,XA];cases e:(cellsFrom (C+1) a.names []).lookup x with
  |some d=>exact qX d O
  |none=>
   rcases K with K|K
   exact Fg _ _ x (.inl K);obtain⟨d,L⟩:=MC a.names (C+1) K;obtain⟨d',e'⟩:=MB _ L;rw[e] at e';cases e'
 have lf:∀{x c},a.names.lookup x=some .free->(dA X.env.cells a.names []).lookup x=some c->(cellsFrom (C+1) a.names<|dA X.env.cells a.names []).lookup x=some c:=λ{x c} K h=>by
  rw[vx,XA];cases e:(cellsFrom (C+1) a.names []).lookup x with
  |none=>exact h
  |some d=>
   have:=S.own _ (aav _ _<|KB e) O;rw[K] at this;cases this
 have sC:f.heap.objs.size<C:=by lia
 refine⟨⟨I.ok.mod,S.kind,I.ok.glob,I.ok.blt,Y8 Z.symm,λx y c h1 h2=>?_,λx K=>lh (g' x K),λx c h e=>?_,I.ok.hd,I.ok.frames,.inl O,λb F=>⟨?_,λx c e=>?_⟩,λb o e=>⟨W b o (I.bs b o e).1,(I.bs b o e).2⟩,?_,λb o e F=>?_,λb F hf=>?_,?_,I.AH⟩,
  rfl,?_,Un.kept λb u e=>k4 b u e,pQ m Bb (λi x v e1 J e3=>?_),λx c e=>?_,I.aE.fresh ?_,λx c e=>(V e).elim (λz=>I.aE.fresh (AP (XG sC (YA (N.empty x c z).2)))) λz=>I.P x c (M z),λp hp=>absurd (show p∈ ([]:cr) from hp) am,I.aE.kept λb u e=>k4 b u (W b u e),?_⟩
 rcases V h1 with T|T<;>rcases V h2 with R|R
 exact PySem.name_of_addr N.apart T R;exact absurd (Zr (Fi R) sC) (Nat.not_lt_of_le<|YA (N.empty _ _ T).2);exact absurd (Zr (Fi T) sC) (Nat.not_lt_of_le<|YA (N.empty _ _ R).2);exact I.ok.inj x y c (M T) (M R);exact oT (Y8 Z.symm) (YA (N.empty x c<|lo (KB<|IR h) e).2);have:=MI b F;rw[Z,h3];exact XS (Nat.lt_succ_of_le this);rcases V e with e|e
 exact Hd (Nat.lt_of_le_of_lt (MI b F)<|XG sC<|YA (N.empty x c e).2);have q1:=Fi e;rcases Z5.mp F with z|z
 rw[z,Y];exact XS q1;exact(f2 b z).2.2.2.2.1 x c (M e);show X.base.objs.size<=j.heap.objs.size;have:=oT I.ok.sx I.sz;lia;have J:=(I.bs b o e).1;have Fj:b∈D::w:=F;rcases Z5.mp Fj with z|z
 have:=Gc J;rw[z,Y] at this;exact Zt _ this;rcases (f2 b z).2.2.2.1 with q|q
 exact I.ok.AE b o e q;exact absurd (XG (Gc (I.ok.bs b o e).1) q) (Zt _);have Bi:=hf;have Fj:b∈D::w:=F;rcases Z5.mp Fj with z|z
 rcases Z5.mp (I.AG b Bi) with q|q
 have:=I.lt;rw[<-q,z,Y] at this;exact Zt _ this;exact I.K1 (by lia) q;rcases Z5.mp (I.AG b Bi) with q|q
 exact(f2 b z).2.1 q;exact(f2 b z).2.2.1 q;exact PySem.Heap.FunFrames.of_keeps (λb o e _=>pQ o (W b o e) O) I.stack;rw[a'];exact I.E;have hi:g.length<=i:=by
  by_cases hi:i<g.length;exfalso;rw[X4 (by simpa using hi),Yi] at J;cases q:g[i]? with
  |none=>rw[q] at J;cases J
  |some y=>rw[q] at J;cases J
  exact Zv hi
 have U:(g++n.map (·.1))[i]?=some x:=e1;rw[YI hi,Yi] at U;rw[YI (by simpa using hi),Y9] at J;unfold cN at J;rw[Yi] at J;cases q:n[i - g.length]? with
 |none=>rw[q] at U;cases U
 |some p=>
  rw[q] at U J;have ex:p.1=x:=X8 U;have ev:(s[p.2]?).join=some v:=X8 J;obtain⟨g1,g2⟩:=S.fvs p (X_ q);rw[ex] at g1 g2;have f':s[p.2]?=some (some v):=by
   cases z:s[p.2]? with
   |none=>rw[z] at ev;cases ev
   |some o=>rw[z] at ev;rw[show o=some v from ev]
  have Q:=S.free _ (KB g2) O;obtain⟨m2,kZ,hl⟩:=I.G;obtain⟨u,r,l⟩:=hl p.2 x v g1 f' (by rcases Q with k|k;exact .inr (.inl k);exact .inr (.inr k));refine pQ u r (.inr ?_);rcases l with⟨k,_⟩|⟨_,c,ec,z⟩
  rcases Q with k'|k'<;>(rw[k] at k';cases k')
  refine tL (h' x g2) c ?_ ?_;obtain⟨c',e'⟩:=Fg a.names [] x (.inl<|KB g2);have:=M e';rw[ec] at this;cases this;exact lf g2 e';obtain⟨o,ho,L⟩:=z;exact pQ o (k4 c o<|W c o ho) L
 rcases V e with e|e
 exact qX none ((N.empty x c e).1);obtain⟨v,o,ho,L⟩:=I.cell x c (M e);exact q9 v o (k4 c o<|W c o ho) L;rw[Z,h3];exact Nat.le_succ _;show(g.map (λ_=>none)++cN s n).length=(g++n.map (·.1)).length;simp[cN]
end
structure MK(Φ:Cx->Prop)(P:BT)(w:A9)(K:Frag)(tg:Expr)(J:It)(fp:lV)(it:z4)(tn:Nat->Do->Prop):Prop where
 mem:it∈fp
 obj:∀i h,tn i h->∀b∈fp,∃o,h.get? b=some o/\∀v,o.data≠ .cell v
 keep:∀i h h',tn i h->(∀b∈fp,∀o,h.get? b=some o->h'.get? b=some o)->tn i h'
 item:∀(X:Cx),X.prog=P->X.w=w->X.K=K->Φ X->∀(i:Nat)(B':cr)(s:AC)(σ:St)(H:Hp)(E:ce),d4 X B' σ H s->(∀b∈fp,ka X B' H b)->tn i s.heap->J.go i H->
  wpAny (model P w) X.A (pyNext (.ref it)) (λr s1=>∃u,r=some u/\
   wpAny (model P w) X.A (letOwnedTupleGo tg (.ref it) u) (λ_ s2=>∃x H',d4 X B' σ H' s2/\YD x u/\J.gh i H x H'/\tn (i+1) s2.heap/\∀b∈fp,H' b=none) E s1) E s
 done:∀(X:Cx),X.prog=P->X.w=w->X.K=K->Φ X->∀(i:Nat)(B':cr)(s:AC)(σ:St)(H:Hp)(E:ce),d4 X B' σ H s->(∀b∈fp,ka X B' H b)->tn i s.heap->J.stop i H->
  wpAny (model P w) X.A (pyNext<|.ref it) (λr s1=>r=none/\d4 X B' σ H s1) E s
 self:∀(A:Db)(i:Nat)(s:AC)(Q:ce)(E:ce),tn i s.heap->Q (.ref it) s->wpAny (model P w) A (pyIter<|.ref it) Q E s
def Fl(g:Cx->Prop)(X:Cx)(j i:Expr)(h:TI):Prop:=
 ∀(B:cr)(s:AC)(c:St)(H:Hp)(R:It->Hp->Prop),d4 X B c H s->h c H R->
  wpAny (model X.prog X.w) X.A (eval i X.env) (λv l=>wpAny (model X.prog X.w) X.A (pyIter v) (λk e=>
   ∃(f:z4)(p:lV)(t:Nat->Do->Prop)(J:It)(d:Hp),k=.ref f/\d4 X B c d e/\MK g X.prog X.w X.K j J p f t/\t 0 e.heap/\(∀b∈p,ka X B d b)/\R J d) X.a l) X.a s
abbrev aoD(X:Cx):Prop:=X.calm=true
theorem PI.p{w:TI}(h:PI X t i w):Fl aoD X t i w:=λB s a H R I q=>
 aI (h B s a H R I q) λv m d=>aI d λA l h=>by
  obtain⟨c,g,n,J,k,e,j,T,b,f,r⟩:=h;exact sU c g n J k e j ⟨T.mem,T.obj,T.keep,T.item,T.done,T.self⟩ b f r
section
variable{X:Cx}{G:cr}{A:St}{H:Hp}{w:AC}{a:Scope}{l:bn}{f:lv}{Y K N:Expr}{B:le}{d:Pos}{J:It}{j:lV}{R:z4}{P:Nat->Do->Prop}{L:wv}{M:Option TT}{U:TE}{k:VK}{Z:AT->z4->Result->AC->Prop}{E:ce}
def Fm(e:Hp->Prop)(X:Cx)(a:Scope)(l:bn)(f:lv)(K:Expr)(L:wv):Prop:=
 ∀(h:lV)(C:z4)(s:AC)(H:Hp),e H->∃g,PG (jq X a (l++f.map (·.1)) h C s H) K g/\
  ∀(x:V)(p c:St)(b:Hp)(Q:x0),p.length=l.length->jR X.K L x b (λd=>d.length=l.length->Q (d.map some++c) b)->g x (p++c) b Q
def xY(X:Cx)(a:Scope)(l:bn)(f:lv)(K:Expr)(L:wv):Prop:=
 ∀(e:lV)(C:z4)(s:AC)(H:Hp),∃g,PG (jq X a (l++f.map (·.1)) e C s H) K g/\
  ∀(x:V)(p c:St)(b:Hp)(Q:x0),p.length=l.length->jR X.K L x b (λd=>d.length=l.length->Q (d.map some++c) b)->g x (p++c) b Q
def xZ(X:Cx)(a:Scope)(N:bn)(B:le)(M:Option TT):Prop:=
 match M with
 |none=>B=[]
 |some t=>∃c,B=[c]/\∀(e:lV)(C:z4)(s:AC)(H:Hp),PT (jq X a N e C s H) c t
theorem ML(S:mv X a l f)(hc:∀V:Cx,V.A=X.A->V.calm=X.calm->V.H=H->Φ V)(o':Ψ H)(hg:Fm Ψ X a l f K L)(ht:xZ X a (l++f.map (·.1)) B M)(he:∀(ex:lV)(C:z4)(s:AC)(H:Hp),PE (jq X a (l++f.map (·.1)) ex C s H) Y U)(I:d4 X G A H w)(T:MK Φ X.prog X.w X.K K J j R P)(st:P 0 w.heap)(f2:∀b∈j,ka X G H b)(h:∃W:Nat->Nat->bi->Hp->Prop,(∃m,W 0 m [] H)/\∀i m ys H2,W i m ys H2->
   (J.stop i H2/\∀p,H2 p=none->k (.r p) (fy H2 p<|.l ys))\/
   (J.go i H2/\∀x H3,J.gh i H2 x H3->jR X.K L x H3 λxs=>
    k_ M (xs.map some++cN A f) H3 λb H5=>
     if b=true then U (xs.map some++cN A f) H5 λy H6=>ys.length<sizeLine/\∃m',m'<m/\W (i+1) m' (ys++[y]) H6
     else ∃m',m'<m/\W (i+1) m' ys H5))(q':∀D C H' s' m,d4 X G A H' s'->s'.heap.Ns C m->H' C=none->C≠X.env.locals->X.S.heap.objs.size<=C->(∀x c,X.env.cells.lookup x=some c->c≠C)->(∀p∈X.n++G,p.1≠C)->k (.r D) H'->Z (.ref D) C (.ok .next) s'):
  wpAny (model X.prog X.w) X.A (newList []) (λXL W'=>wpAny (model X.prog X.w) X.A (newFunctionEnv a X.env.globals (dA X.env.cells a.names []) [] X.env.qual none .none (some X.env)) (λMM a'=>
   codeAny (model X.prog X.w) X.A (.compStart (.ListComp Y [⟨K,N,B,0⟩] a d) 0 (.ref R) XL {MM with scope:=relabel a X.env}) (Z XL MM.locals) a') E W') E w:=by
 obtain⟨W,⟨m0,w0⟩,h'⟩:=h;refine PP<|aaw λb' Bj Bk ck=>?_;dsimp only at Bj Bk ck⊢;generalize vy:({w with heap:=w.heap.push {cls:=.type "list",dict:=none,data:=.seq ([]:ge).toArray}}:AC)=W';have x9:w.heap.push {cls:=.type "list",dict:=none,data:=.seq ([]:ge).toArray}=W'.heap:=by rw[<-vy]
 rw[x9] at Bj Bk ck⊢;have MN:W'.os=w.os:=by rw[<-vy]
 have u':W'.gens=w.gens:=by rw[<-vy]
 have sW:W'.heap.objs.size=w.heap.objs.size+1:=by rw[<-x9,Pi]
 have k3:∀b o,w.heap.get? b=some o->W'.heap.get? b=some o:=λb o e=>by rw[<-x9];exact GT _ e
 have k4:=Bk;have gD:W'.heap.get? w.heap.objs.size=some {cls:=.type "list",dict:=none,data:=.seq ([]:ge).toArray}:=by rw[<-x9];exact IN _ O
 generalize eD:w.heap.objs.size=D at gD;generalize eC:W'.heap.objs.size=C at Bj Bk ck⊢;have Bl:D≠C:=by rw[<-eD,<-eC,sW];exact XS (Zf _)
 have xX:∀b∈j,∃o,w.heap.get? b=some o:=λb Q=>by obtain⟨o,e,_⟩:=T.obj 0 _ st b Q;exact qX o e
 have MO:∀b∈j,b≠D:=λb Q=>by obtain⟨o,e⟩:=xX b Q;rw[<-eD];exact XS (Gc e)
 have p':∀b∈j,b≠C:=λb Q=>by
  obtain⟨o,e⟩:=xX b Q;have:=Gc e;rw[<-eC,sW];exact XS (YF this)
 generalize eX:jq X a (l++f.map (·.1)) (D::j) C W' H=V;have I4:∀t,d4 V [] (l.map (λ_=>none)++cN A f) H {W' with heap:=b',toks:=t}:=λt=>by
  rw[<-eX];exact aaF S I f2 xX MN u' k3 eD.symm sW eC.symm k4 Bj ck
 have xL:V.env.locals=C:=by rw[<-eX];rfl
 have x_:V.ex=D::j:=by rw[<-eX];rfl
 have k':V.fs=bL X.stack:=by rw[<-eX];rfl
 have xP:V.prog=X.prog:=by rw[<-eX];rfl
 have xw:V.w=X.w:=by rw[<-eX];rfl
 have xK:V.K=X.K:=by rw[<-eX];rfl
 have xA:V.A=X.A:=by rw[<-eX];rfl
 have xc:Φ V:=hc V xA (by rw[<-eX];rfl) (by rw[<-eX];rfl);have MP:V.n=[]:=by rw[<-eX];rfl
 have Fn:V.a=λ_ _=>False:=by rw[<-eX];rfl
 have Fo:V.env=compEnvC a (cellsFrom (C+1) a.names<|dA X.env.cells a.names []) C X.env:=by rw[<-eX];rfl
 have cF:=λx c e b Q=>((I4 0).ok.KZ b (by rw[x_];exact Q)).2 x c e;have sF:∀b∈D::j,b∉V.fs:=λb Q hf=>by
  have:=(I4 0).ok.AF b (by rw[x_];exact Q);exact this hf
 have sD:∀{H':Hp}{oD:Obj},(∀b∈j,H' b=none)->∀b∈j,ka V [(D,oD)] H' b:=λhn b Q=>
  ⟨hn b Q,by rw[xL];exact p' b Q,sF b (Yl _ Q),.inl (by rw[x_];exact Yl _ Q),λx c e=>cF x c e b (Yl _ Q),λp hp=>by
   rw[MP] at hp;rcases ZF.mp (show p∈ [(D,_)] from hp) with rfl
   exact(MO b Q).symm⟩
 have d':∀a':AC,a'={W' with heap:=b'}->
   codeAny (model X.prog X.w) X.A (.compLoop (.ListComp Y [⟨K,N,B,0⟩] a d) 0 (.ref R) (.ref D)<|compEnvC a (cellsFrom (C+1) a.names<|dA X.env.cells a.names []) C X.env) (Z (.ref D) C) a':=by
  rintro a' rfl;refine aaB (λn s'=>mR λi c' ys ar nn H'=>eT (d4 V [(D,{cls:=.type "list",data:=.seq (List.toArray ar) nn})] (c'++cN A f) H' s') (c'.length=l.length) (P i s'.heap) (∀b∈j,H' b=none) (Xz ys ar) (ys.length<=sizeLine) (W i n ys H')) ?_ m0
   ⟨0,l.map<|λ_=>none,[],[],0,H,(I4 _).vg<|λp hp=>?_,by simp,T.keep 0 _ _ st<|λb _ o e=>k4 b o<|k3 b o e,λb Q=>(f2 b Q).1,.nil,nE _,w0⟩
  rotate_left
  have vz:=ZF.mp hp;subst vz;refine⟨k4 _ _ gD,I.aE.fresh<|Y8 eD,by rw[xL];exact Bl,sF D YL,λv z=>by cases z⟩;rintro n s' ⟨i,c',ys,ar,nn,H',I',oU,ig,MQ,hv,hz,w'⟩;have z':=I'.pin (D,_) (Yc _ YL);rcases h' i n ys H' w' with⟨i',qn⟩|⟨go,j'⟩
  have td:=T.done V xP xw xK xc i _ s' _ H' (λ_ _=>False) I' (sD MQ) ig i';rw[xA] at td;refine aI td λr s1 h=>?_;obtain⟨hr,I1⟩:=h;subst hr;have Fp:=I1.pin (D,_) (Yc _ YL);have b1:=I1.base;rw[k',x_] at b1;have MR:V.S=W':=by rw[<-eX];rfl
  have r':V.H=H:=by rw[<-eX];rfl
  rw[MR,r'] at b1;have nD:∀b o,w.heap.get? b=some o->b∉j->b∉D::j:=λb o e Q hm=>by
   rcases Z5.mp hm with z|z
   have:=Gc e;rw[z,eD] at this;exact Zt _ this;exact Q z
  have un:Un (bL X.stack) j H H' w.heap s1.heap:=⟨λb o e nb Q hx=>b1.keep b o (k3 b o e) nb Q (nD b o e hx),λb o e nb Q hx=>b1.slot b o (k3 b o e) nb Q (nD b o e hx),λb o e nb hx=>b1.free b o (k3 b o e) nb (nD b o e hx),
   λb o e hx=>b1.there b o (k3 b o e) (nD b o e hx),b1.dS,b1.iM,b1.jj⟩
  have n':s1.os=w.os:=by rw[I1.os,MR,MN]
  have MT:=I1.aE;rw[xP,xw] at MT;have J1:d4 X G A H' s1:=I.Ey n' un MT I1.E λb Q=>⟨(f2 b Q).2.2.2.1,(f2 b Q).2.1,(f2 b Q).2.2.2.2.1,(f2 b Q).2.2.2.2.2⟩;have x':∀x c,X.env.cells.lookup x=some c->c≠D:=λx c e=>by
   obtain⟨v,q⟩:=I.cell x c e;rw[<-eD];exact XS q.lt
  have y':∀x c,X.env.cells.lookup x=some c->c≠C:=λx c e=>by
   obtain⟨v,q⟩:=I.cell x c e;rw[<-eC,sW];exact XS (YF q.lt)
  have pD:∀p∈X.n++G,p.1≠D:=λp hp=>by rw[<-eD];exact XS (Gc (I.pin p hp).1)
  have pC:∀p∈X.n++G,p.1≠C:=λp hp=>by
   rw[<-eC,sW];exact XS (YF<|Gc (I.pin p hp).1)
  have lD:D≠X.env.locals:=by rw[<-eD];exact Hd I.lt
  have lC:C≠X.env.locals:=by
   rw[<-eC,sW];exact Hd (YF I.lt)
  have J2:d4 X G A (fy H' D<|.l ys) s1:=d4.MD J1 Fp.2.1 (by rw[<-eD];exact I.sz) lD x' pD (uJ hz ar ⟨nn,hv,Fp.1⟩);obtain⟨mC,MU,_⟩:=I1.G;rw[xL] at MU;have fC:H' C=none:=by have:=I1.free;rw[xL] at this;exact this
  exact q' D C _ s1 mC J2 MU (by rw[aw<|GE Bl];exact fC) lC (by rw[<-eC,sW];exact Nat.le_succ_of_le I.sz) y' pC<|qn D Fp.2.1;have ti:=T.item V xP xw xK xc i _ s' _ H' (λ_ _=>False) I' (sD MQ) ig go;rw[xA] at ti;refine aI ti λr s4 h=>?_;obtain⟨u,hr,h4⟩:=h;subst hr;refine aI h4 λ_ s5 h=>?_;obtain⟨x,H5,I5,r5,y5,sG,EI⟩:=h;have xF:=I5.pinned (sD EI) (T.obj _ _ sG);obtain⟨g,pg,gq⟩:=hg (D::j) C W' H o';rw[eX] at pg;have rd:=j' x H5 y5;have MV:=pg _ s5 _ H5 x u (λg' H6=>XY λ(xs:bi)=>XB (g'=xs.map some++cN A f) (xs.length=l.length) (H6=H5) (k_ M (xs.map some++cN A f) H5 λb H5=>
    if b=true then U (xs.map some++cN A f) H5 λy H6=>ys.length<sizeLine/\∃m',m'<n/\W (i+1) m' (ys++[y]) H6
    else ∃m',m'<n/\W (i+1) m' ys H5)) xF r5 (gq x c' (cN A f) H5 _ oU (by
     cases L with
     |none=>exact λhl=>⟨_,O,hl,O,rd⟩
     |some k0=>exact Tf rd λxs rd hl=>⟨xs,O,hl,O,rd⟩))
  rw[xA,xP,xw,Fn,Fo] at MV;refine aI MV λ_ s6 h=>?_;obtain⟨g',H6,I6,xs,e6,kh,eH,MW⟩:=h;subst e6 eH;have MZ:∀{H7:Hp}{f':St}{s7:AC},d4 V ([(D,{cls:=.type "list",data:=.seq (List.toArray ar) nn})]++vk j s5.heap) f' H7 s7->P (i+1) s7.heap/\(∀b∈j,H7 b=none)/\s7.heap.get? D=some {cls:=.type "list",data:=.seq (List.toArray ar) nn}/\H7 D=none:=λ{H7 f' s7} I7=>by
   refine⟨T.keep _ _ _ sG λb Q o e=>(I7.pin (b,o)<|Yc _<|Yc _<|AQ Q e).1,λb Q=>?_,?_,?_⟩;obtain⟨o,e,d1⟩:=T.obj _ _ sG b Q;exact(I7.pin (b,o)<|Yc _<|Yc _<|AQ Q e).2.1;exact(I7.pin (D,_)<|Yc _<|ZX _ YL).1;exact(I7.pin (D,_)<|Yc _<|ZX _ YL).2.1
  have e':wpAny (model X.prog X.w) X.A (forIn B true λc r=>if r=true then do let ok <-isTrue c (compEnvC a (cellsFrom (C+1) a.names<|dA X.env.cells a.names []) C X.env) (eval c<|compEnvC a (cellsFrom (C+1) a.names<|dA X.env.cells a.names []) C X.env);pure (ForInStep.yield ok) else pure (ForInStep.yield r))
    (λok s7=>∃H7,d4 V ([(D,{cls:=.type "list",data:=.seq (List.toArray ar) nn})]++vk j s5.heap) (xs.map some++cN A f) H7 s7/\
     if ok=true then U (xs.map some++cN A f) H7 λy H6=>ys.length<sizeLine/\∃m',m'<n/\W (i+1) m' (ys++[y]) H6
     else ∃m',m'<n/\W (i+1) m' ys H7) (λ_ _=>False) s6:=by
   cases M with
   |none=>
    have vA:B=[]:=ht;subst vA;exact wpAny_tests_nil (pQ _ I6 MW)
   |some t=>
    obtain⟨c,vA,pt⟩:=(show ∃c,B=[c]/\∀(ex:lV)(C:z4)(s:AC)(H:Hp),PT (jq X a (l++f.map (·.1)) ex C s H) c t from ht);subst vA;have M0:=pt (D::j) C W' H;rw[eX] at M0;have q:=M0 _ s6 _ _ _ I6 MW;rw[xA,xP,xw,Fn,Fo] at q;exact wpAny_tests_one<|aI q (by rintro b s7 ⟨H7,I7,q7⟩;exact pQ H7 I7 q7)
  refine aI e' λok s7 h=>?_;obtain⟨H7,I7,q7⟩:=h;cases ok with
  |false=>
   simp only[An,if_false] at q7⊢;obtain⟨m',hm,w7⟩:=q7;obtain⟨t7,f7,d7,n7⟩:=Yq (MZ I7);refine pQ m' hm ⟨i+1,xs.map some,ys,ar,nn,H7,I7.vg<|λp hp=>?_,by simpa using kh,t7,f7,hv,hz,w7⟩;exact I7.pin p<|Yc _<|ZX _ hp
  |true=>
   simp only[if_true] at q7⊢;have q:=he (D::j) C W' H;rw[eX] at q;have q:=q _ s7 _ H7 _ I7 q7;rw[xA,xP,xw,Fn,Fo] at q;refine aI q λuy s8 h=>?_;obtain⟨y,H8,I8,r8,aR,m',hm,w8⟩:=h;obtain⟨t8,f8,d8,n8⟩:=Yq (MZ I8);have hl:=hv.length;refine KK UV (pQ _ d8 O) F.entry_list_append (F.args_list_append_2 _ _) (PySem.list_append D ar.toArray nn uy (by rw[KW];lia)) ⟨d8,?_⟩;have I9:=λt=>
    (I8.vg (pins':=[])<|λp hp=>absurd hp (by simp)).turned (i:=D) (C:=t) (λb o Q e=>(On s8.heap (Obj.mapSeq (·.push uy))<|GE Q).trans e) n8 (by rw[xL];exact Bl) (.inl (by rw[x_];exact YL)) (λx c e=>cF x c e D YL)
     (λp hp=>by rw[MP] at hp;exact absurd hp (by simp))
   have g9:=PySem.IsL.update d8 (·.push uy);obtain⟨n9,v'⟩:∃n9,(s8.heap.update D (Obj.mapSeq (·.push uy))).get? D=some {cls:=.type "list",data:=.seq (ar++[uy]).toArray n9}:=
    qX _ (by rw[show(ar++[uy]).toArray=ar.toArray.push uy by simp];exact g9)
   refine pQ m' hm ⟨i+1,xs.map some,ys++[y],ar++[uy],n9,H8,(I9 _).vg<|λp hp=>?_,by simpa using kh,?_,f8,hv.append<|.cons r8 .nil,?_,w8⟩;have vz:=ZF.mp hp;subst vz;exact⟨v',n8,by rw[xL];exact Bl,sF D YL,λv z=>by cases z⟩;exact T.keep _ _ _ t8 λb Q o e=>(On s8.heap (Obj.mapSeq (·.push uy))<|GE<|MO b Q).trans e;rw[Yy,Z0];exact ZV aR
 have l':P 0 b':=T.keep 0 _ _ st λb _ o e=>k4 b o (k3 b o e);have e4:({w with heap:=b'}:AC)={W' with heap:=b'}:=by rw[<-vy]
 exact codeAny_compStart_list (d' _ e4)<|T.self X.A 0 _ _ _ l'<|d' _ e4
end
section
variable{X:Cx}{c:Scope}{f:bn}{d:lv}{l g j:Expr}{n:le}{w:Pos}{p:TI}{r:wv}{t:Option TT}{u:TE}
theorem aaU(S:mv X c f d)(Y:∀H,y H->∀i:Cx,i.A=X.A->i.calm=X.calm->i.H=H->E i)(a:∀B k H s,d4 X B k H s->y H)(U:Fl E X g j p)(V:Fm y X c f d g r)(M:xZ X c (f++d.map (·.1)) n t)(W:∀(ex:lV)(C:z4)(s:AC)(H:Hp),PE (jq X c (f++d.map (·.1)) ex C s H) l u)(N:autoParam (∀x,foldedSetIterable j X.env x=pure x) bq):
  PE X (.ListComp l [⟨g,j,n,0⟩] c w) (sT X.K p r d t u):=by
 intro B s k H Q I h;refine wpAny_comprehension_free O N (S.MH I) S.kind S.locals<|aI (U B s k H _ I h) λv s1 h1=>aI h1 λsA s2 h2=>?_;obtain⟨it,fp,tn,J,H2,zq⟩:=YE h2;obtain⟨e,z,T,F,f2,hW⟩:=Gi zq;subst e;refine ML S (Y H2<|a _ _ _ _ z) (a _ _ _ _ z) V M W z T F f2 hW ?_;intro D C H' s' m I' L R hL h0 Bn P q;exact⟨m,L,λh' G=>⟨.r D,H',I'.turned (λb o Z e=>G.extBut b o Z e) R hL (.inr h0) Bn P,O,q⟩⟩
theorem aaV{R:Pos}(hN:X.N.Nodup)(e9:X.N[i]?=some y)(hy:ZQ X.env.scope y)(Fq:swapsWith (.ListComp l [⟨g,j,n,0⟩] c w) (some<|.Name y U) R.line X.env=pure true)(S:mv X c f d)(hc:∀H,G H->∀F:Cx,F.A=X.A->F.calm=X.calm->F.H=H->Y F)(B:∀Q E H s,d4 X Q E H s->G H)(hi:Fl Y X g j p)(hg:Fm G X c f d g r)(ht:xZ X c (f++d.map (·.1)) n t)(he:∀(ex:lV)(C:z4)(s:AC)(H:Hp),PE (jq X c (f++d.map (·.1)) ex C s H) l u)(hs:autoParam (∀x,foldedSetIterable j X.env x=pure x) bq)(hf:autoParam (X.fn y=true\/X.env.scope.names.lookup y=some .local) ag):
  PS X (.Assign [.Name y U] (.ListComp l [⟨g,j,n,0⟩] c w) R) (mj (sT X.K p r d t u)<|gH i):=by
 intro Q s E H D I h;rw[exec_Assign_Name_used _ _ _ _ Fq];refine FI<|Os<|FI ?_;refine FI (Id (wpAny_comprehension_free O hs (S.MH I) S.kind S.locals
  (aI (hi Q s E H _ I h) λv s1 h1=>aI h1 λsA s2 h2=>?_)) (λ_ s' hq=>Go (Go hq)) λ_ _ e=>e)
 obtain⟨it,fp,tn,J,H2,zq⟩:=YE h2;obtain⟨e,P,T,Z,f2,hW⟩:=Gi zq;subst e;refine ML (k:=λx H1=>gH i x E H1 D.nx) S (hc H2<|B _ _ _ _ P) (B _ _ _ _ P) hg ht he P T Z f2 hW ?_;intro Da C H' s' m I' ns hn V h0 W hp q;refine wpAny_assign_Name<|K5 I' hN e9 hy (v:=.r Da) O (λs4 I4 ⟨a,sb,ha⟩=>?_) hf;have M:C≠a:=by
  rcases ha with z|z
  rw[z];exact V;exact GE (W _ _ z)
 exact pQ m (ns.sameBut sb M) (λh' L=>q9 _ H' (I4.turned (λb o hb e=>L.extBut b o hb e) hn V (.inr h0) W hp) q)
theorem aaY(S:mv X c f d)(o:X.calm=true)(i:PI X g j p)(k:xY X c f d g r)(h:xZ X c (f++d.map (·.1)) n t)(m:∀(a:lV)(C:z4)(s:AC)(H:Hp),PE (jq X c (f++d.map (·.1)) a C s H) l u)(b:autoParam (∀x,foldedSetIterable j X.env x=pure x) bq):
  PE X (.ListComp l [⟨g,j,n,0⟩] c w) (sT X.K p r d t u):=
 aaU S (λY Y q Y e Y=>e.trans o) (λY Y Y Y Y=>trivial) i.p (λa C s H Y=>k a C s H) h m b
theorem aaZ{b:Pos}(D:X.N.Nodup)(E:X.N[i]?=some y)(k:ZQ X.env.scope y)(F:swapsWith (.ListComp l [⟨g,j,n,0⟩] c w) (some<|.Name y h) b.line X.env=pure true)(S:mv X c f d)(B:X.calm=true)(q:PI X g j p)(v:xY X c f d g r)(m:xZ X c (f++d.map (·.1)) n t)(A:∀(a:lV)(C:z4)(s:AC)(H:Hp),PE (jq X c (f++d.map (·.1)) a C s H) l u)(o:autoParam (∀x,foldedSetIterable j X.env x=pure x) bq)(z:autoParam (X.fn y=true\/X.env.scope.names.lookup y=some .local) ag):
  PS X (.Assign [.Name y h] (.ListComp l [⟨g,j,n,0⟩] c w) b) (mj (sT X.K p r d t u)<|gH i):=
 aaV D E k F S (λY Y G Y e Y=>e.trans B) (λY Y Y Y Y=>trivial) q.p (λa C s H Y=>v a C s H) m A o z
end
section
variable{X:Cx}{c:Scope}{m:lv}
theorem FB(h:c.names.lookup x=some .cell):(relabel c e).names.lookup x=some .cell:=(Fh c.names x).trans (by rw[h];rfl)
theorem aa1(l:ZQ c x)(B:(x::m.map (·.1)).Nodup):xY X c [x] m (.Name x d) none:=by
 intro f C s H;have b:ZQ (jq X c ([x]++m.map (·.1)) f C s H).env.scope x:=l.imp ST FB;refine⟨gH 0,AL B O b<|l.elim (λl=>.inr<|ST l) λl=>.inl (Y4 l),λv p g i Q e h=>?_⟩;obtain⟨a,rfl⟩:∃a,p=[a]:=by
  rcases p with _|⟨a,_|_⟩ <;>first|exact⟨a,O⟩|cases e
 exact h O
theorem aa3(D:X.calm=true)(A:c.names.lookup x=some .local)(z:c.names.lookup y=some .local)(P:(x::y::m.map (·.1)).Nodup):xY X c [x,y] m (.Tuple [.Name x n,.Name y l] k g) (some 2):=by
 intro E C s H;generalize eX:jq X c ([x,y]++m.map (·.1)) E C s H=d;have j:d.N=x::y::m.map (·.1):=eX▸O;have t:d.calm=true:=eX▸D;have r:d.env.scope.names.lookup x=some .local:=eX▸ST A;have o:d.env.scope.names.lookup y=some .local:=eX▸ST z;have w:PG d (.Name x n) (gH 0):=AL ba (j▸O) (.inl r) (.inr r);have u:PG d (.Name y l) (gH 1):=AL ba (j▸O) (.inl o) (.inr o);have J:d.K=X.K:=eX▸O;refine pQ (Lv d.K 2<|AM (gH 0)<|AM (gH 1) ED) (Lw t<|EE w<|EE u Lu) (λv p I M Q B h=>?_);obtain⟨a,b,rfl⟩:∃a b,p=[a,b]:=by
  rcases p with _|⟨a,_|⟨b,_|_⟩⟩ <;>first|exact uA a b O|cases B
 obtain⟨G,i,rfl,L,F,q⟩:=h;obtain⟨f,e,rfl⟩:∃f e,i=[f,e]:=by
  rcases i with _|⟨f,_|⟨e,_|_⟩⟩ <;>first|exact uA f e O|cases F
 exact tA G _ O ba O f _ O e _ O O (q O)
theorem bG.imp(h:bG X f r)(i:∀x y H Q,a x y H Q->r x y H Q):bG X f a:=λB s b H x y v u Q I d c q=>h B s b H x y v u Q I d c (i _ _ _ _ q)
theorem d0.imp(h:d0 X f r)(i:∀x H Q,a x H Q->r x H Q):d0 X f a:=λB s b H x u Q I v q=>h B s b H x u Q I v (i _ _ _ q)
def M4(K:Frag):R2:=λx y H Q=>match x,y with
 |.i i,.i j=>Q (.i<|i+j) H
 |.s i,.s j=>i.length+j.length<=sizeLine/\Q (.s<|i++j) H
 |.r l,.r b=>Mo (.r l) (.r b) H Q\/Md K (.r l) (.r b) H Q
 |_,_=>False
theorem aa4:bG X (binaryOp .Add) (M4 X.K):=by
 refine bG.imp ((acA.or aaT).or<|amN.or akF) λx y H Q h=>?_;cases x<;>cases y<;>first
  |exact False.elim h
  |exact .inl (.inl ⟨_,_,O,O,h⟩)
  |exact .inl (.inr ⟨_,_,O,O,h⟩)
  |exact .inr h
def nU(C:Int->Int->Prop)(g:Int->Int->V):R2:=λx y H Q=>match x,y with
 |.i i,.i j=>C i j/\Q (g i j) H
 |_,_=>False
theorem Fs(x y:V)(H:Hp)(Q:VK)(h:nU C g x y H Q):rI C g x y H Q:=by
 cases x<;>cases y<;>first
  |exact False.elim h
  |exact⟨_,_,O,O,h⟩
theorem yb(x y:V)(H:Hp)(Q:VK)(h:nU (λY Y=>True) g x y H Q):oQ g x y H Q:=by
 cases x<;>cases y<;>first
  |exact False.elim h
  |exact⟨_,_,O,O,h.2⟩
def M5:R2:=λx y H Q=>match x,y with
 |.i i,.i j=>xG i j/\Q (.i<|i*j) H
 |.r l,.i k=>Mp (.r l) (.i k) H Q
 |_,_=>False
theorem aa5:bG X (binaryOp .Mult) M5:=by
 refine bG.imp (amR.or aoT) λx y H Q h=>?_;cases x<;>cases y<;>first
  |exact False.elim h
  |exact .inl ⟨_,_,O,O,h⟩
  |exact .inr h
def kj(K:Frag):Operator->R2
 |.Add=>M4 K
 |.Sub=>nU (λ_ _=>True) λi j=>.i (i - j)
 |.Mult=>M5
 |.FloorDiv=>nU EK λi j=>.i (i / j)
 |.Mod=>nU (λ_ j=>0<j) λi j=>.i (i % j)
 |.Pow=>nU LK λi j=>.i (i ^ j.toNat)
 |_=>λ_ _ _ _=>False
theorem aa6(o:Operator):bG X (binaryOp o) (kj X.K o):=by
 cases o<;>first
  |exact aa4
  |exact bG.imp abE yb
  |exact aa5
  |exact bG.imp akG Fs
  |exact bG.imp amK Fs
  |exact bG.imp amJ Fs
  |exact λY Y Y Y Y Y Y Y Y Y Y Y h=>False.elim h
mutual
def Is(H:Hp):EQ->V->Prop
 |.none,v=>v=.a
 |.bool b,v=>v=.b b
 |.int i,v=>v=.i i
 |.str x,v=>v=.s x
 |.list xs,v=>∃a vs,v=.r a/\H a=some (.l vs)/\IsL H xs vs
 |.tuple xs,v=>∃a vs,v=.r a/\H a=some (.t vs)/\IsL H xs vs
 |.dict _,_=>False
def IsL(H:Hp):List EQ->bi->Prop
 |[],vs=>vs=[]
 |d::ds,vs=>∃v r,vs=v::r/\Is H d v/\IsL H ds r
end
mutual
theorem Is.reads{B':cr}{σ:St}{H:Hp}{s:AC}(I:d4 X B' σ H s):∀(d:EQ)(v:V)(u:AT),Is H d v->YD v u->∃as,Reads s.heap u d as
 |.none,v,u,h,r=>by rw[show v=.a from h] at r;rw[show u=.none from r];exact⟨_,.none⟩
 |.bool b,v,u,h,r=>by rw[show v=.b b from h] at r;rw[show u=.bool b from r];exact⟨_,.bool b⟩
 |.int i,v,u,h,r=>by rw[show v=.i i from h] at r;obtain⟨t,e⟩:=r;rw[e];exact⟨_,.int i t⟩
 |.str x,v,u,h,r=>by rw[show v=.s x from h] at r;obtain⟨t,e⟩:=r;rw[e];exact⟨_,.str x t⟩
 |.list xs,v,u,h,r=>by
  obtain⟨a,vs,e,hH,hl⟩:=(show ∃a vs,v=.r a/\H a=some (.l vs)/\IsL H xs vs by simpa only[Is] using h);rw[e] at r;rw[show u=.ref a from r];obtain⟨Y,ar,n,hv,hg⟩:=I.aE a _ hH;obtain⟨as,q⟩:=IsL.reads I xs vs ar hl hv;exact⟨_,.list hg rfl rfl (by simpa using q)⟩
 |.tuple xs,v,u,h,r=>by
  obtain⟨a,vs,e,hH,hl⟩:=(show ∃a vs,v=.r a/\H a=some (.t vs)/\IsL H xs vs by simpa only[Is] using h);rw[e] at r;rw[show u=.ref a from r];obtain⟨Y,ar,hv,o,hg,hc,n,hd⟩:=I.aE a _ hH;obtain⟨as,q⟩:=IsL.reads I xs vs ar hl hv;exact⟨_,.tuple hg hc hd (by simpa using q)⟩
 |.dict _,v,u,h,r=>by simp only[Is] at h
theorem IsL.reads{B':cr}{σ:St}{H:Hp}{s:AC}(I:d4 X B' σ H s):∀(ds:List EQ)(vs:bi)(us:ge),IsL H ds vs->Xz vs us->∃as,ReadsAll s.heap us ds as
 |[],vs,us,h,r=>by
  rw[show vs=[] from h] at r;cases r;exact⟨_,.nil⟩
 |d::ds,vs,us,h,r=>by
  obtain⟨v,q,e,h1,h2⟩:=(show ∃v r,vs=v::r/\Is H d v/\IsL H ds r by simpa only[IsL] using h);rw[e] at r;cases r with
  |cons r1 r2=>
   obtain⟨as,q1⟩:=Is.reads I d v _ h1 r1;obtain⟨bs,q2⟩:=IsL.reads I ds q _ h2 r2;exact⟨_,.cons q1 q2⟩
end
def aa7:V->Cl
 |.qx _=>false
 |.c _=>false
 |_=>true
def aa8:R2:=λx y H Q=>∃a b s,x=.r a/\y=.r b/\H a=some (.l s)/\H b=some (.l s)/\s.all aa7=true/\Q (.b true) H
def oX(n:Cl):R2:=λx y H Q=>match nK x y with
 |true=>Q (.b<|n ^^ decide (x=y)) H
 |false=>∃d e,Is H d x/\Is H e y/\SeqAt.shaped d=true/\SeqAt.shaped e=true/\Q (.b<|n ^^ PyData.eqv d e) H
def aa9:R2:=λx y H Q=>oX false x y H Q\/aa8 x y H Q
theorem aa_(j:X.A.units+64<cLine):bG X (compareOp .Eq) (oX false):=by
 intro B s f H x y v u Q I a r h;unfold oX at h;by_cases c:nK x y=true;rw[c] at h;simp at h;exact Yz B s f H x y v u Q I a r ⟨c,h⟩;rw[show nK x y=false by lia] at h;obtain⟨d,e,zq⟩:=ZL h;obtain⟨n,m,l,k,q⟩:=c3 zq;rw[ZZ] at q;obtain⟨p,i⟩:=Is.reads I d x v n a;obtain⟨o,g⟩:=Is.reads I e y u m r;exact eq_dataH i g l k j ⟨.b _,H,I,O,q⟩
theorem aba(j:X.A.units+64<cLine):bG X (compareOp .NotEq) (oX true):=by
 intro B s f H x y v u Q I a r h;unfold oX at h;by_cases c:nK x y=true;rw[c] at h;simp at h;exact akV B s f H x y v u Q I a r ⟨c,h⟩;rw[show nK x y=false by lia] at h;obtain⟨d,e,zq⟩:=ZL h;obtain⟨n,m,l,k,q⟩:=c3 zq;rw[KU] at q;obtain⟨p,i⟩:=Is.reads I d x v n a;obtain⟨o,g⟩:=Is.reads I e y u m r;exact ne_dataH i g l k j ⟨.b _,H,I,O,q⟩
def apD(K:Frag)(H:Hp)(a:z4):Prop:=(∃x,ax K H a x)\/(∃x,aF K H a x)\/∃h,H a=some (.d h)
def Bp(K:Frag)(n:Cl):R2:=λx y H Q=>match y with
 |.s j=>∃i,x=.s i/\Q (.b (if n then !(!(Builtin.Str.occurrences j i 0 j.length 1).isEmpty) else !(Builtin.Str.occurrences j i 0 j.length 1).isEmpty)) H
 |.r p=>match x with
  |.r _=>False
  |x=>E1 K n x (.r p) H Q
 |_=>False
theorem abb(f:X.A.units+64<cLine):bG X (compareOp .In) (Bp X.K false):=by
 intro B s b H x y v u Q I d c h;cases y with
 |s j=>
  obtain⟨i,e,q⟩:=h;exact anL B s b H x _ v u Q I d c (p4 i j e O q)
 |r p=>
  cases x with
  |r a=>exact False.elim h
  |_=>exact aoE B s b H _ _ v u Q I d c h
 |_=>exact False.elim h
theorem abc(f:X.A.units+64<cLine):bG X (compareOp .NotIn) (Bp X.K true):=by
 intro B s b H x y v u Q I d c h;cases y with
 |s j=>
  obtain⟨i,e,q⟩:=h;exact alM B s b H x _ v u Q I d c (p4 i j e O q)
 |r p=>
  cases x with
  |r a=>exact False.elim h
  |_=>exact amH B s b H _ _ v u Q I d c h
 |_=>exact False.elim h
theorem Z3{A:Db}{E:ce}{Q:ce}{v:AT}{d:Cl}(a:∀i,v≠ .builtin i)(h:Q (.bool<|v==.bool d) s):wpAny M A (compareOp .Is v<|.bool d) Q E s:=by
 cases v<;>first|exact Go h|exact absurd O (a _)
theorem abe{A:Db}{E:ce}{Q:ce}{v:AT}{d:Cl}(a:∀i,v≠ .builtin i)(h:Q (.bool<|!(v==.bool d)) s):wpAny M A (compareOp .IsNot v<|.bool d) Q E s:=by
 cases v<;>first|exact Go h|exact absurd O (a _)
def M6:R2:=λx y H Q=>match y with
 |.b b=>Q (.b<|decide<|x=.b b) H
 |_=>y=.a/\Q (.b<|decide<|x=.a) H
def M7:R2:=λx y H Q=>match y with
 |.b b=>Q (.b<|!decide (x=.b b)) H
 |_=>y=.a/\Q (.b<|!decide (x=.a)) H
theorem Ir:bG X (compareOp .Is) M6:=by
 intro B s d H x y v u Q I r c h;cases y with
 |b b=>
  cases c;have n:∀i,v≠ .builtin i:=λi z=>by
   subst z;cases x<;>first
    | (obtain⟨t,e⟩:=r;cases e)
    | (cases r)
  refine Z3 n<|cM I (show Q (.b<|decide<|x=.b b) H from h) ?_;cases x<;>first
   | (cases r;rfl)
   | (obtain⟨t,rfl⟩:=r;rfl)
   | (cases r;rename_i a;cases a<;>cases b<;>rfl)
 |_=>exact amB B s d H x _ v u Q I r c h
theorem abg:bG X (compareOp .IsNot) M7:=by
 intro B s d H x y v u Q I r c h;cases y with
 |b b=>
  cases c;have n:∀i,v≠ .builtin i:=λi z=>by
   subst z;cases x<;>first
    | (obtain⟨t,e⟩:=r;cases e)
    | (cases r)
  refine abe n<|cM I (show Q (.b<|!decide (x=.b b)) H from h) ?_;cases x<;>first
   | (cases r;rfl)
   | (obtain⟨t,rfl⟩:=r;rfl)
   | (cases r;rename_i a;cases a<;>cases b<;>rfl)
 |_=>exact ajG B s d H x _ v u Q I r c h
def dc(K:Frag):CmpOp->R2
 |.Eq=>oX false
 |.NotEq=>oX true
 |.Lt=>nU (λ_ _=>True) λi j=>.b (decide<|i<j)
 |.LtE=>nU (λ_ _=>True) λi j=>.b (decide<|i<=j)
 |.Gt=>nU (λ_ _=>True) λi j=>.b (decide<|j<i)
 |.GtE=>nU (λ_ _=>True) λi j=>.b (decide<|j<=i)
 |.In=>Bp K false
 |.NotIn=>Bp K true
 |.Is=>M6
 |.IsNot=>M7
theorem Bq(h:X.A.units+64<cLine)(o:CmpOp):bG X (compareOp o) (dc X.K o):=by
 cases o with
 |Eq=>exact aa_ h
 |NotEq=>exact aba h
 |Lt=>exact bG.imp amT yb
 |LtE=>exact bG.imp aoR yb
 |Gt=>exact bG.imp aaM yb
 |GtE=>exact bG.imp alB yb
 |In=>exact abb h
 |NotIn=>exact abc h
 |Is=>exact Ir
 |IsNot=>exact abg
inductive Ty where|i|s|b|l|t|d
 deriving DecidableEq
def Ty.nm:Ty->Fa
 |.i=> "int" |.s=> "str" |.b=> "bool" |.l=> "list" |.t=> "tuple" |.d=> "dict"
def cj(T:Ty)(x:V)(H:Hp)(Q:Cl->Prop):Prop:=match x with
 |.a=>Q false
 |.b _=>Q (T==.b ||T==.i)
 |.i _=>Q (T==.i)
 |.s _=>Q (T==.s)
 |.r a=>match H a with
  |some (.l _)=>Q (T==.l)
  |some (.c _<|.l _)=>Q (T==.l)
  |some (.t _)=>Q (T==.t)
  |some (.d _)=>Q (T==.d)
  |some (.T _)=>Q (T==.d)
  |_=>False
 |_=>False
theorem qG(K:Frag)(S T:Ty):kitOne K (.type S.nm) (.type T.nm)=some (S==T ||(S==.b && T==.i)):=by
 cases S<;>cases T<;>rfl
theorem abh(K:Frag)(T:Ty):kitOne K (.type "NoneType") (.type T.nm)=some false:=by
 cases T<;>rfl
theorem abi(e:X.calm=true):d0 X (.builtin "sum") (λx H Q=>∃(p:z4)(n:ww),x=[.r p]/\ax X.K H p (n.map V.i)/\Q (.i n.sum) H):=by
 intro B s m H x o Q I r h;obtain⟨p,n,rfl,d,q⟩:=h;obtain⟨u,rfl,c⟩:=XW r;cases c;obtain⟨j,v,l,z⟩:=I.list d;have b:=DA v;obtain⟨x,a⟩:=b.allInts.items;refine sum_intListG (I.ok.hd e) (a ▸ l.isList) λy w t k=>?_;have g:n=x.toList.map (·.1):=by
  rw[<-nums_intItems,<-a];exact(show numsOf j.toArray.toList=n from b.numsOf).symm
 have f:preSum (numAt x) x.size=n.sum:=by
  rw[preSum_eq,RP am,g]
 rw[f];exact⟨.i n.sum,H,I.kept k,⟨t,O⟩,q⟩
theorem M8:∀{a:bn}{u:ge},Xz (a.map V.s) u->∃l:List (Str×Tok),u=strValues l/\l.map (·.1)=a
 |[],_,.nil=>⟨[],O,O⟩
 |x::a,_,.cons ⟨t,e⟩ r=>by
  obtain⟨l,c,b⟩:=M8 r;subst e c;exact⟨(x,t)::l,O,by simp[b]⟩
def anH(K:Frag):V->bi->Hp->VK->Prop:=λx v H Q=>∃(a:Str)(p:z4)(t:bn),x=.s a/\v=[.r p]/\ax K H p (t.map V.s)/\JoinOk a t=true/\Q (.s<|Txt.join a t) H
theorem abj:sN X "str.join" (anH X.K):=by
 intro B s i H x m v n Q I c r h;obtain⟨b,p,o,zq⟩:=ZG h;obtain⟨rfl,rfl,f,j,q⟩:=c3 zq;obtain⟨t,rfl⟩:=c;obtain⟨u,rfl,d⟩:=XW r;cases d;obtain⟨w,r,e,z⟩:=I.list f;obtain⟨l,rfl,g⟩:=M8 r;exact SC.join e.isList g j λa k=>⟨.s _,H,I.tok k,⟨a,O⟩,q⟩
def abk:V->bi->Hp->VK->Prop:=λx v H Q=>∃z y,x=.s z/\v=[.s y]/\z.length<=sizeLine/\Q (.s<|Txt.lstripChars z y) H
theorem abl:sN X "str.lstrip" abk:=by
 intro B s e H x f v g Q I r c h;obtain⟨z,y,rfl,rfl,d,q⟩:=h;obtain⟨t,rfl⟩:=r;obtain⟨u,rfl,⟨a,rfl⟩⟩:=XW c;exact call_gives F.slot_str_lstrip (P3 _ _ _) F.entry_str_lstrip (F.args_str_lstrip_2 _ _) (gives_str_lstrip_chars z y t a)<|post_val_or_made (λY=>fits_stripped _ _ _ d) λb k=>⟨.s _,H,I.tok k,⟨b,O⟩,q⟩
def abm:V->bi->Hp->VK->Prop:=λx v H Q=>∃z y i,x=.s z/\v=[.s y,.i i]/\Q (.b<|decide (fromIndex z.length i+y.length<=z.length) && Builtin.Str.subAt z y (fromIndex z.length i)) H
theorem abn:sN X "str.startswith" abm:=by
 intro B s e H x f v g Q I r d h;obtain⟨z,y,i,rfl,rfl,q⟩:=h;obtain⟨t,rfl⟩:=r;obtain⟨u,w,rfl,⟨c,rfl⟩,⟨a,rfl⟩⟩:=Z9 d;exact call_gives F.slot_str_startswith (P3 _ _ _) F.entry_str_startswith (F.args_str_startswith_3 _ _ _) (gives_str_startswith_from z y i t c a) ⟨.b _,H,I,O,q⟩
noncomputable def oY{a:Type}(x:List a)(l h:mB):List a:=(x.drop<|HT.bh x.length 0 l).take (HT.bh x.length x.length h - HT.bh x.length 0 l)
def oZ(z:Str)(l h:mB):Str:=⟨(oY z.cps.toList l h).toArray⟩
theorem abo(z:Str)(l h:mB):((Builtin.Str.strSliceIndices l h 1 z.length).filterMap (z.cps[·]?))=oY z.cps.toList l h:=by
 obtain⟨d,c,b⟩:=EY l h z.length;have e:Builtin.Str.strSliceIndices l h 1 z.length=sliceRange (sliceBounds l h none z.length).1 (sliceBounds l h none z.length).2.1 (sliceBounds l h none z.length).2.2:=O;have a:z.cps.toList.length=z.length:=O;rw[e,d,c,b,sliceRange_one,pick_run];unfold oY;rw[a]
def Br(K:Frag)(n:Cl):R2:=λx y H Q=>∃p a d s,y=.r p/\ax K H p a/\Is H d x/\IsL H s a/\SeqAt.shaped d=true/\d.depth<=60/\(∀e∈s,SeqAt.shaped e=true)/\Q (.b<|n ^^ s.any λe=>PyData.eqv e d) H
open Classical in
end
def sX:HO:=.e λ_=>True
structure Bt(ob:Obj)(cls:AT)(vs:v0):Prop where
 cls:ob.cls=cls
 data:ob.data=.fields vs
 apE:vs[2]?=some .none
 dict:ob.dict=none
def x5(H:Hp)(e D:z4):Prop:= ∃o v,H e=some (.c o sX)/\Bt o (.ref D) v
structure abp(K:Frag)(D:z4):Prop where
 M9:findIn K (.ref D) "__getattribute__"=some (some<|.builtin "BaseException.__getattribute__")
 hgn:findIn K (.ref D) "__getattr__"=some none
 hk:(PySem.W.clsIn K D).isSome=true
 ha:findIn K (.ref D) "__class__"=some (some<|.builtin "object.__class__")
 hn:specialIn K (.builtin "object.__class__") "__get__"=some (some<|.builtin "getset_descriptor.__get__")
 jl:takesIn K (.builtin "object.__class__")=some true
 hm:mroIn K D (.type "object")=some true
 hb:mroIn K D (.type "BaseException")=some true
def alP:V->AT
 |.r a=>.ref a
 |.t n=>.type n
 |_=>.none
def M_(K:Frag):bi->Hp->VK->Prop
 |[.r e,c],H,Q=>∃D b,x5 H e D/\abp K D/\((∃C,c=.r C)\/∃n,c=.t n)/\kitOne K (.ref D) (alP c)=some b/\Q (.b b) H
 |_,_,_=>False
def abq(s:Sp)(h:v4)(t:TA):TE:=λb H Q=>t b H λv a=>(∃e D,h=some e/\x5 a e D)/\s v a Q E0
def Ft(C:z4)(E:XK)(t:TA):TS:=λ_ a H=>t a H λv b=>v.length<=sizeLine/\E (.ref C) none b
def Na(K:Frag)(C:z4)(i n:Nat)(t:z4->TS)(D:En):XK:=λs _ H=>exmOne K s (.ref C)=some true/\
 ∀(e:z4)(o:Obj)(v:v0)(V:St),H e=none->V.length=n->Bt o s v->t e {nx:=λ_ _=>False,r:=D.r} (V.set i<|some<|.r e) (fy H e<|.c o sX)
def Bv(K:Frag)(C:z4)(i n:Nat)(b:XK->TS)(t:z4->TS):TS:=λD a H=>b (Na K C i n t D) {nx:=D.nx,r:=D.r} a H
def abr(K:Frag)(C:z4)(i:Nat)(t:z4->TS)(D:En)(a:St):XK:=λs _ H=>exmOne K s (.ref C)=some true/\
 ∀(e:z4)(o:Obj)(v:v0),H e=none->Bt o s v->t e {nx:=λ_ _=>False,r:=D.r} (a.set i<|some<|.r e) (fy H e<|.c o sX)
def abt(K:Frag)(C:z4)(i k:Nat)(p:Sp)(b:TA)(t:z4->TS):TS:=λD a H=>b a H λs d=>p s d (λv c=>D.nx (a.set k<|some v) c) (abr K C i t D a)
inductive o5 where|l|m|max|s|i|t|e|abs
 deriving DecidableEq
inductive jS where|a|p|e|j|l|s|r|c|i|f|t|Nb|Fu
 deriving DecidableEq
inductive IK where|l|p|e|s|z|enm|t|abv|abw
 deriving DecidableEq
inductive RE where
 |v (i:Nat)|c (x:V)|g (j:Nat)
 |b (h:Operator)(a b:RE)|N (a:RE)
 |p (h:CmpOp)(a b:RE)|yc (h y:CmpOp) (a b d:RE)|Nc (h y Y:CmpOp) (a b d f:RE)
 |d (e:List RE)|o (e:List RE)|n (a:RE)|H (t a b:RE)
 |l (j:Nat)(e:List RE)|t (b:o5) (e:List RE)|R (T:Ty) (a:RE)
 |a (m:jS)(o:RE)(e:List RE)
 |i (a b:RE)|s (a:RE) (P Q:Option RE)
 |T (e:List RE)|L (e:List RE)
 |C (M:wv)(S:lv)(k:IK)(U:List RE)(u:Option RE)(z:RE)
 |Nf (a c:RE)|wrd (j:Nat) (a:RE)|vB|same (a b:RE)
 |aby|B (a b:RE)|vC (a b:RE)|yd (a b:RE)|abz (o a b:RE)|inD (a b:RE)|Ng (a b:RE)
 |x (T:Frag->TA->TE)(e:List RE)|xm (T:Frag->TE->TA->TE) (o:RE) (e:List RE)
 |f (o:RE)(f:Str)|q (j:Nat) (m:Str) (o:RE) (e:List RE)|m (j:Nat) (e:List RE)
abbrev on:=List RE
structure aW where
 K:Frag
 fs:Nat->Sp
 gv:Nat->V
 E:XK
 sd:z4->ii->Prop
 ms:Nat->z4×Sp
 kt:Nat->z4×Sp
 ex:Nat->z4
 hs:Nat->Sp
 h:v4
abbrev aW.calm(a:aW):aW:={a with E:=E0}
inductive RS where
 |a (i:Nat)(e:RE)|Bw (i:Nat) (e:RE)|s (o D e:RE)
 |d (e:RE)|r (e:RE)|abA
 |i (c:RE)(t e:List RS)
 |e (i:Nat)(k:IK)(w:on)(b:List RS)
 |k (h:bv)(k:IK)(w:on)(b:List RS)
 |q (c:RE)(b:List RS)
 |pass|brk|C|n
 |abB (o z E e:RE)|c (o:RE) (f:Str) (e:RE)
 |l (h:bv)(e:RE)|t (o i e:RE)|g (j:Nat) (v:on)|Fv (n i j:Nat) (b u:List RS)|abC (k i j f:Nat) (v:on) (u:List RS)
 |xs (T:aW->TS)
abbrev ga:=List RS
def nX(K:Frag)(x:V)(H:Hp)(Q:Cl->Prop):Prop:=match x with
 |.a=>Q false
 |.b b=>Q b
 |.i i=>Q (i !=0)
 |.s y=>y.length<=sizeLine/\Q ((y.length:Int) !=0)
 |.r p=>(∃c,ax K H p c/\Q (!c.isEmpty))\/(∃c,aF K H p c/\Q (!c.isEmpty))\/∃h,H p=some (.d h)/\Q (!h.isEmpty)
 |_=>False
theorem Nh{K:Frag}(h:nX K x H Q):∃k,LO K x H k/\Q k:=by
 cases x with
 |a=>exact pQ _ O h
 |b b=>exact pQ _ O h
 |i i=>exact pQ _ O h
 |s y=>exact pQ _ ⟨h.1,O⟩ h.2
 |r p=>
  rcases h with⟨c,e,d⟩|⟨c,e,d⟩|⟨c,e,d⟩
  exact pQ _ (.inl (pQ c e O)) d;exact pQ _ (.inr<|.inl ⟨c,e,O⟩) d;exact pQ _ (.inr<|.inr ⟨c,e,O⟩) d
 |_=>cases h
def iq(K:Frag)(t:TE):TT:=λc H Q=>t c H λx a=>nX K x a λb=>Q b a
def Fw(K:Frag)(t:TE):TE:=λc H Q=>t c H λx a=>nX K x a λb=>Q (.b<|!b) a
def Ni:V->Hp->VK->Prop:=λx H Q=>match x with|.i i=>Q (.i<|-i) H|_=>False
def vp(K:Frag)(x:V)(H:Hp)(Q:Nat->Prop):Prop:=match x with
 |.s y=>y.length<=sizeLine/\Q y.length
 |.r p=>(∃a,ax K H p a/\Q a.length)\/∃a,aF K H p a/\Q a.length
 |_=>False
noncomputable def Yx(x:Str):bi:=x.cps.toList.map λc=>V.s ⟨#[c]⟩
def Nj:TE:=λ_ H Q=>∀p,H p=none->Q (.r p) (fy H p<|.d [])
def lu(K:Frag):o5->bi->Hp->VK->Prop
 |.l,[x],H,Q=>vp K x H λn=>Q (.i n) H
 |.m,[.i i,.i j],H,Q=>Q (.i (if j<i then j else i)) H
 |.m,[.r p],H,Q=>∃a:ww,ax K H p (a.map V.i)/\a≠ []/\∀m:Int,m∈a->(∀n∈a,m<=n)->Q (.i m) H
 |.s,[.r p],H,Q=>∃a:ww,ax K H p (a.map V.i)/\Q (.i a.sum) H
 |.i,[.i i],H,Q=>Q (.i i) H
 |.i,[.b k],H,Q=>Q (.i (if k then 1 else 0)) H
 |.t,[.r p],H,Q=>∃y,(ax K H p y\/aF K H p y)/\∀l,H l=none->Q (.r l) (fy H l<|.l y)
 |.t,[.s x],H,Q=>x.length<=sizeLine/\∀l,H l=none->Q (.r l) (fy H l<|.l<|Yx x)
 |_,_,_,_=>False
def qI(T:Ty):bi->Hp->VK->Prop
 |[x,.t n],H,Q=>n=T.nm/\cj T x H λb=>Q (.b b) H
 |_,_,_=>False
def vD(K:Frag):jS->V->bi->Hp->VK->Prop
 |.a,.r l,[y],H,Q=>∃x,H l=some (.l x)/\x.length<sizeLine/\Q .a (fy H l<|.l<|x++[y])
 |.p,.r l,[],H,Q=>∃x y,H l=some (.l x)/\x[x.length - 1]?=some y/\Q y (fy H l<|.l x.dropLast)
 |.e,.r l,[.r b],H,Q=>∃x f,H l=some (.l x)/\H b=some (.l f)/\x.length+f.length<=sizeLine/\Q .a (fy H l<|.l<|x++f)
 |.j,.s d,[.r p],H,Q=>∃t:bn,ax K H p (t.map V.s)/\JoinOk d t=true/\Q (.s<|Txt.join d t) H
 |.l,.s z,[.s y],H,Q=>z.length<=sizeLine/\Q (.s<|Txt.lstripChars z y) H
 |.s,.s z,[.s y,.i i],H,Q=>Q (.b<|decide (fromIndex z.length i+y.length<=z.length) && Builtin.Str.subAt z y (fromIndex z.length i)) H
 |.c,.r l,[],H,Q=>∃x,H l=some (.l x)/\Q .a (fy H l<|.l [])
 |.Fu,.r l,[y],H,Q=>∃x,ax K H l x/\jP y=true/\x.all jP=true/\iR y x=true/\Q (.i (x.findIdx (λz=>jn z y):Nat)) H
 |_,_,_,_,_=>False
def Bx:jS->Fa
 |.j|.l|.s|.f|.t=> "str"
 |_=> "list"
def vE(K:Frag)(m:jS)(o:TE)(t:TA):TE:=λa H Q=>o a H λx b=>sO K (Bx m) x b/\t a b λs c=>vD K m x s c Q
def vF(K:Frag):V->mB->mB->Hp->VK->Prop:=λx o h H Q=>match x with
 |.s z=>z.length<=sizeLine/\Q (.s<|oZ z o h) H
 |.r a=>(∃b,ax K H a b/\∀p,H p=none->Q (.r p) (fy H p<|.l<|iP b o h))\/
  (∃b,aF K H a b/\ ¬(HT.bh b.length 0 o=0/\HT.bh b.length b.length h=b.length)/\∀p,H p=none->Q (.r p) (fy H p<|.t<|iP b o h))
 |_=>False
noncomputable def sZ(a:ii)(k:ZA):im:=(a.find? λv=>decide (v.1=k)).map (·.2)
def Nk(s:z4->ii->Prop):R2:=λx y H Q=>∃p a k v,x=.r p/\y=kV k/\s p a/\sZ a k=some v/\Q v H
def o6(K:Frag)(s:z4->ii->Prop):R2:=λx y H Q=>Mh K x y H Q\/Mi K x y H Q\/Mj x y H Q\/Nk s x y H Q
def abD(r n m:R2)(l j i t:TE):TT:=λa H Q=>l a H λx v=>j a v λy s=>r x y s λz f=>∃k,z=.b k/\
 (if k=true then i a f λw q=>n y w q λh e=>∃d,h=.b d/\(if d=true then t a e λu p=>m w u p λg o=>∃c,g=.b c/\Q c o else Q false e) else Q false f)
def ye(K:Frag)(a b:z4):It:=
  ⟨λi H=>∃s y,ax K H a s/\ax K H b y/\i<s.length/\i<y.length,
   λi H x c=>∃T,H T=none/\x=.r T/\∀s y u v,ax K H a s->ax K H b y->s[i]?=some u->y[i]?=some v->c=fy H T (.t [u,v]),
   λi H=>∃s y,ax K H a s/\ax K H b y/\i=min s.length y.length⟩
def Itn(K:Frag)(a:z4):It:=
  ⟨λi H=>∃s,ax K H a s/\i<s.length,
   λi H x b=>∃T,H T=none/\x=.r T/\∀s u,ax K H a s->s[i]?=some u->b=fy H T (.t [.i (i:Nat),u]),
   λi H=>∃s,ax K H a s/\i=s.length⟩
def abF(K:Frag)(t:TA):TI:=λc H R=>t c H λv b=>∃a,v=[.r a]/\(∃x,ax K b a x)/\R (Itn K a) b
def Fx(K:Frag)(t:TA):TI:=λd H R=>t d H λv c=>∃a b,v=[.r a,.r b]/\(∃x,ax K c a x)/\(∃y,ax K c b y)/\R (ye K a b) c
def Ma(K:Frag)(a b:z4):It:=
  ⟨λi H=>∃s y,aF K H a s/\aF K H b y/\i<s.length/\i<y.length,
   λi H x c=>∃T,H T=none/\x=.r T/\∀s y u v,aF K H a s->aF K H b y->s[i]?=some u->y[i]?=some v->c=fy H T (.t [u,v]),
   λi H=>∃s y,aF K H a s/\aF K H b y/\i=min s.length y.length⟩
def abH(K:Frag)(t:TA):TI:=λd H R=>t d H λv c=>∃a b,v=[.r a,.r b]/\(∃x,aF K c a x)/\(∃y,aF K c b y)/\R (Ma K a b) c
def yf(z:Str):It:=⟨λi _=>i<z.length,λi H x a=>a=H/\∃c,z.cps[i]?=some c/\x=.s ⟨#[c]⟩,λi _=>i=z.length⟩
def Nl(t:TE):TI:=λa H R=>t a H λx b=>∃z,x=.s z/\R (yf z) b
def G2(l c:Int)(n:Nat):It:=⟨λi _=>i<n,λi H x a=>a=H/\x=.i (l+i*c),λi _=>n<=i⟩
def abJ(t:TA):TI:=λa H R=>t a H λv b=>∃(i j c:Int)(n:Nat),v=[.i i,.i j,.i c]/\c≠0/\Builtin.Range.small i j c=true/\Builtin.divisionGoesByPylong (j - i) c=false/\Builtin.Range.rangeSize i j c=n/\R (G2 i c n) b
mutual
def af(Γ:aW):RE->TE
 |.v i=>Ez i
 |.c x=>tC x
 |.g j=>tC (Γ.gv j)
 |.b op a b=>gJ (kj Γ.K op) (af Γ a) (af Γ b)
 |.N a=>LH Ni (af Γ a)
 |.p op a b=>gJ (dc Γ.K op) (af Γ a) (af Γ b)
 |.yc op ij a b d=>AV (dc Γ.K op) (dc Γ.K ij) (af Γ a) (af Γ b) (af Γ d)
 |.Nc _ _ _ _ _ _ _=>λ_ _ _=>False
 |.d as=>Nm Γ as
 |.o as=>Np Γ as
 |.n a=>Fw Γ.K (af Γ a)
 |.H t a b=>Lk (bo Γ t) (af Γ a) (af Γ b)
 |.l j as=>EO (Γ.fs j) [] Γ.E (br Γ as)
 |.t b as=>jO (lu Γ.K b) (br Γ as)
 |.R T a=>jO (qI T) (fA (af Γ a)<|fA (tC<|.t T.nm) k8)
 |.a m o as=>vE Γ.K m (af Γ o) (br Γ as)
 |.i a b=>gJ (o6 Γ.K Γ.sd) (af Γ a) (af Γ b)
 |.s a lo hi=>EV (vF Γ.K) (af Γ a) (qJ Γ lo) (qJ Γ hi)
 |.T as=>LW (br Γ as)
 |.L as=>LX (br Γ as)
 |.C tk fv k ar cond elt=>sT Γ.K (ir Γ k ar) tk fv (By Γ.calm cond) (af Γ.calm elt)
 |.Nf a c=>jO (M_ Γ.K) (fA (af Γ a)<|fA (af Γ c) k8)
 |.vB=>Nj
 |.same a b=>gJ aa9 (af Γ a) (af Γ b)
 |.inD a b=>gJ (Br Γ.K false) (af Γ a) (af Γ b)
 |.Ng a b=>gJ (Br Γ.K true) (af Γ a) (af Γ b)
 |.aby=>aas
 |.B a b=>My (af Γ a) (af Γ b)
 |.vC a b=>Fd (af Γ a) (af Γ b)
 |.yd a b=>Fe (af Γ a) (af Γ b)
 |.abz o a b=>aau (af Γ o) (af Γ a) (af Γ b)
 |.x T as=>T Γ.K (br Γ as)
 |.xm T o as=>T Γ.K (af Γ o) (br Γ as)
 |.wrd j a=>abq (Γ.hs j) Γ.h (fA (af Γ a) k8)
 |.f o f=>AX Γ.K (af Γ o) f
 |.q j m o as=>sJ (Γ.ms j).1 m (Γ.ms j).2 [] Γ.E (af Γ o) (br Γ as)
 |.m j as=>AZ (Γ.kt j).1 (Γ.kt j).2 [] Γ.E (br Γ as)
def bo(Γ:aW):RE->TT
 |.n a=>Lf (bo Γ a)
 |.inD a b=>vm (gJ (Br Γ.K false) (af Γ a)<|af Γ b)
 |.Ng a b=>vm (gJ (Br Γ.K true) (af Γ a)<|af Γ b)
 |.vC a b=>tB (Fd (af Γ a)<|af Γ b)
 |.yd a b=>tB (Fe (af Γ a)<|af Γ b)
 |.d as=>Nq Γ as
 |.o as=>Nr Γ as
 |.p op a b=>vm (gJ (dc Γ.K op) (af Γ a)<|af Γ b)
 |.yc op ij a b d=>vm (AV (dc Γ.K op) (dc Γ.K ij) (af Γ a) (af Γ b)<|af Γ d)
 |.Nc op ij Nd a b d f=>abD (dc Γ.K op) (dc Γ.K ij) (dc Γ.K Nd) (af Γ a) (af Γ b) (af Γ d) (af Γ f)
 |.v i=>iq Γ.K (Ez i)
 |.l j as=>iq Γ.K (EO (Γ.fs j) [] Γ.E<|br Γ as)
 |.R T a=>iq Γ.K (jO (qI T)<|fA (af Γ a)<|fA (tC<|.t T.nm) k8)
 |.Nf a c=>iq Γ.K (jO (M_ Γ.K)<|fA (af Γ a)<|fA (af Γ c) k8)
 |.a m o as=>iq Γ.K (vE Γ.K m (af Γ o)<|br Γ as)
 |.i a b=>iq Γ.K (gJ (o6 Γ.K Γ.sd) (af Γ a)<|af Γ b)
 |.b op a b=>iq Γ.K (gJ (kj Γ.K op) (af Γ a)<|af Γ b)
 |.f o f=>iq Γ.K (AX Γ.K (af Γ o) f)
 |.x T as=>iq Γ.K (T Γ.K<|br Γ as)
 |.xm T o as=>iq Γ.K (T Γ.K (af Γ o)<|br Γ as)
 |.q j m o as=>iq Γ.K (sJ (Γ.ms j).1 m (Γ.ms j).2 [] Γ.E (af Γ o)<|br Γ as)
 |_=>λ_ _ _=>False
def br(Γ:aW):on->TA
 |[]=>k8
 |a::r=>fA (af Γ a) (br Γ r)
def Nm(Γ:aW):on->TE
 |[]=>λ_ _ _=>False
 |[a]=>af Γ a
 |a::r=>Lh (af Γ a) (Nm Γ r)
def Np(Γ:aW):on->TE
 |[]=>λ_ _ _=>False
 |[a]=>af Γ a
 |a::r=>Li (af Γ a) (Np Γ r)
def Nq(Γ:aW):on->TT
 |[]=>λ_ _ _=>False
 |[a]=>bo Γ a
 |a::r=>Ld (bo Γ a) (Nq Γ r)
def Nr(Γ:aW):on->TT
 |[]=>λ_ _ _=>False
 |[a]=>bo Γ a
 |a::r=>Le (bo Γ a) (Nr Γ r)
def qJ(Γ:aW):Option RE->TO
 |none=>Mb
 |some a=>A5 (af Γ a)
def By(Γ:aW):Option RE->Option TT
 |none=>none
 |some a=>some (bo Γ a)
def ir(Γ:aW)(k:IK):on->TI
 |[]=>λ_ _ _=>False
 |a::r=>match k with
  |.l=>EF Γ.K (af Γ a)
  |.p=>EG Γ.K (af Γ a)
  |.e=>LC (fA (af Γ a)<|br Γ r)
  |.s=>LD (fA (af Γ a)<|br Γ r)
  |.z=>Fx Γ.K (fA (af Γ a)<|br Γ r)
  |.enm=>abF Γ.K (fA (af Γ a)<|br Γ r)
  |.t=>Nl (af Γ a)
  |.abv=>abH Γ.K (fA (af Γ a)<|br Γ r)
  |.abw=>abJ (fA (af Γ a)<|br Γ r)
end
structure dm where
 N:bn
 sc:Scope
 fn:bn
 gn:bn
 bl:bn
 mn:bn
 kn:bn
 e:bn
 hn:bn
 m:Nat
noncomputable def Fy(s:Scope)(x:Str):Cl:=match s.names.lookup x with
 |some .local=>true|some .cell=>true|some .free=>true|_=>false
noncomputable def XC(s:Scope)(x:Str):Cl:=match s.names.lookup x with
 |some .local=>true|some .cell=>true|_=>false
noncomputable def qK(s:Scope)(x:Str):Cl:=match s.names.lookup x with
 |some .globalImplicit=>true|_=>false
theorem abK(h:Fy s x=true):AB s x:=by
 unfold Fy at h;unfold AB;cases e:s.names.lookup x with
 |none=>rw[e] at h;cases h
 |some k=>rw[e] at h;cases k<;>first|exact .inl O|exact .inr (.inl O)|exact .inr (.inr O)|cases h
theorem Fz(h:XC s x=true):ZQ s x:=by
 unfold XC at h;unfold ZQ;cases e:s.names.lookup x with
 |none=>rw[e] at h;cases h
 |some k=>rw[e] at h;cases k<;>first|exact .inl O|exact .inr O|cases h
theorem abL(h:qK s x=true):s.names.lookup x=some .globalImplicit:=by
 unfold qK at h;cases e:s.names.lookup x with
 |none=>rw[e] at h;cases h
 |some k=>rw[e] at h;cases k<;>first|rfl|cases h
structure yg where
 elt:Expr
 tg:Expr
 i:Expr
 ifs:le
 sc:Scope
noncomputable def o5.nm:o5->Str
 |.l=> "len" |.m=> "min" |.max=> "max" |.s=> "sum" |.i=> "int" |.t=> "list" |.e=> "tuple" |.abs=> "abs"
noncomputable def jS.nm:jS->Str
 |.a=> "append" |.p=> "pop" |.e=> "extend" |.j=> "join" |.l=> "lstrip" |.s=> "startswith" |.r=> "reverse" |.c=> "clear" |.i=> "index" |.f=> "find" |.t=> "count" |.Nb=> "count" |.Fu=> "index"
noncomputable def qL:Expr->Cl
 |.Call (.Name _ _) [] [] _=>false
 |_=>true
noncomputable def fH:Expr->Cl
 |.Starred ..=>false
 |_=>true
noncomputable def yh:Expr->Cl
 |.Set ..=>false
 |_=>true
noncomputable def FA(N s:Scope):Scope:=
 {N with names:=N.names.map fun(n,k)=>if (k==.free && s.kind==.function && s.names.lookup n==some .cell) then (n,.cell) else (n,k)}
noncomputable def vG(t:wv)(g:Expr):Option bn:=match t,g with
 |none,.Name x _=>some [x]
 |some 2,.Tuple [.Name x _,.Name y _] _ _=>some [x,y]
 |_,_=>none
def Nu(S:dm)(c:yg)(l:bn)(f:lv):dm:={S with N:=l++f.map (·.1),sc:=FA c.sc S.sc,e:=[],m:=if S.m=0 then 0 else 2}
def FC(S:dm)(c:yg)(l:bn)(f:lv):Cl:=
 decide (c.sc.kind=.function) && c.sc.names.all (λy=>decide (y.2≠ .cell)||decide (c.sc.names.lookup y.1=some .cell)) && c.sc.names.all (λy=>decide (y.2≠ .local)||decide (c.sc.names.lookup y.1=some .local))
 && c.sc.names.all (λy=>decide (y.2≠ .free)||decide (S.sc.names.lookup y.1=some .cell)||decide (S.sc.names.lookup y.1=some .free))
 && f.all (λp=>decide (S.N[p.2]?=some p.1) && decide (c.sc.names.lookup p.1=some .free))
 && l.all (λx=>decide (c.sc.names.lookup x=some .local)||(decide (l.length=1) && decide (c.sc.names.lookup x=some .cell))) && decide ((l++f.map (·.1)).Nodup) && yh c.i
theorem abM{K:Frag}{R:le}{z B j g f Z Y:z4}(D:ZipApart z B j g f Z Y)(dl:Z≠B/\Y≠B):
  Ye P w K (.Tuple R k c') (ye K Z Y) [z,B,j,g,f] z
   (λi h=>IsZip h z B j .none/\IsPair h B (.ref g) (.ref f)/\(∃a b,IsPair h j a b)/\h.IsListIter g Z i/\h.IsListIter f Y i) where
 mem:=by simp
 obj:=λi h C b d=>by
  obtain⟨J,G,⟨a,b',F⟩,⟨o1,e1,c1,d1⟩,⟨o2,e2,c2,d2⟩⟩:=C;simp at d;rcases d with rfl|rfl|rfl|rfl|rfl
  exact pQ _ J (λv q=>by cases q);exact pQ _ G (λv q=>by cases q);exact pQ _ F (λv q=>by cases q);exact pQ _ e1 (λv q=>by lia);exact pQ _ e2 (λv q=>by lia)
 keep:=λi h h' C y=>by
  obtain⟨J,G,⟨a,b',F⟩,h1,h2⟩:=C;exact⟨y z am _ J,y B am _ G,uA a b' (y j am _ F),h1.at λo e=>y g am o e,h2.at λo e=>y f am o e⟩
 item:=by
  intro X hP hw hK l i B' s σ H E I N C hg;subst hP hw hK;obtain⟨xs,ys,hx,hy,s',p'⟩:=hg;obtain⟨V,r1,p1,z1⟩:=I.list hx;obtain⟨iQ,r2,p2,z2⟩:=I.list hy;have jr:=r1.length;have xR:=r2.length;have W:=WalksT.zip2 (prog:=X.prog) (w:=X.w) (A:=X.A) (I.ok.hd l) z B j g f Z Y D V.toArray iQ.toArray;obtain⟨J,G,F,h1,h2⟩:=c3 (id C);have hn:i<min V.toArray.size iQ.toArray.size:=by simp only[KW];lia
  refine W.item i s _ _ hn ⟨J,G,F,h1,h2,p1.isList,p2.isList⟩ λT m' h' tk hv hT k' f' y=>?_;refine pQ (.ref T) O ?_;refine W.go R k c' i T _ _ _ f' λBz l' Nv=>?_;obtain⟨u,v,zq⟩:=ZL hv;obtain⟨eu,ev,rfl⟩:=Yo zq;have S:∀b∈ [z,j,g,f],b∈ [z,B,j,g,f]:=λb d=>by
   simp at d⊢;rcases d with rfl|rfl|rfl|rfl<;>simp
  have kk:=λb o d e=>Nv b o d (y b o d e);have I1:d4 X B' σ H {s with heap:=Bz,toks:=tk}:=by
   refine I.step (g':=s.gens) (λb d=>?_) (λb o _ _ l e _=>kk b o l e) (λb o _ _ l e _=>qX o.slots (kk b o l e)) (λ_ _ _ _ n=>n)
    (λb o l e=>qX o (kk b o l e)) (λ_ _ e=>e) (λ_ _ _ e=>e) (λb ps e=>qX (#[]) (by rw[e];simp)) (λm hm=>?_) (λb o e=>?_) I.E
   obtain⟨f0,f1,f2,f3,f4,f5⟩:=Gi (N b (S b d));exact⟨f3,f1,f4,f5⟩;obtain⟨o,es,ep,ho,r⟩:=hm;exact t_ o es ep (kk _ o (λd=>(N _<|S _ d).2.1 O) ho) r;have nb:∀c o',H c=some o'->c∉ [z,j,g,f]:=λc o' e d=>by
    rw[(N c<|S c d).1] at e;cases e
   refine(I.aE b o e).nG (λc q L M=>kk c q ?_ M) (λ_ q=>q) λ_ _ q=>q;rcases L with rfl|L
   exact nb _ _ e;exact nb _ _ L
  have U:=hT;have fT:H T=none:=I.aE.fresh U;have aT:=W.apart i T h' f';have tT:Bz.IsTuple T #[u,v]:=by
   obtain⟨o,ho,q⟩:=k';exact pQ o (Nv T o aT ho) q
  obtain⟨a,j',ra⟩:∃a,xs[i]?=some a/\YD a u:=by
   have e:V[i]?=some u:=by simpa using eu
   have:i<xs.length:=s';obtain⟨u',M,r'⟩:=r1.get (i:=i) (x:=xs[i]) (by simp[this]);rw[e] at M;cases M;exact pQ (xs[i]) (by simp[this]) r'
  obtain⟨b,i',rb⟩:∃b,ys[i]?=some b/\YD b v:=by
   have e:=by simpa using ev
   have:i<ys.length:=p';obtain⟨u',M,r'⟩:=r2.get (i:=i) (x:=ys[i]) (by simp[this]);rw[e] at M;cases M;exact pQ (ys[i]) (by simp[this]) r'
  have I2:d4 X B' σ (fy H T<|.t [a,b]) {s with heap:=Bz,toks:=tk}:=by
   refine d4.MD I1 fT (oT I.sz U) (Hd<|XG I.lt U) (λx c e q=>?_) (λp hp q=>?_) (tL (by show 2<=sizeLine;decide) [u,v] (.cons ra<|.cons rb .nil) tT);obtain⟨v',q'⟩:=I.cell x c e;have:=q'.lt;rw[q] at this;exact absurd (XG this U)<|Zt _;have:=Gc (I.pin p hp).1;rw[q] at this;exact absurd (XG this U)<|Zt _
  refine q8 (.r T) _ I2 O (qH T fT O (λbw iu a' b' oW E6 ea eb=>?_)) ?_ (λc L=>?_);rw[I.EA oW hx,j'] at ea;rw[I.EA E6 hy,i'] at eb;cases ea;cases eb;rfl;obtain⟨q1,q2,q3,q4,q5,_⟩:=Gi l';exact⟨q1,q2,q3,q4,q5⟩;have n0:=(N c L).1;have:c≠T:=λq=>by
   obtain⟨o,e,_⟩:∃o,s.heap.get? c=some o/\True:=by
    obtain⟨J,G,⟨a',b',F⟩,⟨o1,e1,_⟩,⟨o2,e2,_⟩⟩:=C;simp at L;rcases L with rfl|rfl|rfl|rfl|rfl
    exact pQ _ J trivial;exact pQ _ G trivial;exact pQ _ F trivial;exact pQ _ e1 trivial;exact pQ _ e2 trivial
   have:=Gc e;rw[q] at this;exact absurd (XG this U)<|Zt _
  rw[aw this];exact n0
 done:=by
  intro X hP hw hK l i B' s σ H E I N C hg;subst hP hw hK;obtain⟨xs,ys,hx,hy,hi⟩:=hg;obtain⟨V,r1,p1,z1⟩:=I.list hx;obtain⟨iQ,r2,p2,z2⟩:=I.list hy;have jr:=r1.length;have xR:=r2.length;have W:=WalksT.zip2 (prog:=X.prog) (w:=X.w) (A:=X.A) (I.ok.hd l) z B j g f Z Y D V.toArray iQ.toArray;obtain⟨J,G,F,h1,h2⟩:=c3 (id C);have hn:i=min V.toArray.size iQ.toArray.size:=by simp only[KW];lia
  subst hn;refine W.done s _ _ ⟨J,G,F,h1,h2,p1.isList,p2.isList⟩ λh' tk y=>⟨O,?_⟩;have S:∀b∈ [z,j,g,f],b∈ [z,B,j,g,f]:=λb d=>by
   simp at d⊢;rcases d with rfl|rfl|rfl|rfl<;>simp
  refine I.step (g':=s.gens) (λb d=>?_) (λb o _ _ l e _=>y b o l e) (λb o _ _ l e _=>qX o.slots (y b o l e)) (λ_ _ _ _ n=>n)
   (λb o l e=>qX o (y b o l e)) (λ_ _ e=>e) (λ_ _ _ e=>e) (λb ps e=>qX (#[]) (by rw[e];simp)) (λm hm=>?_) (λb o e=>?_) I.E
  obtain⟨f0,f1,f2,f3,f4,f5⟩:=Gi (N b (S b d));exact⟨f3,f1,f4,f5⟩;obtain⟨o,es,ep,ho,r⟩:=hm;exact t_ o es ep (y _ o (λd=>(N _<|S _ d).2.1 O) ho) r;have nb:∀c o',H c=some o'->c∉ [z,j,g,f]:=λc o' e d=>by
   rw[(N c<|S c d).1] at e;cases e
  refine(I.aE b o e).nG (λc q L M=>y c q ?_ M) (λ_ q=>q) λ_ _ q=>q;rcases L with rfl|L
  exact nb _ _ e;exact nb _ _ L
 self:=λA i s Q E C hQ=>wpAny_pyIter_zip C.1 hQ
theorem aiB:bootBuiltins "zip"=some (.type "zip"):=O
theorem abR{i:le}(S:Gl X "zip")(P:X.g "zip"=none)(T:PA X [a,b] t)(N:starEach [a,b] X.env=(false,eval a X.env)::starEach [b] X.env)(J:(backTo d<|starEach [b] X.env).any (·.1)=false):
  PI X (.Tuple i k EN) (.Call (.Name "zip" p) [a,b] [] d) (Fx X.K t):=by
 intro B' s z H R I h;refine Call_<|vi I S P aiB<|Sc (aI (T d B' s z H _ I h) λus c h=>?_) N J;obtain⟨vs,y,j,F,G⟩:=h;obtain⟨o,n,e,⟨xs,M⟩,⟨ys,L⟩,q⟩:=G;subst e;obtain⟨u,v,rfl,B,A⟩:=Z9 F;cases B;cases A;obtain⟨s_,E,m,z1⟩:=j.list M;obtain⟨iQ,C,l,z2⟩:=j.list L;refine call_zip_2 m.isList l.isList λh' x Y W V U a6 Q=>wpAny_pyIter_zip x ?_;have vI: @LT.lt Nat _ o c.heap.objs.size:=by obtain⟨Z,e,Z⟩:=m.isList;exact Gc e
 have Nx: @LT.lt Nat _ n c.heap.objs.size:=by obtain⟨Z,e,Z⟩:=l.isList;exact Gc e
 have D:ZipApart (c.heap.objs.size+4) (c.heap.objs.size+2) (c.heap.objs.size+3) c.heap.objs.size (c.heap.objs.size+1) o n:=by
  constructor<;>(lia)
 refine sU _ _ _ _ y O (j.kept Q) (abM D ⟨by lia,by lia⟩) ⟨x,Y,uA _ _ W,V,U⟩ (λw r=>?_) q;have f:c.heap.objs.size<=w:=by
  simp at r;rcases r with rfl|rfl|rfl|rfl|rfl
  exact lJ _ _;exact lJ _ _;exact lJ _ _;exact Yw _;exact lJ _ _
 have:=j.xD f (j.aE.fresh f);exact this
end
set_option maxHeartbeats 400000
section
open PyProof.Rows
end
set_option maxHeartbeats 1000000
set_option maxHeartbeats 400000
section
open PyProof.Rows
inductive cp(J:AC->Prop){b:Type}:Sem b->Prop
 |p (a:b):cp J (.pure a)
 |r (e:AT):cp J (.raise e)
 |u (w:Fa):cp J (.unsupported w)
 |R {t:Fa}{k:Unit->Sem b}:cp J (k ())->cp J (.rule t k)
 |l {a:z4}{p:wT}{k:Obj->Sem b}:(∀o,cp J<|k o)->cp J (.load a p k)
 |U {a:z4}{p:wT}{f:Obj->Obj}{k:Unit->Sem b}:(∀s,J s->J {s with heap:=s.heap.update a f})->cp J (k ())->cp J (.update a p f k)
 |c {o:Obj}{k:z4->Sem b}:(∀s,J s->J {s with heap:=s.heap.push o})->(∀a,cp J<|k a)->cp J (.alloc o k)
 |s {k:List (Code×Pos)->Sem b}:(∀t,cp J<|k t)->cp J (.stack k)
theorem abS{t:Sem b}(k:cp J t):∀{Q:b->Pos->AC->Prop}{E:AT->Pos->AC->Prop}{p:Pos}{s:AC},J s->Sem.wp M d t Q E p s->
  Sem.wp M d t (λa p s=>Q a p s/\J s) (λe p s=>E e p s/\J s) p s:=by
 induction k with
 |p a=>intro Q E p s j h;exact⟨h,j⟩
 |r e=>intro Q E p s j h;exact⟨h,j⟩
 |u w=>intro Q E p s j h;cases h
 |R Y i=>intro Q E p s j h;exact i j h
 |l Y i=>intro Q E p s j h;obtain⟨o,e,h⟩:=h;exact⟨o,e,i o j h⟩
 |U f Y i=>intro Q E p s j h;exact⟨h.1,i (f _ j) h.2⟩
 |c f Y i=>intro Q E p s j h;exact i _ (f _ j) h
 |s Y i=>intro Q E p s j h;exact i _ j h
theorem yi{A:Db}{t:Sem c}{Q:c->AC->Prop}{E:ce}(k:cp J t)(j:J s)(h:wpAny M A t Q E s):
  wpAny M A t (λa s=>Q a s/\J s) (λe s=>E e s/\J s) s:=λd p b=>abS k j (h d p b)
def fI(e:z4)(s:AC):Prop:= ∃o v,s.heap.get? e=some o/\o.data=.fields v/\v[2]?=some .none/\o.dict=none
theorem abT(f:v0->v0)(o:Obj):(Obj.mapFields f o).dict=o.dict:=by
 unfold Obj.mapFields;split<;>rfl
theorem abU{v:AT}(k:i≠2)(s:AC)(j:fI e s):fI e {s with heap:=s.heap.update a (Obj.mapFields (·.setIfInBounds i v))}:=by
 obtain⟨o,g,f,c,b,h⟩:=j;by_cases z:a=e;subst z;have d:=Obj.data_mapFields c (·.setIfInBounds i v);exact qM _ _ (TW _ f<|Obj.isFreed_of_fields d) d (by rw[Array.getElem?_setIfInBounds_ne k];exact b) ((abT _ _).trans h);exact qM o g ((On _ _ z).trans f) c b h
theorem abV(h:∀o,(f o).data=o.data/\(f o).dict=o.dict)(s:AC)(j:fI e s):fI e {s with heap:=s.heap.update a f}:=by
 obtain⟨o,v,g,b,d,c⟩:=j;by_cases z:a=e;subst z;exact qM _ v (TW _ g<|Obj.isFreed_of_fields<|(h o).1.trans b) ((h o).1.trans b) d ((h o).2.trans c);exact qM o v ((On _ _ z).trans g) b d c
theorem abW(s:AC)(j:fI e s):fI e {s with heap:=s.heap.push b}:=by
 obtain⟨o,v,zq⟩:=ZL j;obtain⟨d,c,a,h⟩:=Yq zq;exact⟨o,v,GT _ d,c,a,h⟩
theorem cp.bind{f:b->Sem d}(k:cp J t)(h:∀a,cp J<|f a):cp J (t>>=f):=by
 induction k with
 |p a=>exact h a
 |r e=>exact .r e
 |u w=>exact .u w
 |R Y i=>exact .R i
 |l Y i=>exact .l i
 |U g Y i=>exact .U g i
 |c g Y i=>exact .c g i
 |s Y i=>exact .s i
section
variable{e:z4}
theorem FD{a:z4}:cp (fI e) (load a):=.l λo=>.p o
theorem FE(h:i≠2):cp (fI e) (setField v i x):=by
 unfold setField;split;refine FD.bind λo=>?_;split;split;exact .U (λs j=>abU h s j) (.p ());exact .u _;exact .u _;exact .u _
theorem abX:cp (fI e) (fieldsOf v):=by
 unfold fieldsOf;split;refine FD.bind λo=>?_;split;exact .p _;exact .u _;exact .u _
theorem BA:cp (fI e) (field v i):=by
 refine abX.bind λs=>?_;split;exact .p _;exact .u _
theorem FF{f:v4}:cp (fI e) (setFlight v f):=by
 refine BA.bind λt=>?_;split;exact FE (Hd (Zf _));exact .p _
theorem FG:cp (fI e) stack:=.s λt=>.p t
theorem abY{v:ge}:cp (fI e) (newFields t v):=by
 show cp (fI e) (if v.toArray.size>sizeLine+2 then (unsupported "record:memory" >>=_) else _);split;exact .u _;exact cp.bind (.c (λs j=>abW s j) λa=>.p a) λa=>.p _
theorem abZ{b:Cl}:cp (fI e) (entryPlaceOf f b):=by
 refine FG.bind λa=>?_;split;exact .p _;exact .p _
theorem Ny:∀l:wr,cp (fI e) (readyFrames l)
 |[]=>.p _
 |v::r=>by
  unfold readyFrames;split;refine FD.bind λo=>?_;split;exact .p _;refine cp.bind ?_ λi=>cp.bind ?_ λb=>cp.bind (.U (λs j=>abV ba s j)<|.p ()) λY=>Ny r;unfold behindIsImport;split;exact .p _;split;exact .p _;exact BA.bind λY=>.p _;unfold keptBack;split;split;exact .p _;exact cp.bind (FG.bind λY=>.p _) λY=>.p _;exact .p _;exact .u _
theorem ab0:cp (fI e) (PySem.frameOf v):=by
 refine cp.bind (FG.bind λY=>.p _) λl=>cp.bind ?_ λr=>?_;unfold frameObject;split;exact .p _;exact(Ny _).bind λY=>.p _;split;exact .p _;exact .u _
theorem Nz:cp (fI e) (noteFrame v c):=by
 unfold noteFrame;split;rename_i x d hq;refine BA.bind λh=>?_;have t:cp (fI e) (do let a <-PySem.frameOf c;let l <-entryPlaceOf d (h !=.none);let b <-EntryCells.newEntry h a .none (rawInt d) .none l;setField v 1 b):=
  ab0.bind λa=>abZ.bind λl=>cp.bind abY λb=>FE (XS (Zf _))
 split;refine BA.bind λx=>?_;split;exact .p _;exact(FE (Hd (Zf _))).bind λY=>t;exact t;exact .u _
theorem NA:cp (fI e) (leaving a v):=by
 exact Nz.bind λY=>FF
end
end
set_option maxHeartbeats 4000000
section
open PyProof.Rows
theorem cY.BB(x:cY P w H h a o):∃b,h.get? a=some b:=by
 cases o with
 |l g=>obtain⟨Y,Y,Y,Y,e⟩:=x;exact⟨_,e⟩
 |t g=>obtain⟨Y,Y,Y,b,e,Y⟩:=x;exact⟨_,e⟩
 |d k=>obtain⟨Y,Y,Y,Y,o,Y,Y,e,Y⟩:=x;exact⟨_,e⟩
 |T k=>obtain⟨Y,Y,Y,Y,o,Y,Y,e,Y⟩:=x;exact⟨_,e⟩
 |s S n=>obtain⟨o,Y,Y,Y,e,Y⟩:=Yv x;exact⟨_,e⟩
 |i C z j=>obtain⟨Y,Y,Y,e,Y⟩:=c3 x;exact⟨_,e⟩
 |o y=>obtain⟨Y,e⟩:=x;exact⟨_,e⟩
 |xd j=>obtain⟨Y,⟨Y,Y,Y,e,Y⟩,Y⟩:=x;exact⟨_,e⟩
 |ee r v=>obtain⟨Y,Y,Y,e⟩:=x;exact⟨_,e⟩
 |c b u=>obtain⟨e,Y⟩:=x;exact⟨_,e⟩
 |n q=>exact⟨_,(show h.get? a=some _ from x)⟩
 |m f y=>exact⟨_,(show h.get? a=some _ from x)⟩
 |e p=>obtain⟨Y,⟨Y,e⟩,Y⟩:=x;exact⟨_,e⟩
theorem cx.FH(f:cx P w H h)(k:∀b u,H b≠none->h.get? b=some u->d.get? b=some u):cx P w H d:=λa o e=>
 (f a o e).nG (λb u c g=>k b u (by
  rcases c with rfl|c
  rw[e];exact Option.some_ne_none _;rw[c];exact Option.some_ne_none _) g) (λY z=>z) (λY Y z=>z)
def g_(P:BT)(w:A9):c5:=λr H s E e a=>∃(f:z4)(c:AT)(t:z4)(B:Do)(d:Hp),
 e=.ref f/\a.os=s.os/\AllBare a.gens/\Un (bL r) [] H d s.heap a.heap/\cx P w d a.heap/\Heap.FlyingW B r f c (.ref t) a.heap/\fI f a/\d f=none/\
 (∀b,d b≠none->∀o,a.heap.get? b=some o->B.get? b=some o)/\(∀b o,s.heap.get? b=some o->b∉bL r->∀g,a.heap.get? b=some g->B.get? b=some g)/\E c none d
theorem NB(h:g_ P w o H s E0 e a):False:=by
 obtain⟨Y,Y,Y,Y,Y,zq⟩:=YE h;obtain⟨Y,Y,Y,Y,Y,Y,Y,Y,Y,Y,h⟩:=Eu zq;exact h
section
variable{P:BT}{w:A9}{K:Frag}{i:db}{j:Do}{N:bn}{d:Str}{g:Scope}{f:z4}{h:AT}{A:Db}{a:wr}{c:AC}{k:Hp}{E:XK}
theorem ab1:X0 (g_ P w) (sM (g_ P w) P w K i j N d g f h A a c k E) E:=by
 intro B' σ H s e V I hx;obtain⟨ea,M,t,B,H',zq⟩:=YE hx;obtain⟨rfl,os,R,u,aE,fl,yj,lA,c1,c2,hE⟩:=Eu zq;have nL:∀b o,c.heap.get? b=some o->b∉bL a->b∉bL (envOfC d g c.heap.objs.size f h::a):=λb o l r S=>by
  rcases Z5.mp S with rfl|z
  cases Nat.not_lt.mpr I.ok.above (Gc l);exact r z
 have mf:∀b∈bL (envOfC d g c.heap.objs.size f h::a),H' b=none:=λb l=>by
  obtain⟨o,C,_⟩:=(I.stack.mem l).2;exact u.free b o C (I.AH b l) Zb
 refine Id (yi NA yj<|wpAny_leaves_onW (Q:=λ_ jm=>∃J,jm={V with heap:=J}/\Heap.FlyingW B a ea M (.ref t) J/\V.heap.UpToSlots J) (E:=λ_ _=>False) I.ok.frames O fl λJ x T=>qH J O x T)
  (λ_ jm hq=>?_) (λ_ _ z=>z.1.elim)
 obtain⟨⟨J,rfl,x,T⟩,FJ⟩:=hq;have p:=λb o l r X Y=>x.1 b X (c2 b o l r X Y);have nH:=λb o l C=>x.1 b o (c1 b l o C);have js:∀b∈bL (envOfC d g c.heap.objs.size f h::a),∀o,V.heap.get? b=some o->∃U,J.get? b=some {o with slots:=U}:=λb l o C=>by
  obtain⟨D,jT,hd⟩:=(fl.2.2.1.mem l).2;rw[C] at jT;cases jT;exact T b o C hd
 refine sU ea M t B H' O (os.trans I.os) R ⟨λb o q n r _=>?_,λb o q n r _=>?_,λb o q n _=>?_,λb o q _=>?_,λb Z q=>u.dS b Z (I.base.dS b Z q),λb o v q=>u.iM b o v (I.base.iM b o v q),λb ps q=>?_⟩ (aE.FH (λb o l C=>nH b o l C)) ⟨x,FJ,lA,λb l o C=>?_,λb o q r X Y=>?_,hE⟩;have m:=I.base.keep b o q n r Zb;have F:=nL b o q r;exact p b o m F o<|u.keep b o m (I.base.free b o q n Zb) F Zb;obtain⟨U,m⟩:=I.base.slot b o q n r Zb;have F:b∈bL (envOfC d g c.heap.objs.size f h::a):=Yl _ r;obtain⟨xM,y⟩:=u.slot b _ m (I.base.free b o q n Zb) F Zb;obtain⟨FK,W⟩:=js b F _ y;exact qX FK W;obtain⟨D,m⟩:=I.base.there b o q Zb;exact u.free b D m (I.base.free b o q n Zb) Zb;obtain⟨D,m⟩:=I.base.there b o q Zb;obtain⟨G,y⟩:=u.there b D m Zb;by_cases S:b∈bL (envOfC d g c.heap.objs.size f h::a);obtain⟨U,W⟩:=js b S G y;exact qX _ W;exact qX G (p b D m S G y);obtain⟨m1,e1⟩:=I.base.jj b ps q;obtain⟨m2,e2⟩:=u.jj b _ e1;exact qX (m1++m2) (by rw[e2,Array.append_assoc]);obtain⟨gK,hH⟩:=YM.mp l;obtain⟨G,y⟩:=(aE b gK hH).BB;have L:=C;rw[(nH b G l y)] at L;cases L;exact c1 b l _ y;obtain⟨D,m⟩:=I.base.there b o q Zb;obtain⟨G,y⟩:=u.there b D m Zb;have F:=nL b o q r;have L:=Y;rw[(p b D m F G y)] at L;cases L;exact c2 b D m F _ y
def yG(X:Cx)(E:XK):Prop:= ∀(B:cr)(b:St)(H:Hp)(s:AC)(h:Do)(e:z4)(c:AT)(v:ge),d4 X B b H s->Heap.MadeExcOf s.heap h e c v->E c none H->X.a (.ref e) {s with heap:=h}
theorem ab2:yG (sM (g_ P w) P w K i j N d g f h A a c k E) E:=by
 intro B' σ H s Z e G vs I J hE;have U:∀b o,c.heap.get? b=some o->b∉bL a->b∉bL (envOfC d g c.heap.objs.size f h::a):=λb o m p C=>by
  rcases Z5.mp C with rfl|z
  cases Nat.not_lt.mpr I.ok.above (Gc m);exact p z
 have mx:∀y∈ (envOfC d g c.heap.objs.size f h::a),∀b,y.frame=some b->b∈bL (envOfC d g c.heap.objs.size f h::a):=λy he b m=>vJ.mpr (pQ y he m);have yj:fI e {s with heap:=Z}:=by
  obtain⟨t,ht,_,_⟩:=J.there;exact qM _ _ ht O O O
 refine Id (yi NA yj (wpAny_leaves_madeW (Q:=λ_ X=>∃x t,X={s with heap:=x}/\Heap.FlyingW (hideAll s.heap (bL (envOfC d g c.heap.objs.size f h::a))) a e G (.ref t) x/\Z.UpToSlots x) (E:=λ_ _=>False)
  I.ok.frames O (λb o q=>of_hideAll _ q) (PySem.W.funFrames_hide I.stack mx) J λx t r _ _ L=>p4 x t O r L)) (λ_ X hq=>?_) (λ_ _ z=>z.1.elim)
 obtain⟨⟨x,t,rfl,r,L⟩,FJ⟩:=hq;have l:=λb o m p=>r.1 b o (hideAll_get _ m p);have S:∀b,H b≠none->b∉bL (envOfC d g c.heap.objs.size f h::a):=λb m C=>m (I.AH b C);have V:∀b∈bL (envOfC d g c.heap.objs.size f h::a),∀o,s.heap.get? b=some o->∃M,x.get? b=some {o with slots:=M}:=λb m o u=>by
  obtain⟨B,Y,hd⟩:=(I.stack.mem m).2;rw[u] at Y;cases Y;exact L b o (J.keeps b o u) hd
 refine sU e G t _ H O I.os I.E ⟨λb o q n p _=>?_,λb o q n p _=>?_,λb o q n _=>I.base.free b o q n Zb,λb o q _=>?_,I.base.dS,I.base.iM,I.base.jj⟩ (I.aE.FH (λb o m u=>l b o u (S b m))) ⟨r,FJ,?_,λb m o u=>?_,λb o q p o' dj=>?_,hE⟩;exact l b o (I.base.keep b o q n p Zb) (U b o q p);obtain⟨M,v⟩:=I.base.slot b o q n p Zb;obtain⟨FK,R⟩:=V b (Yl _ p) _ v;exact qX FK R;obtain⟨B,v⟩:=I.base.there b o q Zb;by_cases C:b∈bL (envOfC d g c.heap.objs.size f h::a);obtain⟨M,R⟩:=V b C B v;exact qX _ R;exact qX B (l b B v C);cases q:H e with
 |none=>rfl
 |some u=>
  obtain⟨T,D⟩:=(I.aE e u q).BB;rw[J.new] at D;cases D
 obtain⟨gK,hH⟩:=YM.mp m;obtain⟨T,D⟩:=(I.aE b gK hH).BB;have F:=u;rw[(l b T D (S b m))] at F;cases F;exact hideAll_get _ D<|S b m;obtain⟨B,v⟩:=I.base.there b o q Zb;have gQ:=U b o q p;have F:=dj;rw[(l b B v gQ)] at F;cases F;exact hideAll_get _ v gQ
end
section
variable{X:Cx}
theorem ab3{C:z4}{Q:ge}{B n U:Fa}{c:le}(hc:X.calm=true)(a:OwnCls x C Q n X.g X.base)(S:ExcBaseFacts B n U Q)(FN:Gl X x)(hd:(x==("__debug__":Str))=false)(ha:PA X (e::c) t)(K:starEach (e::c) X.env=(false,eval e X.env)::starEach c X.env)(h1:(backTo j<|starEach c X.env).any (·.1)=false)(hR:yG X E):
  PS X (.Raise (some<|.Call (.Name x w) (e::c) [] j) none p) (Ft C E t):=by
 intro o s i H D I h;obtain⟨tl,N,y,q,P,b,u,d,R,l,M,J,G,F,A,z,mN,hC,hN,BC,T⟩:=a.obj;have hg:PE X (.Name x w) (tC<|.r C):=La FN a.bound O hd;refine wpAny_Raise_call_subT (C:=C) (nm:=y) (q:=q) (N:=N) (bs:=P) (hdct:=b) (sn:=u) (sub:=d) (ab:=R) (col:=l) (dd:=M) (k0:=J) (k1:=G) (k2:=F) (k3:=A) (k5:=z)
  S (T.hasType S.hasBase) (I.ok.hd hc) (by rw[K];show(false ||(backTo j<|starEach c X.env).any (·.1))=false;rw[h1];rfl) BC
  (aI (hg o s i H (λv m=>v=.r C/\Ft C E t D i m) I ⟨O,h⟩) λf W ⟨v,m,I1,Z,ev,q1⟩=>?_)
 subst ev;obtain rfl:f=Value.ref C:=Z;refine⟨O,?_⟩;have L:=ha j o W i m _ I1 q1;rw[K] at L⊢;refine UF<|aI L λus V h=>?_;obtain⟨vs,H2,k,Y,hl,q2⟩:=h;refine ⟨O,?_,k.bk _ _ hC,hN.keeps k.bk,T.keeps k.bk,λh' e' hm=>hR o i H2 V h' e' _ _ k hm q2⟩;have:=Y.length;lia
end
theorem NC{j B:Do}(u:Un (bL l) [] H k h g)(E:cx P w k g)(J:g.FunFrames B l)(C:∀b,k b≠none->∀o,g.get? b=some o->B.get? b=some o)(A:∀b o,h.get? b=some o->b∉bL l->∀d,g.get? b=some d->B.get? b=some d)(v:B.StaysIn j)(D:g.UpToSlots j):
  Un (bL l) [] H k h j/\cx P w k j/\(∀b,k b≠none->∀o,j.get? b=some o->B.get? b=some o)/\(∀b o,h.get? b=some o->b∉bL l->∀d,j.get? b=some d->B.get? b=some d):=by
 have x:=λb o a e=>v b o (C b a o e);have i:=λb o a c d r=>v b d (A b o a c d r);have y:∀b∈bL l,∀o,g.get? b=some o->∃s,j.get? b=some {o with slots:=s}:=λb a o e=>by
  obtain⟨p,T,G⟩:=(J.mem a).2;rw[e] at T;cases T;exact D b o e G
 refine⟨⟨λb o q n c Y=>i b o q c o<|u.keep b o q n c Zb,λb o q n c Y=>?_,u.free,λb o q Y=>?_,u.dS,u.iM,u.jj⟩,E.FH<|λb o a e=>x b o a e,λb a o e=>?_,λb o q c d r=>?_⟩;obtain⟨s,m⟩:=u.slot b o q n c Zb;obtain⟨M,f⟩:=y b c _ m;exact⟨M,f⟩;obtain⟨p,m⟩:=u.there b o q Zb;by_cases z:b∈bL l;obtain⟨s,F⟩:=y b z p m;exact⟨_,F⟩;exact⟨p,i b o q z p m⟩;obtain⟨K,I⟩:=YM.mp a;obtain⟨t,f⟩:=(E b K I).BB;rw[(x b t a f)] at e;cases e;exact C b a _ f;obtain⟨t,f⟩:=u.there b o q Zb;rw[(i b o q c t f)] at r;cases r;exact A b o q c _ f
noncomputable def Cx.alt(X:Cx)(A:Db)(c:Cl)(p:cr)(x:ce):Cx:={X with A:=A,calm:=c,n:=p,a:=x}
theorem d4.alt{a:St}{calm':Cl}(I:d4 X B a H s)(f:A'.frames=X.A.frames)(c:calm'=true->A'.handled=none)(b:∀p∈pn'++pins',p∈X.n++B):
  d4 (X.alt A' calm' pn' F) pins' a H s where
 ok:=⟨I.ok.mod,I.ok.kind,I.ok.glob,I.ok.blt,I.ok.above,I.ok.inj,I.ok.has,I.ok.AD,c,f.trans I.ok.frames,I.ok.mf,I.ok.KZ,I.ok.bs,I.ok.sx,I.ok.AE,I.ok.AF,I.ok.mh,I.ok.ve⟩
 os:=I.os
 E:=I.E
 base:=I.base
 G:=I.G
 cell:=I.cell
 free:=I.free
 P:=I.P
 pin:=λp h=>I.pin p (b p h)
 aE:=I.aE
 len:=I.len
theorem d4.FP{d:St}(o:X.Ok)(I:d4 (X.alt A c b F) a d H s)(e:∀p∈X.n++B,p∈b++a):
  d4 X B d H s where
 ok:=o
 os:=I.os
 E:=I.E
 base:=I.base
 G:=I.G
 cell:=I.cell
 free:=I.free
 P:=I.P
 pin:=λp h=>I.pin p (e p h)
 aE:=I.aE
 len:=I.len
theorem ab4(a:h.get? e=some o):cY P w H h e (.c o sX):=
 ⟨a,trivial,⟨o,a⟩,λY Y Y Y=>trivial⟩
theorem cx.more(k:cx P w H h)(d:H a=none)(x:cY P w (fy H a o) h a o):cx P w (fy H a o) h:=λb u e=>by
 by_cases z:b=a;subst z;rw[av] at e;cases e;exact x;rw[aw z] at e;exact(k b u e).nG (λY Y Y q=>q) (λc q=>by rw[aw<|aH q d];exact q) (λc s q=>by rw[aw<|aH q d];exact q)
def ND(A:Db)(H:Hp):Prop:= ∃e D,A.handled=some (.ref e)/\x5 H e D
def amX(X:Cx):Prop:=ND X.A X.H
structure vK(k:Nat)(A:Db):Prop where
 dp:A.depth+3*k+5<recursionLimit
 un:A.units+16*k+200<cLine
 gd:A.guards=some []:=by rfl
theorem d5.h(r:d5 k A):vK k A:=⟨r.dp,r.un,r.gd⟩
theorem vK.mark(r:vK k A)(v:wT):vK k (A.mark v):=⟨r.dp,r.un,r.gd⟩
def CRH(o:wr)(P:BT)(w:A9)(H:Hp)(s:AC)(Q:VK)(r:Result)(a:AC):Prop:=
 match r with
 |.ok (.ret u)=>CE o P w H s Q u a
 |_=>False
structure NF(P:BT)(w:A9)(K:Frag)(mg:db)(base:Do)(k:Nat)(f:z4)(fd:Ev)(ps:bn)(sp:Sp):Prop where
 len:∀vs H Q E,sp vs H Q E->vs.length=ps.length
 run:∀(A:Db)(outer:wr)(s:AC)(H:Hp)(args:Args)(us:ge)(vs:bi)(Q:VK),vK k A->ND A H->qB P w K mg base A outer s H->BindsTo s fd args (ps.zip us)->Xz vs us->sp vs H Q E0->
  codeAny (model P w) A (.call (.ref f) args) (CRH outer P w H s Q) s
def NG(C:c5)(X:Cx)(x:Str)(s:Sp):Prop:=
 ∃k f d p,dH X.prog X.w X.K X.g X.base C k f d p s/\d5 k X.A/\X.g x=some (.ref f)/\keepIn X.K (.ref f)=true/\zc X.K d p []
def BD(a:c5)(X:Cx)(C:z4)(m:Str)(s:Sp):Prop:=
 gj X.K C/\∃k f d p,v9 X.K C m f/\dH X.prog X.w X.K X.g X.base a k f d p s/\d5 k X.A/\zc X.K d p []
def NH(a:c5)(X:Cx)(x:Str)(C:z4)(s:Sp):Prop:=
 ∃k f d p,Mk X.K C f/\dH X.prog X.w X.K X.g X.base a k f d p s/\d5 (k+1) X.A/\X.g x=some (.ref C)/\zc X.K d p []
def NI(X:Cx)(x:Str)(s:Sp):Prop:=
 ∃k f d p,NF X.prog X.w X.K X.g X.base k f d p s/\vK k X.A/\X.g x=some (.ref f)/\keepIn X.K (.ref f)=true/\zc X.K d p []
def NJ(X:Cx)(x:Str)(C:z4):Prop:= ∃b B n v,OwnCls x C b n X.g X.base/\ExcBaseFacts B n v b
structure Good(CX:c5)(S:dm)(Γ:aW)(X:Cx):Prop where
 N:X.N=S.N
 sc:X.env.scope=S.sc
 K:X.K=Γ.K
 calm:S.m=0->X.calm=true
 units:X.A.units+64<cLine
 n:X.A.guards=some []
 l:S.m=0->∀j x,S.fn[j]?=some x->NG CX X x (Γ.fs j)
 eO:∀j x,S.gn[j]?=some x->∃u,X.g x=some u/\YD (Γ.gv j) u
 iU:∀x,S.bl.contains x=true->X.g x=none
 pass:X0 CX X Γ.E
 my:∀outer H s e s',CX outer H s E0 e s'->False
 q:∀p ah,Γ.sd p ah->∀h:Do,X.K.In h->∃vs,KV ah vs/\h.DictOf (fo X.prog X.w) p vs
 qN:S.m=0->∀j m,S.mn[j]?=some m->BD CX X (Γ.ms j).1 m (Γ.ms j).2
 tj:S.m=0->∀j x,S.kn[j]?=some x->NH CX X x (Γ.kt j).1 (Γ.kt j).2
 yl:∀j x,S.e[j]?=some x->NJ X x (Γ.ex j)
 tm:∀j x,S.hn[j]?=some x->NI X x (Γ.hs j)
 vL:∀e,Γ.h=some e->X.A.handled=some (.ref e)
 ym:S.m=1->amX X
theorem BE{S:dm}(h:(if S.m=0 then 0 else 2)=0):S.m=0:=by lia
section
variable{d:c5}{S:dm}{g:aW}{X:Cx}
theorem Good.inner(G:Good d S g X)(c:yg)(a:bn)(f:lv)(i:lV)(C:z4)(s:AC)(H:Hp):
  Good d (Nu S c a f) g.calm (jq X c.sc (a++f.map (·.1)) i C s H) where
 N:=O
 sc:=by
  show relabel c.sc X.env=FA c.sc S.sc;rw[<-G.sc];rfl
 K:=G.K
 calm:=λh=>G.calm (BE h)
 units:=G.units
 n:=G.n
 l:=λm j x h=>G.l (BE m) j x h
 eO:=G.eO
 iU:=G.iU
 pass:=λY Y Y Y Y Y Y h=>(G.my _ _ _ _ _ h).elim
 my:=G.my
 q:=G.q
 qN:=λz j m h=>G.qN (BE z) j m h
 tj:=λz j x h=>G.tj (BE z) j x h
 yl:=λj x h=>by simp[Nu] at h
 tm:=λj x h=>G.tm j x h
 vL:=λe h=>G.vL e h
 ym:=λh=>by
  have b:(if S.m=0 then 0 else 2)=1:=h;split at b<;>cases b
theorem Good.gl(G:Good d S g X)(h:qK S.sc x=true):Gl X x:=by
 show X.env.scope.names.lookup x=_;rw[G.sc];exact abL h
theorem eE{s:le}(h:fH e=true):starEach (e::s) v=(false,eval e v)::starEach s v:=by
 cases e<;>first|rfl|cases h
theorem qF(h:qL o=true):attributeBase o x e (eval o e)=eval o e:=by
 cases o with
 |Call f a k p=>
  cases f with
  |Name n c=>
   cases a with
   |nil=>
    cases k with
    |nil=>cases h
    |_=>rfl
   |_=>rfl
  |_=>rfl
 |_=>rfl
theorem BF(h:yh e=true):∀x,foldedSetIterable e v x=pure x:=by
 intro x;cases e<;>first|rfl|cases h
def iy(e:le):Cl:=e.all fH
theorem mz(v:Env)(p:Pos):∀(s:le),iy s=true->(backTo p<|starEach s v).any (·.1)=false
 |[],h=>O
 |e::s,h=>by
  simp only[iy,o8,ZW] at h;rw[eE h.1];show(false ||(backTo p<|starEach s v).any (·.1))=false;rw[(mz v p s h.2)];rfl
theorem BG(v:Env)(p:Pos):∀(s:le),iy s=true->(backTo p<|starEach s v).all (λx=> !x.1)=true
 |[],h=>O
 |e::s,h=>by
  simp only[iy,o8,ZW] at h;rw[eE h.1];show(!false && (backTo p<|starEach s v).all (λx=> !x.1))=true;rw[(BG v p s h.2)];rfl
theorem eP{s:le}(h:iy (e::s)=true):fH e=true/\iy s=true:=by
 simp only[iy,o8,ZW] at h;exact h
theorem NK(G:Good d S g X)(h:FC S c l f=true):
  mv X c.sc l f/\(∀x∈l,if l.length=1 then ZQ c.sc x else c.sc.names.lookup x=some .local)/\(l++f.map (·.1)).Nodup/\yh c.i=true:=by
 simp only[FC,ZW,GM,YR,Bool.or_eq_true] at h;obtain⟨⟨⟨⟨⟨⟨⟨u,t⟩,s⟩,r⟩,q⟩,o⟩,n⟩,m⟩:=h;refine⟨⟨u,λy a b=>(t y a).resolve_left λz=>z b,λy a b=>?_,λy a k=>?_,λp j=>?_⟩,λx e=>?_,n,m⟩;rcases s y a with z|z
 cases z b;exact z;show X.env.scope.names.lookup y.1=_\/X.env.scope.names.lookup y.1=_;rw[G.sc];rcases r y a with(z|z)|z
 cases z k;exact .inl z;exact .inr z;rw[G.N];exact q p j;rcases o x e with z|z
 split;exact .inl z;exact z;rw[Fr z.1];exact .inr z.2
theorem NL(d:X.calm=true){c:yg}{f:lv}(h:vG t c.tg=some l)(a:∀x∈l,if l.length=1 then ZQ c.sc x else c.sc.names.lookup x=some .local)(n:(l++f.map (·.1)).Nodup):
  xY X c.sc l f c.tg t:=by
 unfold vG at h;split at h;rename_i x p he;cases h;rw[he];exact aa1 (a x am) n;rename_i x p y q k b he;cases h;rw[he];exact aa3 d (a x am) (a y am) n;cases h
theorem ZO{K:Frag}(h:lu K .i x H Q):(∃i,x=[.i i]/\Q (.i i) H)\/∃k,x=[.b k]/\Q (.i (if k then 1 else 0)) H:=by
 rcases x with _|⟨x,_|_⟩ <;>(try exact False.elim h) <;>cases x<;>first|exact False.elim h|exact .inl ⟨_,O,h⟩|exact .inr ⟨_,O,h⟩
theorem ab7{K:Frag}(h:vp K x H Q):∃n,LR K x H n/\Q n:=by
 cases x with
 |s y=>exact⟨_,⟨h.1,O⟩,h.2⟩
 |r p=>
  rcases h with⟨c,a,b⟩|⟨c,a,b⟩
  exact⟨_,.inl ⟨c,a,O⟩,b⟩;exact⟨_,.inr ⟨c,a,O⟩,b⟩
 |_=>exact False.elim h
inductive ab8(X:Cx)(b:o5):Prop where
 |fn (i:Fa)(h:bootBuiltins b.nm=some (.builtin i))(c:d0 X (.builtin i) (lu X.K b))
 |ty (T:Fa)(h:bootBuiltins b.nm=some (.type T))(c:d0 X (.type T) (lu X.K b))
theorem amU:bootBuiltins "min"=some (.builtin "min"):=O
theorem aiI:bootBuiltins "max"=some (.builtin "max"):=O
theorem ajX:bootBuiltins "abs"=some (.builtin "abs"):=O
theorem apF:bootBuiltins "sum"=some (.builtin "sum"):=O
theorem ab9:bootBuiltins "isinstance"=some (.builtin "isinstance"):=O
theorem ab_:bootBuiltins "int"=some (.type "int"):=O
theorem aca:bootBuiltins "list"=some (.type "list"):=O
theorem acb:bootBuiltins "tuple"=some (.type "tuple"):=O
theorem NM(f:Nat->Int)(l:Nat->Nat->Cl)(h:∀i j,l i j=decide (f i<f j)):∀n,argBest l n<=n/\∀i,i<=n->f (argBest l n)<=f i
 | 0=>⟨Yw _,λi c=>by
   obtain rfl:i=0:=Yk c (nE _);exact YG _⟩
 |n+1=>by
  obtain⟨a,b⟩:=NM f l h n;have e:argBest l (n+1)=if l (n+1) (argBest l n)=true then n+1 else argBest l n:=O
  rw[e,h];split;refine⟨Yw _,λi c=>?_⟩;by_cases z:i=n+1;rw[z];exact YG _;have:=b i (XQ (vW c z));lia;refine⟨(YS a),λi c=>?_⟩;by_cases z:i=n+1;lia;exact b i (XQ (vW c z))
theorem NN(h:i<x.size):numAt x i=x[i].1:=by
 unfold numAt;rw[Array.getElem?_eq_getElem h];rfl
theorem S9(h:i<x.size):numAt x i∈x.toList.map (·.1):=by
 rw[NN h];exact gS.mpr ⟨x[i],am,O⟩
theorem ace(h:n∈x.toList.map (·.1)):∃i,i<x.size/\n=numAt x i:=by
 obtain⟨y,a,rfl⟩:=gS.mp h;obtain⟨i,b,rfl⟩:=List.getElem_of_mem a;have e:=by simpa using b
 exact⟨i,e,by rw[NN e];simp⟩
theorem acf{b:St}{n:ww}(I:d4 X B b H s)(q:ax X.K H p (n.map V.i)):∃x:Array (Int×Tok),s.heap.IsList p (intItems x)/\n=x.toList.map (·.1):=by
 obtain⟨c,r,l,z⟩:=I.list q;have a:=DA r;obtain⟨x,h⟩:=a.allInts.items;refine⟨x,h ▸ l.isList,?_⟩;rw[<-nums_intItems,<-h];exact(show numsOf c.toArray.toList=n from a.numsOf).symm
theorem TQ(o:X.calm=true):d0 X (.builtin "min") (λx H Q=>∃(p:z4)(a:ww),x=[.r p]/\ax X.K H p (a.map V.i)/\a≠ []/\∀m:Int,m∈a->(∀n∈a,m<=n)->Q (.i m) H):=by
 intro F s y H x A Q I r h;obtain⟨p,a,rfl,f,d,q⟩:=h;obtain⟨u,rfl,c⟩:=XW r;cases c;obtain⟨x,l,rfl⟩:=acf I f;have b:0<x.size:=Nat.pos_of_ne_zero λz=>d (by rw[WP z];rfl);refine min_intList (I.ok.hd o) l b λv D B e k=>?_;obtain⟨t,rfl⟩:=intItems_at e;obtain⟨E,w⟩:=NM (numAt x) (λi j=>decide<|numAt x i<numAt x j) (λY Y=>O) (x.size - 1);refine⟨.i _,H,I.kept k,⟨t,O⟩,q _ (S9 (by omega)) λn g=>?_⟩;obtain⟨i,C,rfl⟩:=ace g;exact w i ba
theorem ach{X:v0}(h:ItemsOf (SignAt x) X x.cps.size):Xz (Yx x) X.toList:=by
 have o:∀(l:bv)(a:ge),a.length=l.length->(∀(j:Nat)(v:AT),a[j]?=some v->∃(c:Nat)(t:Tok),l[j]?=some c/\v=.str ⟨#[c]⟩ t)->Xz (l.map λc=>.s ⟨#[c]⟩) a:=by
  intro l;induction l with
  |nil=>
   intro a b Y;rw[CA.mp b];exact .nil
  |cons c l k=>
   intro a b g;cases a with
   |nil=>cases b
   |cons u a=>
    obtain⟨q,t,f,e⟩:=g 0 u O;have U:=by simpa using f
    subst U;exact .cons (qX t e) (k a (by simpa using b) λj v d=>by
     obtain⟨p,i,n,m⟩:=g (j+1) v (by simpa using d);exact q9 p i (by simpa using n) m)
 refine o x.cps.toList X.toList ?_ λj v d=>?_;have:=h.1;simpa using this;obtain⟨c,t,f,e⟩:=h.2 j v (by simpa using d);exact q9 c t (by simpa using f) e
theorem aci(x:Str):(Yx x).length=x.length:=by simp[Yx,Str.length]
theorem acj(d:X.calm=true):d0 X (.type "list") (λb H Q=>∃x,b=[.s x]/\x.length<=sizeLine/\∀l,H l=none->Q (.r l) (fy H l<|.l<|Yx x)):=by
 intro B s i H b j Q I r h;obtain⟨x,rfl,c,q⟩:=h;obtain⟨u,rfl,t,rfl⟩:=XW r;exact call_list_str (I.ok.hd d) x t (λf m F g k e a=>⟨.r s.heap.objs.size,_,I.laid k (Yw _) (show cY X.prog X.w _ f _ (.l<|Yx x) from⟨by rw[aci];exact c,F.toList,g,(ach a),by simpa using e⟩),O,q _<|I.aE.fresh<|Yw _⟩) c
theorem acm:PE X (.Dict [] [] p) Nj:=λB s a H Q I h=>by
 have b:sysModules<s.heap.objs.size:=Zr ap (I.mod.glob.keeps I.bk).lt;have o:cY X.prog X.w (fy H s.heap.objs.size<|.d []) (s.heap.push {cls:=.type "dict",data:=.dict #[]}) s.heap.objs.size (.d []):=
  ⟨nE _,beq_eq_false_iff_ne.mpr<|GE<|XS b,[],.nil,Heap.DictOf.new s.heap⟩
 exact wpAny_Dict_empty ⟨.r s.heap.objs.size,_,I.laid (λY Y q=>GT _ q) (Yw _) o,O,h _<|I.aE.fresh<|Yw _⟩
theorem acn(f:X.calm=true)(b:o5):ab8 X b:=by
 cases b with
 |l=>exact .fn "len" boot_len (d0.imp aoA λa H Q h=>by
   rcases a with Y|⟨x,Y|⟨Y,Y⟩⟩ <;>(try exact False.elim h)
   obtain⟨n,d,c⟩:=ab7 (Q:=λn=>Q (.i n) H) h;exact p4 x n O d c)
 |m=>exact .fn "min" amU (d0.imp ((acO f).or (TQ f)) λa H Q h=>by
   match a,h with
   |[.i i,.i j],h=>exact .inl (q9 i j O h)
   |[.r p],⟨g,d,c,q⟩=>exact .inr (qM p g O d c q))
 |max=>exact .fn "max" aiI λY Y Y Y a Y Y Y Y h=>by rcases a with Y|⟨y,Y|⟨k,Y⟩⟩ <;>first|exact False.elim h| (cases y<;>exact False.elim h)
 |s=>exact .fn "sum" apF (d0.imp (abi f) λa H Q h=>by
   rcases a with Y|⟨x,Y|⟨Y,Y⟩⟩ <;>(try exact False.elim h) <;>cases x<;>(try exact False.elim h)
   obtain⟨g,d,c⟩:=h;exact p4 _ g O d c)
 |abs=>exact .fn "abs" ajX λY Y Y Y a Y Y Y Y h=>by rcases a with Y|⟨y,Y|⟨k,Y⟩⟩ <;>first|exact False.elim h| (cases y<;>exact False.elim h)
 |i=>exact .ty "int" ab_ (d0.imp apB λa H Q h=>ZO h)
 |t=>exact .ty "list" aca (d0.imp (ZJ.or (acj f)) λa H Q h=>by
   rcases a with Y|⟨x,Y|⟨Y,Y⟩⟩ <;>(try exact False.elim h) <;>cases x<;>(try exact False.elim h)
   exact .inr (qH _ O h.1 h.2);obtain⟨o,d,c⟩:=h;exact .inl (p4 _ o O d c))
 |e=>exact .ty "tuple" acb λY Y Y Y a Y Y Y Y h=>by rcases a with Y|⟨y,Y|⟨k,Y⟩⟩ <;>first|exact False.elim h| (cases y<;>exact False.elim h)
structure aco(X:Cx)(m:jS)(id:Fa):Prop where
 pa:PlainAttrs (Bx m)
 slot:Slot (Bx m) m.nm id
 ty:typeOf (.builtin id)=pure (.type "method_descriptor")
 mt:sN X id (vD X.K m)
theorem acq(r:KV m f)(k:ZA)(h:sZ m k=some v):∃u,valueAt f k=some u/\YD v u:=by
 induction r with
 |nil=>cases h
 | @cons p q c s j t i=>
  obtain⟨g,l⟩:=j;by_cases e:p.1=k;have d:=g.symm.trans e;have b:valueAt (q::s) k=some q.2:=by simp[valueAt,cV,d]
  have a:sZ (p::c) k=some p.2:=by simp[sZ,cV,e]
  rw[a] at h;cases h;exact⟨_,b,l⟩;have d:¬q.1=k:=λz=>e (g.trans z);have b:valueAt (q::s) k=valueAt s k:=by simp[valueAt,cV,d]
  have a:sZ (p::c) k=sZ c k:=by simp[sZ,cV,e]
  rw[a] at h;rw[b];exact i h
theorem Qv(o:∀p a,c p a->∀h:Do,X.K.In h->∃b,KV a b/\h.DictOf (fo X.prog X.w) p b):nR X (Nk c):=by
 intro e Z B s t H x y v u Q I g f h j;obtain⟨p,a,k,z,zq⟩:=Yv h;obtain⟨rfl,rfl,l,m,q⟩:=c3 zq;cases g;obtain⟨b,r,d⟩:=o p a l s.heap I.dU;obtain⟨w,n,i⟩:=acq r k m;exact TD d.mapOf.typeIs PySem.F.slot_dict_getitem.lookup
  (wpAny_getItem_of (sS f) d.mapOf n ⟨O,z,H,I.tok _,i,q⟩) j
theorem acs(F:∀p a,s p a->∀h:Do,X.K.In h->∃v,KV a v/\h.DictOf (fo X.prog X.w) p v):nR X (o6 X.K s):=apH.or (akY.or<|apN.or<|Qv F)
theorem acu:sN X "list.index" (λx c H Q=>∃(l:z4)(y:V)(a:bi),x=.r l/\c=[y]/\ax X.K H l a/\jP y=true/\a.all jP=true/\iR y a=true/\Q (.i (a.findIdx (λz=>jn z y):Nat)) H):=by
 intro B' s Y H x c v Z Q I B C h;obtain⟨l,y,a,zq⟩:=ZG h;obtain⟨rfl,rfl,L,R,m,G,q⟩:=AY zq;cases B;obtain⟨u,rfl,D⟩:=XW C;obtain⟨b,r,⟨⟨U,T,t,A⟩,n,o,P,FR,N⟩,hz⟩:=I.list L;subst P N;have d:=r.length;have e:∀j (k:j<b.length) (g:j<a.length),gL y b[j]=jn a[j] y:=λj k g=>by
  obtain⟨w,S,E⟩:=r.get (i:=j) (x:=a[j]) am;have p:=YO k;rw[S] at p;rw[<-X8 p];exact EZ E<|YR.mp m _<|List.getElem_mem g
 have f:=List.findIdx_lt_length.mpr (List.any_eq_true.mp G);have hn:=sH;refine KK PySem.F.slot_list_index ⟨_,o,O⟩ PySem.F.entry_list_index (PySem.F.args_list_index_2 _ _)
  (PySem.SeqAt.list_indexAt l b.toArray n T A u (gL y) (a.findIdx λz=>jn z y) (by simp;exact XG f (Y8 d)) ba ?_ ?_) ⟨o,λz J=>xQ D R r m z (by simpa using J),⟨.i _,H,I.tok _,⟨_,O⟩,q⟩⟩
 show gL y b[a.findIdx λz=>jn z y]=true;rw[e _ (XG f (Y8 d)) f];exact List.findIdx_getElem (w:=f);intro j M W;show gL y b[j]=false;rw[e j M (Zr W f)];simpa using List.not_of_lt_findIdx W
theorem NO(m:jS):∃G,aco X m G:=by
 cases m with
 |a=>exact qX _ ⟨LE,UV,F.type_list_append,λB s g H x b v u Q I k n h=>by
   cases x<;>(try exact False.elim h) <;>rcases b with Y| ⟨d,Y| ⟨Y,Y⟩⟩ <;>(try exact False.elim h)
   obtain ⟨z,q,o,w⟩:=h;exact aaO B s g H _ _ v u Q I k n (sA _ z _ O O q o w)⟩
 |p=>exact qX _ ⟨LE,F.slot_list_pop,F.type_list_pop,λB s g H x b v u Q I k n h=>by
   cases x<;>(try exact False.elim h) <;>rcases b with Y| ⟨Y,Y⟩ <;>(try exact False.elim h)
   obtain ⟨z,y,q,o,w⟩:=h;exact acL B s g H _ _ v u Q I k n (sA _ z y O O q o w)⟩
 |e=>exact qX _ ⟨LE,F.slot_list_extend,F.type_list_extend,λB s g H x b v u Q I k n h=>by
   cases x<;>(try exact False.elim h) <;>rcases b with Y| ⟨d,Y| ⟨Y,Y⟩⟩ <;>(try exact False.elim h) <;>cases d<;>(try exact False.elim h)
   obtain ⟨D,z,zq⟩:=ZL h;obtain ⟨q,o,w,C⟩:=Yq zq;exact alU B s g H _ _ v u Q I k n (r4 _ _ D z O O q o w C)⟩
 |j=>exact qX _ ⟨Re,F.slot_str_join,F.type_str_join,λB s g H x b v u Q I k n h=>by
   cases x<;>(try exact False.elim h) <;>rcases b with Y| ⟨d,Y| ⟨Y,Y⟩⟩ <;>(try exact False.elim h) <;>cases d<;>(try exact False.elim h)
   obtain ⟨E,q,o,w⟩:=h;exact abj B s g H _ _ v u Q I k n (sA _ _ E O O q o w)⟩
 |l=>exact qX _ ⟨Re,F.slot_str_lstrip,F.type_str_lstrip,λB s g H x b v u Q I k n h=>by
   cases x<;>(try exact False.elim h) <;>rcases b with Y| ⟨d,Y| ⟨Y,Y⟩⟩ <;>(try exact False.elim h) <;>cases d<;>(try exact False.elim h)
   obtain ⟨q,o⟩:=h;exact abl B s g H _ _ v u Q I k n (qM _ _ O O q o)⟩
 |s=>exact qX _ ⟨Re,F.slot_str_startswith,F.type_str_startswith,λB s g H x b v u Q I k n h=>by
   cases x<;>(try exact False.elim h) <;>rcases b with Y| ⟨d,Y| ⟨A,Y| ⟨Y,Y⟩⟩⟩ <;>(try exact False.elim h) <;>cases d<;>(try exact False.elim h) <;>cases A<;>(try exact False.elim h)
   exact abn B s g H _ _ v u Q I k n (t_ _ _ _ O ⟨O,h⟩)⟩
 |f=>exact qX _ ⟨Re,F.slot_str_find,F.type_str_find,λY Y Y Y x b Y Y Y Y Y Y h=>by cases x<;>rcases b with Y| ⟨d,Y| ⟨A,Y⟩⟩ <;>first|exact False.elim h| (cases d<;>exact False.elim h)⟩
 |t=>exact qX _ ⟨Re,F.slot_str_count,F.type_str_count,λY Y Y Y x b Y Y Y Y Y Y h=>by cases x<;>rcases b with Y| ⟨d,Y| ⟨A,Y⟩⟩ <;>first|exact False.elim h| (cases d<;>exact False.elim h)⟩
 |r=>exact qX _ ⟨LE,F.slot_list_reverse,F.type_list_reverse,λY Y Y Y x b Y Y Y Y Y Y h=>by cases x<;>rcases b with Y| ⟨d,Y| ⟨A,Y⟩⟩ <;>first|exact False.elim h| (cases d<;>exact False.elim h)⟩
 |i=>exact qX _ ⟨LE,F.slot_list_index,F.type_list_index,λY Y Y Y x b Y Y Y Y Y Y h=>by cases x<;>rcases b with Y| ⟨d,Y| ⟨A,Y⟩⟩ <;>first|exact False.elim h| (cases d<;>exact False.elim h)⟩
 |Nb=>exact qX _ ⟨LE,F.slot_list_count,F.type_list_count,λY Y Y Y x b Y Y Y Y Y Y h=>by cases x<;>rcases b with Y| ⟨d,Y| ⟨A,Y⟩⟩ <;>first|exact False.elim h| (cases d<;>exact False.elim h)⟩
 |Fu=>exact qX _ ⟨LE,F.slot_list_index,F.type_list_index,λB s g H x b v u Q I k n h=>by
   cases x<;>(try exact False.elim h) <;>rcases b with Y| ⟨d,Y| ⟨Y,Y⟩⟩ <;>(try exact False.elim h)
   obtain ⟨z,zq⟩:=mD h;obtain ⟨q,o,w,C,J⟩:=c3 zq;exact acu B s g H _ _ v u Q I k n (uS _ _ z O O q o w ⟨C,J⟩)⟩
 |c=>exact qX _ ⟨LE,F.slot_list_clear,F.type_list_clear,λB s g H x b v u Q I k n h=>by
   cases x<;>(try exact False.elim h) <;>rcases b with Y| ⟨Y,Y⟩ <;>(try exact False.elim h)
   obtain ⟨z,q,o⟩:=h;exact ZY B s g H _ _ v u Q I k n (qM _ z O O q o)⟩
theorem acw{v:St}{Q:ce}{E:ce}(I:d4 X B v H s)(f:YD x u)(h:cj T x H p)(q:∀b k,p b->Q (.bool b) {s with toks:=k}):wpAny (model X.prog X.w) X.A (call (.builtin "isinstance") [u,.type T.nm]) Q E s:=by
 cases x with
 |a=>exact oS I f (.aj) (abh _ T) λk=>q _ _ h
 |b b=>exact oS I f (.bl b) (qG X.K .b T) λk=>q _ _ (by cases T<;>exact h)
 |i i=>exact oS I f (.int i) (qG X.K .i T) λk=>q _ _ (by cases T<;>exact h)
 |s i=>exact oS I f (.str i) (qG X.K .s T) λk=>q _ _ (by cases T<;>exact h)
 |r a=>
  cases e:H a with
  |none=>simp only[cj,e] at h
  |some o=>
   cases o with
   |l=>simp only[cj,e] at h;exact oS I f (.lst e) (qG X.K .l T) λk=>q _ _ ba
   |t=>simp only[cj,e] at h;exact oS I f (.tup e) (qG X.K .t T) λk=>q _ _ ba
   |d=>simp only[cj,e] at h;exact oS I f (.dK e) (qG X.K .d T) λk=>q _ _ ba
   |T=>simp only[cj,e] at h;exact oS I f (.dT e) (qG X.K .d T) λk=>q _ _ ba
   |c g j=>
    cases j<;>simp only[cj,e] at h
    exact oS I f (.cw e) (qG X.K .l T) λk=>q _ _ ba
   |_=>simp only[cj,e] at h
 |_=>exact False.elim h
theorem acx(T:Ty):bootBuiltins (Str.ofString T.nm)=some (.type T.nm):=by cases T<;>decide+kernel
theorem acy(T:Ty):d0 X (.builtin "isinstance") (qI T):=by
 intro B s f H a g Q I r h;rcases a with _|⟨x,_|⟨y,_|_⟩⟩ <;>(try exact False.elim h) <;>cases y<;>try exact False.elim h
 obtain⟨e,h⟩:=h;subst e;obtain⟨u,w,rfl,c,i⟩:=Z9 r;cases i;exact acw I c h λb k d=>⟨.b b,H,I.tok k,O,d⟩
theorem XE(f:PE X a c)(d:fH a=true)(e:Gl X "isinstance")(m:X.g "isinstance"=none)(b:Gl X (Str.ofString T.nm))(h:X.g (Str.ofString T.nm)=none):
  PE X (.Call (.Name "isinstance" p) [a,.Name (Str.ofString T.nm) q] [] s) (jO (qI T)<|fA c<|fA (tC<|.t T.nm) k8):=by
 have i:PE X (.Name (Str.ofString T.nm) q) (tC<|.t T.nm):=alL b h (acx T) O (by cases T<;>decide) (by cases T<;>decide);exact ES (acy T) e m ab9 (qA f (qA i xH O)<|eE d) ap (O) (eE d) O
theorem acC:A6 X (vF X.K):=by
 intro E s w H x v m j o b y Q I c q n p h;cases x with
 |r a=>
  rcases h with⟨g,f,d⟩|⟨g,f,d,L⟩
  exact abN E s w H _ v m j o b y Q I c q n p (p4 a g O f d)
  exact alI E s w H _ v m j o b y Q I c q n p (qM a g O f d L)
 |s z=>
  obtain⟨f,d⟩:=h;obtain⟨t,rfl⟩:=c;obtain⟨l,P,B⟩:∃l:Option (Int×Tok),m=partValue l/\l.map (·.1)=o:=by
   cases n with
   |none=>exact pQ none O O
   |int i t=>exact pQ (some (i,t)) O O
  obtain⟨u,N,A⟩:∃u:Option (Int×Tok),j=partValue u/\u.map (·.1)=b:=by
   cases p with
   |none=>exact pQ none O O
   |int i t=>exact pQ (some (i,t)) O O
  subst P N;refine p4 ("str") _ F.slot_str_getitem.lookup (P3 _ _ _) ?_;refine wpAny_getItem_str_slice (l:=l) (u:=u) (st:=none) q O ?_;obtain⟨U,T,S⟩:=EY o b z.length;have J:slicePicked z l u none=(List.range<|HT.bh z.length z.length b - HT.bh z.length 0 o).map (HT.bh z.length 0 o+ ·):=by
   show Builtin.Str.strSliceIndices (l.map (·.1)) (u.map (·.1)) 1 z.length=_;rw[B,A];have R:Builtin.Str.strSliceIndices o b 1 z.length=sliceRange (sliceBounds o b none z.length).1 (sliceBounds o b none z.length).2.1 (sliceBounds o b none z.length).2.2:=O;rw[R,U,T,S,sliceRange_one]
  have D:((slicePicked z l u none).filterMap (z.cps[·]?))=oY z.cps.toList o b:=by
   show(Builtin.Str.strSliceIndices (l.map (·.1)) (u.map (·.1)) 1 z.length).filterMap (z.cps[·]?)=_;rw[B,A,abo]
  have C:z.cps.toList.length=z.length:=rfl;have Z:=HT.ET z.length 0 (nE _) o;have Y:=HT.ET z.length z.length (Yw _) b;refine post_val_or_made (λ_=>?_) λG k=>?_;show(List.toArray ((slicePicked z l u none).filterMap (z.cps[·]?))).size<=sizeLine;rw[D,KW];have:(oY z.cps.toList o b).length<=z.cps.toList.length:=by unfold oY;simp;lia
  lia;have e:(if (((none:Option (Int×Tok)).map (·.1)).getD 1==1 && (slicePicked z l u none).length==z.length)=true then z else ⟨((slicePicked z l u none).filterMap (z.cps[·]?)).toArray⟩)=oZ z o b:=by
   split;rename_i hq;simp only[ZW,Op] at hq;have M:=hq.2;rw[J,Y9,List.length_range] at M;have W:HT.bh z.length 0 o=0:=by lia
   have V:HT.bh z.length z.length b=z.length:=by lia
   unfold oZ oY;rw[C,W,V,<-C,Nat.sub_zero,YU,o_];rw[D];rfl
  rw[e];exact⟨.s _,H,I.tok k,qX G O,d⟩
 |_=>exact False.elim h
theorem acD:AR X (unaryOp .USub) Ni:=by
 intro B s a H x v Q I r h;cases x with
 |i i=>exact aaG B s a H _ v Q I r ⟨i,O,h⟩
 |_=>exact False.elim h
theorem acE(g:PE X a t):PE X (.UnaryOp .Not a p) (Fw X.K t):=by
 intro B s d H Q I h;exact UnaryOp_<|aI (g B s d H _ I h) λv e ⟨x,k,j,r,f⟩=>not_of (aI (LQ B e d k x v (λb c=>Q (.b<|!b) c) j r<|Nh f) λb l ⟨c,i,q⟩=>⟨.b<|!b,c,i,O,q⟩)
theorem BH(d:PE X a t)(e:∀w,isTrue a X.env w=(do let v <-w;standAt a.pos;holding [v] (truthy v))):PT X a (iq X.K t):=by
 intro B s b H Q I h;exact isTrue_plain (aI (d B s b H _ I h) λv c ⟨x,g,f,r,q⟩=>LQ B c b g x v Q f r (Nh q))<|e _
theorem acF{s:le}(b:PE X o a)(d:PA X (e::s) t)(c:qL o=true)(l:(Z.endLine==N.line)=true)(n:(e::s).length<29)(h:starEach (e::s) X.env=(false,eval e X.env)::starEach s X.env)(g:(backTo N<|starEach s X.env).any (·.1)=false)(f:(backTo N<|starEach (e::s) X.env).all (λx=> !x.1)=true):
  PE X (.Call (.Attribute o m.nm Z) (e::s) [] N) (vE X.K m a t):=by
 obtain⟨i,M⟩:=NO m;exact ZN M.pa M.slot M.ty M.mt b d (qF c) (by
  rw[f];show(true && true && decide ((e::s).length+0+0<30))=true;rw[Y4 ba];rfl) l h g
theorem acG(h:PE X o t)(b:qL o=true)(l:(Z.endLine==e.line)=true):
  PE X (.Call (.Attribute o m.nm Z) [] [] e) (vE X.K m t k8):=by
 obtain⟨i,M⟩:=NO m;exact anR M.pa M.slot M.ty M.mt h (qF b) l
theorem NP{a:le}{Q:ce}{E:ce}{A:Db}{s:AC}{g:BT}{w:A9}(n:qL o=true)(j:(Z.endLine==p.line)=true)(t:a.length<29)(k:(backTo p<|starEach a v).all (λx=> !x.1)=true)(h:wpAny (model g w) A (eval o v) (λd c=>∀i,wpAny (model g w) A (getMethod d m i) (λf b=>wpAny (model g w) A (callWith p f.1 f.2 (backTo p<|starEach a v)<|backToKw p<|keywordEach [] v) Q E b) E c) E s):
  wpAny (model g w) A (eval (.Call (.Attribute o m Z) a [] p) v) Q E s:=by
 have H:methodCallForm (a.length+0) (backTo p<|starEach a v) (backToKw p<|keywordEach [] v)=true:=by
  show((backTo p<|starEach a v).all (λx=> !x.1) && true && decide (a.length+0+0<30))=true;rw[k,Y4 ba];rfl
 have l:methodCallPos true o v Z p=pure p:=by unfold methodCallPos;simp[j]
 rw[arm_eval_Call,qF n];refine FI<|Id h (λd c r=>FI<|Os ?_) λY Y e=>e;unfold methodCall;rw[show([]:List Keyword).length=0 from O,H];exact FI<|KF<|Id (r _) (λf b q=>FI<|wpAny_of_eq l q) λY Y e=>e
theorem acI{b:le}(M:BD d X C m j)(J:X0 d X E)(N:PE X o i)(T:PA X (e::b) t)(S:qL o=true)(R:(Z.endLine==p.line)=true)(P:(e::b).length<29)(K:starEach (e::b) X.env=(false,eval e X.env)::starEach b X.env)(V:(backTo p<|starEach b X.env).any (·.1)=false)(U:(backTo p<|starEach (e::b) X.env).all (λx=> !x.1)=true):
  PE X (.Call (.Attribute o m Z) (e::b) [] p) (sJ C m j [] E i t):=by
 obtain⟨c,k,f,fd,ps,n,F,L,z⟩:=M;intro B s g H Q I h;refine NP S R P U<|aI (N B s g H _ I h) λu A h=>?_;obtain⟨x,H1,y,D,a,dx,fs,W,Y,l,q⟩:=h;intro pl;subst W;obtain rfl:u=.ref a:=D;exact LV y Y c n l (callWith_K I.ok.mod.xB n.kp (aI (T p B A g H1 _ y q) λus s2 ⟨v,H2,w,r,G⟩=>⟨w.dU,ER (vs:=.r a::v) F L z .nil J w (.cons O r) G⟩) K V)
theorem acJ(M:BD d X C m e)(n:X0 d X E)(w:PE X o t)(A:qL o=true)(z:(Z.endLine==p.line)=true):
  PE X (.Call (.Attribute o m Z) [] [] p) (sJ C m e [] E t k8):=by
 obtain⟨c,k,f,R,L,g,F,v,y⟩:=M;intro G s i H Q I h;refine NP A z am O<|aI (w G s i H _ I h) λu K h=>?_;obtain⟨x,T,b,j,a,S,P,B,D,l,q⟩:=h;intro N;subst B;obtain rfl:u=.ref a:=j;exact LV b D c g l (PySem.W.callWith_K0 b.dU g.kp<|ER (vs:=[.r a]) F v y .nil n b (.cons O .nil) q)
variable{a:BT}{w:A9}{A:Db}{E:ce}{s:AC}
theorem NQ{l:z4}{b:v0}(j:l≠it):∀(n i:Nat)(s:AC)(Q:ge->AC->Prop),s.heap.IsListIter it l i->s.heap.IsList l b->i+n<=b.size->
  (∀f,f.IsListIter it l (i+n)->Heap.SameBut it s.heap f->Q ((b.toList.drop i).take n) {s with heap:=f})->wpAny (model a w) A (draw (.ref it) n) Q E s
 | 0,i,s,Q,t,_,_,e=>by
  exact Go (by simpa using e s.heap t (Heap.SameBut.refl ..))
 |n+1,i,s,Q,t,k,m,e=>by
  have R:i<b.size:=by lia
  refine FI<|wpAny_pyNext_list_item t k (x:=b[i]) am λg F y=>FI<|KF<|NQ j n (i+1) _ _ F (k.extBut y.extBut j) ba λc K h=>Go ?_;have o:b.toList.drop i=b[i]::b.toList.drop (i+1):=by simp[Zy,R]
  have:=e c ba (y.trans h);rw[o] at this;exact this
theorem acM{i:v0}{Q:ge->AC->Prop}(l:A.handled=none)(d:s.heap.IsList t i)(m:∀j,Heap.ExtBut s.heap.objs.size s.heap j->Q i.toList {s with heap:=j}):wpAny (model a w) A (unpackItems (.ref t) i.size none) Q E s:=by
 have R:t≠s.heap.objs.size:=by obtain⟨o,k,Y⟩:=d;exact XS (Gc k)
 refine FI (FI<|wpAny_specialOf d.typeIs slot_list_iter.lookup (Go (FI<|KF<|wpAny_pyIter_list d (FI<|KF<|NQ R i.size 0 _ _ ⟨_,IN _ O,O,O⟩ (d.push _) (Y8 (xW _ _)) λf F y=>?_))));have q:List.take i.size (List.drop 0 i.toList)=i.toList:=by
  exact RP am
 rw[q];rw[Fk am];refine FI<|KF<|wpAny_pyNext_list_end l F ((d.push _).extBut y.extBut R) am λc h=>Go<|m c λb o g e=>h b o g (y.extBut b o g<|GT _ e)
theorem acP{e:le}{t:z4}{i:v0}{Q:wE}(f:A.handled=none)(d:s.heap.IsList t i)(n:(assignEach e v).length=i.size)(b:(assignEach e v).findIdx? (·.1)=none)(h:∀c,Heap.ExtBut s.heap.objs.size s.heap c->wpAny (model a w) A (assignInOrder ((assignEach e v).map (·.2)) i.toList) Q E {s with heap:=c}):
  wpAny (model a w) A (assign (.Tuple e x p) v<|.ref t) Q E s:=by
 refine FI<|Os ?_;unfold unpack;rw[n,b];exact FI<|KF<|acM f d h
end
def o9(K:Frag)(n:Nat)(t:nJ):TG:=λv b H Q=>∃a x,v=.r a/\(aF K H a x\/ax K H a x)/\x.length=n/\t x b H Q
theorem NR(g:X.calm=true)(h:vj X c t)(f:(assignEach c X.env).length=n)(y:(assignEach c X.env).findIdx? (·.1)=none):PG X (.Tuple c k p) (o9 X.K n t):=by
 intro B s d H v u Q I r w;obtain⟨a,x,i,q,l,w⟩:=w;rcases q with q|q
 exact Lw g h f y B s d H v u Q I r (qM a x i q l w);subst i;cases r;obtain⟨D,j,z,A⟩:=I.list q;refine acP (I.ok.hd g) z.isList (by simp[f,<-l,j.length]) y λC m=>?_;exact h B _ d H x _ Q (I.kept λb o e=>m b o (XS<|Gc e) e) ba w
def nY:bv->nJ
 |[]=>ED
 |i::r=>AM (gH i) (nY r)
def gSl(t:TE)(f h:TO):TG:=λv d H Q=>t d H λo k=>f d k λi g=>h d g λj e=>∃l b x y a c,o=.r l/\v=.r b/\i=some a/\j=some c/\e l=some (.l x)/\e b=some (.l y)/\l≠b/\
 0<=a/\a<=c/\c<=x.length/\x.length+y.length<=sizeLine/\Q d (fy e l<|.l<|x.take a.toNat++y++x.drop c.toNat)
mutual
def cz(Γ:aW):RS->TS
 |.a i e=>mj (af Γ e) (gH i)
 |.Bw i e=>mj (af Γ e) (gH i)
 |.s o ix e=>mj (af Γ e) (Lx (af Γ o) (af Γ ix) A7)
 |.t o i e=>Mz (af Γ o) (af Γ i) (af Γ e)
 |.d e=>Lo (af Γ e)
 |.r e=>Lp (af Γ e)
 |.abA=>aoG
 |.i c t e=>Lq (bo Γ c) (az Γ t) (az Γ e)
 |.e i k ar body=>AO (ir Γ k ar) (gH i) (az Γ body)
 |.k is k ar body=>AO (ir Γ k ar) (o9 Γ.K is.length<|nY is) (az Γ body)
 |.q c body=>Lz (bo Γ c) (az Γ body)
 |.pass=>EB
 |.brk=>aoW
 |.C=>Ln
 |.n=>Ya
 |.abB o lo hi e=>mj (af Γ e) (gSl (af Γ o) (A5<|af Γ lo)<|A5<|af Γ hi)
 |.c o f e=>EM Γ.K (af Γ o) (af Γ e) f
 |.l is e=>mj (af Γ e) (o9 Γ.K is.length<|nY is)
 |.g j as=>Ft (Γ.ex j) Γ.E (br Γ as)
 |.Fv n i j body su=>λD σ H=>∃C,Γ.gv j=.r C/\Bv Γ.K C i n (λE=>az {Γ with E:=E} body) (λea=>az {Γ with E:=E0,h:=some ea} su) D σ H
 |.abC k i j f as su=>λD σ H=>∃C,Γ.gv j=.r C/\abt Γ.K C i k (Γ.fs f) (br {Γ with E:=E0} as) (λea=>az {Γ with E:=E0,h:=some ea} su) D σ H
 |.xs T=>T Γ
def az(Γ:aW):ga->TS
 |[]=>EB
 |s::r=>Ll (cz Γ s) (az Γ r)
end
def yp:Expr->Cl
 |.Slice ..=>false|_=>true
noncomputable def yq:Expr->Cl
 |.ListComp ..=>false|.SetComp ..=>false|.DictComp ..=>false|_=>true
noncomputable def NT(c:Scope)(x:Str)(l:Nat)(s:Scope)(p:Pos):Cl:=
 decide (c.kind=.function) && decide (c.names.lookup x=some .local) && (l==p.line) && !(s.names.any fun(n,k)=>n==x && (k==.local ||k==.cell))
def tu(N:bn)(c:Scope):bv->bn->Cl
 |[],s=>s.isEmpty
 |i::r,s=>match s with
  |[]=>false
  |x::t=>decide (N[i]?=some x) && XC c x && tu N c r t
structure eF(CX:c5)(S:dm)(Γ:aW)(X:Cx):Prop extends Good CX S Γ X where
 nd:S.N.Nodup
 qO:∀x,X.fn x=true
 own:PassesOwn (model X.prog X.w) X.A X.env X.a
 vM:X.env.scope.kind=.function
 rs:∀(j:Nat)(x:Str),S.e[j]?=some x->yG X Γ.E
 mf:X.stack=X.env::X.r
 js:X.env.frame=some X.env.locals
 vN:X.ex=[]
 vO:CX=g_ X.prog X.w
def qV(S:dm)(i:Nat)(x:Str):Cl:=decide (S.N[i]?=some x) && Fy S.sc x && !(x==("__debug__":Str)) && !(x==("__classdict__":Str))
def kG(S:dm)(j:Nat)(x:Str):Cl:=decide (S.gn[j]?=some x) && qK S.sc x && !(x==("__debug__":Str))
def kF(S:dm)(j:Nat)(x:Str):Cl:=decide (S.fn[j]?=some x) && qK S.sc x && !(x==("__debug__":Str))
def kK(S:dm)(j:Nat)(x:Str):Cl:=decide (S.kn[j]?=some x) && qK S.sc x && !(x==("__debug__":Str))
def kB(S:dm)(x y:Str):Cl:=decide (x=y) && qK S.sc x && S.bl.contains x
def kM(o:Expr)(m:Str)(x:Str)(n:Nat)(a c:Pos):Cl:=decide (x=m) && qL o && (a.endLine==c.line) && decide (n<29)
def kL(S:dm)(i:Nat)(x:Str):Cl:=decide (S.N[i]?=some x) && XC S.sc x
section
variable{w:c5}{S:dm}{g:aW}{X:Cx}{e D a b c d:Expr}{n:le}{x:Str}{p q B:Pos}{r l A E:RE}{z:on}{i j:Nat}
theorem bH(G:Good w S g X)(h:autoParam (qV S i x=true) cm):PE X (.Name x p) (af g<|.v i):=by
 simp only[qV,ZW,GM,ZI] at h;exact aoM (G.N▸h.1.1.1) (G.sc▸abK h.1.1.2) h.1.2 h.2
theorem df:PE X (.Constant (.int v) k p) (af g<|.c<|.i v):=aoX
theorem iV:PE X (.Constant (.str v) k p) (af g<|.c<|.s v):=apA
theorem vP:PE X (.Constant (.bool v) k p) (af g<|.c<|.b v):=aiD
theorem acS:PE X (.Constant .none k p) (af g<|.c .a):=aoB
theorem d_g(G:Good w S g X)(h:autoParam (kG S j x=true) cm):PE X (.Name x p) (af g<|.g j):=by
 simp only[kG,ZW,GM,ZI] at h;obtain⟨u,m,r⟩:=G.eO j x h.1.1;exact La (G.gl h.1.2) m r h.2
theorem ko(G:Good w S g X)(c:PE X a (af g l))(h:PE X b (af g A)):PE X (.BinOp a o b p) (af g<|.b o l A):=by
 show PE X _ (gJ (kj g.K o) (af g l)<|af g A);rw[<-G.K];exact alN (aa6 o) c h
theorem FU(h:PE X a (af g l)):PE X (.UnaryOp .USub a p) (af g<|.N l):=aiF acD h
theorem FV(G:Good w S g X)(d:PE X a (af g l))(c:PE X b (af g A))(h:autoParam (behindInMarks o b=false) cm):PE X (.Compare a [o] [b] p) (af g<|.p o l A):=by
 show PE X _ (gJ (dc g.K o) (af g l)<|af g A);rw[<-G.K];exact YJ (Bq G.units o) d c h
theorem ZP(G:Good w S g X)(f:PE X a (af g l))(e:PE X b (af g A))(d:PE X c (af g E))(h:autoParam (lastMarks [o,ij] [b,c]=false) cm):PE X (.Compare a [o,ij] [b,c] p) (af g<|.yc o ij l A E):=by
 show PE X _ (AV (dc g.K o) (dc g.K ij) (af g l) (af g A)<|af g E);rw[<-G.K];exact ajF (Bq G.units o) (Bq G.units ij) f e d h
theorem acV(h:PE X e (af g r)):PE X (.BoolOp .And [e] p) (af g<|.d [r]):=Lj h
theorem L6(h:PE X e (af g r))(t:PE X (.BoolOp .And (D::n) p) (af g<|.d (r2::z))):PE X (.BoolOp .And (e::D::n) p) (af g<|.d (r::r2::z)):=apI h t
theorem NU(h:PE X e (af g r)):PE X (.BoolOp .Or [e] p) (af g<|.o [r]):=Lj h
theorem NV(h:PE X e (af g r))(t:PE X (.BoolOp .Or (D::n) p) (af g<|.o (r2::z))):PE X (.BoolOp .Or (e::D::n) p) (af g<|.o (r::r2::z)):=amS h t
theorem acX(G:Good w S g X)(h:PE X a (af g l)):PE X (.UnaryOp .Not a p) (af g<|.n l):=by
 show PE X _ (Fw g.K<|af g l);rw[<-G.K];exact acE h
theorem NW(h:PT X c (bo g E))(e:PE X a (af g l))(d:PE X b (af g A)):PE X (.IfExp c a b p) (af g<|.H E l A):=alO h e d
theorem FW:PE X (.Dict [] [] p) (af g .vB):=acm
theorem cO:PA X [] (br g []):=xH
theorem bJ(h:PE X e (af g r))(t:PA X n (br g z))(s:autoParam (fH e=true) cm):PA X (e::n) (br g (r::z)):=qA h t (eE s)
theorem lE(G:Good w S g X)(A:PA X (e::n) (br g (r::z)))(h:autoParam (kF S j x=true) cm)(a:autoParam (iy (e::n)=true) cm)(q:autoParam (S.m=0) bd):PE X (.Call (.Name x p) (e::n) [] B) (af g<|.l j (r::z)):=by
 simp only[kF,ZW,GM,ZI] at h;obtain⟨k,f,o,s,zq⟩:=Yv (G.l q j x h.1.1);obtain⟨F,b,c,d,i⟩:=c3 zq;exact alJ F b (G.gl h.1.2) c d i .nil G.pass A h.2 (eE (eP a).1)<|mz _ _ n (eP a).2
theorem NX(G:Good w S g X)(A:PA X (e::n) (br g (r::z)))(h:autoParam (kK S j x=true) cm)(a:autoParam (iy (e::n)=true) cm)(q:autoParam (S.m=0) bd):PE X (.Call (.Name x p) (e::n) [] B) (af g<|.m j (r::z)):=by
 simp only[kK,ZW,GM,ZI] at h;obtain⟨k,f,i,s,zq⟩:=Yv (G.tj q j x h.1.1);obtain⟨M,F,b,c,d⟩:=c3 zq;exact aiJ M F b (G.gl h.1.2) c d .nil G.pass A h.2 (eE (eP a).1)<|mz _ _ n (eP a).2
theorem lH{t:o5}(G:Good w S g X)(A:PA X (e::n) (br g (r::z)))(h:autoParam (kB S x t.nm=true) cm)(a:autoParam (iy (e::n)=true) cm)(q:autoParam (S.m=0) bd):PE X (.Call (.Name x p) (e::n) [] B) (af g<|.t t (r::z)):=by
 simp only[kB,ZW,GM] at h;obtain⟨⟨rfl,i⟩,f⟩:=h;have d:t.nm≠"__name__":=by cases t<;>decide
 have b:(t.nm==("__debug__":Str))=false:=by cases t<;>decide
 show PE X _ (jO (lu g.K t)<|br g (r::z));rw[<-G.K];cases acn (G.calm q) t with
 |fn j v c=>exact ES c (G.gl i) (G.iU _ f) v A d b (eE (eP a).1) (mz _ _ n (eP a).2)
 |ty T v c=>exact L7 c (G.gl i) (G.iU _ f) v A d b (eE (eP a).1) (mz _ _ n (eP a).2)
theorem FX{T:Ty}{y:Str}(G:Good w S g X)(d:PE X a (af g l))(h:autoParam (kB S x "isinstance"=true) cm)(b:autoParam (kB S y (Str.ofString T.nm)=true) cm)(s:autoParam (fH a=true) cm):PE X (.Call (.Name x p) [a,.Name y q] [] B) (af g<|.R T l):=by
 simp only[kB,ZW,GM] at h b;obtain⟨⟨rfl,f⟩,e⟩:=h;obtain⟨⟨rfl,c⟩,k⟩:=b;exact XE d s (G.gl f) (G.iU _ e) (G.gl c)<|G.iU _ k
theorem U6(G:Good w S g X)(b:PE X o (af g r))(h:autoParam (kM o m.nm x 0 p B=true) cm):PE X (.Call (.Attribute o x p) [] [] B) (af g<|.a m r []):=by
 simp only[kM,ZW,GM] at h;obtain⟨⟨⟨rfl,d⟩,c⟩, -⟩:=h;show PE X _ (vE g.K m (af g r) k8);rw[<-G.K];exact acG b d c
theorem acZ{m:jS}{b:RE}(G:Good w S g X)(d:PE X o (af g b))(A:PA X (e::n) (br g (r::z)))(h:autoParam (kM o m.nm x (n.length+1) p B=true) cm)(c:autoParam (iy (e::n)=true) cm):PE X (.Call (.Attribute o x p) (e::n) [] B) (af g<|.a m b (r::z)):=by
 simp only[kM,ZW,GM] at h;obtain⟨⟨⟨rfl,j⟩,i⟩,f⟩:=h;show PE X _ (vE g.K m (af g b)<|br g (r::z));rw[<-G.K];exact acF d A j i f (eE (eP c).1) (mz _ _ n (eP c).2)<|BG _ _ (e::n) c
theorem ac0(G:Good w S g X)(o:PE X a (af g r))(h:autoParam (qL a=true) cm):PE X (.Attribute a f p) (af g<|.f r f):=by
 show PE X _ (AX g.K (af g r) f);rw[<-G.K];exact amE o<|qF h
theorem ac1{a:Pos}(G:Good w S g X)(c:PE X o (af g r))(h:autoParam ((kM o m m 0 a B && decide (S.mn[j]?=some m))=true) cm)(b:autoParam (S.m=0) bd):PE X (.Call (.Attribute o m a) [] [] B) (af g<|.q j m r []):=by
 simp only[kM,ZW,GM] at h;obtain⟨⟨⟨⟨-,f⟩,e⟩, -⟩,d⟩:=h;exact acJ (G.qN b j _ d) G.pass c f e
theorem NY{b:RE}(G:Good w S g X)(d:PE X o (af g b))(A:PA X (e::n) (br g (r::z)))(h:autoParam ((kM o m m (n.length+1) p B && decide (S.mn[j]?=some m))=true) cm)(a:autoParam (iy (e::n)=true) cm)(c:autoParam (S.m=0) bd):PE X (.Call (.Attribute o m p) (e::n) [] B) (af g<|.q j m b (r::z)):=by
 simp only[kM,ZW,GM] at h;obtain⟨⟨⟨⟨-,l⟩,k⟩,i⟩,f⟩:=h;exact acI (G.qN c j _ f) G.pass d A l k i (eE (eP a).1) (mz _ _ n (eP a).2)<|BG _ _ (e::n) a
theorem ac2(h:yp b=true):Mg b:=λo i=>by cases b<;>first|rfl|cases h
theorem tD(G:Good w S g X)(d:PE X a (af g l))(c:PE X b (af g A))(h:autoParam (yp b=true) cm):PE X (.Subscript a b p) (af g<|.i l A):=by
 show PE X _ (gJ (o6 g.K g.sd) (af g l)<|af g A);rw[<-G.K];exact aaQ (acs G.q) d c<|ac2 h
theorem TZ(h:yp b=true):Fc b:=λo i=>by cases b<;>first|rfl|cases h
theorem yr(G:Good w S g X)(d:PE X a (af g l))(c:PE X b (af g A))(h:autoParam (yp b=true) cm):PE X (.Subscript a b p) (af g<|.B l A):=
 aao (by have:=G.units;lia) d c (TZ h)
theorem ac4(G:Good w S g X)(d:PE X a (af g l))(c:PE X b (af g A))(h:autoParam (behindInMarks .In b=false) cm):PT X (.Compare a [.In] [b] p) (bo g<|.vC l A):=
 Lb (aap (by have:=G.units;lia) d c) h
theorem ac5(G:Good w S g X)(d:PE X a (af g l))(c:PE X b (af g A))(h:autoParam (behindInMarks .NotIn b=false) cm):PT X (.Compare a [.NotIn] [b] p) (bo g<|.yd l A):=
 Lb (FO (by have:=G.units;lia) d c) h
theorem BI{i:Option Expr}{r:Option RE}(G:Good w S g X)(d:PE X a (af g l))(b:PO X o (qJ g r))(c:PO X i (qJ g h)):PE X (.Subscript a (.Slice o i none q) p) (af g<|.s l r h):=by
 show PE X _ (EV (vF g.K) (af g l) (qJ g r)<|qJ g h);rw[<-G.K];exact aaI acC d b c
theorem NZ:PO X none (qJ g none):=amI
theorem vQ(h:PE X a (af g l)):PO X (some a) (qJ g<|some l):=anI h
theorem yt(h:PA X n (br g z)):PE X (.Tuple n k p) (af g<|.T z):=acR h
theorem tE(h:PA X n (br g z)):PE X (.List n p) (af g<|.L z):=Y_ h
def yu(w:c5)(S:dm)(g:aW)(c:Option RE)(i:le):Prop:=match c with
 |none=>i=[]
 |some r=>∃e,i=[e]/\∀X,Good w S g X->PT X e (bo g r)
theorem T_:yu w S g none []:=O
theorem BJ(h:∀X,Good w S g X->PT X e (bo g r)):yu w S g (some r) [e]:=⟨e,O,h⟩
def kC(S:dm)(t:wv)(g i:Expr)(s:Scope)(k:IK)(l:bn)(f:lv):Cl:=decide (vG t g=some l) && (decide (k≠ .z)||t.isSome) && FC S ⟨.Constant .none 0 ⟨0,0,0,0⟩,g,i,[],s⟩ l f
abbrev cS(S:dm)(s:Scope)(l:bn)(f:lv):dm:={S with N:=l++f.map (·.1),sc:=FA s S.sc,e:=[],m:=if S.m=0 then 0 else 2}
theorem FY{j:on}{c:Option RE}{e:RE}{i:Expr}{b:le}{a:Scope}(G:Good w S g X)(h:kC S tk t i a k ln f=true)(A:PI X t i (ir g k j))(n:yu w (cS S a ln f) g.calm c b)(B:∀X,Good w (cS S a ln f) g.calm X->PE X o (af g.calm e))(d:autoParam (S.m=0) bd):PE X (.ListComp o [⟨t,i,b,0⟩] a p) (af g<|.C tk f k j c e):=by
 simp only[kC,ZW,GM] at h;obtain⟨⟨E,I⟩,D⟩:=h;obtain⟨z,y,v,u⟩:=Yq (NK G D);show PE X _ (sT g.K (ir g k j) tk f (By g.calm c)<|af g.calm e);rw[<-G.K];refine aaY z (G.calm d) A (NL (G.calm d) E y v) ?_ (λx C s H=>B _<|G.inner ⟨.Constant .none 0 ⟨0,0,0,0⟩,t,i,[],a⟩ ln f x C s H)<|BF u;cases c with
 |none=>exact n
 |some r=>
  obtain⟨F,q,d⟩:=n;exact⟨F,q,λx C s H=>d _<|G.inner ⟨.Constant .none 0 ⟨0,0,0,0⟩,t,i,[],a⟩ ln f x C s H⟩
theorem ac7{r:on}{c:Option RE}{e:RE}{l i:Expr}{b:Scope}(G:Good w S g X)(d:PI X t i (ir g k r))(n:yu w (cS S b ((vG tk t).getD []) f) g.calm c s)(j:∀X,Good w (cS S b ((vG tk t).getD []) f) g.calm X->PE X l (af g.calm e))(h:autoParam (kC S tk t i b k ((vG tk t).getD []) f=true) cm)(q:autoParam (S.m=0) bd):PE X (.ListComp l [⟨t,i,s,0⟩] b p) (af g<|.C tk f k r c e):=FY G h d n j q
theorem BK(h:PT X a (bo g l)):PT X (.UnaryOp .Not a p) (bo g<|.n l):=aoV h
theorem ac8(h:PT X e (bo g r)):PW X (.BoolOp .And [e] p) (bo g<|.d [r]):=acH h
theorem ac9(h:PT X e (bo g r))(t:PW X (.BoolOp .And (D::n) p) (bo g<|.d (r2::z))):PW X (.BoolOp .And (e::D::n) p) (bo g<|.d (r::r2::z)):=anF h t
theorem N1(h:PT X e (bo g r)):PW X (.BoolOp .Or [e] p) (bo g<|.o [r]):=adS h
theorem FZ(h:PT X e (bo g r))(t:PW X (.BoolOp .Or (D::n) p) (bo g<|.o (r2::z))):PW X (.BoolOp .Or (e::D::n) p) (bo g<|.o (r::r2::z)):=ajE h t
theorem tF(G:Good w S g X)(d:PE X a (af g l))(c:PE X b (af g A))(h:autoParam (behindInMarks o b=false) cm):PT X (.Compare a [o] [b] p) (bo g<|.p o l A):=by
 show PT X _ (vm<|gJ (dc g.K o) (af g l)<|af g A);rw[<-G.K];exact apP (Bq G.units o) d c h
theorem t_v(G:Good w S g X)(h:PE X (.Name x p) (af g<|.v i)):PT X (.Name x p) (bo g<|.v i):=by
 show PT X _ (iq g.K<|af g<|.v i);rw[<-G.K];exact BH h λY=>O
theorem N3(G:Good w S g X)(h:PE X (.Call a n [] p) (af g<|.l j z)):PT X (.Call a n [] p) (bo g<|.l j z):=by
 show PT X _ (iq g.K<|af g<|.l j z);rw[<-G.K];exact BH h λY=>O
theorem F0(G:Good w S g X)(h:PE X (.Call a n [] p) (af g<|.R T l)):PT X (.Call a n [] p) (bo g<|.R T l):=by
 exact BH h λY=>O
theorem ada(G:Good w S g X)(h:PE X (.Call a n [] p) (af g<|.a m r z)):PT X (.Call a n [] p) (bo g<|.a m r z):=by
 show PT X _ (iq g.K<|af g<|.a m r z);rw[<-G.K];exact BH h λY=>O
theorem N4(G:Good w S g X)(h:PE X a (af g l)):PI X t a (ir g .l [l]):=by
 show PI X t a (EF g.K<|af g l);rw[<-G.K];exact aaP h
theorem F1(G:Good w S g X)(h:PE X a (af g l)):PI X t a (ir g .p [l]):=by
 show PI X t a (EG g.K<|af g l);rw[<-G.K];exact ajV h
theorem adb(G:Good w S g X)(b:PE X a (af g l))(h:autoParam (kB S x "range"=true) cm)(s:autoParam (fH a=true) cm):PI X t (.Call (.Name x p) [a] [] B) (ir g .e [l]):=by
 simp only[kB,ZW,GM] at h;obtain⟨⟨rfl,d⟩,c⟩:=h;exact akW (G.gl d) (G.iU _ c) (qA b xH<|eE s)<|eE s
theorem ade{t:Expr}(G:Good w S g X)(e:PE X a (af g l))(d:PE X b (af g A))(h:autoParam (kB S x "range"=true) cm)(c:autoParam (fH a=true) cm)(I:autoParam (fH b=true) cm):PI X t (.Call (.Name x p) [a,b] [] B) (ir g .s [l,A]):=by
 simp only[kB,ZW,GM] at h;obtain⟨⟨rfl,i⟩,f⟩:=h;exact akU (G.gl i) (G.iU _ f) (qA e (qA d xH<|eE I)<|eE c) (by rw[eE c,eE I];rfl)<|eE I
theorem adf{t:le}{k}{c:Pos}(G:Good w S g X)(e:PE X a (af g l))(d:PE X b (af g A))(h:autoParam (kB S x "zip"=true) cm)(n:autoParam (iy [a,b]=true) cm):PI X (.Tuple t k c) (.Call (.Name x p) [a,b] [] B) (ir g .z [l,A]):=by
 simp only[kB,ZW,GM] at h;obtain⟨⟨rfl,i⟩,f⟩:=h;show PI X _ _ (Fx g.K<|fA (af g l)<|br g [A]);rw[<-G.K];exact abR (G.gl i) (G.iU _ f) (qA e (qA d xH<|eE (eP (eP n).2).1)<|eE (eP n).1) (eE (eP n).1)<|mz _ _ _ (eP n).2
end
section
variable{g:c5}{S:dm}{d:aW}{X:Cx}{e a b c v:Expr}{z:le}{x:Str}{p q pos:Pos}{r n A D:RE}{i j:Nat}{I:Ch}{J:wS}{s:RS}{L t u:ga}
theorem BL{t:Option Expr}{e:Env}(h:yq v=true):swapsWith v t l e=pure false:=by
 cases v<;>first|rfl|cases h
theorem adg{e:Env}(h:e.kindOf x=some .cell):swapsWith v (some<|.Name x p) l e=pure false:=by
 cases v<;>first
  |rfl
  |(unfold swapsWith;simp only[h];have q:(some NameKind.cell==some NameKind.local)=false:=O;simp only[q,Bool.and_false,Bool.false_and])
theorem N6{i:Expr}:swapsWith v (some<|.Subscript o i p) l env=pure false:=by
 cases v<;>rfl
theorem adh{i:Expr}{e:Env}:swappedStores [.Subscript o i p] v e=pure none:=O
theorem eF.name(G:eF g S d X)(h:kL S i x=true):PG X (.Name x p) (gH i):=by
 simp only[kL,ZW,GM] at h;exact AL (G.N▸G.nd) (G.N▸h.1) (G.sc▸Fz h.2)<|.inl<|G.qO x
theorem jU:e7 X [] (az d []):=Lm
theorem bR(h:PS X I (cz d s))(t:e7 X J (az d L)):e7 X (I::J) (az d (s::L)):=alH h t
theorem hU(G:eF g S d X)(e:PE X v (af d r))(h:autoParam (kL S i x=true) cm)(c:autoParam ((yq v ||decide (S.sc.names.lookup x=some .cell))=true) cm):PS X (.Assign [.Name x p] v q) (cz d<|.a i r):=by
 simp only[kL,ZW,GM,Bool.or_eq_true] at h c;refine ajY (G.N▸G.nd) (G.N▸h.1) (G.sc▸Fz h.2) e ?_<|.inl<|G.qO x;rcases c with b|b
 exact BL b;exact adg (by show X.env.scope.names.lookup x=_;rw[G.sc];exact b)
theorem adi{c:Option RE}{e:RE}{A t:Expr}{j:le}{b:Scope}(G:eF g S d X)(u:kL S i x=true)(n:NT S.sc x p.line b l=true)(h:kC S y t a b k ln f=true)(I:PI X t a (ir d k w))(z:yu g (cS S b ln f) d.calm c j)(J:∀X,Good g (cS S b ln f) d.calm X->PE X A (af d.calm e))(o:autoParam (S.m=0) bd):PS X (.Assign [.Name x p] (.ListComp A [⟨t,a,j,0⟩] b l) q) (cz d<|.Bw i<|.C y f k w c e):=by
 simp only[kC,kL,NT,ZW,GM,Op,ZI] at h u n;obtain⟨⟨M,T⟩,L⟩:=h;obtain⟨F,E,D,B⟩:=Yq (NK G.toGood L);show PS X _ (mj (sT d.K (ir d k w) y f (By d.calm c)<|af d.calm e)<|gH i);rw[<-G.K];refine aaZ (G.N▸G.nd) (G.N▸u.1) (G.sc▸Fz u.2) ?_ F (G.calm o) I (NL (G.calm o) M E D) ?_ (λv C s H=>J _<|G.toGood.inner ⟨.Constant .none 0 ⟨0,0,0,0⟩,t,a,[],b⟩ ln f v C s H) (BF B)<|.inl<|G.qO x;have Q:X.env.kindOf x=some .local:=by show X.env.scope.names.lookup x=_;rw[G.sc];exact n.1.1.2
 have P:X.env.blockKind=.function:=by unfold Env.blockKind;rw[G.vM];rfl
 unfold swapsWith;simp only[Q,P,n.1.2,n.2];show pure (true && true && (l.line==l.line) && !false)=pure true;rw[beq_self_eq_true];rfl;cases c with
 |none=>exact z
 |some r=>
  obtain⟨R,q,o⟩:=z;exact⟨R,q,λv C s H=>o _<|G.toGood.inner ⟨.Constant .none 0 ⟨0,0,0,0⟩,t,a,[],b⟩ ln f v C s H⟩
theorem adj(e:PE X v (af d r))(f:PE X a (af d n))(c:PE X b (af d A))(h:autoParam (yp b=true) cm):PS X (.Assign [.Subscript a b p] v q) (cz d<|.s n A r):=
 Ly e (aaD f c Ff (by intro w;cases b<;>first|rfl|cases h)) (by exact N6 (o:=a) (i:=b) (p:=p) (l:=q.line) (env:=X.env)) adh O
theorem Ip(G:eF g S d X)(h:PE X v (af d r))(e:PE X a (af d n))(c:PE X b (af d A)):PS X (.Assign [.Subscript a b p] v q) (cz d<|.t n A r):=
 aar (by have:=G.toGood.units;lia) e c h (by exact N6)
theorem QB(G:eF g S d X)(o:PE X a (af d n))(e:PE X v (af d r))(h:autoParam (yq v=true) cm):PS X (.Assign [.Attribute a f p] v q) (cz d<|.c n f r):=by
 show PS X _ (EM d.K (af d n) (af d r) f);rw[<-G.K];exact anY o e<|BL h
theorem N7(e:PE X v (af d r))(h:autoParam (yq v=true) cm):PS X (.Expr v p) (cz d<|.d r):=acQ e (BL h)
theorem nZ(h:PE X v (af d r)):PS X (.Return (some v) p) (cz d<|.r r):=aiK h
theorem BM(h:PT X c (bo d D))(a:e7 X as (az d t))(b:e7 X bs (az d u)):PS X (.If c as bs p) (cz d<|.i D t u):=acB h a b
theorem Ij(G:eF g S d X)(h:PT X c (bo d D))(a:e7 X as (az d t)):PS X (.While c as [] p) (cz d<|.q D t):=amG G.own h a
theorem adn{b:on}{r:Expr}{a:wS}(G:eF g S d X)(f:PI X (.Name x p) r (ir d k b))(j:e7 X a (az d t))(h:autoParam (kL S i x=true) cm)(s:autoParam (yh r=true) cm)(c:autoParam (S.m=0) bd):PS X (.For (.Name x p) r a [] q) (cz d<|.e i k b t):=
 LF G.own (G.calm c) f (G.name h) j (BF s)
theorem F2(G:eF g S d X):∀(s:bv)(x:List (Str×Pos)),tu S.N S.sc s (x.map (·.1))=true->
  vj X (x.map λy=>.Name y.1 y.2) (nY s)/\(assignEach (x.map λy=>Expr.Name y.1 y.2) X.env).length=s.length/\(assignEach (x.map λy=>Expr.Name y.1 y.2) X.env).findIdx? (·.1)=none
 |[],x,h=>by
  simp only[tu,List.isEmpty_iff,List.map_eq_nil_iff] at h;subst h;exact⟨Lu,O,O⟩
 |i::r,[],h=>by cases h
 |i::r,y::t,h=>by
  simp only[ZU,tu,ZW] at h;obtain⟨c,b,a⟩:=F2 G r t h.2;refine⟨EE (G.name (by simp only[kL,ZW];exact h.1)) c O,?_,?_⟩;show(assignEach _ X.env).length+1=r.length+1;rw[b];show List.findIdx? (·.1) ((false,assign (.Name y.1 y.2) X.env)::assignEach _ X.env)=none;rw[List.findIdx?_cons,a];rfl
theorem N8{a:on}{i:Expr}{e:wS}{b}(x:List (Str×Pos))(G:eF g S d X)(o:PI X (.Tuple (x.map λy=>.Name y.1 y.2) b p) i (ir d k a))(r:e7 X e (az d t))(h:autoParam (tu S.N S.sc is (x.map (·.1))=true) cm)(n:autoParam (yh i=true) cm)(c:autoParam (S.m=0) bd):
  PS X (.For (.Tuple (x.map λy=>.Name y.1 y.2) b p) i e [] q) (cz d<|.k is k a t):=by
 obtain⟨l,j,f⟩:=F2 G is x h;show PS X _ (AO (ir d k a) (o9 d.K is.length<|nY is)<|az d t);rw[<-G.K];exact LF G.own (G.calm c) o (NR (G.calm c) l j f) r<|BF n
def ado:Expr->Cl
 |.Tuple ..=>false|_=>true
theorem F3{k}{t:Pos}(x:List (Str×Pos))(G:eF g S d X)(j:PE X v (af d r))(h:autoParam (tu S.N S.sc is (x.map (·.1))=true) cm)(c:autoParam ((yq v && ado v)=true) cm)(f:autoParam (S.m=0) bd):
  PS X (.Assign [.Tuple (x.map λy=>.Name y.1 y.2) k t] v q) (cz d<|.l is r):=by
 simp at c;obtain⟨e,b,a⟩:=F2 G is x h;show PS X _ (mj (af d r)<|o9 d.K is.length<|nY is);rw[<-G.K];refine Ly j (NR (G.calm f) e b a) (by show swapsWith v (some<|.Tuple (x.map λy=>Expr.Name y.1 y.2) k t) q.line X.env=pure false;exact BL c.1) ?_ O;cases v<;>first|rfl|cases c.2
def kX(S:dm)(j:Nat)(x:Str):Cl:=decide (S.e[j]?=some x) && qK S.sc x && !(x==("__debug__":Str))
theorem adp{N:Pos}(G:eF g S d X)(A:PA X (e::z) (br d (r::rs)))(h:autoParam (kX S j x=true) cm)(b:autoParam (iy (e::z)=true) cm)(q:autoParam (S.m=0) bd):PS X (.Raise (some<|.Call (.Name x p) (e::z) [] N) none pos) (cz d<|.g j (r::rs)):=by
 simp only[kX,ZW,GM,ZI] at h;obtain⟨c,B,n,v,a,F⟩:=Yv (G.yl j x h.1.1);exact ab3 (G.calm q) a F (G.gl h.1.2) h.2 A (eE (eP b).1) (mz _ _ z (eP b).2)<|G.rs j x h.1.1
abbrev tS(S:dm):dm:={S with e:=[]}
abbrev hS(S:dm):dm:={S with e:=[],m:=2}
theorem eF.adq(G:eF g S d X)(p:cr)(x:ce)(E:XK)(o:PassesOwn (model X.prog X.w) X.A X.env x)(a:X0 (g_ X.prog X.w) (X.alt X.A X.calm p x) E):
  eF g (tS S) {d with E:=E} (X.alt X.A X.calm p x):=
 {N:=G.N,sc:=G.sc,K:=G.K,calm:=G.calm,units:=G.units,n:=G.n,l:=G.l,eO:=G.eO,iU:=G.iU,pass:=G.vO▸a,my:=G.my,q:=G.q,qN:=G.qN,tj:=G.tj,
  yl:=λY Y h=>(by simp at h),tm:=G.tm,vL:=G.vL,ym:=G.ym,nd:=G.nd,qO:=G.qO,own:=o,vM:=G.vM,rs:=λY Y h=>(by simp at h),mf:=G.mf,js:=G.js,vN:=G.vN,vO:=G.vO}
theorem eF.held(G:eF g S d X)(a:z4)(b:cr):
  eF g (hS S) {d with E:=E0,h:=some a} (X.alt (X.A.mark<|some<|.ref a) false b λY Y=>False):=
 {N:=G.N,sc:=G.sc,K:=G.K,calm:=λh=>(nomatch h),units:=G.units,n:=G.n,l:=λh=>(nomatch h),eO:=G.eO,iU:=G.iU,pass:=λY Y Y Y Y Y Y h=>(G.my _ _ _ _ _ h).elim,my:=G.my,q:=G.q,qN:=λh=>(nomatch h),tj:=λh=>(nomatch h),
  yl:=λY Y h=>(by simp at h),tm:=λj x h=>(by
   obtain⟨k,f,c,p,zq⟩:=Yv (G.tm j x h);obtain⟨F,r,m⟩:=Yo zq;exact uA k f ⟨c,p,F,r.mark _,m⟩),
  vL:=λe h=>(by cases h;rfl),ym:=λh=>(nomatch h),nd:=G.nd,qO:=G.qO,own:=PassesOwn.never,vM:=G.vM,rs:=λY Y h=>(by simp at h),mf:=G.mf,js:=G.js,vN:=G.vN,vO:=G.vO}
theorem ads:PS X (.Continue p) (cz d .C):=alE
end
section
variable{P:BT}{w:A9}{K:Frag}{a:db}{d:Do}
def n4(P:BT)(w:A9)(K:Frag)(a:db)(d:Do)(k:Nat)(x:Str)(s:Sp):Prop:=
 ∃f b p,dH P w K a d (g_ P w) k f b p s/\a x=some (.ref f)/\keepIn K (.ref f)=true/\zc K b p []
theorem n4.mono(h:n4 P w K a d j x s)(b:j<=k):n4 P w K a d k x s:=by
 obtain⟨f,c,p,F,r⟩:=h;exact⟨f,c,p,F.mono b,r⟩
def qP(t:ol)(j:Nat):Sp:=match t[j]? with
 |some p=>p.2
 |none=>λ_ _ _ _=>False
def BN(t:io)(j:Nat):V:=match t[j]? with
 |some p=>p.2
 |none=>.a
structure F4(a:db)(p:Str×V):Prop where
 ex:∃u,a p.1=some u/\YD p.2 u
noncomputable def n_(t:List (Str×z4×Sp))(j:Nat):z4×Sp:=match t[j]? with
 |some p=>p.2
 |none=>(0,λ_ _ _ _=>False)
def BO(t:jp)(j:Nat):z4:=match t[j]? with
 |some p=>p.2
 |none=>0
abbrev aJ(K:Frag)(t:ol)(g:io)(d:List (z4×ii):=[])(m k:List (Str×z4×Sp):=[])(et:jp:=[])(a:ol:=[])(E:XK:=E0):aW:=
 {K:=K,fs:=qP t,gv:=BN g,E:=E,sd:=λp b=>(p,b)∈d,ms:=n_ m,kt:=n_ k,ex:=BO et,hs:=qP a,h:=none}
def og(P:BT)(w:A9)(K:Frag)(a:db)(d:Do)(k:Nat)(p:Str×z4×Sp):Prop:=
 gj K p.2.1/\∃f b s,v9 K p.2.1 p.1 f/\dH P w K a d (g_ P w) k f b s p.2.2/\zc K b s []
def tG(P:BT)(w:A9)(K:Frag)(a:db)(d:Do)(k:Nat)(p:Str×z4×Sp):Prop:=
 ∃j f b s,j+1<=k/\Mk K p.2.1 f/\dH P w K a d (g_ P w) j f b s p.2.2/\a p.1=some (.ref p.2.1)/\zc K b s []
theorem og.mono(h:og P w K a d j p)(e:j<=k):og P w K a d k p:=by
 obtain⟨c,f,g,s,m,F,b⟩:=h;exact⟨c,f,g,s,m,F.mono e,b⟩
theorem tG.mono(h:tG P w K a d j p)(b:j<=k):tG P w K a d k p:=by
 obtain⟨i,f,c,s,m,r⟩:=Yv h;exact uA i f ⟨c,s,oT m b,r⟩
def N9(P:BT)(w:A9)(K:Frag)(q:z4×ii):Prop:= ∀h:Do,K.In h->∃v,KV q.2 v/\h.DictOf (fo P w) q.1 v
abbrev BP(N:bn)(s:Scope)(t:bn)(g:bn)(b:bn)(n k:bn:=[])(a h:bn:=[])(d:Nat:=0):dm:={N:=N,sc:=s,fn:=t,gn:=g,bl:=b,mn:=n,kn:=k,e:=a,hn:=h,m:=d}
def BQ(a:db)(d:Do)(p:Str×z4):Prop:= ∃b B n v,OwnCls p.1 p.2 b n a d/\ExcBaseFacts B n v b
def F5(P:BT)(w:A9)(K:Frag)(a:db)(d:Do)(k:Nat)(x:Str)(s:Sp):Prop:=
 ∃f b p,NF P w K a d k f b p s/\a x=some (.ref f)/\keepIn K (.ref f)=true/\zc K b p []
theorem adt{V:Ch}(F:sQ K x d' V f fd)(S:xI N Y (g6 V))(t:ol)(T:io)(bl:bn)(C G:List (Str×z4×Sp))(U:jp)(M:ol)(o:ga)(hm:∀{CX:c5}{Γ:aW}{X:Cx},eF CX (BP N (g6 V) (t.map (·.1)) (T.map (·.1)) bl (C.map (·.1)) (G.map (·.1)) (U.map (·.1)) (M.map (·.1))) Γ X->e7 X (gM V) (az Γ o))(F6:∀p∈t,n4 P w K a d k p.1 p.2)(F7:∀p∈T,F4 a p)(F8:∀y∈bl,a y=none)(dk:List (z4×ii))(F9:∀q∈dk,N9 P w K q)(F_:∀p∈C,og P w K a d k p)(Ga:∀p∈G,tG P w K a d k p)(c':∀p∈U,BQ a d p)(Gb:∀p∈M,F5 P w K a d k p.1 p.2)(a':∀v H Q E,W v H Q E->v.length=Y.length)(Gd:∀v H Q E,W v H Q E->az (aJ K t T dk C G U M E) o {nx:=λ_ H'=>Q .a H',r:=Q} (Y2 N v) H):dH P w K a d (g_ P w) (k+1) f fd Y W:=by
 obtain⟨oc,od,kV,ZB,pm,an,bS,ct,kb,zq⟩:=xN F.ex;obtain⟨rfl,lk,nI⟩:=Yo zq;refine alG lk nI S a' λA Z s H v Q E R qC=>pQ _ (hm (CX:=g_ P w) ?_) (Gd v H Q E qC);refine {N:=O,sc:=O,K:=O,calm:=λ_=>O,units:=R.units,n:=R.gd,l:=λ_ j y g=>?_,eO:=λj y g=>?_,iU:=λy hy=>?_,pass:=ab1,my:=λ_ _ _ _ _ h=>NB h,q:=λp ah h=>F9 _ h,qN:=λ_ j y g=>?_,tj:=λ_ j y g=>?_,yl:=λj y g=>?_,tm:=λj y g=>?_,vL:=λ_ h=>(nomatch h),ym:=λh=>(nomatch h),nd:=S.nd,qO:=λ_=>O,own:=PassesOwn.leaving,vM:=S.kind,rs:=λ_ _ _=>ab2,mf:=O,js:=O,vN:=O,vO:=O};have b:=g;rw[Yi] at b;cases q:t[j]? with
 |none=>rw[q] at b;cases b
 |some p=>
  rw[q] at b;have e:=X8 b;obtain⟨I,z,B,zq⟩:=ZG (F6 p (X_ q));obtain⟨L,D,k',J⟩:=Yq zq;have m:qP t j=p.2:=by unfold qP;rw[q]
  show NG (g_ P w) _ y (qP t j);rw[m,<-e];exact r3 k I z B L R D k' J
 have b:=g;rw[Yi] at b;cases q:T[j]? with
 |none=>rw[q] at b;cases b
 |some p=>
  rw[q] at b;have e:p.1=y:=X8 b;obtain⟨u,h1,h2⟩:=(F7 p<|X_ q).ex;have m:BN T j=p.2:=by unfold BN;rw[q]
  show ∃u,a y=some u/\YD (BN T j) u;rw[m,<-e];exact pQ u h1 h2
 exact F8 y (by simpa using hy);have b:=g;rw[Yi] at b;cases q:C[j]? with
 |none=>rw[q] at b;cases b
 |some p=>
  rw[q] at b;have e:p.1=y:=X8 b;obtain⟨c,I,z,B,D,L,J⟩:=F_ p (X_ q);have m:n_ C j=p.2:=by unfold n_;rw[q]
  show BD (g_ P w) _ (n_ C j).1 y (n_ C j).2;rw[m,<-e];exact uJ c k ⟨I,z,B,D,L,R,J⟩
 have b:=g;rw[Yi] at b;cases q:G[j]? with
 |none=>rw[q] at b;cases b
 |some p=>
  rw[q] at b;have e:p.1=y:=X8 b;obtain⟨i,I,z,B,zq⟩:=Yv (Ga p (X_ q));obtain⟨hi,D,L,g',J⟩:=c3 zq;have m:n_ G j=p.2:=by unfold n_;rw[q]
  show NH (g_ P w) _ y (n_ G j).1 (n_ G j).2;rw[m,<-e];exact r3 i I z B D L (R.mono hi) g' J
 have b:=g;rw[Yi] at b;cases q:U[j]? with
 |none=>rw[q] at b;cases b
 |some p=>
  rw[q] at b;have e:=X8 b;have m:BO U j=p.2:=by unfold BO;rw[q]
  show NJ _ y (BO U j);rw[m,<-e];exact c' p<|X_ q
 have b:=g;rw[Yi] at b;cases q:M[j]? with
 |none=>rw[q] at b;cases b
 |some p=>
  rw[q] at b;have e:p.1=y:=X8 b;obtain⟨I,z,B,zq⟩:=ZG (Gb p (X_ q));obtain⟨L,D,k',J⟩:=Yq zq;have m:qP M j=p.2:=by unfold qP;rw[q]
  show NI _ y (qP M j);rw[m,<-e];exact r3 k I z B L R.h D k' J
variable{x qual:Str}{st:Ch}{f:z4}{b:Ev}{N c:bn}{k:Nat}{g:Sp}
theorem dH.top(F:dH P w K a d (g_ P w) k f b c g):dH P w K a d xT k f b c (λv H Q Y=>g v H Q E0):=
 ⟨λv H Q E h=>F.len v H Q E0 h,λA o s H i u v Q E m q n j l=>Ps (F.run A o s H i u v Q E0 m q n j l) λr t h=>by
  cases r with
  |error e=>exact(NB h).elim
  |ok p=>cases p<;>exact h⟩
end
section
variable{c:aW}{D:En}{d:St}{H:Hp}{r:ga}{Q:VK}
theorem N_(h:af c e d H λx b=>az c r D (d.set i<|some x) b):az c (.a i e::r) D d H:=h
theorem Oa(h:br c a d H λv e=>lu c.K b v e Q):af c (.t b a) d H Q:=h
theorem Ob{Q:bi->Hp->Prop}(h:af c a d H λx b=>Q [x] b):br c [a] d H Q:=h
end
end
variable{H B H0 I Z:Hp}{J:St}{u:aW}{a o:RE}{U W Y:bi}{l r:bv}{Q:VK}{i j:Nat}{C L z c:PySem.Addr}{as:on}{body:ga}{vf vw:V}{D:En}{y:PySem.Str}{fv:List (PySem.Str×Nat)}
section
open PyProof.Rows
def kq:bn:=["thing"]
noncomputable def Oc:ga:=
 [.r<|.d [(.R .i<|.v 0),(.n<|.R .b<|.v 0)]]
def ae:bn:=[]
def Od:bn:=["isinstance","int","bool"]
def Ge:bn:=["thing","words"]
noncomputable def Gf:ga:=
 [.r<|.d [(.R .s<|.v 0),(.p .In (.v 0)<|.v 1)]]
def Oe:bn:=["isinstance","str"]
noncomputable def Gg:ga:=
 [.r<|.d [(.R .s<|.v 0),(.p .Eq (.a .l (.v 0) [.g 0])<|.c<|.s "")]]
def adu:bn:=["SIGNS"]
noncomputable def Of:ga:=
 [.i (.n<|.l 0 [.v 0]) [.g 0 [(.c<|.s "a text is a str of signs from the blank to the tilde, and line feeds")]] []]
def adv:bn:=["is_text"]
def adw:bn:=["BadText"]
noncomputable def BR:ga:=
 [.i (.o [(.n (.R .t (.v 0))),(.p .NotEq (.t .l [.v 0]) (.c (.i 2)))]) [.r (.c (.b false))] [],
 .i (.l 0 [(.i (.v 0)<|.c<|.i 0),(.T [(.c<|.s "keep")])]) [.r<|.d [(.l 1 [(.i (.v 0)<|.c<|.i 1)]),(.p .GtE (.i (.v 0)<|.c<|.i 1)<|.c<|.i 1)]] [],
 .r (.d [(.l 0 [(.i (.v 0) (.c (.i 0))),(.T [(.c (.s "cut")),(.c (.s "put"))])]),(.l 2 [(.i (.v 0) (.c (.i 1)))]),(.p .NotEq (.i (.v 0) (.c (.i 1))) (.c (.s "")))])]
def adx:bn:=["is_word","is_whole","is_text"]
def Og:bn:=["isinstance","tuple","len"]
def Oh:bn:=["word","ahead"]
noncomputable def Oi:ga:=
 [.r<|.d [(.p .NotEq (.v 0)<|.v 1),(.n<|.d [(.p .Eq (.v 1)<|.c<|.s "cut"),(.p .Eq (.v 0)<|.c<|.s "put")])]]
def Oj:bn:=["change","ahead","part"]
noncomputable def Ol:ga:=
 [.i (.n (.R .l (.v 0))) [.g 0 [(.c (.s "a change is a list"))]] [],
 .a 1 (.c<|.s ""),
 .e 2 .l [.v 0] [.i (.n (.l 0 [.v 2])) [.g 0 [(.c (.s "a part is a keep of 1 sign or more, or a cut or put of a text that is not empty"))]] [],
  .i (.n<|.l 1 [(.i (.v 2)<|.c<|.i 0),.v 1]) [.g 0 [(.c<|.s "neighbours have two words, and no put stands right behind a cut")]] [],
  .a 1 (.i (.v 2) (.c (.i 0)))]]
def ady:bn:=["is_part","may_follow"]
def RR:bn:=["isinstance","list"]
def Om:bn:=["BadChange"]
def Oo:bn:=["part"]
noncomputable def Oq:ga:=
 [.r<|.H (.p .Eq (.i (.v 0)<|.c<|.i 0)<|.c<|.s "keep") (.i (.v 0)<|.c<|.i 1)<|.t .l [(.i (.v 0)<|.c<|.i 1)]]
def vR:bn:=["len"]
def Ot:bn:=["change","over","gives"]
noncomputable def Ou:ga:=
 [.d (.l 0 [.v 0]),
 .a 1 (.t .s [(.C none [] .l [.v 0] (some<|.p .NotEq (.i (.v 0)<|.c<|.i 0)<|.c<|.s "put")<|.l 1 [.v 0])]),
 .a 2 (.t .s [(.C none [] .l [.v 0] (some<|.p .NotEq (.i (.v 0)<|.c<|.i 0)<|.c<|.s "cut")<|.l 1 [.v 0])]),
 .r (.T [.v 1,.v 2])]
def adA:bn:=["need_change","part_size"]
def adB:bn:=["sum"]
def Ov:bn:=["change","size"]
noncomputable def Ow:ga:=
 [.i (.d [(.p .Gt (.t .l [.v 0]) (.c (.i 0))),(.p .Eq (.i (.i (.v 0) (.N (.c (.i 1)))) (.c (.i 0))) (.c (.s "keep")))]) [.a 1 (.b .Add (.v 1) (.i (.a .p (.v 0) []) (.c (.i 1))))] [],
 .d (.a .a (.v 0) [(.T [(.c (.s "keep")),.v 1])])]
noncomputable def Ox:bn:=["change","puts","cuts","put","cut"]
noncomputable def Oy:ga:=
 [.a 3 (.a .j (.c (.s "")) [.v 1]),
 .a 4 (.a .j (.c<|.s "") [.v 2]),
 .i (.p .NotEq (.v 3)<|.c<|.s "") [.d<|.a .a (.v 0) [(.T [(.c<|.s "put"),.v 3])]] [],
 .i (.p .NotEq (.v 4) (.c (.s ""))) [.d (.a .a (.v 0) [(.T [(.c (.s "cut")),.v 4])])] []]
noncomputable def Oz:bn:=["parts","change","puts","cuts","word","what"]
noncomputable def OA:ga:=
 [.a 1 (.L []),
 .a 2 (.L []),
 .a 3 (.L []),
 .k [4,5] .l [.v 0] [.i (.p .Eq (.v 4) (.c (.s "put"))) [.d (.a .a (.v 2) [.v 5])] [.i (.p .Eq (.v 4) (.c (.s "cut"))) [.d (.a .a (.v 3) [.v 5])] [.i (.p .Gt (.v 5) (.c (.i 0))) [.d (.l 0 [.v 1,.v 2,.v 3]),
     .a 2 (.L []),
     .a 3 (.L []),
     .d (.l 1 [.v 1,.v 5])] []]]],
 .d (.l 0 [.v 1,.v 2,.v 3]),
 .r (.v 1)]
def adC:bn:=["add_texts","add_keep"]
noncomputable def OB:bn:=["text","change","place","pieces","word","what"]
noncomputable def OD:ga:=
 [.d (.l 0 [.v 0]),
 .i (.p .NotEq (.i (.l 1 [.v 1])<|.c<|.i 0)<|.t .l [.v 0]) [.g 0 [(.c<|.s "the change is over a text of another number of signs")]] [],
 .a 2 (.c<|.i 0),
 .a 3 (.L []),
 .k [4,5] .l [.v 1] [.i (.p .Eq (.v 4) (.c (.s "put"))) [.d (.a .a (.v 3) [.v 5])] [.i (.p .Eq (.v 4) (.c (.s "keep"))) [.d (.a .a (.v 3) [(.s (.v 0) (some (.v 2)) (some (.b .Add (.v 2) (.v 5))))]),
    .a 2 (.b .Add (.v 2) (.v 5))] [.i (.n (.a .s (.v 0) [.v 5,.v 2])) [.g 0 [(.c (.s "what is cut is not what stands there"))]] [.a 2 (.b .Add (.v 2) (.t .l [.v 5]))]]]],
 .r (.a .j (.c (.s "")) [.v 3])]
def adD:bn:=["need_text","sizes"]
def yv:bn:=["BadFit"]
def OE:bn:=["_law_script","_law_k"]
noncomputable def OF:ga:=
 [.i (.p .Lt (.v 1) (.t .l [.v 0])) [.r (.i (.v 0) (.v 1))] [],
 .r (.c (.i 0))]
def OG:bn:=["_law_cell","_law_k","_law_number"]
noncomputable def OH:ga:=
 [.a 2 (.b .Mod (.b .Add (.b .Add (.b .Mult (.v 0) (.c (.i 48271))) (.b .Mult (.c (.i 7919)) (.v 1))) (.c (.i 11))) (.c (.i 1000003))),
 .r (.b .Mod (.b .Mult (.b .Mod (.b .Mult (.v 2) (.v 2)) (.c (.i 1000003))) (.v 2)) (.c (.i 1000003)))]
def OI:bn:=["_law_cell","_law_size_here","_law_some"]
noncomputable def OJ:ga:=
 [.a 2 (.c (.s " !\"#$&'()*+,-./0123456789:;<=>?@ABCDEFGHIJKLMNOPQRSTUVWXYZ[\\]^_`")),
 .a 2 (.b .Add (.v 2)<|.c<|.s "abcdefghijklmnopqrstuvwxyz{|}~\n"),
 .i (.p .Eq (.b .Mod (.v 0)<|.c<|.i 3)<|.c<|.i 0) [.a 2<|.c<|.s "ab\n"] [],
 .r (.a .j (.c (.s "")) [(.C none [("_law_some",2),("_law_cell",0)] .e [.v 1] none (.i (.v 1) (.b .Mod (.b .FloorDiv (.l 0 [.v 2,.v 0]) (.c (.i 7))) (.t .l [.v 1]))))])]
def adE:bn:=["_law_mixed"]
def BS:bn:=["range","len"]
def OK:bn:=["_law_cell"]
noncomputable def OL:ga:=
 [.i (.p .Eq (.b .Mod (.v 0) (.c (.i 8))) (.c (.i 1))) [.r (.b .Mod (.b .FloorDiv (.v 0) (.c (.i 8))) (.c (.i 401)))] [],
 .r (.b .Mod (.b .FloorDiv (.v 0) (.c (.i 8))) (.c (.i 25)))]
noncomputable def OM:bn:=["_law_cell","_law_text_here","_law_many","_law_parts_here","_law_at","_law_k","_law_number","_law_size_here","_law_left"]
noncomputable def ON:ga:=
 [.a 3 (.L []),
 .a 4 (.c<|.i 0),
 .e 5 .e [.v 2] [.a 6 (.l 0 [.v 0,(.b .Add (.c (.i 50)) (.v 5))]),
  .a 7 (.i (.L [(.c<|.i 1),(.c<|.i 2),(.c<|.i 0),(.c<|.i 3),(.c<|.i 5),(.c<|.i 40)])<|.b .Mod (.b .FloorDiv (.v 6)<|.c<|.i 4)<|.c<|.i 6),
  .a 8 (.t .m [.v 7,(.b .Sub (.t .l [.v 1])<|.v 4)]),
  .i (.p .Eq (.b .Mod (.v 6)<|.c<|.i 4)<|.c<|.i 3) [.d<|.a .a (.v 3) [(.T [(.c<|.s "put"),(.l 1 [.v 6,.v 7])])]] [.i (.p .Eq (.b .Mod (.v 6)<|.c<|.i 4)<|.c<|.i 2) [.d<|.a .a (.v 3) [(.T [(.c<|.s "cut"),(.s (.v 1) (some<|.v 4)<|some<|.b .Add (.v 4)<|.v 8)])]] [.d<|.a .a (.v 3) [(.T [(.c<|.s "keep"),.v 8])]]],
  .i (.p .Lt (.b .Mod (.v 6) (.c (.i 4))) (.c (.i 3))) [.a 4 (.b .Add (.v 4) (.v 8))] []],
 .r (.b .Add (.v 3) (.L [(.T [(.c (.s "keep")),(.b .Sub (.t .l [.v 1]) (.v 4))])]))]
def adF:bn:=["_law_mixed","_law_text"]
def adG:bn:=["range","min","len"]
noncomputable def OO:bn:=["_law_parts_here","_law_rows","_law_word","_law_thing","_law_found","_law_put","_law_cut","_law_keep","_law_some"]
noncomputable def OP:ga:=
 [.a 1 (.L [(.L [(.c (.s "")),(.c (.s "")),(.c (.i 0))])]),
 .k [2,3] .l [.v 0] [.i (.p .Eq (.v 2) (.c (.s "keep"))) [.s (.i (.v 1) (.N (.c (.i 1)))) (.c (.i 2)) (.b .Add (.i (.i (.v 1) (.N (.c (.i 1)))) (.c (.i 2))) (.v 3))] [.i (.p .NotEq (.v 3) (.c (.s ""))) [.i (.p .Gt (.i (.i (.v 1) (.N (.c (.i 1)))) (.c (.i 2))) (.c (.i 0))) [.d (.a .a (.v 1) [(.L [(.c (.s "")),(.c (.s "")),(.c (.i 0))])])] [],
    .s (.i (.v 1) (.N (.c (.i 1)))) (.t .i [(.p .Eq (.v 2) (.c (.s "cut")))]) (.b .Add (.i (.i (.v 1) (.N (.c (.i 1)))) (.t .i [(.p .Eq (.v 2) (.c (.s "cut")))])) (.v 3))] []]],
 .a 4 (.L []),
 .k [5,6,7] .l [.v 1] [.a 8 (.L [(.T [(.c (.s "put")),.v 5]),(.T [(.c (.s "cut")),.v 6]),(.T [(.c (.s "keep")),.v 7])]),
  .a 4 (.b .Add (.v 4) (.C none [] .l [.v 8] (some (.d [(.p .NotEq (.i (.v 0) (.c (.i 1))) (.c (.s ""))),(.p .NotEq (.i (.v 0) (.c (.i 1))) (.c (.i 0)))])) (.v 0)))],
 .r (.v 4)]
def adH:bn:=["int"]
def OQ:bn:=["_law_cell","_law_text_here","_law_many"]
noncomputable def OR:ga:=
 [.r<|.l 0 [(.l 1 [.v 0,.v 1,.v 2])]]
def adI:bn:=["_law_neat","_law_parts"]
noncomputable def OS:bn:=["_law_found","_law_due","_law_part","_law_other"]
noncomputable def OT:ga:=
 [.i (.o [(.n (.R .l (.v 0))),(.p .NotEq (.t .l [.v 0]) (.t .l [.v 1]))]) [.r (.c (.b false))] [],
 .k [2,3] .z [.v 0,.v 1] [.i (.o [(.n (.R .t (.v 2))),(.p .NotEq (.t .l [.v 2]) (.c (.i 2))),(.n (.R .s (.i (.v 2) (.c (.i 0))))),(.p .NotEq (.i (.v 2) (.c (.i 0))) (.i (.v 3) (.c (.i 0))))]) [.r (.c (.b false))] [],
  .i (.o [(.p .NotEq (.R .s<|.i (.v 3)<|.c<|.i 1)<|.R .s<|.i (.v 2)<|.c<|.i 1),(.p .NotEq (.i (.v 2)<|.c<|.i 1)<|.i (.v 3)<|.c<|.i 1)]) [.r<|.c<|.b false] [],
  .i (.d [(.n (.R .s (.i (.v 3) (.c (.i 1))))),(.n (.l 0 [(.i (.v 2) (.c (.i 1)))]))]) [.r (.c (.b false))] []],
 .r (.c (.b true))]
def adJ:bn:=["_law_whole"]
noncomputable def adK:bn:=["isinstance","list","len","zip","tuple","str"]
noncomputable def Gh:bn:=["_law_text_here","_law_change_here","_law_found_here","_law_at","_law_word_here","_law_thing"]
noncomputable def OU:ga:=
 [.a 2 (.c (.s "")),
 .a 3 (.c<|.i 0),
 .k [4,5] .l [.v 1] [.i (.p .Eq (.v 4) (.c (.s "put"))) [.a 2 (.b .Add (.v 2) (.v 5))] [.i (.p .Eq (.v 4) (.c (.s "cut"))) [.a 3 (.b .Add (.v 3) (.t .l [.v 5]))] [.a 2 (.b .Add (.v 2) (.s (.v 0) (some (.v 3)) (some (.b .Add (.v 3) (.v 5))))),
    .a 3 (.b .Add (.v 3) (.v 5))]]],
 .r (.v 2)]
def OV:bn:=["thing","least","most"]
noncomputable def OW:ga:=
 [.r<|.d [(.l 0 [.v 0]),(.yc .LtE .LtE (.v 1) (.v 0)<|.v 2)]]
def adL:bn:=["is_whole"]
def aiP:bn:=["_law_found_here"]
def OY:bn:=["self","change"]
noncomputable def OZ:ga:=
 [.c (.v 0) "parts" (.t .t [.v 1]),
 .c (.v 0) "passed_by" (.c<|.i 0),
 .c (.v 0) "offset" (.c (.i 0))]
def vS:bn:=["list"]
def lI:bn:=["self"]
noncomputable def O0:ga:=
 [.r<|.H (.p .Lt (.f (.v 0) "passed_by")<|.t .l [(.f (.v 0) "parts")]) (.i (.i (.f (.v 0) "parts")<|.f (.v 0) "passed_by")<|.c<|.i 0)<|.c<|.s ""]
noncomputable def O1:ga:=
 [.r<|.b .Sub (.l 0 [(.i (.f (.v 0) "parts")<|.f (.v 0) "passed_by")])<|.f (.v 0) "offset"]
def O2:bn:=["part_size"]
noncomputable def O3:bn:=["self","size","part","begin","end"]
noncomputable def Gj:ga:=
 [.a 2 (.i (.f (.v 0) "parts") (.f (.v 0) "passed_by")),
 .a 3 (.f (.v 0) "offset"),
 .a 4 (.b .Add (.v 3)<|.v 1),
 .c (.v 0) "offset" (.v 4),
 .i (.p .Eq (.q 0 "left" (.v 0) []) (.c (.i 0))) [.c (.v 0) "passed_by" (.b .Add (.f (.v 0) "passed_by") (.c (.i 1))),
  .c (.v 0) "offset" (.c (.i 0))] [],
 .r (.T [(.i (.v 2) (.c (.i 0))),(.H (.p .Eq (.i (.v 2) (.c (.i 0))) (.c (.s "keep"))) (.v 1) (.s (.i (.v 2) (.c (.i 1))) (some (.v 3)) (some (.v 4))))])]
def adM:bn:=["left"]
noncomputable def O4:bn:=["walk","putting","keeping","part"]
noncomputable def O5:ga:=
 [.a 3 (.q 0 "take" (.v 0) [(.q 1 "left" (.v 0) [])]),
 .d (.a .a (.v 1) [.v 3]),
 .d (.a .a (.v 2) [(.T [(.c (.s "keep")),(.l 0 [.v 3])])])]
def adN:bn:=["take","left"]
noncomputable def O6:bn:=["first","second","ones","others"]
noncomputable def O7:ga:=
 [.i (.d [(.p .Eq (.i (.v 0) (.c (.i 0))) (.c (.s "cut"))),(.p .Eq (.i (.v 1) (.c (.i 0))) (.c (.s "cut")))]) [.i (.p .NotEq (.i (.v 0) (.c (.i 1))) (.i (.v 1) (.c (.i 1)))) [.g 0 [(.c (.s "both changes cut a sign, and tell it otherwise"))]] []] [.i (.p .Eq (.i (.v 1) (.c (.i 0))) (.c (.s "keep"))) [.d (.a .a (.v 2) [.v 0]),
   .i (.p .Eq (.i (.v 0) (.c (.i 0))) (.c (.s "keep"))) [.d (.a .a (.v 3) [.v 1])] []] [.d (.a .a (.v 3) [.v 1])]]]
noncomputable def O8:bn:=["one","other","first","second","ones","others","size"]
noncomputable def O9:ga:=
 [.i (.p .NotEq (.i (.l 0 [.v 0]) (.c (.i 0))) (.i (.l 0 [.v 1]) (.c (.i 0)))) [.g 0 [(.c (.s "the changes are over unlike numbers of signs"))]] [],
 .a 2 (.m 0 [.v 0]),
 .a 3 (.m 0 [.v 1]),
 .a 4 (.L []),
 .a 5 (.L []),
 .q (.o [(.p .NotEq (.q 0 "word" (.v 2) []) (.c (.s ""))),(.p .NotEq (.q 0 "word" (.v 3) []) (.c (.s "")))]) [.i (.p .Eq (.q 0 "word" (.v 2) []) (.c (.s "put"))) [.d (.l 1 [.v 2,.v 4,.v 5])] [.i (.p .Eq (.q 0 "word" (.v 3) []) (.c (.s "put"))) [.d (.l 1 [.v 3,.v 5,.v 4])] [.a 6 (.t .m [(.q 1 "left" (.v 2) []),(.q 1 "left" (.v 3) [])]),
    .d (.l 2 [(.q 2 "take" (.v 2) [.v 6]),(.q 2 "take" (.v 3) [.v 6]),.v 4,.v 5])]]],
 .r (.T [(.l 3 [.v 4]),(.l 3 [.v 5])])]
noncomputable def adO:bn:=["sizes","put_first","share","neat"]
def O_:bn:=["min"]
def adP:bn:=["word","left","take"]
def Pa:bn:=["Walk"]
def Pb:bn:=["given","text"]
noncomputable def Pc:ga:=
 [.i (.p .Eq (.i (.v 0) (.c (.i 0))) (.c (.s "keep"))) [.r (.L [(.T [(.c (.s "cut")),.v 1])])] [],
 .i (.p .NotEq (.i (.v 0)<|.c<|.i 1)<|.v 1) [.g 0 [(.c<|.s "what the first change puts is cut otherwise")]] [],
 .r (.L [])]
noncomputable def Pd:bn:=["walk","part","parts","place","size","given"]
noncomputable def Pe:ga:=
 [.a 2 (.L []),
 .a 3 (.c<|.i 0),
 .q (.p .Lt (.v 3) (.l 0 [.v 1])) [.i (.p .Eq (.q 0 "word" (.v 0) []) (.c (.s "cut"))) [.d (.a .a (.v 2) [(.q 1 "take" (.v 0) [(.q 2 "left" (.v 0) [])])]),
   .C] [],
  .a 4 (.t .m [(.q 2 "left" (.v 0) []),(.b .Sub (.l 0 [.v 1])<|.v 3)]),
  .a 5 (.q 1 "take" (.v 0) [.v 4]),
  .i (.p .Eq (.i (.v 1)<|.c<|.i 0)<|.c<|.s "keep") [.d<|.a .a (.v 2) [.v 5]] [.d<|.a .e (.v 2) [(.l 1 [.v 5,(.s (.i (.v 1)<|.c<|.i 1) (some<|.v 3)<|some<|.b .Add (.v 3)<|.v 4)])]],
  .a 3 (.b .Add (.v 3) (.v 4))],
 .r (.v 2)]
def FT:bn:=["part_size","cut_behind"]
def Pf:bn:=["word","take","left"]
noncomputable def Pg:bn:=["one","other","walk","parts","part"]
noncomputable def Ph:ga:=
 [.i (.p .NotEq (.i (.l 0 [.v 0]) (.c (.i 1))) (.i (.l 0 [.v 1]) (.c (.i 0)))) [.g 0 [(.c (.s "the other change is over another number of signs than the first one gives"))]] [],
 .a 2 (.m 0 [.v 0]),
 .a 3 (.L []),
 .e 4 .l [.v 1] [.i (.p .Eq (.i (.v 4)<|.c<|.i 0)<|.c<|.s "put") [.d<|.a .a (.v 3) [.v 4]] [.d<|.a .e (.v 3) [(.l 1 [.v 2,.v 4])]]],
 .q (.p .NotEq (.q 0 "word" (.v 2) [])<|.c<|.s "") [.d<|.a .a (.v 3) [(.q 1 "take" (.v 2) [(.q 2 "left" (.v 2) [])])]],
 .r (.l 2 [.v 3])]
def E5:bn:=["sizes","parts_behind","neat"]
structure qQ(K:Frag)(C:z4):Prop where
 c:gj K C
 yw:fZ K C "parts"
 t:fZ K C "passed_by"
 yx:fZ K C "offset"
section
variable{X:Cx}
theorem Pj{w:A9}{K:Frag}{y:Fa}(z:Str)(t:Tok)(a:z4)(U:["enumerate","zip","dict_itemiterator","dict_reverseitemiterator","odict_iterator","itertools.zip_longest","itertools.pairwise"].contains y=false)(W:∀A:Db,A.handled=none->Walks P w A a [a] [a] z.cps.size (SignAt z) (λi h=>h.IsStrIter a y z t i))(T:∀(A:Db)(i:Nat)(s:AC)(Q:ce)(E:ce),s.heap.IsStrIter a y z t i->Q (.ref a) s->wpAny (model P w) A (pyIter<|.ref a) Q E s):
  Ye P w K R (yf z) [a] a (λi h=>h.IsStrIter a y z t i) where
 mem:=by simp
 obj:=λi h f b g=>by
  obtain rfl:b=a:=by simpa using g
  obtain⟨o,e,c,d⟩:=f;exact pQ o e (λv q=>by lia)
 keep:=λi h L f k=>by
  obtain⟨o,e,c⟩:=f;exact pQ o (k a am o e) c
 item:=by
  intro X F D G n i B' s J H E I j f m;obtain⟨B,x,V,u,r,p⟩:=Gi (j a am);refine(W X.A<|I.ok.hd n).item i s _ _ m f λv L N S C l=>?_;obtain⟨c,M,Y,rfl⟩:=S;obtain⟨o,e,Z,d⟩:=id C;exact pQ _ O (AN e Z d U (q8 (.s ⟨#[c]⟩) H (I.turned (λb o g e=>l b o (by simpa using g) e) B x u r p) (qX M O) (tL O c Y O) C (λb g=>(j b g).1)))
 done:=by
  intro X F D G n i B' s J H E I j f m;obtain⟨B,x,V,u,r,p⟩:=Gi (j a am);subst m;exact(W X.A<|I.ok.hd n).done s _ _ f λL N l=>⟨O,I.turned (λb o g e=>l b o (by simpa using g) e) B x u r p⟩
 self:=λA i s Q E f h=>T A i s Q E f h
theorem adT{l:Expr}(m:PE X l g):PI X w l (Nl g):=by
 intro B s J H R u h;refine aI (m B s J H _ u h) λv a ⟨x,I,c,r,k⟩=>?_;obtain⟨z,e,q⟩:=k;subst e;obtain⟨t,rfl⟩:=r;have p:∀b∈ [a.heap.objs.size],ka X B I b:=λb n=>by
  obtain rfl:b=a.heap.objs.size:=by simpa using n
  exact c.xD (Yw _)<|c.aE.fresh<|Yw _
 cases j:z.cps.all (· <128);exact wpAny_pyIter_wide j (sU a.heap.objs.size [a.heap.objs.size] _ _ I O (c.kept λb o e=>GT _ e) (Pj z t _ (O) (λA f=>Walks.strWide f _ z t) (λA i s Q E d h=>wpAny_pyIter_striter_wide d h)) (qH _ (IN _ O) O O) p q);exact wpAny_pyIter_ascii j (sU a.heap.objs.size [a.heap.objs.size] _ _ I O (c.kept λb o e=>GT _ e) (Pj z t _ (O) (λA f=>Walks.strAscii f _ z t) (λA i s Q E d h=>wpAny_pyIter_striter_ascii d h)) (qH _ (IN _ O) O O) p q)
variable{CX:c5}{S:dm}{u:aW}{e e2 a b c d:Expr}{es:le}{x:Str}{p q pos:Pos}{r f rb rc:RE}{rs:on}{i j:Nat}
theorem adU(h:PE X a (af u f)):PI X g a (ir u .t [f]):=adT h
end
def yy:List (TE×TE)->St->Hp->(List (V×V)->Hp->Prop)->Prop
 |[],_,H,Q=>Q [] H
 |(k,t)::r,J,H,Q=>k J H λx I=>t J I λy Z=>yy r J Z λp a=>Q ((x,y)::p) a
abbrev VV:List (V×V)->List (AT×AT)->Prop:=Paired λp q=>YD p.1 q.1/\YD p.2 q.2
def qS(X:Cx)(p:Pos)(k:List (Option Expr))(v:le)(e:List (TE×TE)):Prop:=
 ∀(c:cr)(s:AC)(J:St)(H:Hp)(Q:List (V×V)->Hp->Prop),d4 X c J H s->yy e J H Q->
  wpAny (model X.prog X.w) X.A (evalPairs<|pairTrees k v X.env p) (λW d=>∃b B,d4 X c J B d/\VV b W/\Q b B) X.a s
theorem adV:qS X p [] [] []:=λB s J H Q I h=>pairTrees_nil_walk ⟨[],H,I,.nil,h⟩
theorem Nt{W:le}{a:TE}(o:PE X k a)(m:PE X v t)(n:qS X p b W d):
  qS X p (some k::b) (v::W) ((a,t)::d):=λB s J H Q A h=>
 pairTrees_cons_walk (aI (o B s J H _ A h) λF e ⟨x,I,z,g,j⟩=>aI (m B e J I _ z j) λE c ⟨y,Z,w,f,i⟩=>
  aI (n B c J Z _ w i) λD G ⟨l,C,u,r,q⟩=>p4 ((x,y)::l) C u (.cons ⟨g,f⟩ r) q)
def jV(a m:ii):ii:=m.foldl (λX k=>ZR X k.1 k.2) a
theorem KV.merge:∀{m:ii}{s:List (ZA×AT)}{a:ii}{W:List (ZA×AT)},KV m s->KV a W->KV (jV a m) (merged W s):=by
 intro m s a W r;induction r generalizing a W with
 |nil=>intro q;exact q
 | @cons p q d c h t i=>
  intro b;have e:KV (ZR a p.1 p.2) (stored W q.1 q.2):=by
   have:=b.put p.1 h.2;rw[<-h.1];exact this
  exact i e
theorem Pk:∀(m a:ii),(jV a m).length<=a.length+m.length
 |[],a=>by exact Yw _
 |p::r,a=>by
  have b:=Pk r (ZR a p.1 p.2);have h:=sR a p.1 p.2;show(jV (ZR a p.1 p.2) r).length<=_;rw[Zc];lia
theorem Pl:∀{d:ii}{e:List (AT×AT)},VV (d.map λk=>(kV k.1,k.2)) e->∃s,Carries (fo P w) e s/\KV d s
 |[],_,r=>by cases r;exact⟨[],True.intro,.nil⟩
 |p::d,_,r=>by
  cases r with
  | @cons a b as g h t=>
   obtain⟨s,c,q⟩:=Pl t;obtain⟨i,f⟩:=b;exact⟨(p.1,f)::s,⟨sS h.1,O,c⟩,.cons ⟨O,h.2⟩ q⟩
def Gk(b:List (TE×TE)):TE:=λJ H Q=>∀p,H p=none->yy b J (fy H p<|.d []) λs Z=>Z p=some (.d [])/\∃a:ii,s=a.map (λk=>(kV k.1,k.2))/\a.length<=15/\Q (.r p) (fy Z p<|.d<|jV [] a)
theorem adX(h:qS X p k v d)(E:k.all (·.isSome)=true)(y:k.length=v.length)(D:k≠ [])(a:k.length<=15):PE X (.Dict k v p) (Gk d):=by
 intro L s J H Q I q;refine wpAny_Dict_walk (knd:=fo X.prog X.w) E y D a<|aI (h L _ J _ _ (I.laid (λY Y q=>GT _ q) (Yw _) (MA s.heap I.big))<|q _ (I.aE.fresh (Yw s.heap.objs.size))) λM N h=>?_;obtain⟨P,Z,f,l,e,b,G,R,o⟩:=h;subst G;obtain⟨i,c,j⟩:=Pl l;obtain⟨z,B,g,m,K⟩:=Bf f.aE e;cases m;refine⟨i,c,K,λF n u=>⟨.r s.heap.objs.size,_,?_,O,o⟩⟩;have t:(jV [] b).length<=sizeLine:=by
  have C:=Pk b [];rw[Y6] at C;rw[OX];lia
 have A:∃q,F.get? s.heap.objs.size=some q:=(by obtain⟨q,_,_,x,_⟩:=n;exact⟨q,x⟩);exact Bg f (e▸True.intro) u A<|Fb t B (j.merge .nil) n
def tJ:ii->bi
 |[]=>[]
 |k::r=>kV k.1::k.2::tJ r
noncomputable def tK:List (V×V)->bi
 |[]=>[]
 |p::r=>p.1::p.2::tK r
def vT:Frag->TA->TE:=λ_ t J H Q=>∀p,H p=none->t J (fy H p<|.d []) λW Z=>Z p=some (.d [])/\∃a:ii,W=tJ a/\a.length<=15/\Q (.r p) (fy Z p<|.d<|jV [] a)
def qT(u:aW):on->List (TE×TE)
 |a::b::r=>(af u a,af u b)::qT u r
 |_=>[]
theorem Gm:∀(s:on)(H:Hp)(Q:bi->Hp->Prop),s.length % 2=0->br u s J H Q=yy (qT u s) J H λp Z=>Q (tK p) Z
 |[],H,Q,_=>O
 |[a],H,Q,e=>absurd e am
 |a::b::r,H,Q,e=>by
  have d:r.length % 2=0:=by
   have:(r.length+1+1) % 2=0:=e;lia
  show(af u a J H λx I=>af u b J I λy Z=>br u r J Z λW c=>Q (x::y::W) c)=af u a J H λx I=>af u b J I λy Z=>yy (qT u r) J Z λp c=>Q (x::y::tK p) c;congr 1;funext x I;congr 1;funext y Z;exact Gm r Z (λW c=>Q (x::y::W) c) d
theorem BU:∀(s:List (V×V))(c:ii),tK s=tJ c↔s=c.map λk=>(kV k.1,k.2)
 |[],[]=>⟨λY=>O,λY=>O⟩
 |[],k::r=>⟨nofun,nofun⟩
 |p::s,[]=>⟨nofun,nofun⟩
 |p::s,k::r=>by
  constructor;intro h;have b:=(Za h).1;have a:=(Za (Za h).2).1;rw[((BU s r).mp (Za (Za h).2).2),ZU,<-b,<-a];intro h;obtain⟨b,a⟩:=Za h;show p.1::p.2::tK s=kV k.1::k.2::tJ r;rw[(BU s r).mpr a,b]
theorem adZ{K:Frag}(b:on)(e:b.length % 2=0):vT K (br u b)=Gk (qT u b):=by
 funext J H Q;apply propext;constructor;intro h p c;have:=h p c;rw[Gm b _ _ e] at this;have f:(fun(s:List (V×V))(Z:Hp)=>Z p=some (.d [])/\∃a:ii,tK s=tJ a/\a.length<=15/\Q (.r p) (fy Z p<|.d<|jV [] a))=λs Z=>Z p=some (.d [])/\∃a:ii,s=a.map (λk=>(kV k.1,k.2))/\a.length<=15/\Q (.r p) (fy Z p<|.d<|jV [] a):=by
  simp only[BU]
 rw[f] at this;exact this;intro h p c;have:=h p c;rw[Gm b _ _ e];have f:(fun(s:List (V×V))(Z:Hp)=>Z p=some (.d [])/\∃a:ii,tK s=tJ a/\a.length<=15/\Q (.r p) (fy Z p<|.d<|jV [] a))=λs Z=>Z p=some (.d [])/\∃a:ii,s=a.map (λk=>(kV k.1,k.2))/\a.length<=15/\Q (.r p) (fy Z p<|.d<|jV [] a):=by
  simp only[BU]
 rw[f];exact this
section
variable{CX:c5}{S:dm}{u:aW}{X:Cx}{d:Pos}{k v:Expr}{e:List (Option Expr)}{W:le}{f g:RE}{b:on}
theorem ad0:qS X d [] [] (qT u []):=adV
theorem qU(c:PE X k (af u f))(a:PE X v (af u g))(h:qS X d e W (qT u b)):qS X d (some k::e) (v::W) (qT u (f::g::b)):=Nt c a h
noncomputable def Pm(k:List (Option Expr))(v:le)(b:on):Cl:=k.all (·.isSome) && decide (k.length=v.length) && decide (k.length≠0) && decide (k.length<=15) && decide (b.length % 2=0)
theorem ad1(p:qS X d e W (qT u b))(h:autoParam (Pm e W b=true) cm):PE X (.Dict e W d) (af u<|.x vT b):=by
 simp only[Pm,ZW,GM] at h;obtain⟨⟨⟨⟨i,g⟩,f⟩,c⟩,a⟩:=h;show PE X _ (vT u.K<|br u b);rw[adZ b a];exact adX p i g (λz=>f (z▸O)) c
end
end
section
open PyProof.Rows PySem.W
mutual
theorem Pn{H:Hp}:∀(d:EQ)(v:V),Is H d v->d.hasDict=false
 |.none,_,_=>rfl
 |.bool _,_,_=>rfl
 |.int _,_,_=>rfl
 |.str _,_,_=>rfl
 |.list U,v,h=>by
  obtain⟨a,W,e,hH,hl⟩:=(show ∃a W,v=.r a/\H a=some (.l W)/\IsL H U W by simpa only[Is] using h);exact Gn U W hl
 |.tuple U,v,h=>by
  obtain⟨a,W,e,hH,hl⟩:=(show ∃a W,v=.r a/\H a=some (.t W)/\IsL H U W by simpa only[Is] using h);exact Gn U W hl
 |.dict _,_,h=>False.elim (by simpa only[Is] using h)
theorem Gn{H:Hp}:∀(ds:List EQ)(W:bi),IsL H ds W->PyData.hasDictAll ds=false
 |[],_,_=>rfl
 |d::ds,W,h=>by
  obtain⟨v,r,e,h1,h2⟩:=(show ∃v r,W=v::r/\Is H d v/\IsL H ds r by simpa only[IsL] using h);show(d.hasDict ||PyData.hasDictAll ds)=false;rw[Pn d v h1,Gn ds r h2];rfl
end
def BV(K:Frag):bi->Hp->VK->Prop:=λU H Q=>∃(a:z4)(d:EQ),U=[.r a]/\Is H d (.r a)/\d.showable=true/\d.depth<=30/\d.shown.length<=16000000/\Q (.s d.shown) H
section
variable{X:Cx}
theorem ad2(i:X.A.guards=some [])(m:X.A.units+64<cLine):d0 X (.builtin "repr") (BV X.K):=by
 intro B s J H U j Q I r h;obtain⟨a,d,zq⟩:=ZL h;obtain⟨rfl,c,g,p,n,q⟩:=Gi zq;obtain⟨u,rfl,b⟩:=XW r;obtain⟨as,f⟩:=Is.reads I d _ _ c b;cases b;have l:d.shown.length<=sizeLine:=OX▸oT n (Zs _ _);refine repr_of_reads' f g (λz=>by rw[Pn d _ c] at z;cases z) i ba (λY Y e=>e) (λo u t k=>?_) l;exact⟨.s d.shown,H,I.kept k,⟨u,O⟩,q⟩
end
theorem ad4:bootBuiltins "repr"=some (.builtin "repr"):=O
def vU:Frag->TA->TE:=λK t=>jO (BV K) t
section
variable{CX:c5}{S:dm}{u:aW}{X:Cx}{e:PySem.Expr}{b:List PySem.Expr}{x:Str}{p pos:Pos}{r:RE}{d:on}
theorem Po(G:Good CX S u X)(A:PA X (e::b) (br u (r::d)))(h:autoParam (kB S x "repr"=true) cm)(a:autoParam (iy (e::b)=true) cm):PE X (.Call (.Name x p) (e::b) [] pos) (af u<|.x vU (r::d)):=by
 simp only[kB,ZW,GM] at h;obtain⟨⟨rfl,f⟩,c⟩:=h;exact ES (ad2 G.n G.units) (G.gl f) (G.iU _ c) ad4 A ap (O) (eE (eP a).1)<|mz _ _ b (eP a).2
end
end
section
open PyProof.Rows
section
variable{X:Cx}
theorem ad5{body:wS}{y:Ch}{Gp:wS}(qy:X.stack=X.env::X.r)(yk:X.env.frame=some X.env.locals)(F':X.ex=[])(FN:Gl X x)(hd:(x==("__debug__":Str))=false)(sP:X.g x=some (.ref C))(hb:∀(pn:cr)(xe:ce)(E:XK),PassesOwn (model X.prog X.w) X.A X.env xe->X0 (g_ X.prog X.w) (X.alt X.A X.calm pn xe) E->e7 (X.alt X.A X.calm pn xe) body (tb E))(hh:∀(d:z4)(pn:cr),e7 (X.alt (X.A.mark<|some<|.ref d) false pn λl l=>False) (y::Gp)<|th d):
  PS X (.Try body [.ExceptHandler (some<|.Name x np) none (y::Gp) BW] [] [] c') (Bv X.K C X.N.length X.N.length tb th):=by
 intro G s J H D Z h;refine wpAny_Try_except ?_;have P1:X0 (g_ X.prog X.w) (X.alt X.A X.calm (X.n++G) λe R'=>wpAny (model X.prog X.w) X.A (noteFrame e X.env) (λl U'=>wpAny (model X.prog X.w) X.A (setFlight e none) (λl W'=>wpAny (model X.prog X.w) X.A (handleBy e X.env [.ExceptHandler (some<|.Name x np) none (y::Gp) BW]) (SP X G D) X.a W') X.a U') X.a R') (Na X.K C X.N.length X.N.length th D):=by
  intro m V I s1 e' j I1 hx;obtain⟨d,i,t,B1,B,zq⟩:=YE hx;obtain⟨rfl,os,P,u0,aE,fl,yj,lA,c1,c2,hm,l'⟩:=apK zq;have C':X.A.frames=some (X.env::X.r):=by rw[Z.ok.frames,qy]
  have r':=qy▸fl;refine Id (yi Nz yj<|wpAny_looks_onW (Q:=λl jm=>∃u,jm={j with heap:=u}/\Heap.HeldW B1 (X.env::X.r) d i (.ref t) X.env.locals u/\j.heap.UpToSlots u) (E:=λl l=>False) C' yk r' λh4 Gq Gr=>qH h4 O Gq Gr)
   (λl s4 hq=>?_) (λl l z=>z.1.elim)
  obtain⟨⟨h4,rfl,Gq,Gr⟩,k'⟩:=hq;refine Id (yi FF k'<|wpAny_landsW (Q:=λl jm=>∃u,jm={j with heap:=u}/\Heap.FlyingW B1 (X.env::X.r) d i (.ref t) u/\h4.UpToSlots u) (E:=λl l=>False) Gq λM T Gu=>qH M O T Gu)
   (λl s5 hq=>?_) (λl l z=>z.1.elim)
  obtain⟨⟨M,rfl,z',Gu⟩,j'⟩:=hq;have T:Heap.FlyingW B1 X.stack d i (.ref t) M:=by rw[qy];exact z'
  obtain⟨u5,Pp,w',u'⟩:=Yq (NC u0 aE fl.2.2.1 c1 c2 T.1 (Gr.trans Gu));obtain⟨oe,ws,zq⟩:=ZL T.first;obtain⟨m',y',J',H'⟩:=Yq zq
  have I5:=I1.Ey (s':={j with heap:=M}) (ch:=[]) os u5 Pp P (λb z=>absurd z Zb);refine wpAny_handleBy_cons (codeAny_handlers_test ?_) (by intro q;cases q);have xF:d4 (X.alt (X.A.mark<|some<|.ref d) false (X.n++G) λl l=>False) [] V B {j with heap:=M}:=I5.alt (pins':=[]) O (λz=>nomatch z) (λp k=>R8.mpr<|.inl (by rw[Yh] at k;exact k));refine AJ xF FN sP ?_ hd;have LT:PySem.W.Looks (model X.prog X.w) M (typeOf<|.ref d) i:=by
   subst y';exact(PySem.W.Looks.ld m').andThen .now
  refine(PySem.W.exm_one I5.dU LT hm).here ?_;refine codeAny_handlers_suite ?_;refine Id (yi FF j'<|lands_againW (Q:=λl jm=>∃u,jm={j with heap:=u}/\Heap.FlyingW B1 X.stack d i (.ref t) u/\M.UpToSlots u) (E:=λl l=>False) T λY S Gv=>qH Y O S Gv)
   (λl s6 hq=>?_) (λl l z=>z.1.elim)
  obtain⟨⟨Y,rfl,S,Gv⟩,i'⟩:=hq;obtain⟨R,f',G',t'⟩:=Yq (NC u5 Pp T.2.2.1 w' u' S.1 Gv);obtain⟨vX,Pq,zq⟩:=ZL S.first;obtain⟨BX,x',Gw,l⟩:=Yq zq
  have n':Bt vX i Pq:=by
   obtain⟨o',vY,q1,q2,q3,q4⟩:=i';have oh:=q1;rw[BX] at oh;cases oh;rw[Gw] at q2;cases q2;exact⟨x',Gw,q3,q4⟩
  have g':s1.heap.get? d=none:=by
   cases q:s1.heap.get? d with
   |none=>rfl
   |some o1=>
    by_cases Pr:d∈bL X.stack;obtain⟨o2,gK,p'⟩:=(S.2.2.1.mem Pr).2;rw[BX] at gK;cases gK;exact(p' _ Gw).elim;have:=t' d o1 q Pr vX BX;rw[S.2.1] at this;cases this
  have u7:Un (bL X.stack) [] I (fy B d (.c vX sX)) s1.heap Y:=⟨R.keep,R.slot,λb o q n hx=>by
    rw[aw (λz=>by lia)];exact R.free b o q n hx,R.there,λb U q=>by
    have L:=R.dS b U q;rw[aw<|aH L lA];exact L,λb o v q=>by
    have L:=R.iM b o v q;rw[aw<|aH L lA];exact L,λb ps q=>by
    obtain⟨b',L⟩:=R.jj b ps q;exact qX b' (by rw[aw (aH L lA)];exact L)⟩
  have d':=f'.more lA (ab4 BX);have I7:=I1.Ey (s':={j with heap:=Y}) (ch:=[]) os u7 d' P (λb z=>absurd z Zb);have I8:d4 (X.alt (X.A.mark<|some<|.ref d) false (X.n++G) λl l=>False) [] V (fy B d<|.c vX sX) {j with heap:=Y}:=I7.alt (pins':=[]) O (λz=>nomatch z) (λp k=>R8.mpr<|.inl (by rw[Yh] at k;exact k));refine Id (hh d (X.n++G) [] _ _ _ {nx:=λl l=>False,r:=D.r} I8 (by have z:=l' d vX Pq V lA I1.len n';rw[List.set_eq_of_length_le (show V.length<=X.N.length from Y8 I1.len)] at z;exact z)) (λf qW F=>?_) λl l z=>z.elim;cases f with
  |next=>obtain⟨l,l,l,z⟩:=F;cases z
  |brk=>obtain⟨l,l,l,z⟩:=F;cases z
  |cont=>obtain⟨l,l,l,z⟩:=F;cases z
  |ret v=>
   obtain⟨v',a',jv,zq⟩:=ZG F;obtain⟨E',r,q⟩:=Yo zq;have D':=E'.FP Z.ok (λp k=>by simpa using k);exact t_ v' _ jv D' ⟨r,q⟩
 refine Id (hb _ _ _ PassesOwn.looking P1 [] s J H {nx:=D.nx,r:=D.r} (Z.alt O Z.ok.hd (λp k=>by simpa using k)) h) (λf s1 F=>?_) λe' j hx=>hx;cases f with
 |next=>
  obtain⟨V,B,I',q⟩:=F;exact Lm G s1 V B D (I'.FP Z.ok (λp k=>by simpa using k)) q
 |brk=>obtain⟨l,l,l,z⟩:=F;cases z
 |cont=>obtain⟨l,l,l,z⟩:=F;cases z
 |ret v=>
  obtain⟨v',V,B,zq⟩:=ZG F;obtain⟨I',r,q⟩:=Yo zq;exact t_ v' V B (I'.FP Z.ok (λp k=>by simpa using k)) ⟨r,q⟩
variable{b:c5}{S:dm}{u:aW}{e:Expr}{es:le}{x:Str}{p q pos:Pos}{r:RE}{rs:on}{i j:Nat}
theorem aen{B:Pos}{body f:wS}{a:Ch}{y:ga}(G:eF b S u X)(h:kG S j x=true)(i:decide (S.N.length=n)=true)(A:∀{u:aW}{X:Cx},eF b (tS S) u X->e7 X body (az u d))(o:∀{u:aW}{X:Cx},eF b (hS S) u X->e7 X (a::f) (az u y)):
  PS X (.Try body [.ExceptHandler (some<|.Name x m) none (a::f) B] [] [] pos) (cz u<|.Fv n n j d y):=by
 simp only[kG,ZW,GM,ZI] at h i;obtain⟨L,w,g⟩:=G.eO j x h.1.1;intro F s J H D I q;obtain⟨C,e,q⟩:=(show ∃C,u.gv j=.r C/\Bv u.K C n n (λE=>az {u with E:=E} d) (λc=>az {u with E:=E0,h:=some c} y) D J H from q);rw[e] at g;subst g;have z:=G.N▸i;have l:Bv X.K C X.N.length X.N.length (λE=>az {u with E:=E} d) (λc=>az {u with E:=E0,h:=some c} y) D J H:=by rw[G.K,z];exact q
 exact ad5 G.mf G.js G.vN (G.gl h.1.2) h.2 w
  (λp k E v t=>A<|G.adq p k E v t) (λc p=>o<|G.held c p) F s J H D I l
end
end
open PySem PySem.Spec PyProof.Rows
def Gx(K:Frag):bi->Hp->VK->Prop:=λU H Q=>∃p a,U=[.r p]/\H p=some (.d a)/\∀l,H l=none->Q (.r l) (fy H l<|.d a)
section
variable{X:Cx}
theorem aep:d0 X (.type "dict") (Gx X.K):=by
 intro B s J H U l Q I r h;obtain⟨p,a,rfl,f,q⟩:=h;obtain⟨t,rfl,u⟩:=XW r;cases u;obtain⟨z,g,W,k,j⟩:=Bf I.aE f;have v:=k.length;refine kt_call_dict g j ba λi m c=>?_;have n:cY X.prog X.w (fy H s.heap.objs.size<|.d a) i s.heap.objs.size (.d a):=⟨z,(MA (P:=X.prog) (w:=X.w) (H:=H) s.heap I.big).2.1,W,k,m⟩;exact⟨.r s.heap.objs.size,_,I.laid (λb o e=>(c.2 b<|XS<|Gc e).trans<|GT _ e) (Yw _) n,O,q _<|I.aE.fresh<|Yw _⟩
end
theorem aeq:bootBuiltins "dict"=some (.type "dict"):=O
def Gy:Frag->TA->TE:=λK t=>jO (Gx K) t
section
variable{CX:c5}{S:dm}{u:aW}{X:Cx}{e:Expr}{b:le}{x:Str}{p pos:Pos}{r:RE}{d:on}
theorem aer(G:Good CX S u X)(A:PA X (e::b) (br u (r::d)))(h:autoParam (kB S x "dict"=true) cm)(n:autoParam (iy (e::b)=true) cm)(q:autoParam (S.m=0) bd):PE X (.Call (.Name x p) (e::b) [] pos) (af u<|.x Gy (r::d)):=by
 simp only[kB,ZW,GM] at h;obtain⟨⟨rfl,c⟩,a⟩:=h;exact L7 aep (G.gl c) (G.iU _ a) aeq A ap (O) (eE (eP n).1)<|mz _ _ b (eP n).2
end
section
open PyProof.Rows PySem.W
def Pw(a:z4):bi->Hp->VK->Prop
 |[y]=>λH Q=>∃h k v,H a=some (.d h)/\y=kV k/\cv h k=some v/\Q v (fy H a<|.d<|gO h k)
 |_=>λ_ _=>False
def BY:Frag->TE->TA->TE:=λ_ t b J H Q=>t J H λx I=>∃a,x=.r a/\Bh I a/\b J I λY Z=>Pw a Y Z Q
section
variable{CX:c5}{S:dm}{u:aW}{X:Cx}{e o:PySem.Expr}{x:Str}{f b:Pos}{r g:RE}
theorem aes(G:Good CX S u X)(M:PE X o (af u g))(N:PE X e (af u r))(h:autoParam (kM o "pop" x 1 f b=true) cm)(n:autoParam (iy [e]=true) cm):PE X (.Call (.Attribute o x f) [e] [] b) (af u<|.xm BY g [r]):=by
 simp only[kM,ZW,GM] at h;obtain⟨⟨⟨rfl,R⟩,P⟩,h4⟩:=h;intro B s J H Q I0 q;have c:((backTo b<|starEach [e] X.env).all (λx=> !x.1) && (backToKw b<|keywordEach [] X.env).all (λx=>x.1.isSome) && decide (([e]:List PySem.Expr).length+([]:List Keyword).length+(if ([]:List Keyword).isEmpty then 0 else 1) <30))=true:=by rw[BG _ _ [e] n];rfl
 have t:backTo b (starEach [e] X.env)=[(false,eval e X.env)]:=by rw[eE (eP n).1];rfl
 refine wpAny_Call_method (qF R) c P PySem.F.plainAttrs_dict PySem.F.slot_dict_pop PySem.F.type_dict_pop<|aI (M B s J H _ I0 q) λm A w=>?_;obtain⟨x,I,i,D,a,U,d,K⟩:=w;subst U;cases (show m=.ref a from D);obtain⟨z,p,_⟩:=aat i d;refine⟨z,p,?_⟩;rw[t];refine Uf O<|UF<|Calls.spliced_cons<|aI (N B A J I _ i K) λiv s2 j=>Calls.spliced_nil ?_;obtain⟨y,Z,Y,C,ah,k,v,V,T,l,E⟩:=j;subst T;exact aal Y V C l (.inl O) λw' s3 W L=>⟨v,_,W,L,E⟩
end
end
section
open PyProof.Rows
noncomputable def bj(i:Nat):Ch:=(PySem.Challenge.pw_inkloom_k36_a_hand_by_plain_rows.main.body).getD i (.Pass ⟨0,0,0,0⟩)
structure iW(K:Frag)(C:z4):Prop where
 c:gj K C
 q:fZ K C "signs"
 o:fZ K C "known"
 vZ:fZ K C "serial"
 j:fZ K C "flying"
 l:fZ K C "delayed"
 t:fZ K C "early"
structure jx(K:Frag)(C:z4):Prop where
 c:gj K C
 yA:fZ K C "number"
 m:fZ K C "stand_now"
def Px:Ch:=bj 9
abbrev cJ(s:Ch)(k:Nat):Ch:=(gM s).getD k (.Pass ⟨0,0,0,0⟩)
abbrev cK(b:ga)(k:Nat):RS:=b.getD k (.r<|.c .a)
abbrev MX(N:bn)(s:Ch)(f g l m k e h:bn)(b:ga)(d:Nat):Prop:= ∀{C:c5}{u:aW}{X:Cx},eF C (BP N (g6 s) f g l m k e h d) u X->e7 X (gM s) (az u b)
abbrev MY(N:bn)(s:Ch)(f g l m n e h:bn)(b:ga)(d k:Nat):Prop:= ∀{C:c5}{u:aW}{X:Cx},eF C (BP N (g6 s) f g l m n e h d) u X->PS X (cJ s k) (cz u<|cK b k)
theorem zΑ{P:Prop}(H:P:=by intro G;have g:=G.toGood;repeat' first|refine N8 [(_,_),(_,_)] G ?_ ?_|refine N8 [(_,_),(_,_),(_,_)] G ?_ ?_|refine F3 [(_,_),(_,_)] G ?_|refine F3 [(_,_),(_,_),(_,_)] G ?_|refine ac7 g ?_ ?_ λY g=>?_|refine BJ λY g=>?_|apply PW.pt):P:=H
def zΒ(w:String):Lean.Syntax:=if w="?" then .node .none `Lean.Parser.Term.syntheticHole #[.atom .none w,.atom .none "_"] else .ident .none w.toRawSubstring (.mkSimple w) []
def zΓ(s:List Lean.Syntax):Lean.Syntax:=if s.length=1 then s.head! else .node .none `Lean.Parser.Term.app #[s.head!,.node .none `null s.tail.toArray]
def zΔ(f:Lean.Syntax->Lean.Syntax):List Nat->Lean.Syntax->Lean.Syntax
 |[],s=>f s
 |i::r,s=>s.modifyArg i (zΔ f r)
def zΕ:=zΔ (λa=>.node .none `null<|(("bH g|bJ ? ?|!bR|cO|jU|df|iV|tD g ? ?|tF g ? ?|!ko g|hU G ?|!BM|lE g ?|!nZ|lH g ?|ac0 g ?|N7 ?|yr g ? ?|!tE|!yt|acZ g ? ?|acS|!BK|QB G ? ?|ac1 g ?|vP|!FZ|FX g ?|!vQ|!Ip G|FV g ? ?|!N3 g|!N4 g|adp G ?|!N1|adn G ? ?|NY g ? ?|!L6|!F0 g|!NW|!FU|!acV|!BI g|adb g ?|!ac9|!ac8|U6 g ?|!Ij G|NX g ?|T_|!acX g|d_g g|adj ? ? ?|ac4 g ? ?|!adU|ade g ? ?|!F1 g|NZ|Po g ?|!t_v g|ZP g ? ? ?|!ada g|ads|FW|aer g ?|ac5 g ? ?|aes g ? ?|adf g ? ?|!NV|!NU".splitOn "|").toArray.map λs=>let b:=s.splitOn "!";zΔ (λ_=>zΓ<|(b.getLast!.splitOn " ").map zΒ) [1,0,0,0,1] (a.getArg<|if b.length=2 then 6 else 0))++a.getArgs) [0,0,4,1,0,0,0,1] zΑ._auto_1
theorem aZ{P:Prop}(H:autoParam P zΕ):P:=H
theorem aeu:MX kq Px ae ae Od ae ae ae ae Oc 0:=aZ
def Py:Ch:=bj 10
theorem aev:MX OV Py adL ae ae ae ae ae ae OW 0:=aZ
def Pz:Ch:=bj 11
theorem aew:MX Ge Pz ae ae Oe ae ae ae ae Gf 0:=aZ
def PB:Ch:=bj 12
theorem aex:MX kq PB ae adu Oe ae ae ae ae Gg 0:=aZ
def PD:Ch:=bj 13
theorem aey:MX kq PD adv ae ae ae ae adw ae Of 0:=aZ
def PF:Ch:=bj 15
theorem aez:MX kq PF adx ae Og ae ae ae ae BR 0:=aZ
def PH:Ch:=bj 16
theorem aeA:MX Oh PH ae ae ae ae ae ae ae Oi 0:=aZ
def PJ:Ch:=bj 17
theorem aeB:MX Oj PJ ady ae RR ae ae Om ae Ol 0:=aZ
noncomputable def PK:ga:=
 [.Fv 1 1 0 [.d (.l 0 [.v 0])] [.r (.c (.b false))],
 .r (.c (.b true))]
def aeC:bn:=["need_change"]
def PL:Ch:=bj 18
theorem aeD:MX kq PL aeC Om ae ae ae ae ae PK 0:=λG=>have g:=G.toGood;(bR (aen G (O) (O) (λG=>(λg=>(bR (N7<|lE g<|bJ (bH g) cO) jU)) G.toGood)<|λG=>(λg=>(bR (nZ vP) jU)) G.toGood)<|bR (nZ vP) jU)
def PM:Ch:=bj 19
theorem aeE:MX Oo PM ae ae vR ae ae ae ae Oq 0:=aZ
def PN:Ch:=bj 20
theorem aeF:MX Ot PN adA ae adB ae ae ae ae Ou 0:=aZ
def PQ:Ch:=Ys (bj 21) 0
theorem aeG:MX OY PQ ae ae vS ae ae ae ae OZ 0:=aZ
def PR:Ch:=Ys (bj 21) 1
theorem aeH:MX lI PR ae ae vR ae ae ae ae O0 0:=aZ
def PU:Ch:=Ys (bj 21) 2
theorem aeI:MX lI PU O2 ae ae ae ae ae ae O1 0:=aZ
def PV:Ch:=Ys (bj 21) 3
theorem aeJ:MX O3 PV ae ae ae adM ae ae ae Gj 0:=aZ
def PX:Ch:=bj 22
theorem FQ:MX Ov PX ae ae vR ae ae ae ae Ow 0:=aZ
def PY:Ch:=bj 23
theorem aeL:MX Ox PY ae ae ae ae ae ae ae Oy 0:=aZ
def PZ:Ch:=bj 24
theorem aeM:MX Oz PZ adC ae ae ae ae ae ae OA 0:=aZ
def P0:Ch:=bj 25
theorem aeN:MX OB P0 adD ae vR ae ae yv ae OD 0:=aZ
def P4:Ch:=bj 27
theorem aeO:MX Pb P4 ae ae ae ae ae yv ae Pc 0:=aZ
def P5:Ch:=bj 28
theorem aeP:MX Pd P5 FT ae O_ Pf ae ae ae Pe 0:=aZ
def P6:Ch:=bj 29
theorem aeQ:MX Pg P6 E5 ae ae Pf Pa yv ae Ph 0:=aZ
def P7:Ch:=bj 31
theorem aeR:MX O4 P7 O2 ae ae adN ae ae ae O5 0:=aZ
def P8:Ch:=bj 32
theorem aeS:MX O6 P8 ae ae ae ae ae yv ae O7 0:=aZ
def P9:Ch:=bj 33
theorem aeT:MX O8 P9 adO ae O_ adP Pa yv ae O9 0:=aZ
def P_:bn:=["self","text"]
noncomputable def Qa:ga:=
 [.c (.v 0) "signs" (.v 1),
 .c (.v 0) "known" (.c<|.i 0),
 .c (.v 0) "serial" (.c<|.i 0),
 .c (.v 0) "flying" (.c .a),
 .c (.v 0) "delayed" (.c .a),
 .c (.v 0) "early" .vB]
def Qc:Ch:=Ys (bj 36) 0
theorem aeU:MX P_ Qc ae ae ae ae ae ae ae Qa 0:=aZ
def Qd:bn:=["stand","other"]
noncomputable def Qe:ga:=
 [.a 1 (.m 0 [(.f (.v 0) "signs")]),
 .c (.v 1) "known" (.f (.v 0) "known"),
 .c (.v 1) "serial" (.f (.v 0) "serial"),
 .c (.v 1) "flying" (.f (.v 0) "flying"),
 .c (.v 1) "delayed" (.f (.v 0) "delayed"),
 .c (.v 1) "early" (.x Gy [(.f (.v 0) "early")]),
 .r (.v 1)]
def aeV:bn:=["dict"]
def Qf:bn:=["Stand"]
def Qg:Ch:=bj 37
theorem aeW:MX Qd Qg ae ae aeV ae Qf ae ae Qe 0:=aZ
def Qh:bn:=["change"]
noncomputable def Qi:ga:=
 [.r<|.H (.p .Is (.v 0)<|.c .a) (.c .a)<|.t .t [.v 0]]
def Qj:Ch:=bj 38
theorem aeX:MX Qh Qj ae ae vS ae ae ae ae Qi 0:=aZ
def Qk:bn:=["stand","change","pair"]
noncomputable def Ql:ga:=
 [.i (.p .IsNot (.f (.v 0) "flying") (.c .a)) [.a 2 (.l 0 [.v 1,(.f (.v 0) "flying")]),
  .a 1 (.i (.v 2)<|.c<|.i 0),
  .c (.v 0) "flying" (.i (.v 2) (.c (.i 1)))] [],
 .i (.p .IsNot (.f (.v 0) "delayed") (.c .a)) [.a 2 (.l 0 [.v 1,(.f (.v 0) "delayed")]),
  .a 1 (.i (.v 2)<|.c<|.i 0),
  .c (.v 0) "delayed" (.i (.v 2) (.c (.i 1)))] [],
 .c (.v 0) "signs" (.l 1 [(.f (.v 0) "signs"),.v 1]),
 .r (.v 1)]
def aeY:bn:=["passed","done"]
def Qm:Ch:=bj 39
theorem aeZ:MX Qk Qm aeY ae ae ae ae ae ae Ql 0:=aZ
def Qn:bn:=["self","number","text"]
noncomputable def Qo:ga:=
 [.i (.n (.l 0 [.v 1,(.c (.i 0)),(.b .Sub (.g 0) (.c (.i 1)))])) [.g 0 [(.c (.s "hands are numbered from 0 to 7"))]] [],
 .d (.l 1 [.v 2]),
 .c (.v 0) "number" (.v 1),
 .c (.v 0) "stand_now" (.m 0 [.v 2])]
def ae0:bn:=["is_between","need_text"]
def Qp:bn:=["MOST_HANDS"]
def ae1:bn:=["NoHand"]
def Qq:Ch:=Ys (bj 40) 0
theorem ae2:MX Qn Qq ae0 Qp ae ae Qf ae1 ae Qo 0:=aZ
noncomputable def Qr:ga:=
 [.r<|.f (.f (.v 0) "stand_now") "signs"]
def Qs:Ch:=Ys (bj 40) 1
theorem ae3:MX lI Qs ae ae ae ae ae ae ae Qr 0:=aZ
noncomputable def Qt:ga:=
 [.r<|.f (.f (.v 0) "stand_now") "known"]
def Qu:Ch:=Ys (bj 40) 2
theorem ae4:MX lI Qu ae ae ae ae ae ae ae Qt 0:=aZ
noncomputable def Qw:ga:=
 [.r<|.l 0 [(.f (.f (.v 0) "stand_now") "flying")]]
def Qx:bn:=["copied"]
def Qy:Ch:=Ys (bj 40) 3
theorem K3:MX lI Qy Qx ae ae ae ae ae ae Qw 0:=aZ
noncomputable def Qz:ga:=
 [.r<|.l 0 [(.f (.f (.v 0) "stand_now") "delayed")]]
def QC:Ch:=Ys (bj 40) 4
theorem ae6:MX lI QC Qx ae ae ae ae ae ae Qz 0:=aZ
def QD:bn:=["self","stand"]
noncomputable def QE:ga:=
 [.r<|.T [(.c<|.s "ask"),(.f (.v 0) "number"),(.f (.v 1) "serial"),(.f (.v 1) "known"),(.t .t [(.f (.v 1) "flying")])]]
def QF:Ch:=Ys (bj 40) 5
theorem ae7:MX QD QF ae ae vS ae ae ae ae QE 0:=aZ
def BZ:bn:=["self","stand","change"]
noncomputable def QG:ga:=
 [.c (.v 1) "serial" (.b .Add (.f (.v 1) "serial") (.c (.i 1))),
 .c (.v 1) "flying" (.v 2),
 .r (.L [(.q 0 "ask" (.v 0) [.v 1])])]
def ae8:bn:=["ask"]
def QH:Ch:=Ys (bj 40) 6
theorem ae9:MX BZ QH ae ae ae ae8 ae ae ae QG 0:=aZ
noncomputable def QI:bn:=["self","change","stand","signs"]
noncomputable def QJ:ga:=
 [.a 2 (.f (.v 0) "stand_now"),
 .a 3 (.l 0 [(.f (.v 2) "signs"),.v 1]),
 .i (.p .IsNot (.f (.v 2) "delayed")<|.c .a) [.c (.v 2) "delayed"<|.l 1 [(.f (.v 2) "delayed"),.v 1]] [.i (.p .IsNot (.f (.v 2) "flying")<|.c .a) [.c (.v 2) "delayed"<|.t .t [.v 1]] []],
 .c (.v 2) "signs" (.v 3),
 .r (.H (.p .Is (.f (.v 2) "flying") (.c .a)) (.q 0 "take_off" (.v 0) [.v 2,(.t .t [.v 1])]) (.L []))]
def ae_:bn:=["done","then"]
def QK:bn:=["take_off"]
def QL:Ch:=Ys (bj 40) 7
theorem afa:MX QI QL ae_ ae vS QK ae ae ae QJ 0:=aZ
def QM:bn:=["self","letter"]
noncomputable def QN:ga:=
 [.i (.o [(.n (.R .t (.v 1))),(.p .NotEq (.t .l [.v 1]) (.c (.i 5))),(.n (.l 0 [(.i (.v 1) (.c (.i 0))),(.T [(.c (.s "took"))])]))]) [.g 0 [(.c (.s "a took letter is a tuple of five"))]] [],
 .i (.o [(.n<|.l 1 [(.i (.v 1)<|.c<|.i 1)]),(.p .NotEq (.i (.v 1)<|.c<|.i 1)<|.f (.v 0) "number")]) [.g 0 [(.c<|.s "this letter is not for this hand")]] [],
 .i (.o [(.n<|.l 1 [(.i (.v 1)<|.c<|.i 2)]),(.p .Lt (.i (.v 1)<|.c<|.i 2)<|.c<|.i 1),(.n<|.l 2 [(.i (.v 1)<|.c<|.i 3),(.c<|.i 0),(.b .Sub (.g 0)<|.c<|.i 1)])]) [.g 0 [(.c<|.s "no hand's change is taken with this number")]] [],
 .i (.n (.l 3 [(.i (.v 1) (.c (.i 4)))])) [.g 0 [(.c (.s "what was taken is a change"))]] []]
noncomputable def afb:bn:=["is_word","is_whole","is_between","is_change"]
def QO:bn:=["BadLetter"]
def QP:Ch:=Ys (bj 40) 8
theorem afc:MX QM QP afb Qp Og ae ae QO ae QN 0:=aZ
noncomputable def QR:ga:=
 [.i (.p .Is (.f (.v 1) "flying") (.c .a)) [.g 0 [(.c (.s "nothing is in flight"))]] [],
 .a 2 (.f (.v 1) "delayed"),
 .c (.v 1) "flying" (.c .a),
 .c (.v 1) "delayed" (.c .a),
 .r (.H (.p .Is (.v 2) (.c .a)) (.L []) (.q 0 "take_off" (.v 0) [.v 1,.v 2]))]
def QS:Ch:=Ys (bj 40) 9
theorem afd:MX BZ QS ae ae ae QK ae QO ae QR 0:=aZ
noncomputable def QU:bn:=["self","letter","stand","posted","told","taken"]
noncomputable def B0:ga:=
 [.d (.q 0 "need_took" (.v 0) [.v 1]),
 .a 2 (.l 0 [(.f (.v 0) "stand_now")]),
 .a 3 (.L []),
 .a 4 (.L []),
 .i (.d [(.p .Gt (.i (.v 1)<|.c<|.i 2)<|.f (.v 2) "known"),(.yd (.i (.v 1)<|.c<|.i 2)<|.f (.v 2) "early")]) [.t (.f (.v 2) "early") (.i (.v 1)<|.c<|.i 2)<|.T [(.i (.v 1)<|.c<|.i 3),(.t .t [(.i (.v 1)<|.c<|.i 4)])]] [],
 .q (.vC (.b .Add (.f (.v 2) "known") (.c (.i 1))) (.f (.v 2) "early")) [.c (.v 2) "known" (.b .Add (.f (.v 2) "known") (.c (.i 1))),
  .a 5 (.xm BY (.f (.v 2) "early") [(.f (.v 2) "known")]),
  .i (.p .Eq (.i (.v 5) (.c (.i 0))) (.f (.v 0) "number")) [.d (.a .e (.v 3) [(.q 1 "land" (.v 0) [.v 2])])] [.d (.a .a (.v 4) [(.l 1 [.v 2,(.i (.v 5) (.c (.i 1)))])])]],
 .c (.v 0) "stand_now" (.v 2),
 .r (.T [.v 3,.v 4])]
def afe:bn:=["twin_of","let_in"]
def aff:bn:=["need_took","land"]
def QV:Ch:=Ys (bj 40) 10
theorem Xc:MX QU QV afe ae vS aff ae ae ae B0 0:=aZ
def QW:bn:=["self","again"]
noncomputable def QX:ga:=
 [.a 1 (.T [(.c (.s "again")),(.f (.v 0) "number"),(.q 0 "seen" (.v 0) [])]),
 .r (.H (.p .Is (.f (.f (.v 0) "stand_now") "flying") (.c .a)) (.L [.v 1]) (.L [.v 1,(.q 1 "ask" (.v 0) [(.f (.v 0) "stand_now")])]))]
def afh:bn:=["seen","ask"]
def QY:Ch:=Ys (bj 40) 11
theorem N0:MX QW QY ae ae ae afh ae ae ae QX 0:=aZ
def QZ:Ch:=bj 42
theorem afj:MX OE QZ ae ae vR ae ae ae ae OF 0:=aZ
def zcf:bn:=["_law_found"]
def Q0:Ch:=bj 43
theorem afk:MX zcf Q0 ae ae Od ae ae ae ae Oc 0:=aZ
def Q3:Ch:=bj 44
theorem afl:MX OG Q3 ae ae ae ae ae ae ae OH 0:=aZ
def Q4:Ch:=bj 45
theorem afm:MX OI Q4 adE ae BS ae ae ae ae OJ 0:=aZ
def Q5:Ch:=bj 46
theorem afn:MX OK Q5 ae ae ae ae ae ae ae OL 0:=aZ
def Q6:Ch:=bj 47
theorem afo:MX OM Q6 adF ae adG ae ae ae ae ON 0:=aZ
def Q7:Ch:=bj 48
theorem afp:MX OO Q7 ae ae adH ae ae ae ae OP 0:=aZ
def Q8:Ch:=bj 49
theorem afq:MX OQ Q8 adI ae ae ae ae ae ae OR 0:=aZ
noncomputable def zce:bn:=["_law_text_here","_law_change_here","_law_found","_law_at","_law_word","_law_thing"]
def Q9:Ch:=bj 50
theorem afr:MX zce Q9 ae ae vR ae ae ae ae OU 0:=aZ
def Q_:Ch:=bj 51
theorem YX:MX OS Q_ adJ ae adK ae ae ae ae OT 0:=aZ
noncomputable def Ra:bn:=["_law_change_here","_law_puts","_law_signs","_law_word","_law_thing","_law_some"]
noncomputable def Rb:ga:=
 [.a 1 (.L [(.c (.s ""))]),
 .a 2 (.L []),
 .k [3,4] .l [.v 0] [.i (.p .Eq (.v 3) (.c (.s "put"))) [.s (.v 1) (.N (.c (.i 1))) (.b .Add (.i (.v 1) (.N (.c (.i 1)))) (.v 4))] [.a 5 (.H (.p .Eq (.v 3) (.c (.s "cut"))) (.t .t [.v 4]) (.b .Mult (.L [.c .a]) (.v 4))),
   .a 2 (.b .Add (.v 2)<|.v 5),
   .a 1 (.b .Add (.v 1) (.b .Mult (.L [(.c (.s ""))]) (.t .l [.v 5])))]],
 .r (.T [.v 1,.v 2])]
def aft:bn:=["list","len"]
def Rc:Ch:=bj 52
theorem afu:MX Ra Rc ae ae aft ae ae ae ae Rb 0:=aZ
noncomputable def yB:bn:=["_law_one","_law_other","_law_mine","_law_cuts","_law_puts","_law_lost","_law_parts_here","_law_k"]
noncomputable def Rf:ga:=
 [.l [2,3] (.l 0 [.v 0]),
 .l [4,5] (.l 0 [.v 1]),
 .a 6 (.L []),
 .e 7 .e [(.t .l [.v 2])] [.a 6 (.b .Add (.v 6) (.L [(.T [(.c (.s "put")),(.i (.v 2) (.v 7))]),(.T [(.c (.s "keep")),(.t .l [(.i (.v 4) (.v 7))])])])),
  .i (.d [(.p .Lt (.v 7) (.t .l [.v 3])),(.p .Is (.i (.v 5) (.v 7)) (.c .a))]) [.d (.a .a (.v 6) [(.H (.p .Is (.i (.v 3) (.v 7)) (.c .a)) (.T [(.c (.s "keep")),(.c (.i 1))]) (.T [(.c (.s "cut")),(.i (.v 3) (.v 7))]))])] []],
 .r (.l 1 [.v 6])]
def Rg:bn:=["_law_gaps","_law_neat"]
def Rh:Ch:=bj 53
theorem afv:MX yB Rh Rg ae BS ae ae ae ae Rf 0:=aZ
noncomputable def Ri:ga:=
 [.l [2,3] (.l 0 [.v 0]),
 .l [4,5] (.l 0 [.v 1]),
 .a 6 (.L []),
 .e 7 .e [(.t .l [.v 2])] [.a 6 (.b .Add (.v 6) (.L [(.T [(.c (.s "keep")),(.t .l [(.i (.v 2) (.v 7))])]),(.T [(.c (.s "put")),(.i (.v 4) (.v 7))])])),
  .i (.d [(.p .Lt (.v 7) (.t .l [.v 3])),(.p .Is (.i (.v 3) (.v 7)) (.c .a))]) [.d (.a .a (.v 6) [(.H (.p .Is (.i (.v 5) (.v 7)) (.c .a)) (.T [(.c (.s "keep")),(.c (.i 1))]) (.T [(.c (.s "cut")),(.i (.v 5) (.v 7))]))])] []],
 .r (.l 1 [.v 6])]
def Rj:Ch:=bj 54
theorem afw:MX yB Rj Rg ae BS ae ae ae ae Ri 0:=aZ
noncomputable def kr:bn:=["_law_one","_law_other","_law_given","_law_cuts","_law_size_here","_law_word","_law_thing","_law_many","_law_k","_law_found","_law_at","_law_parts_here","_law_old","_law_sign"]
noncomputable def eG:ga:=
 [.a 2 (.L []),
 .a 3 .vB,
 .a 4 (.c<|.i 0),
 .k [5,6] .l [.v 0] [.i (.p .Eq (.v 5) (.c (.s "put"))) [.a 2 (.b .Add (.v 2) (.C none [] .t [.v 6] none (.T [.c .a,.v 0])))] [.a 7 (.H (.p .Eq (.v 5) (.c (.s "keep"))) (.v 6) (.t .l [.v 6])),
   .e 8 .e [.v 7] [.i (.p .Eq (.v 5)<|.c<|.s "cut") [.t (.v 3) (.b .Add (.v 4)<|.v 8)<|.i (.v 6)<|.v 8] [.d<|.a .a (.v 2) [(.T [(.b .Add (.v 4)<|.v 8),(.c<|.s "")])]]],
   .a 4 (.b .Add (.v 4) (.v 7))]],
 .a 9 (.L []),
 .a 10 (.c<|.i 0),
 .k [5,6] .l [.v 1] [.a 7 (.H (.p .Eq (.v 5) (.c (.s "keep"))) (.v 6) (.t .l [.v 6])),
  .i (.p .Eq (.v 5)<|.c<|.s "put") [.a 9<|.b .Add (.v 9)<|.C none [] .t [.v 6] none<|.T [.c .a,.v 0]] [],
  .i (.p .Eq (.v 5)<|.c<|.s "keep") [.a 9<|.b .Add (.v 9)<|.s (.v 2) (some<|.v 10)<|some<|.b .Add (.v 10)<|.v 7] [],
  .i (.p .Eq (.v 5)<|.c<|.s "cut") [.e 8 .e [.v 7] [.i (.p .IsNot (.i (.i (.v 2)<|.b .Add (.v 10)<|.v 8)<|.c<|.i 0)<|.c .a) [.t (.v 3) (.i (.i (.v 2)<|.b .Add (.v 10)<|.v 8)<|.c<|.i 0)<|.i (.v 6)<|.v 8] []]] [],
  .a 10 (.b .Add (.v 10) (.b .Mult (.v 7) (.t .i [(.p .NotEq (.v 5) (.c (.s "put")))])))],
 .a 11 (.L []),
 .a 10 (.c<|.i 0),
 .k [12,13] .l [(.b .Add (.v 9) (.L [(.T [.v 4,(.c (.s ""))])]))] [.i (.p .Is (.v 12) (.c .a)) [.d (.a .a (.v 11) [(.T [(.c (.s "put")),.v 13])])] [.d (.a .a (.v 11) [(.T [(.c (.s "cut")),(.a .j (.c (.s "")) [(.C none [("_law_cuts",3)] .s [.v 10,.v 12] none (.B (.v 1) (.v 0)))])])]),
   .d (.a .a (.v 11) [(.T [(.c<|.s "keep"),(.t .i [(.p .Lt (.v 12)<|.v 4)])])]),
   .a 10 (.b .Add (.v 12) (.c (.i 1)))]],
 .r (.l 0 [.v 11])]
def lK:bn:=["_law_neat"]
def lL:bn:=["len","range","int"]
def eI:Ch:=bj 55
theorem afx:MY kr eI lK ae lL ae ae ae ae eG 0 0:=by
 intro C u X G;show PS X (.Assign [.Name "_law_given" _] _ _) (cz u<|.a 2 _)
 with_reducible exact(hU G<|tE cO)
theorem afy:MY kr eI lK ae lL ae ae ae ae eG 0 1:=by
 intro C u X G;show PS X (.Assign [.Name "_law_cuts" _] _ _) (cz u<|.a 3 _)
 with_reducible exact(hU G FW)
theorem afz:MY kr eI lK ae lL ae ae ae ae eG 0 2:=by
 intro C u X G;show PS X (.Assign [.Name "_law_size_here" _] _ _) (cz u<|.a 4 _)
 with_reducible exact(hU G df)
theorem afA:MY kr eI lK ae lL ae ae ae ae eG 0 3:=aZ
theorem afB:MY kr eI lK ae lL ae ae ae ae eG 0 4:=by
 intro C u X G;show PS X (.Assign [.Name "_law_found" _] _ _) (cz u<|.a 9 _)
 with_reducible exact(hU G<|tE cO)
theorem afC:MY kr eI lK ae lL ae ae ae ae eG 0 5:=by
 intro C u X G;show PS X (.Assign [.Name "_law_at" _] _ _) (cz u<|.a 10 _)
 with_reducible exact(hU G df)
theorem afD:MY kr eI lK ae lL ae ae ae ae eG 0 6:=aZ
theorem afE:MY kr eI lK ae lL ae ae ae ae eG 0 7:=by
 intro C u X G;show PS X (.Assign [.Name "_law_parts_here" _] _ _) (cz u<|.a 11 _)
 with_reducible exact(hU G<|tE cO)
theorem afF:MY kr eI lK ae lL ae ae ae ae eG 0 8:=by
 intro C u X G;show PS X (.Assign [.Name "_law_at" _] _ _) (cz u<|.a 10 _)
 with_reducible exact(hU G df)
theorem afG:MY kr eI lK ae lL ae ae ae ae eG 0 9:=aZ
theorem afH:MY kr eI lK ae lL ae ae ae ae eG 0 10:=by
 intro C u X G;have g:=G.toGood;show PS X (.Return (some _) _) (cz u<|.r _)
 with_reducible exact(nZ<|lE g<|bJ (bH g) cO)
theorem afI:MX kr eI lK ae lL ae ae ae ae eG 0:=by
 intro C u X G;have e:gM eI=[cJ eI 0,cJ eI 1,cJ eI 2,cJ eI 3,cJ eI 4,cJ eI 5,cJ eI 6,cJ eI 7,cJ eI 8,cJ eI 9,cJ eI 10]:=O;have a:eG=[cK eG 0,cK eG 1,cK eG 2,cK eG 3,cK eG 4,cK eG 5,cK eG 6,cK eG 7,cK eG 8,cK eG 9,cK eG 10]:=O;rw[e,a]
 with_reducible exact bR (afx G) (bR (afy G)<|bR (afz G)<|bR (afA G)<|bR (afB G)<|bR (afC G)<|bR (afD G)<|bR (afE G)<|bR (afF G)<|bR (afG G)<|bR (afH G)<|jU)
def Gz:bn:=["_law_found","_law_due","_law_numbers"]
noncomputable def GA:ga:=
 [.i (.o [(.n (.R .t (.v 0))),(.p .NotEq (.t .l [.v 0]) (.t .l [.v 1])),(.p .NotEq (.i (.v 0) (.c (.i 0))) (.i (.v 1) (.c (.i 0))))]) [.r (.c (.b false))] [],
 .Bw 2 (.C none [] .p [(.s (.v 1) (some<|.c<|.i 1) none)] (some<|.n<|.R .l<|.v 0)<|.v 0),
 .i (.p .NotEq (.t .t [(.s (.v 0) (some<|.c<|.i 1)<|some<|.b .Add (.c<|.i 1)<|.t .l [.v 2])])<|.v 2) [.r<|.c<|.b false] [],
 .i (.p .Gt (.t .l [(.C none [] .p [(.s (.v 0) (some<|.c<|.i 1)<|some<|.b .Add (.c<|.i 1)<|.t .l [.v 2])] (some<|.n<|.l 0 [.v 0])<|.v 0)])<|.c<|.i 0) [.r<|.c<|.b false] [],
 .r (.o [(.p .Eq (.b .Add (.t .l [.v 2]) (.c (.i 1))) (.t .l [.v 1])),(.l 1 [(.i (.v 0) (.N (.c (.i 1)))),(.i (.v 1) (.N (.c (.i 1))))])])]
def afJ:bn:=["_law_whole","_law_same"]
noncomputable def afK:bn:=["isinstance","tuple","len","list"]
def Rk:Ch:=bj 56
theorem afL:MX Gz Rk afJ ae afK ae ae ae ae GA 0:=λG=>have g:=G.toGood;(bR (BM (PW.pt<|FZ (BK<|F0 g<|FX g<|bH g)<|FZ (tF g (lH g<|bJ (bH g) cO)<|lH g<|bJ (bH g) cO)<|N1<|tF g (tD g (bH g) df)<|tD g (bH g) df) (bR (nZ vP) jU) jU)<|bR (adi (ln:=["_law_part"]) G (O) (rfl) (rfl) (F1 g<|BI g (bH g) (vQ df) NZ) (BJ λY g=>(BK<|F0 g<|FX g<|bH g))<|λY g=>(bH g))<|bR (BM (tF g (lH g<|bJ (BI g (bH g) (vQ df)<|vQ<|ko g df<|lH g<|bJ (bH g) cO) cO)<|bH g) (bR (nZ vP) jU) jU)<|bR (BM (tF g (lH g<|bJ (FY (ln:=["_law_part"]) g (rfl) (F1 g<|BI g (bH g) (vQ df)<|vQ<|ko g df<|lH g<|bJ (bH g) cO) (BJ λY g=>(BK<|N3 g<|lE g<|bJ (bH g) cO))<|λY g=>(bH g)) cO) df) (bR (nZ vP) jU) jU)<|bR (nZ<|NV (FV g (ko g (lH g<|bJ (bH g) cO) df)<|lH g<|bJ (bH g) cO)<|NU<|lE g<|bJ (tD g (bH g)<|FU df)<|bJ (tD g (bH g)<|FU df) cO) jU)
def B7:bn:=["_law_found","_law_due"]
noncomputable def Rl:ga:=
 [.i (.o [(.n (.R .l (.v 0))),(.p .NotEq (.t .l [.v 0]) (.t .l [.v 1]))]) [.r (.c (.b false))] [],
 .r (.p .Eq (.t .l [(.C none [("_law_found",0),("_law_due",1)] .e [(.t .l [.v 1])] (some (.n (.l 0 [(.i (.v 1) (.v 0)),(.i (.v 2) (.v 0))]))) (.v 0))]) (.c (.i 0)))]
def afM:bn:=["_law_letter_same"]
noncomputable def afN:bn:=["isinstance","list","len","range"]
def Rm:Ch:=bj 57
theorem afO:MX B7 Rm afM ae afN ae ae ae ae Rl 0:=aZ
def Rn:bn:=["_law_rows"]
noncomputable def Ro:ga:=
 [.r<|.T [(.c<|.s "ask"),(.B (.v 0)<|.c<|.s "own"),(.B (.v 0)<|.c<|.s "serial"),(.B (.v 0)<|.c<|.s "seen"),(.B (.v 0)<|.c<|.s "flight")]]
def Rp:Ch:=bj 58
theorem afP:MX Rn Rp ae ae ae ae ae ae ae Ro 0:=aZ
noncomputable def Rq:ga:=
 [.i (.p .Is (.v 1) (.c .a)) [.r (.p .Is (.v 0) (.c .a))] [],
 .r (.l 0 [.v 0,.v 1])]
def afQ:bn:=["_law_same"]
def Rr:Ch:=bj 59
theorem Zp:MX B7 Rr afQ ae ae ae ae ae ae Rq 0:=aZ
def GB:bn:=["_law_hand","_law_rows","_law_turn"]
noncomputable def Rt:ga:=
 [.i (.p .Eq (.v 2) (.c (.i 0))) [.r (.p .Eq (.q 0 "text" (.v 0) []) (.B (.v 1) (.c (.s "text"))))] [],
 .i (.p .Eq (.v 2)<|.c<|.i 1) [.r<|.d [(.l 0 [(.q 1 "seen" (.v 0) [])]),(.p .Eq (.q 1 "seen" (.v 0) [])<|.B (.v 1)<|.c<|.s "seen")]] [],
 .i (.p .Eq (.v 2)<|.c<|.i 2) [.r<|.l 1 [(.q 2 "flight" (.v 0) []),(.B (.v 1)<|.c<|.s "flight")]] [],
 .i (.p .Eq (.v 2)<|.c<|.i 3) [.r<|.l 1 [(.q 3 "waiting" (.v 0) []),(.B (.v 1)<|.c<|.s "waiting")]] [],
 .r (.l 2 [.v 0,.v 1])]
def afS:bn:=["_law_whole","_law_none_or","_law_nudged"]
def afT:bn:=["text","seen","flight","waiting"]
def Ru:Ch:=bj 60
theorem afU:MX GB Ru afS ae ae afT ae ae ae Rt 0:=aZ
noncomputable def Rv:bn:=["_law_hand","_law_rows","_law_cell","_law_k"]
noncomputable def Rw:ga:=
 [.e 3 .e [(.c (.i 5))] [.i (.n (.l 0 [.v 0,.v 1,(.b .Mod (.b .Add (.b .FloorDiv (.v 2) (.c (.i 5))) (.b .Mult (.v 3) (.b .Add (.c (.i 1)) (.b .Mod (.v 2) (.c (.i 4)))))) (.c (.i 5)))])) [.r (.c (.b false))] []],
 .r (.c (.b true))]
def afV:bn:=["_law_asked"]
def IX:bn:=["range"]
def Rx:Ch:=bj 61
theorem afX:MX Rv Rx afV ae IX ae ae ae ae Rw 0:=aZ
noncomputable def Ry:bn:=["_law_hand","_law_rows","_law_due","_law_told","_law_found"]
noncomputable def GC:ga:=
 [.a 2 (.L [(.T [(.c (.s "again")),(.B (.v 1) (.c (.s "own"))),(.B (.v 1) (.c (.s "seen")))])]),
 .i (.p .IsNot (.B (.v 1)<|.c<|.s "flight")<|.c .a) [.d<|.a .a (.v 2) [(.l 0 [.v 1])]] [],
 .a 3 (.L [(.q 0 "nudge" (.v 0) []),(.q 1 "flight" (.v 0) []),(.q 2 "waiting" (.v 0) [])]),
 .d (.a .a (.B (.v 1)<|.c<|.s "held") [(.T [.v 3,(.x vU [.v 3])])]),
 .a 4 (.q 0 "nudge" (.v 0) []),
 .i (.n<|.l 1 [.v 4,.v 2]) [.r<|.c<|.b false] [],
 .e 3 .l [(.L [(.q 1 "flight" (.v 0) []),(.q 2 "waiting" (.v 0) []),(.i (.i (.v 4)<|.N<|.c<|.i 1)<|.N<|.c<|.i 1)])] [.i (.R .l<|.v 3) [.d<|.a .c (.v 3) []] []],
 .r (.l 1 [(.q 0 "nudge" (.v 0) []),.v 2])]
def afY:bn:=["_law_ask","_law_letters_same"]
def afZ:bn:=["repr","isinstance","list"]
def af0:bn:=["nudge","flight","waiting"]
def Rz:Ch:=bj 62
theorem af1:MX Ry Rz afY ae afZ af0 ae ae ae GC 0:=aZ
def RA:bn:=["_law_rows","_law_found","_law_cell"]
noncomputable def RB:ga:=
 [.i (.p .Eq (.b .Mod (.v 2) (.c (.i 2))) (.c (.i 0))) [.d (.a .a (.B (.v 0) (.c (.s "held"))) [(.T [.v 1,(.x vU [.v 1])])])] [.d (.a .c (.v 1) [])],
 .r (.c (.b true))]
def mE:bn:=["repr"]
def RC:Ch:=bj 63
theorem af2:MX RA RC ae ae mE ae ae ae ae RB 0:=aZ
noncomputable def RD:bn:=["_law_hand","_law_rows","_law_cell","_law_change_here","_law_due","_law_handed","_law_found"]
noncomputable def RF:ga:=
 [.a 3 (.l 0 [(.b .FloorDiv (.v 2) (.c (.i 9))),(.B (.v 1) (.c (.s "text"))),(.b .Mod (.v 2) (.c (.i 9)))]),
 .a 4 (.L []),
 .i (.p .Is (.B (.v 1) (.c (.s "flight"))) (.c .a)) [.t (.v 1) (.c (.s "flight")) (.v 3),
  .t (.v 1) (.c<|.s "serial") (.b .Add (.B (.v 1)<|.c<|.s "serial")<|.c<|.i 1),
  .d (.a .a (.v 4) [(.l 1 [.v 1])])] [.i (.p .Is (.B (.v 1) (.c (.s "waiting"))) (.c .a)) [.t (.v 1) (.c (.s "waiting")) (.v 3)] [.t (.v 1) (.c (.s "waiting")) (.l 2 [(.B (.v 1) (.c (.s "waiting"))),.v 3])]],
 .t (.v 1) (.c<|.s "text") (.l 3 [(.B (.v 1)<|.c<|.s "text"),.v 3]),
 .a 5 (.t .t [.v 3]),
 .a 6 (.q 0 "do" (.v 0) [.v 5]),
 .i (.o [(.p .NotEq (.v 5)<|.v 3),(.n<|.l 4 [.v 6,.v 4])]) [.r<|.c<|.b false] [],
 .d (.a .c (.v 5) []),
 .r (.l 5 [.v 1,.v 6,.v 2])]
noncomputable def af3:bn:=["_law_change","_law_ask","_law_then","_law_done","_law_letters_same","_law_kept"]
def af4:bn:=["do"]
def RG:Ch:=bj 64
theorem af5:MX RD RG af3 ae vS af4 ae ae ae RF 0:=aZ
noncomputable def RH:bn:=["_law_rows","_law_cell","_law_asked_here","_law_who","_law_change_here","_law_number"]
noncomputable def GD:ga:=
 [.a 2 (.d [(.p .IsNot (.B (.v 0) (.c (.s "flight"))) (.c .a)),(.p .Gt (.B (.v 0) (.c (.s "serial"))) (.B (.v 0) (.c (.s "took")))),(.p .Eq (.b .Mod (.v 1) (.c (.i 2))) (.c (.i 0)))]),
 .a 3 (.B (.v 0)<|.c<|.s "own"),
 .i (.v 2) [.a 4 (.B (.v 0) (.c (.s "flight"))),
  .e 5 .s [(.B (.v 0)<|.c<|.s "seen"),(.t .l [(.B (.v 0)<|.c<|.s "post")])] [.a 4<|.l 0 [(.i (.i (.B (.v 0)<|.c<|.s "post")<|.v 5)<|.c<|.i 4),.v 4]],
  .t (.v 0) (.c (.s "took")) (.B (.v 0) (.c (.s "serial")))] [.a 3 (.b .Mod (.b .Add (.b .Add (.v 3) (.c (.i 1))) (.b .Mod (.b .FloorDiv (.v 1) (.c (.i 2))) (.c (.i 7)))) (.c (.i 8))),
  .a 4 (.l 1 [(.b .FloorDiv (.v 1) (.c (.i 14))),(.B (.v 0) (.c (.s "server"))),(.b .Mod (.b .FloorDiv (.v 1) (.c (.i 14))) (.c (.i 9)))])],
 .t (.v 0) (.c<|.s "server") (.l 2 [(.B (.v 0)<|.c<|.s "server"),.v 4]),
 .d (.a .a (.B (.v 0) (.c (.s "post"))) [(.T [(.c (.s "took")),(.B (.v 0) (.c (.s "own"))),(.b .Add (.t .l [(.B (.v 0) (.c (.s "post")))]) (.c (.i 1))),.v 3,.v 4])])]
def af6:bn:=["_law_passed_on","_law_change","_law_done"]
def RJ:Ch:=bj 65
theorem af7:MX RH RJ af6 ae BS ae ae ae ae GD 0:=aZ
noncomputable def RK:bn:=["_law_rows","_law_letters","_law_changes","_law_who","_law_change_here","_law_key","_law_mine"]
noncomputable def RL:ga:=
 [.a 1 (.L []),
 .a 2 (.L []),
 .q (.vC (.b .Add (.B (.v 0) (.c (.s "seen"))) (.c (.i 1))) (.B (.v 0) (.c (.s "kept")))) [.l [3,4] (.s (.i (.B (.v 0) (.c (.s "post"))) (.B (.v 0) (.c (.s "seen")))) (some (.c (.i 3))) none),
  .t (.v 0) (.c<|.s "seen") (.b .Add (.B (.v 0)<|.c<|.s "seen")<|.c<|.i 1),
  .i (.p .Eq (.v 3) (.B (.v 0) (.c (.s "own")))) [.t (.v 0) (.c (.s "flight")) (.B (.v 0) (.c (.s "waiting"))),
   .t (.v 0) (.c<|.s "waiting") (.c .a),
   .i (.p .IsNot (.B (.v 0) (.c (.s "flight"))) (.c .a)) [.t (.v 0) (.c (.s "serial")) (.b .Add (.B (.v 0) (.c (.s "serial"))) (.c (.i 1))),
    .d (.a .a (.v 1) [(.l 0 [.v 0])])] []] [.e 5 .l [(.L [(.c (.s "flight")),(.c (.s "waiting"))])] [.i (.p .IsNot (.B (.v 0) (.v 5)) (.c .a)) [.a 6 (.B (.v 0) (.v 5)),
     .t (.v 0) (.v 5) (.l 1 [.v 4,.v 6]),
     .a 4 (.l 2 [.v 4,.v 6])] []],
   .t (.v 0) (.c<|.s "text") (.l 3 [(.B (.v 0)<|.c<|.s "text"),.v 4]),
   .d (.a .a (.v 2) [.v 4])]],
 .r (.T [.v 1,.v 2])]
noncomputable def af8:bn:=["_law_ask","_law_passed_on","_law_passed","_law_done"]
def RM:Ch:=bj 66
theorem af9:MX RK RM af8 ae ae ae ae ae ae RL 0:=aZ
noncomputable def hV:bn:=["_law_hand","_law_rows","_law_cell","_law_many","_law_number","_law_due","_law_kind","_law_own_here","_law_place","_law_who","_law_change_here","_law_handed","_law_found","_law_k","_law_forged","_law_told"]
noncomputable def cT:ga:=
 [.a 3 (.t .l [(.B (.v 1) (.c (.s "post")))]),
 .a 4 (.H (.p .Gt (.b .Mod (.v 2)<|.c<|.i 3)<|.c<|.i 0) (.t .m [.v 3,(.b .Add (.B (.v 1)<|.c<|.s "seen")<|.c<|.i 1)])<|.b .Add (.c<|.i 1)<|.b .Mod (.b .FloorDiv (.v 2)<|.c<|.i 3)<|.v 3),
 .t (.B (.v 1)<|.c<|.s "kept") (.v 4) (.c<|.b true),
 .a 5 (.l 0 [.v 1]),
 .l [6,7,8,9,10] (.i (.B (.v 1)<|.c<|.s "post")<|.b .Sub (.v 4)<|.c<|.i 1),
 .a 11 (.t .t [.v 10]),
 .a 12 (.q 0 "came" (.v 0) [(.T [.v 6,.v 7,.v 8,.v 9,.v 11])]),
 .i (.o [(.p .NotEq (.v 11)<|.v 10),(.n<|.R .t<|.v 12),(.p .NotEq (.t .l [.v 12])<|.c<|.i 2),(.n<|.R .l<|.i (.v 12)<|.c<|.i 1)]) [.r<|.c<|.b false] [],
 .i (.o [(.n<|.l 1 [(.i (.v 12)<|.c<|.i 0),(.i (.v 5)<|.c<|.i 0)]),(.p .NotEq (.t .l [(.i (.v 12)<|.c<|.i 1)])<|.t .l [(.i (.v 5)<|.c<|.i 1)])]) [.r<|.c<|.b false] [],
 .e 13 .e [(.t .l [(.i (.v 5)<|.c<|.i 1)])] [.i (.n<|.l 2 [(.i (.i (.v 12)<|.c<|.i 1)<|.v 13),(.i (.i (.v 5)<|.c<|.i 1)<|.v 13)]) [.r<|.c<|.b false] []],
 .d (.a .c (.v 11) []),
 .a 14 (.T [.v 6,.v 7,.v 8,(.b .Mod (.b .Add (.v 9)<|.c<|.i 1)<|.c<|.i 8),(.L [(.T [(.c<|.s "put"),(.c<|.s "q")]),(.T [(.c<|.s "keep"),(.c<|.i 1)])])]),
 .i (.d [(.p .Eq (.b .Mod (.b .FloorDiv (.v 2)<|.c<|.i 7)<|.c<|.i 3)<|.c<|.i 1),(.p .NotEq (.q 0 "came" (.v 0) [.v 14])<|.T [(.L []),(.L [])])]) [.r<|.c<|.b false] [],
 .i (.p .Eq (.b .Mod (.v 2)<|.c<|.i 2)<|.c<|.i 0) [.r<|.l 3 [.v 1,.v 12,.v 2]] [],
 .e 15 .l [(.i (.v 12)<|.c<|.i 1)] [.d<|.a .c (.v 15) []],
 .r (.l 3 [.v 1,(.i (.v 12) (.c (.i 0))),.v 2])]
noncomputable def iz:bn:=["_law_known","_law_letters_same","_law_same","_law_kept"]
noncomputable def iA:bn:=["len","min","list","isinstance","tuple","range"]
def iB:bn:=["came"]
def cU:Ch:=bj 67
theorem af_:MY hV cU iz ae iA iB ae ae ae cT 0 0:=by
 intro C u X G;have g:=G.toGood;show PS X (.Assign [.Name "_law_many" _] _ _) (cz u<|.a 3 _)
 with_reducible exact(hU G<|lH g<|bJ (yr g (bH g) iV) cO)
theorem aga:MY hV cU iz ae iA iB ae ae ae cT 0 1:=by
 intro C u X G;have g:=G.toGood;show PS X (.Assign [.Name "_law_number" _] _ _) (cz u<|.a 4 _)
 with_reducible exact(hU G<|NW (tF g (ko g (bH g) df) df) (lH g<|bJ (bH g)<|bJ (ko g (yr g (bH g) iV) df) cO)<|ko g df<|ko g (ko g (bH g) df)<|bH g)
theorem agb:MY hV cU iz ae iA iB ae ae ae cT 0 2:=aZ
theorem X2:MY hV cU iz ae iA iB ae ae ae cT 0 3:=by
 intro C u X G;have g:=G.toGood;show PS X (.Assign [.Name "_law_due" _] _ _) (cz u<|.a 5 _)
 with_reducible exact(hU G<|lE g<|bJ (bH g) cO)
theorem agd:MY hV cU iz ae iA iB ae ae ae cT 0 4:=λG=>have g:=G.toGood;(F3 [(_,_),(_,_),(_,_),(_,_),(_,_)] G<|tD g (yr g (bH g) iV)<|ko g (bH g) df)
theorem age:MY hV cU iz ae iA iB ae ae ae cT 0 5:=by
 intro C u X G;have g:=G.toGood;show PS X (.Assign [.Name "_law_handed" _] _ _) (cz u<|.a 11 _)
 with_reducible exact(hU G<|lH g<|bJ (bH g) cO)
theorem agf:MY hV cU iz ae iA iB ae ae ae cT 0 6:=by
 intro C u X G;have g:=G.toGood;show PS X (.Assign [.Name "_law_found" _] _ _) (cz u<|.a 12 _)
 with_reducible exact(hU G<|NY g (bH g)<|bJ (yt<|bJ (bH g)<|bJ (bH g)<|bJ (bH g)<|bJ (bH g)<|bJ (bH g) cO) cO)
theorem agg:MY hV cU iz ae iA iB ae ae ae cT 0 7:=aZ
theorem agh:MY hV cU iz ae iA iB ae ae ae cT 0 8:=aZ
theorem agi:MY hV cU iz ae iA iB ae ae ae cT 0 9:=aZ
theorem agj:MY hV cU iz ae iA iB ae ae ae cT 0 10:=aZ
theorem agk:MY hV cU iz ae iA iB ae ae ae cT 0 11:=by
 intro C u X G;have g:=G.toGood;show PS X (.Assign [.Name "_law_forged" _] _ _) (cz u<|.a 14 _)
 with_reducible exact(hU G<|yt<|bJ (bH g)<|bJ (bH g)<|bJ (bH g)<|bJ (ko g (ko g (bH g) df) df)<|bJ (tE<|bJ (yt<|bJ iV<|bJ iV cO)<|bJ (yt<|bJ iV<|bJ df cO) cO) cO)
theorem agl:MY hV cU iz ae iA iB ae ae ae cT 0 12:=aZ
theorem agm:MY hV cU iz ae iA iB ae ae ae cT 0 13:=aZ
theorem agn:MY hV cU iz ae iA iB ae ae ae cT 0 14:=aZ
theorem ago:MY hV cU iz ae iA iB ae ae ae cT 0 15:=by
 intro C u X G;have g:=G.toGood;show PS X (.Return (some _) _) (cz u<|.r _)
 with_reducible exact(nZ<|lE g<|bJ (bH g)<|bJ (tD g (bH g) df)<|bJ (bH g) cO)
theorem agp:MX hV cU iz ae iA iB ae ae ae cT 0:=by
 intro C u X G;have e:gM cU=[cJ cU 0,cJ cU 1,cJ cU 2,cJ cU 3,cJ cU 4,cJ cU 5,cJ cU 6,cJ cU 7,cJ cU 8,cJ cU 9,cJ cU 10,cJ cU 11,cJ cU 12,cJ cU 13,cJ cU 14,cJ cU 15]:=O;have a:cT=[cK cT 0,cK cT 1,cK cT 2,cK cT 3,cK cT 4,cK cT 5,cK cT 6,cK cT 7,cK cT 8,cK cT 9,cK cT 10,cK cT 11,cK cT 12,cK cT 13,cK cT 14,cK cT 15]:=O;rw[e,a]
 with_reducible exact bR (af_ G) (bR (aga G)<|bR (agb G)<|bR (X2 G)<|bR (agd G)<|bR (age G)<|bR (agf G)<|bR (agg G)<|bR (agh G)<|bR (agi G)<|bR (agj G)<|bR (agk G)<|bR (agl G)<|bR (agm G)<|bR (agn G)<|bR (ago G)<|jU)
noncomputable def mF:bn:=["_law_script","_law_text_here","_law_own_here","_law_hand","_law_rows","_law_cell","_law_good"]
noncomputable def eQ:ga:=
 [.a 1 (.l 0 [(.l 1 [.v 0,(.c (.i 1))]),(.l 2 [(.l 1 [.v 0,(.c (.i 0))])])]),
 .a 2 (.b .Mod (.l 1 [.v 0,(.c<|.i 2)])<|.c<|.i 8),
 .a 3 (.m 0 [.v 2,.v 1]),
 .a 4 (.x vT [(.c<|.s "own"),.v 2,(.c<|.s "text"),.v 1,(.c<|.s "server"),.v 1,(.c<|.s "seen"),(.c<|.i 0),(.c<|.s "serial"),(.c<|.i 0),(.c<|.s "took"),(.c<|.i 0),(.c<|.s "post"),(.L []),(.c<|.s "kept"),.vB]),
 .t (.v 4) (.c<|.s "flight") (.c .a),
 .t (.v 4) (.c<|.s "waiting") (.c .a),
 .t (.v 4) (.c<|.s "held") (.L []),
 .e 5 .l [(.s (.v 0) (some (.c (.i 3))) (some (.c (.i 17))))] [.a 6 (.c (.b true)),
  .i (.p .Lt (.b .Mod (.v 5)<|.c<|.i 5)<|.c<|.i 2) [.a 6<|.l 3 [.v 3,.v 4,(.b .FloorDiv (.v 5)<|.c<|.i 5)]] [.i (.o [(.p .Eq (.b .Mod (.v 5)<|.c<|.i 5)<|.c<|.i 2),(.p .Eq (.B (.v 4)<|.c<|.s "post")<|.L [])]) [.d<|.l 4 [.v 4,(.b .FloorDiv (.v 5)<|.c<|.i 5)]] [.a 6<|.l 5 [.v 3,.v 4,(.b .FloorDiv (.v 5)<|.c<|.i 5)]]],
  .i (.o [(.n (.v 6)),(.n (.l 6 [.v 3,.v 4,(.b .FloorDiv (.v 5) (.c (.i 3)))]))]) [.r (.c (.b false))] []],
 .r (.p .Eq (.C (some 2) [] .l [(.B (.v 4) (.c (.s "held")))] (some (.p .NotEq (.x vU [.v 0]) (.v 1))) (.v 0)) (.L []))]
noncomputable def oj:bn:=["_law_text","_law_cell_at","_law_size","_law_own","_law_taken","_law_letter","_law_stands"]
def om:bn:=["Hand"]
def gb:Ch:=bj 68
theorem agq:MY mF gb oj ae mE ae om ae ae eQ 0 0:=by
 intro C u X G;have g:=G.toGood;show PS X (.Assign [.Name "_law_text_here" _] _ _) (cz u<|.a 1 _)
 with_reducible exact(hU G<|lE g<|bJ (lE g<|bJ (bH g)<|bJ df cO)<|bJ (lE g<|bJ (lE g<|bJ (bH g)<|bJ df cO) cO) cO)
theorem agr:MY mF gb oj ae mE ae om ae ae eQ 0 1:=by
 intro C u X G;have g:=G.toGood;show PS X (.Assign [.Name "_law_own_here" _] _ _) (cz u<|.a 2 _)
 with_reducible exact(hU G<|ko g (lE g<|bJ (bH g)<|bJ df cO) df)
theorem ags:MY mF gb oj ae mE ae om ae ae eQ 0 2:=by
 intro C u X G;have g:=G.toGood;show PS X (.Assign [.Name "_law_hand" _] _ _) (cz u<|.a 3 _)
 with_reducible exact(hU G<|NX g<|bJ (bH g)<|bJ (bH g) cO)
theorem agt:MY mF gb oj ae mE ae om ae ae eQ 0 3:=by
 intro C u X G;have g:=G.toGood;show PS X (.Assign [.Name "_law_rows" _] _ _) (cz u<|.a 4 _)
 with_reducible exact(hU G<|ad1<|qU iV (bH g)<|qU iV (bH g)<|qU iV (bH g)<|qU iV df<|qU iV df<|qU iV df<|qU iV (tE cO)<|qU iV FW ad0)
theorem RW:MY mF gb oj ae mE ae om ae ae eQ 0 4:=aZ
theorem agv:MY mF gb oj ae mE ae om ae ae eQ 0 5:=aZ
theorem agw:MY mF gb oj ae mE ae om ae ae eQ 0 6:=aZ
theorem agx:MY mF gb oj ae mE ae om ae ae eQ 0 7:=aZ
theorem agy:MY mF gb oj ae mE ae om ae ae eQ 0 8:=by
 intro C u X G;have g:=G.toGood;show PS X (.Return (some _) _) (cz u<|.r _)
 with_reducible exact(nZ<|FV g (FY (ln:=["_law_told","_law_due"]) g (O) (N4 g<|yr g (bH g) iV) (BJ λY g=>(tF g (Po g<|bJ (bH g) cO)<|bH g))<|λY g=>(bH g))<|tE cO)
theorem agz:MX mF gb oj ae mE ae om ae ae eQ 0:=by
 intro C u X G;have e:gM gb=[cJ gb 0,cJ gb 1,cJ gb 2,cJ gb 3,cJ gb 4,cJ gb 5,cJ gb 6,cJ gb 7,cJ gb 8]:=O;have a:eQ=[cK eQ 0,cK eQ 1,cK eQ 2,cK eQ 3,cK eQ 4,cK eQ 5,cK eQ 6,cK eQ 7,cK eQ 8]:=O;rw[e,a]
 with_reducible exact bR (agq G) (bR (agr G)<|bR (ags G)<|bR (agt G)<|bR (RW G)<|bR (agv G)<|bR (agw G)<|bR (agx G)<|bR (agy G)<|jU)
end
def dn(H B:Hp):Prop:= ∀b U,H b=some (.t U)->B b=some (.t U)
theorem aQ(h:aA H B):dn H B:=λb U e=>h b _ e
theorem dn.trans(a:dn H I)(b:dn I Z):dn H Z:=λc U e=>b c U (a c U e)
theorem Yb{o:HO}(h:H p=none):aA H (fy H p o):=λb u e=>by rw[aw<|aH e h];exact e
theorem bC{o:HO}(h:H p=none)(z:fy H p o=B):aA H B:=z ▸ Yb h
theorem bu{o:HO}(z:fy H p o=B):B p=some o:=z ▸ av
def bp(c:z4)(H B:Hp):Prop:= ∀b o,H b=some o->b≠c->B b=some o
theorem bp.upd{o:HO}:bp c H (fy H c o):=λb u e n=>by rw[aw n];exact e
theorem bp.trans(a:bp c H I)(b:bp c I Z):bp c H Z:=λd o e n=>b d o (a d o e n) n
theorem sameBut(a:aA H I)(b:bp c I Z):bp c H Z:=λd o e n=>b d o (a d o e) n
theorem pf(a:aA H I)(h:H c=none)(b:bp c I Z):aA H Z:=λd o e=>b d o (a d o e) (aH e h)
theorem bp.dS(h:bp c H B)(a:H c=some (.l U)):dn H B:=λb Y e=>h b _ e (λz=>by lia)
theorem iF{c:Cl}{B:Prop}(q:B)(h:autoParam (c=false) cn):if c=true then A else B:=by lia
theorem iT{c:Cl}{B:Prop}(q:A)(h:autoParam (c=true) cn):if c=true then A else B:=by lia
inductive Pt where|k (n:Int)|p (s:Str)|c (s:Str)
 deriving DecidableEq
noncomputable def Pt.word:Pt->Str|.k _=> "keep" |.p _=> "put" |.c _=> "cut"
def Pt.val:Pt->V|.k n=>.i n|.p s=>.s s|.c s=>.s s
def jW(H:Hp)(v:V)(p:Pt):Prop:= ∃a,v=.r a/\H a=some (.t [.s p.word,p.val])
abbrev aC(H:Hp):bi->List Pt->Prop:=Paired (jW H)
theorem jW.mono(t:dn H B)(h:jW H v p):jW B v p:=by
 obtain⟨a,e,h⟩:=h;exact⟨a,e,t _ _ h⟩
theorem aC.mono(t:dn H B):∀{W:bi}{p:List Pt},aC H W p->aC B W p:=by
 intro Y Y h;exact Paired.bX h λY Y x=>x.mono t
theorem aC.get:∀{W:bi}{s:List Pt}{i:Nat}{v:V},aC H W s->W[i]?=some v->∃p,s[i]?=some p/\jW H v p:=by
 intro Y Y i v h;induction h generalizing i with
 |nil=>intro e;simp at e
 |cons x Y c=>
  intro e;cases i with
  |zero=>simp at e;subst e;exact⟨_,O,x⟩
  |succ i=>
   obtain⟨p,a,b⟩:=c (by simpa using e);exact⟨p,by simpa using a,b⟩
theorem aC.snoc{p:Pt}(h:aC H W s)(q:jW H v p):aC H (W++[v]) (s++[p]):=IO h q
theorem aC.dropLast:∀{W:bi}{p:List Pt},aC H W p->aC H W.dropLast p.dropLast:=by
 intro Y Y h;induction h with
 |nil=>exact .nil
 |cons x k i=>
  cases k with
  |nil=>exact .nil
  |cons Y Y=>exact .cons x i
inductive mG(W:bi)(H:Hp)(Q:VK)(E:XK):Prop|i(i:_)(_:W=[.i i])(_:Q (.b true) H)
noncomputable def qY(w a:Str):Cl:=w !=a && !(a=="cut" && w=="put")
inductive RN(W:bi)(H:Hp)(Q:VK)(E:XK):Prop|i(w a:_)(_:W=[.s w,.s a])(_:Q (.b<|qY w a) H)
abbrev aV(K:Frag)(E:XK):aW:=aJ K [] [] (E:=E)
theorem agA{K:Frag}(W:bi)(H:Hp)(Q:VK)(E:XK)(h:RN W H Q E):az (aV K E) Oi {nx:=λY B=>Q .a B,r:=Q} (Y2 Oh W) H:=by
 obtain⟨w,a,rfl,q⟩:=h;refine sY _ O _ O ⟨_,O,?_⟩;unfold qY at q;refine du (λh=>?_)<|λh=>?_;rw[KU,iN] at h;have e:(w !=a)=true:=h;rw[e] at q;refine⟨_,O,_,O,du (λc=>?_)<|λc=>?_⟩;rw[ZZ,iN] at c;rw[c] at q;refine pQ _ O ?_;show Q (.b<|!(false ^^ decide (V.s w=V.s "put"))) H;rw[ZZ,iN];exact q;have d:(a=="cut")=false:=by lia
 rw[d] at q;exact q;have e:(w !=a)=false:=by lia
 rw[e] at q;exact q
noncomputable def tM:Pt->Int|.k n=>n|.p s=>s.length|.c s=>s.length
def GF:Pt->Prop|.k _=>True|.p s=>s.length<=1000000|.c s=>s.length<=1000000
theorem cE(h:n<=1000000):n<=sizeLine:=oT h ap
theorem bV(h:n<=1000000):n<sizeLine:=Nat.lt_of_le_of_lt h ap
inductive qZ(W:bi)(H:Hp)(Q:VK)(E:XK):Prop|i(v p:_)(_:W=[v])(_:jW H v p)(_:GF p)(_:Q (.i<|tM p) H)
theorem agB{K:Frag}(W:bi)(H:Hp)(Q:VK)(E:XK)(h:qZ W H Q E):az (aV K E) Oq {nx:=λY B=>Q .a B,r:=Q} (Y2 Oo W) H:=by
 obtain⟨v,p,rfl,⟨a,rfl,b⟩,o,q⟩:=h;refine pQ _ O (.inr<|.inl ⟨_,_,_,_,O,O,aF.of b,O,_,O,?_⟩);cases p with
 |k n=>exact gN (pQ _ O (.inr<|.inl ⟨_,_,_,_,O,O,aF.of b,O,q⟩))
 |p s=>exact jo (pQ _ O (.inr<|.inl ⟨_,_,_,_,O,O,aF.of b,O,cE o,q⟩))
 |c s=>exact jo (pQ _ O (.inr<|.inl ⟨_,_,_,_,O,O,aF.of b,O,cE o,q⟩))
def cell(n:ww)(k:Nat):Int:=n.getD k 0
inductive yC(K:Frag)(W:bi)(H:Hp)(Q:VK)(E:XK):Prop|i(a:z4)(n:ww)(k:Int)(_:W=[.r a,.i k])(_:ax K H a (n.map V.i))(_:0<=k)(_:Q (.i<|cell n k.toNat) H)
theorem agC{K:Frag}(W:bi)(H:Hp)(Q:VK)(E:XK)(h:yC K W H Q E):az (aV K E) OF {nx:=λY B=>Q .a B,r:=Q} (Y2 OE W) H:=by
 obtain⟨a,n,k,rfl,b,c,q⟩:=h;refine sY _ O _ O (.inl (tI _ b trivial _ O ?_));rw[Y9];refine du (λh=>?_)<|λh=>?_;refine sY _ O _ O (.inl (r3 _ _ _ _ O O b ?_ q));have e:=eM (xs:=n.map V.i) (j:=k.toNat) (v:=.i (cell n k.toNat)) (by
  have:k.toNat<n.length:=by lia
  simp[cell,this])
 rw[show((k.toNat:Nat):Int)=k by lia] at e;exact e;have e:cell n k.toNat=0:=by
  have z:n[k.toNat]?=none:=List.getElem?_eq_none_iff.mpr ba;unfold cell;rw[X6,z];rfl
 rw[e] at q;exact q
theorem GG:(0:Int) <1000003:=by decide
noncomputable def mixed(c k:Int):Int:=let n:=(c*48271+7919*k+11) % 1000003;n*n % 1000003*n % 1000003
inductive GH(W:bi)(H:Hp)(Q:VK)(E:XK):Prop|i(c k:_)(_:W=[.i c,.i k])(_:Q (.i<|mixed c k) H)
theorem agD{K:Frag}(W:bi)(H:Hp)(Q:VK)(E:XK)(h:GH W H Q E):az (aV K E) OH {nx:=λY B=>Q .a B,r:=Q} (Y2 OG W) H:=by
 obtain⟨c,k,rfl,q⟩:=h;exact⟨_,O,.inr ⟨ba,ba⟩,_,O,.inl ⟨ba,ba⟩,GG,⟨_,O,_,O,.inl ⟨ba,ba⟩,GG,_,O,.inl ⟨ba,ba⟩,GG,q⟩⟩
theorem agE(c k:Int):0<=mixed c k/\mixed c k<1000003:=⟨Zu _ ba,ZK _ ba⟩
def SG:Str:=" !\"#$&'()*+,-./0123456789:;<=>?@ABCDEFGHIJKLMNOPQRSTUVWXYZ[\\]^_`abcdefghijklmnopqrstuvwxyz{|}~\n"
def good(x:Str):Prop:=x.length<=1000000/\∀c∈x.cps.toList,SG.cps.contains c=true
theorem AK{a:Type}(p:a->Cl):∀l:List a,(∀c∈l,p c=true)->l.takeWhile p=l
 |[],_=>O
 |c::l,h=>by rw[List.takeWhile_cons,h c YL,AK p l λd b=>h d (Yl _ b)];rfl
theorem agF(x y:Str)(h:∀c∈x.cps.toList,y.cps.contains c=true):Txt.lstripChars x y="":=by
 have e:stripLo y.cps.contains true x=x.length:=by
  unfold stripLo;rw[AK _ _ h];simp[Str.length]
 unfold Txt.lstripChars Txt.stripBy stripSame stripped;rw[e];split;rename_i q;simp at q;have:=WP q.1;obtain⟨c⟩:=x;subst this;rfl;show(⟨x.cps.extract x.length x.length⟩:Str)=_;have:x.cps.extract x.length x.length= #[]:=by simp[Str.length]
 rw[this];rfl
theorem v3{a:z4}(h:H a=some (.t U))(q:k (T==.t)):cj T (.r a) H k:=by
 show(match H a with|some (.l _)=>k (T==.l)|some (.c _<|.l _)=>k (T==.l)|some (.t _)=>k (T==.t)|some (.d _)=>k (T==.d)|some (.T _)=>k (T==.d)|_=>False);rw[h];exact q
theorem v5{a:z4}(h:H a=some (.l U))(q:k (T==.l)):cj T (.r a) H k:=by
 show(match H a with|some (.l _)=>k (T==.l)|some (.c _<|.l _)=>k (T==.l)|some (.t _)=>k (T==.t)|some (.d _)=>k (T==.d)|some (.T _)=>k (T==.d)|_=>False);rw[h];exact q
abbrev amF:io:=[("SIGNS",.s SG)]
inductive agG(W:bi)(H:Hp)(Q:VK)(E:XK):Prop|i(x:_)(_:W=[.s x])(_:good x)(_:Q (.b true) H)
abbrev cR(K:Frag)(E:XK):aW:=aJ K [] amF (E:=E)
theorem agH{K:Frag}(W:bi)(H:Hp)(Q:VK)(E:XK)(h:agG W H Q E):az (cR K E) Gg {nx:=λY B=>Q .a B,r:=Q} (Y2 kq W) H:=by
 obtain⟨x,rfl,c,q⟩:=h;refine⟨_,O,O,_,O,gN ⟨_,O,O,cE c.1,?_⟩⟩;rw[agF x SG c.2];exact q
def a_:Pt->Prop|.k n=>1<=n|.p s=>good s/\s≠"" |.c s=>good s/\s≠""
inductive v7(K:Frag)(W:bi)(H:Hp)(Q:VK)(E:XK):Prop|i(w p U:_)(_:W=[.s w,.r p])(_:aF K H p U)(_:U.all jP=true)(_:Q (.b<|iR (.s w) U) H)
theorem agI{K:Frag}(W:bi)(H:Hp)(Q:VK)(E:XK)(h:v7 K W H Q E):az (aV K E) Gf {nx:=λY B=>Q .a B,r:=Q} (Y2 Ge W) H:=by
 obtain⟨w,p,U,rfl,b,f,q⟩:=h;exact⟨_,O,O,_,O,gN (sY _ O _ O ⟨p,U,O,.inr b,O,f,q⟩)⟩
inductive GI(W:bi)(H:Hp)(Q:VK)(E:XK):Prop|i(v p:_)(_:W=[v])(_:jW H v p)(_:a_ p)(_:∀B,aA H B->Q (.b true) B)
def Ze:Str->List Pt->Cl
 |_,[]=>true
 |a,p::r=>qY p.word a && Ze p.word r
noncomputable def tN(a:Str)(s:List Pt):Nat->Str
 | 0=>a
 |i+1=>match s[i]? with|some p=>p.word|none=> ""
theorem RO:∀(s:List Pt)(a:Str)(i:Nat)(p:Pt),Ze a s=true->s[i]?=some p->qY p.word (tN a s i)=true
 |[],_,_,_,_,h=>by simp at h
 |q::r,a,0,p,h,e=>by
  simp only[Ze,ZW] at h;simp at e;subst e;exact h.1
 |q::r,a,i+1,p,h,e=>by
  simp only[Ze,ZW] at h;have b:=RO r q.word i p h.2 (by simpa using e);cases i with
  |zero=>simpa[tN] using b
  |succ i=>simpa[tN] using b
abbrev agJ:ol:=[("is_part",GI),("may_follow",RN)]
inductive B9(W:bi)(H:Hp)(Q:VK)(E:XK):Prop|i(a U s:_)(_:W=[.r a])(_:H a=some (.l U))(_:aC H U s)(_:(∀p∈s,a_ p))(_:Ze "" s=true)(_:∀B,aA H B->Q .a B)
abbrev agU(K:Frag)(et:jp)(E:XK):aW:=aJ K agJ [] (et:=et) (E:=E)
theorem agK{K:Frag}(W:bi)(H:Hp)(Q:VK)(E:XK)(h:B9 W H Q E):az (agU K et E) Ol {nx:=λY B=>Q .a B,r:=Q} (Y2 Oj W) H:=by
 obtain⟨a,U,e,rfl,k,P,t,n,q⟩:=h;refine qH _ O O (v5 k (uK _ O a O (qX _ (ax.of k)) (jk (λi J Z=>∃v,J=[some (.r a),some (.s (tN "" e i)),v]/\aA H Z) (pQ none O (aA.refl _))
  (λi J Z _ ⟨_,_,d⟩=>ax.of (d _ _ k)) ?_ ?_)))
 rintro i x J Z l ⟨v,rfl,d⟩;obtain⟨p,g,m⟩:=P.get l;obtain⟨b,rfl,j⟩:=m.mono (aQ d);refine pQ _ O ⟨_,p,O,pQ b O j,t p<|X_ g,λu f=>pQ _ O (.inr<|.inl ⟨_,_,_,_,O,O,aF.of<|f _ _ j,O,_,O,p.word,_,O,?_⟩)⟩;rw[(RO e "" i p n g)];refine pQ _ O (.inr<|.inl ⟨_,_,_,_,O,O,aF.of<|f _ _ j,O,some<|.r b,?_,d.trans f⟩);show[some<|V.r a,some<|V.s p.word,some<|V.r b]=_;have o:tN "" e (i+1)=p.word:=by simp only[tN,g]
 rw[o];rintro J Z ⟨v,rfl,d⟩;exact q Z d
def YZ(s:List Pt):ww:=(s.filter λp=>decide (p.word≠ ("put":Str))).map tM
def yD(s:List Pt):ww:=(s.filter λp=>decide (p.word≠ ("cut":Str))).map tM
abbrev akJ:ol:=[("need_change",B9),("part_size",qZ)]
inductive ph(W:bi)(H:Hp)(Q:VK)(E:XK):Prop|i(a U s:_)(_:W=[.r a])(_:H a=some (.l U))(_:aC H U s)(_:(∀p∈s,a_ p))(_:Ze "" s=true)(_:s.length<=1000000)(_:∀t B,aA H B->B t=some (.t [.i (YZ s).sum,.i (yD s).sum])->Q (.r t) B)
theorem tO(h:a_ p):GF p:=by
 cases p with
 |k n=>trivial
 |p s=>exact h.1.1
 |c s=>exact h.1.1
theorem Z2{a:Type}(p:a->Cl)(l:List a)(i:Nat)(v:a)(h:l[i]?=some v):(l.take<|i+1).filter p=(l.take i).filter p++(if p v then [v] else []):=by
 rw[Wj,h];cases b:p v<;>simp[b]
abbrev c6(K:Frag)(E:XK):aW:=aJ K akJ [] (E:=E)
theorem agM{K:Frag}(W:bi)(H:Hp)(Q:VK)(E:XK)(h:ph W H Q E):az (c6 K E) Ou {nx:=λG B=>Q .a B,r:=Q} (Y2 Ot W) H:=by
 obtain⟨a,U,g,rfl,j,P,D,eZ,z,q⟩:=h;refine pQ _ O ⟨a,U,g,O,j,P,D,eZ,λI k=>?_⟩;have hl:=FS P;have f:∀(w:Str)(I:Hp)(u:VK)(J:St),aA H I->J[0]?=some (some<|.r a)->
   (∀b Z,aA H Z->Z b=some (.l<|((g.filter λp=>decide (p.word≠w)).map tM).map .i)->u (.r b) Z)->
   af (c6 K E) (.C none [] .l [.v 0] (some<|.p .NotEq (.i (.v 0)<|.c<|.i 0)<|.c<|.s w)<|.l 1 [.v 0]) J I u:=by
  intro w I u J k o S;refine uK _ o a O (qX _ (ax.of<|k _ _ j)) ⟨λi m Y Z=>m=U.length - i/\i<=U.length/\aA H Z/\Y=(((g.take i).filter λp=>decide (p.word≠w)).map tM).map .i,tH _ O (nE _) k O,?_⟩;rintro i m Y Z ⟨rfl,hi,d,rfl⟩;by_cases R:i<U.length;refine .inr ⟨q9 U (U[i]) (ax.of<|d _ _ j) (by simp),?_⟩;rintro x H3 ⟨rfl,M⟩;obtain⟨p,n,L⟩:=P.get (M U (ax.of<|d _ _ j));obtain⟨b,rfl,A⟩:=L.mono (aQ d);refine pQ _ O (.inr<|.inl ⟨_,_,_,_,O,O,aF.of A,O,_,O,?_⟩);have y:=Z2 (λp=>decide<|p.word≠w) g i p n;have T:((g.take i).filter λp=>decide (p.word≠w)).length<=1000000:=oT (List.length_filter_le _ _) (oT (List.length_take_le _ _) ba);refine du (λh=>?_)<|λh=>?_;have e:decide (p.word≠w)=true:=by lia
  refine pQ _ O ⟨_,p,O,pQ b O A,tO<|D p<|X_ n,?_,U.length - (i+1),ba,O,R,d,?_⟩;rw[Y9,Y9];exact bV T;rw[y,e];simp;have e:=by simpa using h
  refine tH (U.length - (i+1)) ba O R ⟨d,?_⟩;rw[y,e];simp;have X:=Yk hi (Zv R);subst X;refine .inl ⟨pQ U (ax.of<|d _ _ j) (Yw _),λp n=>?_⟩;have e:g.take U.length=g:=RP ba;rw[e];exact S p _ (d.trans<|Yb n) av
 exact N_<|Oa<|Ob<|f "put" I _ _ k O λb1 Z d e2=>pQ _ (ax.of e2) (N_<|Oa<|Ob<|f "cut" Z _ _ d O λb2 H3 F e3=>pQ _ (ax.of e3) (uK _ O _ O cI (λt N=>q t _ (F.trans<|Yb N) av)))
def o7(t:bn):Str:=Txt.join "" t
noncomputable def sz(t:bn):Nat:=(t.map Str.length).sum
theorem vH:("":Str)=⟨#[]⟩:=O
theorem tP(s:bn):(o7 s).cps.toList=(s.map λt=>t.cps.toList).flatten:=by
 have e:("":Str).cps= #[]:=O;cases s with
 |nil=>rfl
 |cons t r=>
  show(r.foldl (λX p=>X++("":Str).cps++p.cps) t.cps).toList=_;rw[e];have g:∀(r:bn)(X:Array Nat),(r.foldl (λX p=>X++ #[]++p.cps) X).toList=X.toList++(r.map λt=>t.cps.toList).flatten:=by
   intro r;induction r with
   |nil=>intro X;simp
   |cons q r i=>
    intro X;show(r.foldl (λX p=>X++ #[]++p.cps)<|X++ #[]++q.cps).toList=_;rw[i];simp
  rw[g];simp
theorem iX(h:x.cps.toList=y.cps.toList):x=y:=by
 obtain⟨x⟩:=x;obtain⟨y⟩:=y;exact FM Str.mk<|Array.toList_inj.mp h
theorem Jn(x y:Str):(x++y).cps.toList=x.cps.toList++y.cps.toList:=by
 show(x.cps++y.cps).toList=_;simp
theorem GJ(a b:bn):o7 (a++b)=o7 a++o7 b:=iX (by rw[Jn,tP,tP,tP];simp)
theorem GK(x:Str):o7 [x]=x:=rfl
theorem YN(x:Str):x.length=x.cps.toList.length:=O
theorem B_(t:bn):(o7 t).length=sz t:=by
 rw[YN,tP,List.length_flatten];rw[Zq];congr 1
theorem RQ(x:Str):x++""=x:=O
theorem v8(x:Str):""++x=x:=iX (by rw[Jn];simp[vH])
theorem RT(a b:bn):sz (a++b)=sz a+sz b:=by simp[sz]
theorem Zm(h:sz s<=1000000):JoinOk "" s=true:=by
 have g:∀(l:bn)(n:Nat),l.foldl (· + ·.length+("":Str).length) n=n+sz l:=by
  intro l;induction l with
  |nil=>intro n;rfl
  |cons t r i=>
   intro n;show r.foldl _ (n+t.length+0)=_;rw[i];show n+t.length+0+sz r=n+(t.length+sz r);lia
 unfold JoinOk;have e:s.toArray.foldl (· + ·.length+("":Str).length) 0=sz s:=by
  rw[List.foldl_toArray,g,Ym]
 rw[e];show(!decide (sz s>sizeLine))=true;rw[XH (by have:=cE h;exact wR this)];rfl
noncomputable def Yp(m:Str->Pt)(x:Str):List Pt:=if x="" then [] else [m x]
def d6(h:List Pt)(a Z:bn):List Pt:=h++Yp .p (o7 a)++Yp .c (o7 Z)
inductive RU(W:bi)(H:Hp)(Q:VK)(E:XK):Prop|i(c p q U b d Z:_)(_:W=[.r c,.r p,.r q])(_:H c=some (.l U))(_:aC H U b)(_:H p=some (.l<|d.map .s))(_:H q=some (.l<|Z.map .s))(_:sz d<=1000000)(_:sz Z<=1000000)(_:b.length<=900000)(_:∀B w,bp c H B->B c=some (.l w)->aC B w (d6 b d Z)->Q .a B)
theorem agN{K:Frag}(W:bi)(H:Hp)(Q:VK)(E:XK)(h:RU W H Q E):az (aV K E) Oy {nx:=λ_ B=>Q .a B,r:=Q} (Y2 Ox W) H:=by
 obtain⟨c,p,q,U,A,n,L,rfl,hc,cP,hp,hq,N,GL,hl,k⟩:=h;refine tL O _ O ⟨n,ax.of hp,Zm N,tL O _ O ⟨L,ax.of hq,Zm GL,?_⟩⟩;have V:∀(i:Nat)(w x:Str)(m:Str->Pt)(I:Hp)(g:bi)(j:List Pt)(J:St)(D:En),(∀y,(m y).word=w/\(m y).val=.s y)->I c=some (.l g)->aC I g j->j.length<=950000->J[0]?=some (some<|.r c)->J[i]?=some (some<|.s x)->
   (∀Z R,bp c I Z->Z c=some (.l R)->aC Z R (j++Yp m x)->D.nx J Z)->
   cz (aV K E) (.i (.p .NotEq (.v i)<|.c<|.s "") [.d<|.a .a (.v 0) [(.T [(.c<|.s w),.v i])]] []) D J I:=by
  intro i w x m I g j J D M f u jr h0 G C;have a':=FS u;refine⟨_,G,_,O,du (λh=>?_)<|λh=>?_⟩;have Y:x≠"":=by lia
  refine tI _ h0 (.inl (uJ O _ (ax.of f))) _ G ⟨cI,λt z=>?_⟩;have F:=aH f z;refine qH g (by rw[aw F];exact f) (bV ba) (C _ (g++[.r t]) ((sameBut (Yb z) bp.upd)) av ?_);have S:dn I (fy (fy I t<|.t [.s w,.s x]) c<|.l<|g++[.r t]):=(sameBut (Yb z) bp.upd).dS f;unfold Yp;rw[Fk Y];refine aC.snoc (u.mono S) (pQ t O ?_);rw[aw F.symm,av,(M x).1,(M x).2];have e:x="":=by lia
  refine C I g (λb o e _=>e) f ?_;unfold Yp;rw[Fr e,Yh];exact u
 refine V 3 "put" (o7 n) .p H U A _ _ (λ_=>⟨O,O⟩) hc cP (oT hl (Zs _ _)) O O λZ R b2 bO X=>?_;have l2:(A++Yp .p (o7 n)).length<=950000:=by
  rw[Yy];have:(Yp .p<|o7 n).length<=1:=by unfold Yp;split<;>simp
  lia
 exact V 4 "cut" (o7 L) .c Z R _ _ _ (λ_=>⟨O,O⟩) bO X l2 O O λH3 lM b3 jy P=>k H3 lM (b2.trans b3) jy P
noncomputable def fg(c:List Pt)(n:Int):List Pt:=match c.getLast? with
 |some (.k m)=>c.dropLast++[.k<|n+m]
 |_=>c++[.k n]
inductive RX(W:bi)(H:Hp)(Q:VK)(E:XK):Prop|i(c n U p:_)(_:W=[.r c,.i n])(_:H c=some (.l U))(_:aC H U p)(_:p.length<=900000)(_:∀B b,bp c H B->B c=some (.l b)->aC B b (fg p n)->Q .a B)
theorem aC.last(h:aC H U s)(n:U.length≠0):∃v p,U[U.length - 1]?=some v/\e8 U (-1)=some v/\s.getLast?=some p/\jW H v p:=by
 obtain⟨p,b,a⟩:=h.get (i:=U.length - 1) (v:=U[U.length - 1]) am;refine⟨U[U.length - 1],p,am,?_,?_,a⟩;unfold e8 kf;have:¬(0:Int)<= -1:=by lia
 rw[Fk this,Fr ba];have e:((-1:Int)+(U.length:Int)).toNat=U.length - 1:=by lia
 rw[e];simp;rw[List.getLast?_eq_getElem?,<-FS h];exact b
theorem agP{K:Frag}(W:bi)(H:Hp)(Q:VK)(E:XK)(h:RX W H Q E):az (aV K E) Ow {nx:=λY B=>Q .a B,r:=Q} (Y2 Ov W) H:=by
 obtain⟨c,n,U,g,rfl,f,P,x,k⟩:=h;have D:=FS P;have X:∀(m:Int)(I:Hp)(j:bi)(q:List Pt),bp c H I->I c=some (.l j)->aC I j q->q.length<=900000->fg g n=q++[.k m]->
   az (aV K E) [.d<|.a .a (.v 0) [(.T [(.c<|.s "keep"),.v 1])]] {nx:=λY B=>Q .a B,r:=Q} [some<|.r c,some<|.i m] I:=by
  intro m I j q R u C V e;have S:=FS C;refine tI _ O (.inl (uJ O _ (ax.of u))) _ O ⟨cI,λt w=>?_⟩;have F:=aH u w;refine qH j (by rw[aw F];exact u) (bV ba) (k _ (j++[.r t]) (R.trans<|sameBut (Yb w) bp.upd) av ?_);rw[e];refine aC.snoc (C.mono<|(sameBut (Yb w) bp.upd).dS u) ⟨t,O,?_⟩;rw[aw F.symm,av];rfl
 refine pQ _ O (.inl (tI _ (ax.of f) trivial _ O (du (λh=>?_)<|λh=>?_)));have J:U.length≠0:=by
  lia
 obtain⟨v,p,M,L,A,a,rfl,y⟩:=P.last J;refine pQ _ O (.inl (r3 _ _ _ _ O O (ax.of f) L (.inr<|.inl ⟨_,_,_,_,O,O,aF.of y,O,_,O,?_⟩)));cases p with
 |k m=>
  have G:fy H c (.l U.dropLast) a=some (.t [.s "keep",.i m]):=by rw[aw<|cD y f (by lia)];exact y
  refine uK _ O _ O (.inl (uJ O _ (ax.of f))) ⟨U,_,f,M,.inr<|.inl ⟨_,_,_,_,O,O,aF.of G,O,X (n+m) _ U.dropLast g.dropLast bp.upd av (P.dropLast.mono<|bp.upd.dS f) (vV▸oT (Zl _ _) x) ?_⟩⟩;unfold fg;rw[A]
 |p s=>exact X n H U g (λb o e Y=>e) f P x (by unfold fg;rw[A])
 |c s=>exact X n H U g (λb o e Y=>e) f P x (by unfold fg;rw[A])
 have N:g=[]:=by
  exact CA.mp ba
 exact X n H U g (λb o e Y=>e) f P x (by rw[N];rfl)
abbrev NS:=List Pt×bn×bn
def dJ:NS->Pt->NS
 |(h,p,c),.p s=>(h,p++[s],c)
 |(h,p,c),.c s=>(h,p,c++[s])
 |(h,p,c),.k n=>if 0<n then (fg (d6 h p c) n,[],[]) else (h,p,c)
def ku(p:List Pt):List Pt:=let s:=p.foldl dJ ([],[],[]);d6 s.1 s.2.1 s.2.2
noncomputable def bZ:Pt->Nat|.k _=>0|.p s=>s.length|.c s=>s.length
def ay(p:List Pt):Nat:=(p.map bZ).sum
theorem GN(p:List Pt)(i:Nat):ay (p.take i)<=ay p:=by
 have:ay p=ay (p.take i)+ay (p.drop i):=by
  unfold ay;rw[<-Et,<-Z4,Yt]
 lia
theorem RY{s:List Pt}(h:s[i]?=some p):ay (s.take<|i+1)=ay (s.take i)+bZ p:=by
 rw[Wj,h];simp[ay]
theorem RZ{c a:Type}{f:a->c->a}{b:a}{l:List c}{p:c}(h:l[i]?=some p):(l.take<|i+1).foldl f b=f ((l.take i).foldl f b) p:=by
 rw[Wj,h,List.foldl_append];rfl
theorem R0(m:Str->Pt)(x:Str):(Yp m x).length<=1:=by unfold Yp;split<;>simp
theorem Ca(h:List Pt)(p c:bn):(d6 h p c).length<=h.length+2:=by
 unfold d6;have:=R0 .p (o7 p);have:=R0 .c (o7 c);simp;lia
theorem R1(c:List Pt)(n:Int):(fg c n).length<=c.length+1:=by
 unfold fg;split;simp only[Yy,vV,Z0];exact j2 (Zl _ _) _;simp
abbrev YT:ol:=[("add_texts",RU),("add_keep",RX)]
inductive tQ(W:bi)(H:Hp)(Q:VK)(E:XK):Prop|i(a U p:_)(_:W=[.r a])(_:H a=some (.l U))(_:aC H U p)(_:p.length<=200000)(_:ay p<=100000)(_:∀b B Y,aA H B->H b=none->B b=some (.l Y)->aC B Y (ku p)->Q (.r b) B)
inductive R3(a c:z4)(H:Hp)(e:List Pt)(i:Nat)(J:St)(Z:Hp):Prop|i(p q:z4)(h:List Pt)(d b:bn)(I:bi)(w x:im)(_:J=[some<|.r a,some<|.r c,some<|.r p,some<|.r q,w,x])(_:H p=none)(_:H q=none)(_:p≠c)(_:q≠c)(_:p≠q)(_:aA H Z)(_:Z c=some (.l I))(_:aC Z I h)(_:Z p=some (.l<|d.map .s))(_:Z q=some (.l<|b.map .s))(_:(e.take i).foldl dJ ([],[],[])=(h,d,b))(_:h.length<=3*i)(_:d.length<=i)(_:b.length<=i)(_:sz d+sz b<=ay (e.take i)):R3 a c H e i J Z
abbrev apL(K:Frag)(E:XK):aW:=aJ K YT [] (E:=E)
theorem K_{K:Frag}(W:bi)(H:Hp)(Q:VK)(E:XK)(h:tQ W H Q E):az (apL K E) OA {nx:=λ_ B=>Q .a B,r:=Q} (Y2 Oz W) H:=by
 obtain⟨a,U,u,rfl,ha,cP,hl,ht,k⟩:=h;have e':=FS cP;refine⟨nE _,λc v=>⟨nE _,λS R=>⟨nE _,λN C=>?_⟩⟩⟩;have GO:c≠S:=λz=>by rw[<-z,av] at R;cases R
 have R4:c≠N:=λz=>by rw[<-z,aw GO,av] at C;cases C
 have R5:S≠N:=λz=>by rw[<-z,av] at C;cases C
 have s0:aA H (fy (fy (fy H c<|.l []) S<|.l []) N<|.l []):=(Yb v).trans ((Yb R).trans<|Yb C);have c':H S=none:=(Yb v).free R;have b':H N=none:=((Yb v).trans<|Yb R).free C;refine uK _ O a O (qX _ (ax.of (s0 _ _ ha))) (jk (K:=K) (a:=a) (xs:=U) (R3 a c H u)
 ⟨S,N,[],[],[],[],none,none,O,c',b',GO.symm,R4.symm,R5,s0,(by rw[aw R4,aw GO,av]),.nil,(by rw[aw R5,av];rfl),av,O,am,am,am,by simp[sz]⟩
  (by rintro i J Z _ ⟨_,_,_,_,_,_,_,_,_,_,_,_,_,_,j,_,_,_,_,_,_,_,_,_⟩;exact ax.of (j _ _ ha)) ?_ ?_)
 rintro i x J Z hi ⟨p,q,g,f,d,I,w,x',rfl,Y,X,P,L,D,j,A,G,o,m,ef,l1,l2,l3,l4⟩;obtain⟨pt,jz,mH⟩:=cP.get hi;obtain⟨b,rfl,hb⟩:=mH.mono (aQ j);have e9:i<u.length:=(ZT.mp jz).1;have jX:(u.take<|i+1).foldl dJ ([],[],[])=dJ (g,f,d) pt:=by rw[RZ jz,ef]
 have et:=RY jz;have tb:=GN u i;refine tA b _ O (.inl<|aF.of hb) O _ _ O _ _ O O ?_;cases pt with
 |p s=>
  refine⟨_,O,_,O,_,O,.inl ⟨O,_,ax.of o⟩,_,O,_,o,bV (by rw[Y9];lia),?_⟩;have t:bp p Z (fy Z p<|.l<|f.map .s++[.s s]):=bp.upd;refine⟨p,q,g,f++[s],d,I,_,_,O,Y,X,P,L,D,pf j Y t,t _ _ A P.symm,G.mono<|t.dS o,(by rw[av,Z4];rfl),t _ _ m D.symm,jX,(nS l1),by simp;exact l2,(YS l3),?_⟩;rw[RT,et];show sz f+(s.length+0)+sz d<=ay (u.take i)+s.length;lia
 |c s=>
  refine⟨_,O,_,O,_,O,_,O,_,O,.inl ⟨O,_,ax.of m⟩,_,O,_,m,bV (by rw[Y9];lia),?_⟩;have t:bp q Z (fy Z q<|.l<|d.map .s++[.s s]):=bp.upd;refine⟨p,q,g,f,d++[s],I,_,_,O,Y,X,P,L,D,pf j X t,t _ _ A L.symm,G.mono<|t.dS m,t _ _ o D,(by rw[av,Z4];rfl),jX,(nS l1),(YS l2),by simp;exact l3,?_⟩;rw[RT,et];show sz f+(sz d+(s.length+0))<=ay (u.take i)+s.length;lia
 |k n=>
  refine⟨_,O,_,O,_,O,_,O,_,O,trivial,_,O,?_⟩;refine du (λh=>?_)<|λh=>?_;have hn:0<n:=IR h;have e2:dJ (g,f,d) (.k n)=(fg (d6 g f d) n,[],[]):=Fr hn;refine sY _ O _ O ⟨_,O,c,p,q,I,g,f,d,O,A,G,o,m,ba,ba,ba,λy T b3 Cb GP=>?_⟩;have s3:aA H y:=pf j v b3;refine⟨nE _,λF fK=>⟨nE _,λM dN=>?_⟩⟩;have GQ:c≠F:=aH Cb fK;have lN:fy y F (.l []) c=some (.l T):=by rw[aw GQ];exact Cb
  have GR:c≠M:=aH lN dN;have R6:F≠M:=λz=>by rw[<-z,av] at dN;cases dN
  have pJ:fy (fy y F<|.l []) M (.l []) c=some (.l T):=by rw[aw GR];exact lN
  have s5:aA y (fy (fy y F<|.l []) M<|.l []):=(Yb fK).trans (Yb dN);refine sY _ O _ O ⟨c,n,T,_,O,pJ,GP.mono<|aQ s5,?_,λH6 a' b6 jA d'=>?_⟩;have:=Ca g f d;lia;refine⟨F,M,_,[],[],a',_,_,O,s3.free fK,(s3.trans<|Yb fK).free dN,GQ.symm,GR.symm,R6,pf (s3.trans s5) v b6,jA,d',b6 _ _ (by rw[aw R6,av];rfl) GQ.symm,b6 _ _ (by rw[av];rfl) GR.symm,jX.trans e2,?_,am,am,by simp[sz]⟩;have:=Ca g f d;have:=R1 (d6 g f d) n;lia;have hn:¬0<n:=λz=>h (Y4 z);have e2:dJ (g,f,d) (.k n)=(g,f,d):=Fk hn;refine⟨p,q,g,f,d,I,_,_,O,Y,X,P,L,D,j,A,G,o,m,jX.trans e2,(nS l1),(YS l2),(YS l3),ba⟩
 rintro J Z ⟨p,q,g,f,d,I,w,x',rfl,Y,X,P,L,D,j,A,G,o,m,ef,l1,l2,l3,l4⟩;have e:u.take U.length=u:=RP ba;rw[e] at ef l4;refine sY _ O _ O ⟨_,O,c,p,q,I,g,f,d,O,A,G,o,m,ba,ba,ba,λy T b3 Cb GP=>?_⟩;refine pQ _ O (k c y T (pf j v b3) v Cb ?_);unfold ku;rw[ef];exact GP
def A1:Str:=" !\"#$&'()*+,-./0123456789:;<=>?@ABCDEFGHIJKLMNOPQRSTUVWXYZ[\\]^_`"
def A2:Str:="abcdefghijklmnopqrstuvwxyz{|}~\n"
def A3:Str:="ab\n"
def Cc(a:Str):Prop:=0<a.length/\a.length<=1000/\∀c∈a.cps.toList,SG.cps.contains c=true
theorem R7(h:(decide (0<al.length) && decide (al.length<=1000) && al.cps.toList.all λc=>SG.cps.contains c)=true):Cc al:=by
 simp only[ZW,GM,YR] at h;exact⟨h.1.1,h.1.2,h.2⟩
theorem GS:Cc (A1++A2):=R7 (by decide+kernel)
theorem lO:Cc A3:=R7 (by decide+kernel)
theorem agW:A1.length+A2.length<=sizeLine:=by decide+kernel
abbrev abP:ol:=[("_law_mixed",GH)]
inductive Ce(W:bi)(H:Hp)(Q:VK)(E:XK):Prop|i(c n:_)(_:W=[.i c,.i n])(_:0<=n)(_:n<=1000)(_:∀x B,good x->x.length=n.toNat->aA H B->Q (.s x) B)
def GU(t:Str):Prop:=t.length=1/\∀c∈t.cps.toList,SG.cps.contains c=true
theorem Cf:∀(s:bn),(∀t∈s,GU t)->sz s=s.length
 |[],_=>O
 |t::r,h=>by
  show t.length+sz r=r.length+1;rw[(h t YL).1,Cf r λq a=>h q (Yl _ a)];exact xW _ _
theorem agX(h:∀t∈s,GU t)(b:s.length<=1000):good (o7 s):=by
 refine⟨by rw[B_,Cf s h];exact oT b (Zs _ _),λc a=>?_⟩;rw[tP,XF] at a;obtain⟨l,b,a⟩:=a;obtain⟨t,d,rfl⟩:=gS.mp b;exact(h t d).2 c a
abbrev dZ(K:Frag)(E:XK):aW:=aJ K abP [] (E:=E)
theorem agY{K:Frag}(W:bi)(H:Hp)(Q:VK)(E:XK)(h:Ce W H Q E):az (dZ K E) OJ {nx:=λU B=>Q .a B,r:=Q} (Y2 OI W) H:=by
 obtain⟨c,n,rfl,L,S,k⟩:=h;have X:∀(f:Str),Cc f->az (dZ K E) [.r<|.a .j (.c<|.s "") [(.C none [("_law_some",2),("_law_cell",0)] .e [.v 1] none<|.i (.v 1)<|.b .Mod (.b .FloorDiv (.l 0 [.v 2,.v 0])<|.c<|.i 7)<|.t .l [.v 1])]]
   {nx:=λU B=>Q .a B,r:=Q} [some<|.i c,some<|.i n,some<|.s f] H:=by
  intro f o;refine tL O _ O ⟨n,O,ba,ba,λi m Y Z=>m=n.toNat - i/\i<=n.toNat/\Z=H/\∃g:bn,Y=g.map .s/\g.length=i/\∀t∈g,GU t,tH _ O (nE _) O ⟨[],O,O,λt u=>by cases u⟩,?_⟩;rintro i m Y Z ⟨rfl,P,rfl,g,rfl,D,q⟩;by_cases R:i<n.toNat;refine .inr ⟨R,?_⟩;rintro x T ⟨rfl,rfl⟩;refine sY _ O _ O ⟨_,O,_,_,O, ⟨ap,ap⟩,_,O,cE (by have:=o.2.1;exact oT this (Zs _ _)),(by have:=o.1;lia),?_⟩;have y:0<=mixed c (0+(i:Int)) / 7 % (f.length:Int):=Zu _ (by have:=o.1;lia);have w:mixed c (0+(i:Int)) / 7 % (f.length:Int) < (f.length:Int):=ZK _ (by have:=o.1;lia);obtain⟨j,F⟩:∃j,j=mixed c (0+(i:Int)) / 7 % (f.length:Int):=⟨_,O⟩;have A:j.toNat<f.cps.toList.length:=by rw[<-YN];lia
  refine .inr<|.inr<|.inl ⟨f,j,f.cps.toList[j.toNat],O,(by rw[F]),cE (by have:=o.2.1;exact oT this (Zs _ _)),?_,?_,n.toNat - (i+1),ba,O,R,O,g++[⟨#[f.cps.toList[j.toNat]]⟩],(by rw[Z4];rfl),by simp[D],?_⟩;have e:=eM (xs:=f.cps.toList) (j:=j.toNat) (v:=f.cps.toList[j.toNat]) (by simp[A]);rw[show((j.toNat:Nat):Int)=j by lia] at e;exact e;rw[Y9];exact bV ba;intro t u;rcases R8.mp u with z|z
  exact q t z;rw[ZF.mp z];refine⟨O,λd I=>?_⟩;have:=by simpa using I
  rw[this];exact o.2.2 _<|List.getElem_mem A;have J:i=n.toNat:=Yk P (Zv R);refine .inl ⟨by exact Zv R,λp G=>?_⟩;refine qH g (ax.of av) (Zm (by rw[Cf g q];lia)) ?_;exact k (o7 g) _ (agX q ba) (by rw[B_,Cf g q,D,J])<|Yb G
 refine⟨_,O,agW,_,O,(by lia),_,O,?_⟩;refine du (λh=>?_)<|λh=>?_;exact X A3 lO;exact X (A1++A2) GS
def gT:Pt->Prop|.k n=>0<=n|.p s=>good s/\s.length<=100000|.c s=>good s/\s.length<=100000
abbrev Zk:=Str×Str×Int
abbrev sB:=List Zk
noncomputable def mI(r:Zk):bi:=[.s r.1,.s r.2.1,.i r.2.2]
def R9(H:Hp)(v:V)(r:Zk):Prop:= ∃b,v=.r b/\H b=some (.l<|mI r)
abbrev tU(H:Hp):bi->sB->Prop:=Paired (R9 H)
theorem tU.mono:∀{W:bi}{p:sB},tU H W p->(∀v∈W,∀b,v=.r b->∀o,H b=some o->B b=some o)->tU B W p:=by
 intro Y Y h;induction h with
 |nil=>exact λY=>.nil
 |cons x Y i=>
  obtain⟨b,e,h⟩:=x;exact λk=>.cons ⟨b,e,k _ YL b e _ h⟩<|i λv a=>k v (Yl _ a)
theorem tU.get:∀{W:bi}{s:sB}{i:Nat}{v:V},tU H W s->W[i]?=some v->∃p,s[i]?=some p/\R9 H v p:=by
 intro Y Y i v h;induction h generalizing i with
 |nil=>intro e;simp at e
 |cons x Y c=>
  intro e;cases i with
  |zero=>simp at e;subst e;exact⟨_,O,x⟩
  |succ i=>
   obtain⟨p,a,b⟩:=c (by simpa using e);exact⟨p,by simpa using a,b⟩
noncomputable def bz:sB×Zk->Pt->sB×Zk
 |(e,r),.k n=>(e,(r.1,r.2.1,r.2.2+n))
 |(e,r),.p s=>if s="" then (e,r) else if 0<r.2.2 then (e++[r],(Str.ofString ""++s,"",0)) else (e,(r.1++s,r.2.1,r.2.2))
 |(e,r),.c s=>if s="" then (e,r) else if 0<r.2.2 then (e++[r],("",Str.ofString ""++s,0)) else (e,(r.1,r.2.1++s,r.2.2))
def fj(r:Zk):List Pt:=Yp .p r.1++Yp .c r.2.1++(if r.2.2=0 then [] else [.k r.2.2])
def c7(r:sB):List Pt:=(r.map fj).flatten
def wd(p:List Pt):sB:=let s:=p.foldl bz ([],("","",0));s.1++[s.2]
def iY(p:List Pt):List Pt:=c7 (wd p)
structure lP(H Z:Hp)(R:z4)(rs:bi)(b:z4)(pre:sB)(r:Zk):Prop where
 same:aA H Z
 lst:Z R=some (.l<|rs++[.r b])
 fr:H R=none
 a:tU Z rs pre
 last:Z b=some (.l<|mI r)
 fb:H b=none
 bL:∀v∈rs,∀x,v=.r x->H x=none/\x≠b/\x≠R
 ne:b≠R
theorem yH(U:bi)(v:V):e8 (U++[v]) (-1)=some v:=vn U v
theorem lP.set{r:Zk}(S:lP H Z R s b p r):lP H (fy Z b<|.l<|mI r') R s b p r' where
 same:=pf S.same S.fb bp.upd
 lst:=by rw[aw S.ne.symm];exact S.lst
 fr:=S.fr
 a:=S.a.mono λv c x e o h=>by rw[aw (S.bL v c x e).2.1];exact h
 last:=av
 fb:=S.fb
 bL:=S.bL
 ne:=S.ne
theorem lP.grow{r:Zk}(S:lP H Z R s b d r)(c:Z t=none):
  lP H (fy (fy Z t<|.l<|mI r') R<|.l<|s++[.r b]++[.r t]) R (s++[.r b]) t (d++[r]) r':=by
 have C:t≠R:=λz=>by rw[z,S.lst] at c;cases c
 have k:∀x o,Z x=some o->x≠R->fy (fy Z t<|.l<|mI r') R (.l<|s++[.r b]++[.r t]) x=some o:=λx o e n=>by rw[aw n,aw<|aH e c];exact e
 exact {
  same:=λx o e=>k x o (S.same x o e) (aH e S.fr)
  lst:=av
  fr:=S.fr
  a:=IO (S.a.mono λv f x e o h=>k x o h (S.bL v f x e).2.2) ⟨b,O,k b _ S.last S.ne⟩
  last:=by rw[aw C,av]
  fb:=S.same.free c
  bL:=λv f x e=>by
   rcases R8.mp f with z|z
   obtain⟨A,B,w⟩:=S.bL v z x e;refine⟨A,λq=>?_,w⟩;obtain⟨i,u⟩:=Zx z;obtain⟨p,Y,y,m,j⟩:=S.a.get u;rw[e] at m;cases m;rw[q,c] at j;cases j;rw[ZF.mp z] at e;cases e;exact⟨S.fb,(aH S.last c),S.ne⟩
  ne:=C}
abbrev Dn(Q:VK):En:={nx:=λ_ B=>Q .a B,r:=Q}
abbrev cL(s:Sp)(u:XK->aW)(b:ga)(N:bn):Prop:= ∀W H Q E,s W H Q E->az (u E) b (Dn Q) (Y2 N W) H
inductive pK(W:bi)(H:Hp)(Q:VK)(E:XK):Prop|i(a U p:_)(_:W=[.r a])(_:H a=some (.l U))(_:aC H U p)(_:p.length<=100000)(_:ay p<=100000)(_:∀b B Y,aA H B->H b=none->B b=some (.l Y)->aC B Y (iY p)->Q (.r b) B)
theorem Cj{K:Frag}{j:bi}{r l:Zk}{a:z4}{w:Str}(S:lP H Z R j b e r)(i:Nat)(B:i<2)(A:(if (w=="cut")=true then 1 else 0:Int)=(i:Int))(o:Str)(z:(mI r)[i]?=some (.s o))(y:(mI r).set i (.s<|o++s)=mI l)(u:o.length+s.length<=sizeLine)(k:∀n,lP H n R j b e l->D.nx [some<|.r a,some<|.r R,some<|.s w,some<|.s s,h,g,f,d,x] n):
  cz (aV K E) (.s (.i (.v 1)<|.N<|.c<|.i 1) (.t .i [(.p .Eq (.v 2)<|.c<|.s "cut")])<|.b .Add (.i (.i (.v 1)<|.N<|.c<|.i 1)<|.t .i [(.p .Eq (.v 2)<|.c<|.s "cut")])<|.v 3) D
   [some<|.r a,some<|.r R,some<|.s w,some<|.s s,h,g,f,d,x] Z:=by
 have q:ax K Z b (mI r):=ax.of S.last;have m:(if (false ^^ decide (V.s w=V.s "cut"))=true then 1 else 0:Int)=(i:Int):=by lia
 refine pQ _ O (.inl (r3 _ _ _ _ O O (ax.of S.lst) (yH _ _) ⟨_,O,?_⟩));show o6 K (aJ K [] []).sd (.r b) (.i (if (false ^^ decide (V.s w=V.s "cut"))=true then 1 else 0)) Z _;rw[m];refine .inl (r3 b _ _ _ O O q (eM z) ⟨_,O,u,_,O,.inl (r3 _ _ _ _ O O (ax.of S.lst) (yH _ _) ⟨_,O,?_⟩)⟩);show A7 (.r b) (.i (if (false ^^ decide (V.s w=V.s "cut"))=true then 1 else 0)) (.s<|o++s) Z _;rw[m];refine r3 b (mI r) (i:Int) i O O S.last ?_ ?_;unfold kf;rw[Fr (Vz _),Fr (by show(i:Int) < ((3:Nat):Int);lia)];simp;rw[y];exact k _ S.set
theorem ag2{s:sB}{r:Zk}(h:s[i]?=some r):c7 (s.take<|i+1)=c7 (s.take i)++fj r:=by
 unfold c7;rw[Wj,h];simp
theorem R_{K:Frag}{r:Zk}{a:z4}{w:Str}{C B y:im}(S:lP H Z R q b f r)(p:Pt)(x:(p=.p s/\w="put")\/(p=.c s/\w="cut"))(W:s.length<=100000)(T:r.1.length<=100000)(Q:r.2.1.length<=100000)(P:q.length<=100000)(k:∀g M U,lP H g R M U (bz (f,r) p).1 (bz (f,r) p).2->M.length<=q.length+1->D.nx [some<|.r a,some<|.r R,some<|.s w,some<|.s s,F,C,B,A,y] g):
  az (aV K E) [.i (.p .NotEq (.v 3) (.c (.s ""))) [.i (.p .Gt (.i (.i (.v 1) (.N (.c (.i 1)))) (.c (.i 2))) (.c (.i 0))) [.d (.a .a (.v 1) [(.L [(.c (.s "")),(.c (.s "")),(.c (.i 0))])])] [],
    .s (.i (.v 1) (.N (.c (.i 1)))) (.t .i [(.p .Eq (.v 2) (.c (.s "cut")))]) (.b .Add (.i (.i (.v 1) (.N (.c (.i 1)))) (.t .i [(.p .Eq (.v 2) (.c (.s "cut")))])) (.v 3))] []] D
   [some<|.r a,some<|.r R,some<|.s w,some<|.s s,F,C,B,A,y] Z:=by
 refine⟨_,O,_,O,du (λh=>?_)<|λh=>?_⟩;have u:s≠"":=by lia
 refine pQ _ O (.inl (r3 _ _ _ _ O O (ax.of S.lst) (yH _ _) (.inl ⟨_,_,_,_,O,O,ax.of S.last,O,trivial,_,O,?_⟩)));have l:∀n:Nat,n<=100000->n+s.length<=sizeLine:=λn P=>cE ba;have I:("":Str).length=0:=O;refine du (λh=>?_)<|λh=>?_;have o:=IR h;refine tH _ O (.inl (uJ O _ (ax.of S.lst))) sq (λt G=>qH _ (by rw[aw (aH S.lst G)];exact S.lst) (bV (by rw[Yy,Z0];lia)) ?_);have J:=S.grow (r':=((("":Str),("":Str),0):Zk)) G;rcases x with⟨rfl,rfl⟩|⟨rfl,rfl⟩
 have j:bz (f,r) (.p s)=(f++[r],((("":Str)++s,("":Str),0):Zk)):=by show(if s="" then _ else if 0<r.2.2 then _ else _)=_;rw[Fk u,Fr o]
 rw[j] at k;exact Cj J 0 (X9 _) O "" O O (l _ (by lia)) λg m=>k g _ t m am;have j:bz (f,r) (.c s)=(f++[r],((("":Str),("":Str)++s,0):Zk)):=by show(if s="" then _ else if 0<r.2.2 then _ else _)=_;rw[Fk u,Fr o]
 rw[j] at k;exact Cj J 1 (Zf _) O "" O O (l _ (I▸nE _)) λg m=>k g _ t m am;have o:=λz=>h (Y4 z);rcases x with⟨rfl,rfl⟩|⟨rfl,rfl⟩
 have j:bz (f,r) (.p s)=(f,(r.1++s,r.2.1,r.2.2)):=by show(if s="" then _ else if 0<r.2.2 then _ else _)=_;rw[Fk u,Fk o]
 rw[j] at k;exact Cj S 0 (X9 _) O r.1 O O (l _ T) λg m=>k g _ b m (Y5 _);have j:bz (f,r) (.c s)=(f,(r.1,r.2.1++s,r.2.2)):=by show(if s="" then _ else if 0<r.2.2 then _ else _)=_;rw[Fk u,Fk o]
 rw[j] at k;exact Cj S 1 (Zf _) O r.2.1 O O (l _ Q) λg m=>k g _ b m (Y5 _);have e:s="":=by lia
 have j:bz (f,r) p=(f,r):=by
  rcases x with⟨rfl,rfl⟩|⟨rfl,rfl⟩
  show(if s="" then _ else _)=_;rw[Fr e];show(if s="" then _ else _)=_;rw[Fr e]
 rw[j] at k;exact k Z q b S (Y5 _)
theorem mJ(x y:Str):(x++y).length=x.length+y.length:=by rw[YN,Jn,Yy,<-YN,<-YN]
theorem ag3(e:sB)(r:Zk)(p:Pt)(n:Nat)(b:r.1.length<=n)(h:r.2.1.length<=n):(bz (e,r) p).2.1.length<=n+bZ p/\(bz (e,r) p).2.2.1.length<=n+bZ p:=by
 have a:("":Str).length=0:=O;cases p with
 |k m=>exact⟨by exact b,by exact h⟩
 |p s=>
  show(if s="" then (e,r) else if 0<r.2.2 then (e++[r],((("":Str)++s,("":Str),0):Zk)) else (e,(r.1++s,r.2.1,r.2.2))).2.1.length<=n+s.length/\
   (if s="" then (e,r) else if 0<r.2.2 then (e++[r],((("":Str)++s,("":Str),0):Zk)) else (e,(r.1++s,r.2.1,r.2.2))).2.2.1.length<=n+s.length
  split;exact⟨(nS b),(nS h)⟩;split;exact⟨by rw[mJ];exact j2 (nE _) _,ba⟩;exact⟨by rw[mJ];exact j2 b _,(nS h)⟩
 |c s=>
  show(if s="" then (e,r) else if 0<r.2.2 then (e++[r],((("":Str),("":Str)++s,0):Zk)) else (e,(r.1,r.2.1++s,r.2.2))).2.1.length<=n+s.length/\
   (if s="" then (e,r) else if 0<r.2.2 then (e++[r],((("":Str),("":Str)++s,0):Zk)) else (e,(r.1,r.2.1++s,r.2.2))).2.2.1.length<=n+s.length
  split;exact⟨(nS b),(nS h)⟩;split;exact⟨ba,by rw[mJ];exact j2 (nE _) _⟩;exact⟨(nS b),by rw[mJ];exact j2 h _⟩
theorem Sa(h:dc u.K op x v H Q):af u (.c v) J H λy Z=>dc u.K op x y Z Q:=h
theorem Sb{K:Frag}{y:V}(h:nK x y=true)(q:Q (.b<|true ^^ decide (x=y)) H):dc K .NotEq x y H Q:=by
 show oX true x y H Q;unfold oX;rw[h];exact q
theorem ag4{K:Frag}{l:z4}{r:Zk}(U:I l=some (.l [.r t1,.r t2,.r t3]))(h1:I t1=some (.t [.s "put",.s r.1]))(h2:I t2=some (.t [.s "cut",.s r.2.1]))(X:I t3=some (.t [.s "keep",.i r.2.2]))(H:J[8]?=some (some<|.r l))(k:∀p Y,I p=none->aC I Y (fj r)->Y.length<=3->Q (.r p) (fy I p<|.l Y)):
  af (aV K E) (.C none [] .l [.v 8] (some<|.d [(.p .NotEq (.i (.v 0)<|.c<|.i 1)<|.c<|.s ""),(.p .NotEq (.i (.v 0)<|.c<|.i 1)<|.c<|.i 0)])<|.v 0) J I Q:=by
 have D:ax K I l [.r t1,.r t2,.r t3]:=ax.of U
 let f:Nat->List Pt:=λi=>match i with| 0=>[]| 1=>Yp .p r.1| 2=>Yp .p r.1++Yp .c r.2.1|_=>fj r
 refine uK _ H l O (qX _ D) ⟨λi m Y Z=>m=3 - i/\i<=3/\Z=I/\aC I Y (f i)/\Y.length<=i,tH _ O (nE _) O ⟨.nil,Yw _⟩,?_⟩;rintro i m Y Z ⟨rfl,hi,rfl,B,GV⟩;have g:Y.length<sizeLine:=bV ba;have N:∀(t:z4)(p:Pt)(j:Nat),Z t=some (.t [.s p.word,p.val])->i=j->j<3->(f (j+1)=f j++[p]/\p.val≠ .s ""/\p.val≠ .i 0\/f (j+1)=f j/\(p.val=.s ""\/p.val=.i 0))->
   (∃s,p.val=.s s)\/(∃n,p.val=.i n)->
   k_ (By (aV K E).calm<|some<|.d [(.p .NotEq (.i (.v 0)<|.c<|.i 1)<|.c<|.s ""),(.p .NotEq (.i (.v 0)<|.c<|.i 1)<|.c<|.i 0)]) ([V.r t].map some++cN J []) Z λb R=>
    if b=true then af (aV K E).calm (.v 0) ([V.r t].map some++cN J []) R λy H6=>Y.length<sizeLine/\∃q,q<3 - i/\q=3 - (i+1)/\i+1<=3/\H6=Z/\aC Z (Y++[y]) (f<|i+1)/\(Y++[y]).length<=i+1
    else ∃q,q<3 - i/\q=3 - (i+1)/\i+1<=3/\R=Z/\aC Z Y (f<|i+1)/\Y.length<=i+1:=by
  intro t p j L ej hj M h;subst ej;have G:nK p.val (.s "")=true:=by rcases h with⟨s,e⟩|⟨n,e⟩ <;>rw[e] <;>rfl
  have F:nK p.val (.i 0)=true:=by rcases h with⟨s,e⟩|⟨n,e⟩ <;>rw[e] <;>rfl
  refine pQ _ O (.inr<|.inl ⟨_,_,_,_,O,O,aF.of L,O,Sa<|Sb G ⟨_,O,?_⟩⟩);by_cases A:p.val=.s "";rw[Y4 A];rcases M with⟨_,z,_⟩|⟨e,_⟩
  exact absurd A z;exact tH (3 - (i+1)) (by omega) O (ZV hj) ⟨O,by rw[e];exact B,(YS GV)⟩;rw[XH A];refine pQ _ O (.inr<|.inl ⟨_,_,_,_,O,O,aF.of L,O,Sa<|Sb F ⟨_,O,?_⟩⟩);by_cases w:p.val=.i 0;rw[Y4 w];rcases M with⟨_,_,z⟩|⟨e,_⟩
  exact absurd w z;exact tH (3 - (i+1)) ba O (ZV hj) ⟨O,by rw[e];exact B,(YS GV)⟩;rw[XH w];rcases M with⟨e,_,_⟩|⟨_,z⟩
  refine tI _ O g (3 - (i+1)) ba ⟨O,(ZV hj),O,?_,by simp;exact GV⟩;rw[e];exact aC.snoc B (pQ t O L);rcases z with z|z
  exact absurd z A;exact absurd z w
 have P:∀(a:Str->Pt)(x:Str)(l:List Pt),(a x).val=.s x->(l++Yp a x=l++[a x]/\(a x).val≠ .s ""/\(a x).val≠ .i 0\/l++Yp a x=l/\((a x).val=.s ""\/(a x).val=.i 0)):=by
  intro a x l h;unfold Yp;by_cases e:x="";rw[Fr e];exact .inr ⟨am,.inl (by rw[h,e])⟩;rw[Fk e];exact .inl ⟨O,by lia,by lia⟩
 by_cases aR:i<3;refine .inr ⟨q9 _ ([V.r t1,V.r t2,V.r t3][i]) D (by simp[aR]),?_⟩;rintro x H3 ⟨rfl,S⟩;have W:=S _ D;have:i=0\/i=1\/i=2:=by lia
 rcases this with rfl|rfl|rfl
 have u:x=.r t1:=by simpa using W.symm
 subst u;exact N t1 (.p r.1) 0 h1 O aR (P .p r.1 [] O)<|.inl ⟨_,O⟩;have u:x=.r t2:=by simpa using W.symm
 subst u;exact N t2 (.c r.2.1) 1 h2 O aR (P .c r.2.1 _ O)<|.inl ⟨_,O⟩;have u:x=.r t3:=by simpa using W.symm
 subst u;refine N t3 (.k r.2.2) 2 X O aR ?_<|.inr ⟨_,O⟩;by_cases e:r.2.2=0;refine .inr ⟨?_,.inr (by show V.i r.2.2=_;rw[e])⟩;show fj r=Yp .p r.1++Yp .c r.2.1;unfold fj;rw[Fr e,Yh];refine .inl ⟨?_,?_,?_⟩;show fj r=Yp .p r.1++Yp .c r.2.1++[.k r.2.2];unfold fj;rw[Fk e];intro z;have o:=z;cases o;intro z;have o:V.i r.2.2=V.i 0:=z;injection o with o
 exact e o;have e_:i=3:=Yk hi (Zv aR);subst e_;refine .inl ⟨pQ _ D am,λp T=>?_⟩;exact k p Y T B GV
theorem Ia{K:Frag}(W:bi)(H:Hp)(Q:VK)(E:XK)(h:pK W H Q E):az (aV K E) OP {nx:=λ_ B=>Q .a B,r:=Q} (Y2 OO W) H:=by
 obtain⟨a,U,g,rfl,ha,cP,hl,ht,k⟩:=h;have k':=FS cP;refine⟨sq,λP GW=>⟨jM,λR hR=>?_⟩⟩;have Se:P≠R:=λz=>by rw[<-z,av] at hR;cases hR
 have fR:H R=none:=(Yb GW).free hR;have S0:lP H (fy (fy H P<|.l [.s "",.s "",.i 0]) R<|.l [.r P]) R [] P [] (("","",0):Zk):=
  {same:=(Yb GW).trans (Yb hR),lst:=av,fr:=fR,a:=.nil,last:=(by rw[aw Se,av];rfl),fb:=GW,bL:=(λv hv=>by cases hv),ne:=Se}
 refine uK _ O a O (qX _ (ax.of (S0.same _ _ ha))) (jk (K:=K) (a:=a) (xs:=U) (λi J Z=>mR λT v m b d r=>x6 (J=[some (.r a),some (.r R),T,v,none,none,none,none,none]) (lP H Z R m b d r) ((g.take i).foldl bz ([],(("","",0):Zk))=(d,r)) (m.length<=i) (r.1.length<=ay (g.take i)) (r.2.1.length<=ay (g.take i)))
 ⟨none,none,[],P,[],_,O,S0,O,Yw _,nE _,nE _⟩ (by rintro i J Z _ ⟨_,_,_,_,_,_,_,S,_,_,_,_⟩;exact ax.of (S.same _ _ ha)) ?_ ?_)
 rintro i x J Z X ⟨T,v,m,b,d,r,rfl,S,ef,l1,l2,l3⟩;obtain⟨pt,jz,mH⟩:=cP.get X;obtain⟨t,rfl,hb⟩:=mH.mono (aQ S.same);have e9:i<g.length:=(ZT.mp jz).1;have jX:(g.take<|i+1).foldl bz ([],(("","",0):Zk))=bz (d,r) pt:=by rw[RZ jz,ef]
 have et:=RY jz;have tb:=GN g i;have l':=GN g (i+1);have sl:=ag3 d r pt _ l2 l3;refine tA t _ O (.inl<|aF.of hb) O _ _ O _ _ O O ?_;refine⟨_,O,_,O,?_⟩;cases pt with
 |k n=>
  refine pQ _ O (.inl (r3 _ _ _ _ O O (ax.of S.lst) (yH _ _) (.inl (r3 _ _ _ _ O O (ax.of S.last) O ⟨_,O,_,O,.inl (r3 _ _ _ _ O O (ax.of S.lst) (yH _ _) ⟨b,mI r,2,2,O,O,S.last,O,?_⟩)⟩))));refine⟨_,_,m,b,d,(r.1,r.2.1,r.2.2+n),O,S.set (r':=(r.1,r.2.1,r.2.2+n)),jX,(YS l1),?_,?_⟩;show r.1.length<=_;lia;show r.2.1.length<=_;lia
 |p s=>
  refine R_ S (.p s) (.inl ⟨O,O⟩) ?_ (oT l2 (oT tb ht)) (oT l3 (oT tb ht)) ba λI fM b' S' a'=>⟨_,_,fM,b',_,_,O,S',jX,(oT a' (j2 l1 _)),ba,ba⟩;have:bZ (.p s)=s.length:=O;lia
 |c s=>
  refine R_ S (.c s) (.inr ⟨O,O⟩) ?_ (oT l2 (oT tb ht)) (oT l3 (oT tb ht)) ba λI fM b' S' a'=>⟨_,_,fM,b',_,_,O,S',jX,(oT a' (j2 l1 _)),ba,ba⟩;have:bZ (.c s)=s.length:=O;lia
 rintro J Hm ⟨T,v,m,b,d,r,rfl,S,ef,l1,l2,l3⟩;have e:g.take U.length=g:=RP ba;rw[e] at ef;have j':wd g=d++[r]:=by
  show(g.foldl bz ([],(("","",0):Zk))).1++[(g.foldl bz ([],(("","",0):Zk))).2]=_;rw[ef]
 have Sf:tU Hm (m++[.r b]) (wd g):=by rw[j'];exact IO S.a (pQ b O S.last)
 have yI:=FS Sf;refine⟨nE _,λf0 GX=>?_⟩;refine uK _ O R O (qX _ (ax.of (Yb GX _ _ S.lst))) (jk (K:=K) (a:=R) (xs:=m++[.r b]) (λi J Z=>mR λf Y p5 p6 p7 p8=>x6 (J=[some (.r a),some (.r R),T,v,some (.r f),p5,p6,p7,p8]) (aA Hm Z) (H f=none) (Z f=some (.l Y)) (aC Z Y (c7 ((wd g).take i))) (Y.length<=3*i))
 ⟨f0,[],none,none,none,none,O,Yb GX,S.same.free GX,av,.nil,Yw _⟩ (by rintro i J Z _ ⟨_,_,_,_,_,_,_,D,_,_,_,_⟩;exact ax.of (D _ _ S.lst)) ?_ ?_)
 rintro i x J Z X ⟨f,Y,p5,p6,p7,p8,rfl,D,ff,GY,gu,GV⟩;obtain⟨j,i',w,rfl,hw⟩:=Sf.get X;have d':=D _ _ hw;have e9:i< (m++[V.r b]).length:=(ZT.mp X).1;have m':m.length<=100000:=by lia
 have Sh:i<=100000:=by simp only[Yy,Z0] at e9;exact oT (XQ e9) m'
 refine qM w _ O (.inr<|ax.of d') O ⟨_,_,O,_,_,O,_,_,O,O,?_⟩;refine qH _ O cI (λA gU=>qH _ O cI (λy fO=>qH _ O cI (λu M=> ⟨sq,λl F=>?_⟩)));have c1:A≠y:=λz=>by rw[<-z,av] at fO;cases fO
 have Sj:A≠u:=λz=>by rw[<-z,aw c1,av] at M;cases M
 have Sk:y≠u:=λz=>by rw[<-z,av] at M;cases M
 have g':A≠l:=λz=>by rw[<-z,aw Sj,aw c1,av] at F;cases F
 have f':y≠l:=λz=>by rw[<-z,aw Sk,av] at F;cases F
 have e':u≠l:=λz=>by rw[<-z,av] at F;cases F
 have L:=((Yb (o:=.t [.s "put",.s j.1]) gU).trans<|Yb (o:=.t [.s "cut",.s j.2.1]) fO).trans ((Yb (o:=.t [.s "keep",.i j.2.2]) M).trans<|Yb (o:=.l [.r A,.r y,.r u]) F);refine pQ _ O (ag4 (r:=j) (l:=l) (t1:=A) (t2:=y) (t3:=u) av (by rw[aw g',aw Sj,aw c1,av]) (by rw[aw f',aw Sk,av]) (by rw[aw e',av]) O λp C N Sl GZ=>?_);generalize x9:fy (fy (fy (fy Z A<|.t [.s "put",.s j.1]) y<|.t [.s "cut",.s j.2.1]) u<|.t [.s "keep",.i j.2.2]) l (.l [.r A,.r y,.r u])=I at L N Sl;have Sm:=L _ _ GY;have c':fy I p (.l C) f=some (.l Y):=by rw[aw<|aH Sm N];exact Sm
 refine .inl (r4 f p Y C O O c' av (cE ba) (λq hq=>?_));have s5:aA Hm (fy (fy I p<|.l C) q<|.l<|Y++C):=D.trans (L.trans<|(Yb N).trans<|Yb hq);have t5:dn I (fy (fy I p<|.l C) q<|.l<|Y++C):=aQ ((Yb N).trans<|Yb hq);refine⟨q,Y++C,_,_,_,_,O,s5,S.same.free<|(D.trans<|L.trans<|Yb N).free hq,av,?_,by rw[Yy];exact YC GV GZ⟩;rw[ag2 i'];have h':∀{W:bi}{as:List Pt}{ws:bi}{bs:List Pt}{G:Hp},aC G W as->aC G ws bs->aC G (W++ws) (as++bs):=λ{W as ws bs G} h1 h2=>by
  induction h1 with
  |nil=>exact h2
  |cons a _ ih=>exact .cons a ih
 exact h' ((gu.mono<|aQ L).mono t5)<|Sl.mono t5;rintro J Z ⟨f,Y,p5,p6,p7,p8,rfl,D,ff,GY,gu,GV⟩;have e2:(wd g).take (m++[V.r b]).length=wd g:=RP ba;rw[e2] at gu;exact pQ _ O (k f Z Y (S.same.trans D) ff GY gu)
theorem Ck(a b:sB):c7 (a++b)=c7 a++c7 b:=by simp[c7]
theorem yJ(r:Zk):c7 [r]=fj r:=by simp[c7]
theorem G0{r:Zk}(h:0<r.2.2):fj r=Yp .p r.1++Yp .c r.2.1++[.k r.2.2]:=by
 unfold fj;rw[Fk (Int.ne_of_gt h)]
theorem Sn{r:Zk}(h:r.2.2=0):fj r=Yp .p r.1++Yp .c r.2.1:=by
 unfold fj;rw[Fr h,Yh]
def So:Pt->Cl|.k _=>true|_=>false
theorem ahf(h:∀p,ch.getLast?=some p->So p=false):fg ch n=ch++[.k n]:=by
 unfold fg;split;rename_i m e;have:=h _ e;cases this;rfl
theorem ahg(c:List Pt)(m n:Int):fg (c++[.k m]) n=c++[.k<|n+m]:=by
 unfold fg;simp
theorem XD(m:Str->Pt):Yp m ""=[]:=Fr O
theorem lQ{x:Str}(h:x≠""):Yp m x=[m x]:=Fk h
theorem ahh{r:Zk}(h:e≠ []->r.1≠""\/r.2.1≠""):∀p,(c7 e++Yp .p r.1++Yp .c r.2.1).getLast?=some p->So p=false:=by
 intro p a;by_cases b:r.2.1="";rw[b,XD] at a;by_cases d:r.1="";rw[d,XD] at a;by_cases o:e=[];rw[o] at a;simp[c7] at a;rcases h o with z|z
 cases z d;cases z b;rw[lQ d] at a;simp at a;subst a;rfl;rw[lQ b] at a;simp at a;subst a;rfl
def XZ(s:NS)(t:sB×Zk):Prop:=
 (∀x∈t.1,0<x.2.2)/\(t.1≠ []->t.2.1≠""\/t.2.2.1≠"")/\0<=t.2.2.2/\
  ((t.2.2.2=0/\s.1=c7 t.1/\o7 s.2.1=t.2.1/\o7 s.2.2=t.2.2.1)\/(0<t.2.2.2/\s.1=c7 (t.1++[t.2])/\o7 s.2.1=""/\o7 s.2.2=""))
theorem rf(a:bn)(s:Str):o7 (a++[s])=o7 a++s:=by rw[GJ,GK]
theorem Im(R:XZ s t)(G:gT p):XZ (dJ s p) (bz t p):=by
 obtain⟨m,u,d⟩:=s;obtain⟨a,r⟩:=t;obtain⟨l,w,v,j⟩:=Yq R;simp only at l w v j;cases p with
 |k n=>
  have I:0<=n:=G;by_cases F:0<n;have E:dJ (m,u,d) (.k n)=(fg (d6 m u d) n,[],[]):=Fr F;rw[E];refine⟨l,w,by show 0<=r.2.2+n;lia,.inr ⟨by show 0<r.2.2+n;lia,?_,O,O⟩⟩;show fg (d6 m u d) n=c7 (a++[(r.1,r.2.1,r.2.2+n)]);rw[Ck,yJ,G0 (by show 0<r.2.2+n;lia)];rcases j with⟨f,b,i,g⟩|⟨f,b,i,g⟩
  have D:d6 m u d=c7 a++Yp .p r.1++Yp .c r.2.1:=by unfold d6;rw[b,i,g]
  rw[D,ahf<|ahh w];rw[f,ZD];simp;have D:d6 m u d=c7 a++(Yp .p r.1++Yp .c r.2.1)++[.k r.2.2]:=by
   unfold d6;rw[b,i,g,XD,XD,Yh,Yh,Ck,yJ,G0 f];simp
  rw[D,ahg];rw[Int.add_comm n];simp;have H:n=0:=by lia
  have E:dJ (m,u,d) (.k n)=(m,u,d):=Fk F;have b:bz (a,r) (.k n)=(a,r):=by show(a,(r.1,r.2.1,r.2.2+n))=_;rw[H,Int.add_zero]
  rw[E,b];exact⟨l,w,v,j⟩
 |p x=>
  show XZ (m,u++[x],d) (bz (a,r)<|.p x);by_cases h:x="";have b:bz (a,r) (.p x)=(a,r):=Fr h;rw[b];refine⟨l,w,v,?_⟩;have e:o7 (u++[x])=o7 u:=by rw[rf,h];exact RQ _
  show _\/_;simp only[e];exact j;by_cases o:0<r.2.2;have b:bz (a,r) (.p x)=(a++[r],((("":Str)++x,("":Str),0):Zk)):=by show(if x="" then _ else if 0<r.2.2 then _ else _)=_;rw[Fk h,Fr o]
  rw[b];rcases j with⟨f,Y⟩|⟨Y,q,i,g⟩
  lia;refine⟨λy C=>?_,λY=>.inl (by rw[v8];exact h),YG _,.inl ⟨O,q,?_,g⟩⟩;rcases R8.mp C with z|z
  exact l y z;rw[ZF.mp z];exact o;rw[rf,i];have b:bz (a,r) (.p x)=(a,(r.1++x,r.2.1,r.2.2)):=by show(if x="" then _ else if 0<r.2.2 then _ else _)=_;rw[Fk h,Fk o]
  rw[b];rcases j with⟨f,q,i,g⟩|⟨f,Y⟩
  refine⟨l,λY=>.inl ?_,v,.inl ⟨f,q,?_,g⟩⟩;intro z;have:=FM Str.length z;rw[mJ] at this;have B:("":Str).length=0:=O;rw[B] at this;have A:x.length=0:=by lia
  exact h<|iX (by rw[YN] at A;rw[CA.mp A];rfl);show o7 (u++[x])=_;rw[rf,i];exact (zZ _ (Dx f (Ep o))).elim
 |c x=>
  show XZ (m,u,d++[x]) (bz (a,r)<|.c x);by_cases h:x="";have b:bz (a,r) (.c x)=(a,r):=Fr h;rw[b];refine⟨l,w,v,?_⟩;have e:o7 (d++[x])=o7 d:=by rw[rf,h];exact RQ _
  show _\/_;simp only[e];exact j;by_cases o:0<r.2.2;have b:bz (a,r) (.c x)=(a++[r],((("":Str),("":Str)++x,0):Zk)):=by show(if x="" then _ else if 0<r.2.2 then _ else _)=_;rw[Fk h,Fr o]
  rw[b];rcases j with⟨f,Y⟩|⟨Y,q,i,g⟩
  lia;refine⟨λy C=>?_,λY=>.inr (by rw[v8];exact h),YG _,.inl ⟨O,q,i,?_⟩⟩;rcases R8.mp C with z|z
  exact l y z;rw[ZF.mp z];exact o;show o7 (d++[x])=_;rw[rf,g];have b:bz (a,r) (.c x)=(a,(r.1,r.2.1++x,r.2.2)):=by show(if x="" then _ else if 0<r.2.2 then _ else _)=_;rw[Fk h,Fk o]
  rw[b];rcases j with⟨f,q,i,g⟩|⟨f,Y⟩
  refine⟨l,λY=>.inr ?_,v,.inl ⟨f,q,i,?_⟩⟩;intro z;have:=FM Str.length z;rw[mJ] at this;have B:("":Str).length=0:=O;rw[B] at this;have A:x.length=0:=by lia
  exact h<|iX (by rw[YN] at A;rw[CA.mp A];rfl);show o7 (d++[x])=_;rw[rf,g];exact (zZ _ (Dx f (Ep o))).elim
theorem Sq:∀(a:List Pt)(s:NS)(t:sB×Zk),XZ s t->(∀p∈a,gT p)->XZ (a.foldl dJ s) (a.foldl bz t)
 |[],s,t,R,_=>R
 |p::r,s,t,R,h=>Sq r _ _ (Im R<|h p YL) λq b=>h q (Yl _ b)
theorem ahj(s:List Pt)(h:∀p∈s,gT p):XZ (s.foldl dJ ([],[],[])) (s.foldl bz ([],(("","",0):Zk))):=
 Sq s _ _ ⟨nofun,λz=>absurd O z,YG _,.inl ⟨O,O,O,O⟩⟩ h
theorem yK(s:List Pt)(h:∀p∈s,gT p):ku s=iY s:=by
 obtain⟨f,d,c,r⟩:=Yq (ahj s h);show d6 _ _ _=c7 (_++[_]);unfold d6;rcases r with⟨k,e,b,a⟩|⟨k,e,b,a⟩
 rw[e,b,a,Ck,yJ,Sn k];simp;rw[e,b,a,XD,XD];simp
def sg(x:Str):Prop:= ∀c∈x.cps.toList,SG.cps.contains c=true
theorem Cm(a:sg x)(b:sg y):sg (x++y):=λc h=>by
 rw[Jn] at h;rcases R8.mp h with z|z
 exact a c z;exact b c z
theorem rj:sg "":=nofun
def mK(r:Zk):Nat:=r.1.length+r.2.1.length
structure RI(n:Nat)(t:sB×Zk):Prop where
 pos:∀x∈t.1,0<x.2.2
 nn:0<=t.2.2.2
 s1:∀x∈t.1++[t.2],sg x.1/\sg x.2.1
 tl:∀x∈ (t.1++[t.2]).tail,x.1≠""\/x.2.1≠""
 ay:((t.1++[t.2]).map mK).sum=n
theorem Sr{x:Str}(h:x≠""):x++y≠"":=λz=>by
 have:=FM Str.length z;rw[mJ] at this;have l:("":Str).length=0:=O;have r:x.length=0:=by lia
 exact h<|iX (by rw[CA.mp r];rfl)
theorem Ss{c:Type}(l:List c)(a:c):(l++[a]).tail=if l=[] then [] else l.tail++[a]:=by
 cases l with
 |nil=>rfl
 |cons b r=>simp
theorem G1{r a:Zk}(I:RI n (p,r))(e:0<=a.2.2)(d:sg a.1/\sg a.2.1)(c:(r.1≠""->a.1≠"")/\(r.2.1≠""->a.2.1≠""))(f:mK a=mK r+m):RI (n+m) (p,a):=by
 refine⟨I.pos,e,λx h=>?_,λx h=>?_,?_⟩;rcases R8.mp h with z|z
 exact I.s1 x (ZX _ z);rw[ZF.mp z];exact d;have t:=I.tl;rw[Ss] at h t;by_cases b:p=[];rw[Fr b] at h;cases h;rw[Fk b] at h t;rcases R8.mp h with z|z
 exact t x (ZX _ z);rw[ZF.mp z];rcases t r am with q|q
 exact .inl (c.1 q);exact .inr (c.2 q);have:=I.ay;simp at this⊢;lia
theorem Su{r a:Zk}(I:RI n (p,r))(k:0<r.2.2)(d:0<=a.2.2)(c:sg a.1/\sg a.2.1)(b:a.1≠""\/a.2.1≠"")(e:mK a=m):RI (n+m) (p++[r],a):=by
 refine⟨λx h=>?_,d,λx h=>?_,λx h=>?_,?_⟩;rcases R8.mp h with z|z
 exact I.pos x z;rw[ZF.mp z];exact k;rcases R8.mp h with z|z
 exact I.s1 x z;rw[ZF.mp z];exact c;rw[Ss,Fk am] at h;rcases R8.mp h with z|z
 exact I.tl x z;rw[ZF.mp z];exact b;have:=I.ay;simp at this⊢;lia
theorem ahk(I:RI n t)(d:gT p):RI (n+bZ p) (bz t p):=by
 obtain⟨e,r⟩:=t;have s:=I.s1 r am;have S:=I.nn;have i:("":Str).length=0:=O;cases p with
 |k m=>exact G1 I (by have:0<=m:=d;lia) s ⟨λz=>z,λz=>z⟩ O
 |p x=>
  have g:=d.1.2;by_cases h:x="";have a:bz (e,r) (.p x)=(e,r):=Fr h;have f:bZ (.p x)=0:=h▸rfl;rw[a,f];exact I;by_cases b:0<r.2.2;have a:bz (e,r) (.p x)=(e++[r],((("":Str)++x,("":Str),0):Zk)):=by show(if x="" then _ else if 0<r.2.2 then _ else _)=_;rw[Fk h,Fr b]
  rw[a];refine Su I b (YG _) ⟨Cm rj g,rj⟩ (.inl (by rw[v8];exact h)) ?_;show(("":Str)++x).length+("":Str).length=x.length;rw[mJ];exact Ym _;have a:bz (e,r) (.p x)=(e,(r.1++x,r.2.1,r.2.2)):=by show(if x="" then _ else if 0<r.2.2 then _ else _)=_;rw[Fk h,Fk b]
  rw[a];refine G1 I S ⟨Cm s.1 g,s.2⟩ ⟨Sr,λz=>z⟩ ?_;show(r.1++x).length+r.2.1.length=r.1.length+r.2.1.length+x.length;rw[mJ];lia
 |c x=>
  have g:=d.1.2;by_cases h:x="";have a:bz (e,r) (.c x)=(e,r):=Fr h;have f:bZ (.c x)=0:=h▸rfl;rw[a,f];exact I;by_cases b:0<r.2.2;have a:bz (e,r) (.c x)=(e++[r],((("":Str),("":Str)++x,0):Zk)):=by show(if x="" then _ else if 0<r.2.2 then _ else _)=_;rw[Fk h,Fr b]
  rw[a];refine Su I b (YG _) ⟨rj,Cm rj g⟩ (.inr (by rw[v8];exact h)) ?_;show("":Str).length+(("":Str)++x).length=x.length;rw[mJ];lia;have a:bz (e,r) (.c x)=(e,(r.1,r.2.1++x,r.2.2)):=by show(if x="" then _ else if 0<r.2.2 then _ else _)=_;rw[Fk h,Fk b]
  rw[a];refine G1 I S ⟨s.1,Cm s.2 g⟩ ⟨λz=>z,Sr⟩ ?_;show r.1.length+(r.2.1++x).length=r.1.length+r.2.1.length+x.length;rw[mJ];lia
theorem G3:∀(s:List Pt)(n:Nat)(t:sB×Zk),RI n t->(∀p∈s,gT p)->RI (n+ay s) (s.foldl bz t)
 |[],n,t,I,_=>I
 |p::r,n,t,I,h=>by
  have:=G3 r _ _ (ahk I<|h p YL) λq a=>h q (Yl _ a);have e:n+bZ p+ay r=n+ay (p::r):=by exact zbB _ _ _
  rw[e] at this;exact this
theorem Sw{r:Zk}{a:Str}(d:a=""\/(a="keep"/\(r.1≠""\/r.2.1≠"")))(k:0<r.2.2)(h:Ze "keep" rest=true):Ze a (fj r++rest)=true:=by
 rw[G0 k];by_cases c:r.1="" <;>by_cases b:r.2.1=""
 rw[c,b];rcases d with rfl|⟨Y,z|z⟩
 exact h;cases z c;cases z b;rw[c,lQ b];rcases d with rfl|⟨rfl,Y⟩ <;>exact h
 rw[b,lQ c];rcases d with rfl|⟨rfl,Y⟩ <;>exact h
 rw[lQ c,lQ b];rcases d with rfl|⟨rfl,Y⟩ <;>exact h
theorem chain_last{r:Zk}{a:Str}(h:a=""\/(a="keep"/\(r.1≠""\/r.2.1≠"")))(k:0<=r.2.2):Ze a (fj r)=true:=by
 by_cases d:0<r.2.2;have:=Sw (rest:=[]) h d O;rw[Yh] at this;exact this;rw[Sn ba];by_cases c:r.1="" <;>by_cases b:r.2.1=""
 rw[c,b];rfl;rw[c,lQ b];rcases h with rfl|⟨rfl,Y⟩ <;>rfl
 rw[b,lQ c];rcases h with rfl|⟨rfl,Y⟩ <;>rfl
 rw[lQ c,lQ b];rcases h with rfl|⟨rfl,Y⟩ <;>rfl
theorem Sx:∀(p:sB)(r:Zk)(a:Str),(∀x∈p,0<x.2.2)->0<=r.2.2->(a=""\/(a="keep"/\∀x,(p++[r]).head?=some x->x.1≠""\/x.2.1≠""))->(∀x∈ (p++[r]).tail,x.1≠""\/x.2.1≠"")->
  Ze a (c7<|p++[r])=true:=by
 intro p;induction p with
 |nil=>
  intro r a _ k b _;rw[Cs,yJ];exact chain_last (b.imp id λ⟨x,y⟩=>⟨x,y r O⟩) k
 |cons q p i=>
  intro r a c k b t;exact Sw (b.imp id λ⟨x,y⟩=>⟨x,y q O⟩) (c q YL) (i r "keep" (λx h=>c x<|Yl _ h) k (.inr ⟨O,λx h=>t x (List.mem_of_mem_head? h)⟩) λx h=>t x (List.mem_of_mem_tail h))
theorem ahl{r:Zk}(s:sg r.1/\sg r.2.1)(l:mK r<=1000000)(k:0<=r.2.2)(h:p∈fj r):a_ p:=by
 unfold fj Yp at h;rcases R8.mp h with h|h
 rcases R8.mp h with h|h
 split at h;cases h;rename_i ne;rw[ZF.mp h];exact⟨⟨(oT (lJ _ _) l),s.1⟩,ne⟩;split at h;cases h;rename_i ne;rw[ZF.mp h];exact⟨⟨(oT (Zs _ _) l),s.2⟩,ne⟩;split at h;cases h;rw[ZF.mp h];show 1<=r.2.2;lia
theorem ahm(r:Zk):ay (fj r)=mK r:=by
 have d:∀(m:Str->Pt)(x:Str),(∀y,bZ (m y)=y.length)->ay (Yp m x)=x.length:=by
  intro m x h;unfold Yp;by_cases e:x="";rw[e];rfl;rw[Fk e];show bZ (m x)+0=_;rw[h,Nat.add_zero]
 have t:∀a b:List Pt,ay (a++b)=ay a+ay b:=λa b=>by simp[ay]
 unfold fj mK;rw[t,t,d .p _ λY=>O,d .c _ λY=>O];split;rfl;rfl
theorem G4:∀s:sB,ay (c7 s)=(s.map mK).sum
 |[]=>O
 |r::s=>by
  have e:c7 (r::s)=fj r++c7 s:=O;have t:∀a b:List Pt,ay (a++b)=ay a+ay b:=λa b=>by simp[ay]
  rw[e,t,ahm,G4 s];rfl
theorem ahn{l:sB}(h:x∈l):mK x<= (l.map mK).sum:=by
 induction l with
 |nil=>cases h
 |cons a l i=>
  rw[ZU,yS];rcases Z5.mp h with rfl|h
  exact lJ _ _;lia
theorem tW(s:List Pt)(h:∀p∈s,gT p)(d:ay s<=100000):Ze "" (iY s)=true/\(∀p∈iY s,a_ p)/\ay (iY s)<=100000:=by
 have I:=G3 s 0 ([],(("","",0):Zk)) ⟨nofun,YG _,(λx a=>by rw[ZF.mp a];exact⟨rj,rj⟩),nofun,O⟩ h;rw[Ym] at I;have e:iY s=c7 ((s.foldl bz ([],(("","",0):Zk))).1++[(s.foldl bz ([],(("","",0):Zk))).2]):=O;rw[e];generalize s.foldl bz ([],(("","",0):Zk))=t at I;refine⟨Sx t.1 t.2 "" I.pos I.nn (.inl O) I.tl,λp b=>?_,by rw[G4,I.ay];exact d⟩;unfold c7 at b;rw[XF] at b;obtain⟨l,f,b⟩:=b;obtain⟨x,a,rfl⟩:=gS.mp f;have c:=ahn a;rw[I.ay] at c;refine ahl (I.s1 x a) ba ?_ b;rcases R8.mp a with z|z
 have:=I.pos x z;exact Int.le_of_lt this;rw[ZF.mp z];exact I.nn
theorem Cn(a:List Pt):(ku a).length<=3*a.length+2:=by
 have g:∀(l:List Pt)(s:NS),(l.foldl dJ s).1.length<=s.1.length+3*l.length:=by
  intro l;induction l with
  |nil=>intro s;simp
  |cons p l i=>
   intro s;have e:=i (dJ s p);have f:(dJ s p).1.length<=s.1.length+3:=by
    obtain⟨h,u,b⟩:=s;cases p with
    |k n=>
     by_cases d:0<n;have j:dJ (h,u,b) (.k n)=(fg (d6 h u b) n,[],[]):=Fr d;have:=Ca h u b;have:=R1 (d6 h u b) n;lia;have j:dJ (h,u,b) (.k n)=(h,u,b):=Fk d;lia
    |p x=>exact lJ _ _
    |c x=>exact lJ _ _
   rw[List.foldl_cons,Zc];lia
 have e:=g a ([],[],[]);simp at e;exact oT (Ca (a.foldl dJ ([],[],[])).1 (a.foldl dJ ([],[],[])).2.1 (a.foldl dJ ([],[],[])).2.2) (j2 e _)
noncomputable def rm:Pt->EQ|.k n=>.int n|.p s=>.str s|.c s=>.str s
def zd(p:Pt):EQ:=.tuple [.str p.word,rm p]
def oo:Pt->Prop|.k _=>True|.p s=>sg s|.c s=>sg s
theorem Sy(h:sg x):PyData.strOk x=true:=by
 have s:∀c,SG.cps.contains c=true->c<0x110000:=by
  have l:SG.cps.toList.all (λc=>decide<|c<0x110000)=true:=O;intro c a;have m:c∈SG.cps.toList:=by simpa using a
  exact IR<|YR.mp l c m
 unfold PyData.strOk;rw[Array.all_eq_true'];intro c a;exact Y4<|s c<|h c (by simpa using a)
theorem aaJ(h:oo p):(zd p).canLay0=true/\(zd p).depth=1:=by
 cases p with
 |k n=>exact⟨(by show(PyData.strOk "keep" && (true && true))=true;decide+kernel),O⟩
 |p s=>
  refine⟨?_,O⟩;show(PyData.strOk "put" && (PyData.strOk s && true))=true;rw[Sy h];decide+kernel
 |c s=>
  refine⟨?_,O⟩;show(PyData.strOk "cut" && (PyData.strOk s && true))=true;rw[Sy h];decide+kernel
theorem Sz:∀(s:List Pt),(∀p∈s,oo p)->PyData.canLayAll0 (s.map zd)=true/\PyData.depthAll (s.map zd)<=1
 |[],_=>⟨O,nE _⟩
 |p::r,h=>by
  obtain⟨a,b⟩:=aaJ (h p YL);obtain⟨c,d⟩:=Sz r λq e=>h q (Yl _ e);refine⟨?_,?_⟩;show((zd p).canLay0 && PyData.canLayAll0 (r.map zd))=true;rw[a,c];rfl;show max (zd p).depth (PyData.depthAll<|r.map zd)<=1;lia
theorem Co{s:List Pt}(h:∀p∈s,oo p):SeqAt.shaped (.list<|s.map zd)=true:=by
 obtain⟨c,d⟩:=Sz s h;unfold SeqAt.shaped;have e:(PyData.list<|s.map zd).canLay0=true:=c;have a:(PyData.list<|s.map zd).depth<=64:=by show PyData.depthAll (s.map zd)+1<=64;lia
 rw[e,Y4 a];rfl
theorem Cp:∀{W:bi}{c:List Pt},aC H W c->IsL H (c.map zd) W:=by
 intro W c h;induction h with
 |nil=>exact O
 |cons h _ i=>
  rename_i v p _ _ _;obtain⟨a,e,h⟩:=h;refine p4 v _ O (p4 a _ e h ⟨.s p.word,[p.val],O,O,p.val,[],O,?_,O⟩) i;cases p<;>rfl
theorem SA{K:Frag}{a:z4}(d:H a=some (.l U))(c:H b=some (.l Y))(x:aC H U s)(y:aC H Y s)(h:∀p∈s,oo p)(q:Q (.b false) H):
  dc K .NotEq (.r a) (.r b) H Q:=by
 refine⟨.list<|s.map zd,.list<|s.map zd,⟨a,U,O,d,Cp x⟩,⟨b,Y,O,c,Cp y⟩,Co h,Co h,?_⟩;rw[SeqAt.eqv_refl _<|Wp<|Co h];exact q
theorem G5(h:a_ p):oo p:=by
 cases p with
 |k n=>trivial
 |p s=>exact h.1.2
 |c s=>exact h.1.2
noncomputable def Pt.Cq:Pt->Pt|.k n=>.k n|.p s=>.c s|.c s=>.p s
abbrev be:=List Pt
def Cr(p:be):be:=p.map Pt.Cq
theorem aho(s:be)(h:∀p∈s,gT p):RI (ay s) (s.foldl bz ([],(("","",0):Zk))):=by
 have I:=G3 s 0 ([],(("","",0):Zk)) ⟨nofun,YG _,(λx a=>by rw[ZF.mp a];exact⟨rj,rj⟩),nofun,O⟩ h
 rwa [Ym] at I
theorem ahp(h:a_ p)(t:bZ p<=100000):gT p:=by
 cases p with
 |k n=>exact Int.le_trans (Vz _) (show(1:Int)<=n from h)
 |p s=>exact⟨h.1,t⟩
 |c s=>exact⟨h.1,t⟩
theorem tX(h:p∈s):bZ p<=ay s:=by
 induction s with
 |nil=>cases h
 |cons q s i=>
  have e:ay (q::s)=bZ q+ay s:=O;rcases Z5.mp h with rfl|h
  lia;lia
theorem SD(h:∀p∈s,a_ p)(t:ay s<=100000):∀p∈s,gT p:=λp a=>ahp (h p a) (oT (tX a) t)
inductive ZS:bv->be->bv->Prop
 |N:ZS [] [] []
 |k {a l r:bv}{n:Int}{b:be}:n=a.length->ZS l b r->ZS (a++l) (.k n::b) (a++r)
 |t {s:Str}{l r:bv}{b:be}:ZS l b r->ZS l (.p s::b) (s.cps.toList++r)
 |C {s:Str}{l r:bv}{b:be}:ZS l b r->ZS (s.cps.toList++l) (.c s::b) r
theorem ZS.Cq(h:ZS l p r):ZS r (Cr p) l:=by
 induction h with
 |N=>exact .N
 |k e Y i=>exact .k e i
 |t Y i=>exact .C i
 |C Y i=>exact .t i
theorem ZS.app(h:ZS l p r)(c:ZS b q r'):ZS (l++b) (p++q) (r++r'):=by
 induction h with
 |N=>exact c
 |k e Y i=>rw[X7,X7];exact .k e i
 |t Y i=>rw[X7];exact .t i
 |C Y i=>rw[X7];exact .C i
theorem ZS.over(h:ZS l b r):(YZ b).sum=l.length:=by
 induction h with
 |N=>rfl
 | @k a l r n b e _ i=>
  have d:YZ (.k n::b)=n::YZ b:=O;rw[d,yS,i,e];simp
 | @t s l r b _ i=>
  have d:YZ (.p s::b)=YZ b:=O;rw[d,i]
 | @C s l r b _ i=>
  have d:YZ (.c s::b)=(s.length:Int)::YZ b:=O;rw[d,yS,i,YN];simp
def tY(r:Zk)(l q:bv):Prop:= ∃k:bv,r.2.2=k.length/\l=r.2.1.cps.toList++k/\q=r.1.cps.toList++k
inductive pM:sB->bv->bv->Prop
 |nil:pM [] [] []
 |snoc {a:sB}{r:Zk}{l q c b:bv}:pM a l q->tY r c b->pM (a++[r]) (l++c) (q++b)
theorem SE:ZS [] (Yp .p s) s.cps.toList:=by
 by_cases h:s="";rw[h];exact .N;rw[lQ h];have:=ZS.t (s:=s) ZS.N
 rwa [Yh] at this
theorem ahq:ZS s.cps.toList (Yp .c s) []:=by
 have:=(SE (s:=s)).Cq;have e:Cr (Yp .p s)=Yp .c s:=by
  unfold Yp;split<;>rfl
 rwa [e] at this
theorem tY.run{r:Zk}(h:tY r l q):ZS l (fj r) q:=by
 obtain⟨k,a,rfl,rfl⟩:=h;have b:ZS k (if r.2.2=0 then [] else [.k r.2.2]) k:=by
  split;have:k=[]:=CA.mp ba;rw[this];exact .N;have:=ZS.k a ZS.N
  rwa [Yh] at this
 have:=((SE (s:=r.1)).app<|ahq (s:=r.2.1)).app b;simpa[fj] using this
theorem pM.run(h:pM rs l q):ZS l (c7 rs) q:=by
 induction h with
 |nil=>exact .N
 |snoc Y a i=>rw[Ck,yJ];exact i.app a.run
def E2:Pt->bv->bv->Prop
 |.k n,l,q=>l=q/\n=l.length
 |.p s,l,q=>l=[]/\q=s.cps.toList
 |.c s,l,q=>l=s.cps.toList/\q=[]
theorem G6{s:be}(h:ZS l (p::s) q):∃d c b a,l=d++c/\q=b++a/\ZS c s a/\
  E2 p d b:=by
 cases h with
 |k e h=>exact r3 _ _ _ _ O O h O e
 |t h=>exact r3 [] _ _ _ O O h O O
 |C h=>exact r3 _ _ [] _ O O h O O
theorem ahr{r:Zk}{j i o:bv}(f:pM pre l q)(d:tY r j g)(m:E2 p i o):
  ∃Z t u v,pM (bz (pre,r) p).1 Z t/\tY (bz (pre,r) p).2 u v/\l++j++i=Z++u/\q++g++o=t++v:=by
 cases p with
 |k n=>
  obtain⟨rfl,rfl⟩:=m;obtain⟨k,b,rfl,rfl⟩:=d;refine tV l q _ _ f (qH (k++i) ?_ O O) (by simp[bz]) (by simp[bz]);show r.2.2+(i.length:Int)=_;rw[b];simp
 |p s=>
  obtain⟨rfl,rfl⟩:=m;by_cases h:s="";have e:bz (pre,r) (.p s)=(pre,r):=by simp only[bz,Fr h]
  rw[e];refine tV l q j g f d am ?_;rw[h];rw[vH];simp;by_cases b:0<r.2.2;have e:bz (pre,r) (.p s)=(pre++[r],((""++s,"",0):Zk)):=by simp only[bz,Fk h,Fr b]
  rw[e];refine tV _ _ [] s.cps.toList (f.snoc d) (qH [] O O ?_) am am;rw[v8];simp;have e:bz (pre,r) (.p s)=(pre,(r.1++s,r.2.1,r.2.2)):=by simp only[bz,Fk h,Fk b]
  rw[e];obtain⟨k,G,rfl,rfl⟩:=d;have:k=[]:=CA.mp ba;subst this;refine tV l q r.2.1.cps.toList (r.1.cps.toList++s.cps.toList) f (qH [] G am (by simp[Jn])) am am
 |c s=>
  obtain⟨rfl,rfl⟩:=m;by_cases h:s="";have e:bz (pre,r) (.c s)=(pre,r):=by simp only[bz,Fr h]
  rw[e];refine tV l q j g f d ?_ am;rw[h];rw[vH];simp;by_cases b:0<r.2.2;have e:bz (pre,r) (.c s)=(pre++[r],(("",""++s,0):Zk)):=by simp only[bz,Fk h,Fr b]
  rw[e];refine tV _ _ s.cps.toList [] (f.snoc d) (qH [] O ?_ O) am am;rw[v8];simp;have e:bz (pre,r) (.c s)=(pre,(r.1,r.2.1++s,r.2.2)):=by simp only[bz,Fk h,Fk b]
  rw[e];obtain⟨k,G,rfl,rfl⟩:=d;have:k=[]:=CA.mp ba;subst this;refine tV l q (r.2.1.cps.toList++s.cps.toList) r.1.cps.toList f (qH [] G (by simp[Jn]) am) am am
theorem ahs:∀(s:be)(e:sB)(r:Zk)(g f l q i h:bv),pM e g f->tY r l q->ZS i s h->
  ∃Z t u o,pM (s.foldl bz (e,r)).1 Z t/\tY (s.foldl bz (e,r)).2 u o/\g++l++i=Z++u/\f++q++h=t++o:=by
 intro s;induction s with
 |nil=>
  intro e r g f l q i h m k j;cases j;exact tV g f l q m k am am
 |cons p s y=>
  intro e r g f l q i h m k j;obtain⟨a,b,c,d,zq⟩:=Yv (G6 j);obtain⟨rfl,rfl,A,z⟩:=Yq zq;obtain⟨Z,t,u,o,zq⟩:=Yv (ahr m k z);obtain⟨C,B,I,H⟩:=Yq zq;obtain⟨x,n,v,w,zq⟩:=Yv (y _ _ Z t u o b d C B A);obtain⟨E,D,G,F⟩:=Yq zq;refine tV x n v w E D ?_ ?_;rw[<-G,<-I];simp;rw[<-F,<-H];simp
theorem yL(h:ZS l p q):ZS l (iY p) q:=by
 obtain⟨i,f,g,d,zq⟩:=Yv (ahs p [] ("","",0) [] [] [] [] l q .nil ⟨[],O,O,O⟩ h);obtain⟨b,a,c,e⟩:=Yq zq;have:=(b.snoc a).run;rw[<-c,<-e] at this;exact this
inductive yM(W:bi)(H:Hp)(Q:VK)(E:XK):Prop|i(x:_)(_:W=[.s x])(_:good x)(_:Q .a H)
inductive G8(W:bi)(H:Hp)(Q:VK)(E:XK):Prop|i(c:_)(_:W=[.i c])(_:∀n,0<=n->n<=400->Q (.i n) H)
theorem ahx{K:Frag}(W:bi)(H:Hp)(Q:VK)(E:XK)(h:G8 W H Q E):az (aV K E) OL {nx:=λY B=>Q .a B,r:=Q} (Y2 OK W) H:=by
 obtain⟨c,rfl,q⟩:=h;refine⟨_,O,ba,_,O,du (λY=>?_)<|λY=>?_⟩;exact⟨_,O,⟨ba,ba⟩,ba,q _ (Zu _ ba) ba⟩;exact⟨_,O,⟨ba,ba⟩,ba,q _ (Zu _ ba) ba⟩
theorem G9{a c:bv}(h:x.cps.toList=a++(b++c))(n:Int)(f:n=b.length):oZ x (some (a.length:Int)) (some<|(a.length:Int)+n)=⟨b.toArray⟩:=by
 have e:(a.length:Int)+n=((a.length+b.length:Nat):Int):=by lia
 unfold oZ oY;rw[e,HT.nQ,HT.nQ,h];have l:(a++(b++c)).length=a.length+(b.length+c.length):=by simp
 rw[l];have d:min a.length (a.length+(b.length+c.length))=a.length:=by lia
 have m:min (a.length+b.length) (a.length+(b.length+c.length))=a.length+b.length:=by lia
 rw[d,m,List.drop_left,show a.length+b.length - a.length=b.length by lia,List.take_left]
theorem ahy{a c:bv}(h:x.cps.toList=a++(s.cps.toList++c)):(decide (fromIndex x.length (a.length:Int)+s.length<=x.length) && Builtin.Str.subAt x s (fromIndex x.length (a.length:Int)))=true:=by
 have e:fromIndex x.length (a.length:Int)=a.length:=O;have l:x.length=a.length+(s.length+c.length):=by rw[YN x,h,YN s];simp
 rw[e,ZW];refine⟨ba,?_⟩;unfold Builtin.Str.subAt;rw[Op];apply Array.toList_inj.mp;rw[Array.toList_extract,h,YN s];simp
theorem apR(x:Str):(⟨x.cps.toList.toArray⟩:Str)=x:=O
abbrev ahz:ol:=[("need_text",yM),("sizes",ph)]
inductive yN(W:bi)(H:Hp)(Q:VK)(E:XK):Prop|i(x a U b r:_)(_:W=[.s x,.r a])(_:good x)(_:H a=some (.l U))(_:aC H U b)(_:(∀p∈b,a_ p))(_:Ze "" b=true)(_:b.length<=100000)(_:ZS x.cps.toList b r)(_:r.length<=1000000)(_:∀B,aA H B->Q (.s ⟨r.toArray⟩) B)
abbrev anM(K:Frag)(et:jp)(E:XK):aW:=aJ K ahz [] (et:=et) (E:=E)
theorem YP{K:Frag}(W:bi)(H:Hp)(Q:VK)(E:XK)(h:yN W H Q E):az (anM K et E) OD {nx:=λ_ B=>Q .a B,r:=Q} (Y2 OB W) H:=by
 obtain⟨x,a,U,D,r,rfl,X,ha,cP,aE,eZ,hl,hr,yI,q⟩:=h;have F:=FS cP;refine pQ _ O ⟨x,O,X,?_⟩;refine pQ _ O ⟨a,U,D,O,ha,cP,aE,eZ,(oT hl (Zs _ _)),λt I s1 ht=>?_⟩;refine .inr<|.inl ⟨_,_,_,_,O,O,aF.of ht,O,_,O,cE X.1,_,O,?_⟩;rw[hr.over,<-YN,KU,Y4 O];refine⟨nE _,λu SF=>?_⟩;have s2:aA H (fy I u<|.l []):=s1.trans (Yb SF);have SH:H u=none:=s1.free SF;refine uK _ O a O (qX _ (ax.of (s2 _ _ ha))) (jk (K:=K) (a:=a) (xs:=U) (λi J Z=>y0 λe M g L d w v=>AI (J=[some (.s x),some (.r a),some (.i ((e.length:Nat):Int)),some (.r u),w,v]) (aA H Z) (Z u=some (.l (d.map .s))) (x.cps.toList=e++M) (r=g++L) (ZS M (D.drop i) L) ((o7 d).cps.toList=g) (d.length<=i))
 ⟨[],x.cps.toList,[],r,[],none,none,O,s2,av,O,O,hr,O,Yw _⟩
  (by rintro i J Z _ ⟨_,_,_,_,_,_,_,_,f,_,_,_,_,_,_⟩;exact ax.of (f _ _ ha)) ?_ ?_)
 rintro i y J Z hi ⟨e,M,g,L,d,w,v,rfl,f,m,C,A,G,z,tl⟩;obtain⟨pt,T,mH⟩:=cP.get hi;obtain⟨b,rfl,hb⟩:=mH.mono (aQ f);have e9:i<D.length:=(ZT.mp T).1;have ed:D.drop i=pt::D.drop (i+1):=by
  rw[Zy e9];congr 1;exact X8<|(YO e9).symm.trans T
 rw[ed] at G;obtain⟨S,R,qa,P,zq⟩:=Yv (G6 G);obtain⟨rfl,rfl,N,j⟩:=Yq zq;refine tA b _ O (.inl<|aF.of hb) O _ _ O _ _ O O ?_;have bt:∀o,bp u Z (fy Z u o):=λo=>bp.upd;cases pt with
 |p s=>
  obtain⟨rfl,rfl⟩:=j;refine⟨_,O,_,O,_,O,.inl ⟨O,_,ax.of m⟩,_,O,_,m,bV (by rw[Y9];lia),?_⟩;refine⟨e,R,g++s.cps.toList,P,d++[s],_,_,O,pf f SH<|bt _,(by rw[av,Z4];rfl),by simpa using C,by rw[A];simp,N,by rw[GJ,GK,Jn,z],by simp;exact tl⟩
 |k n=>
  obtain⟨rfl,hn⟩:=j;refine⟨_,O,_,O,_,O,_,O,_,O,.inl ⟨O,_,ax.of m⟩,?_⟩;refine sY _ O _ O ⟨_,O,_,O,_,O,_,O,cE X.1,?_⟩;rw[G9 C n hn];refine qH _ m (bV (by rw[Y9];lia)) ?_;refine⟨_,O,_,O,?_⟩;refine⟨e++S,R,g++S,P,d++[⟨S.toArray⟩],some<|.s "keep",some<|.i n,?_,pf f SH<|bt _,(by rw[av,Z4];rfl),by rw[C];simp,by rw[A];simp,N,by rw[GJ,GK,Jn,z],by simp;exact tl⟩;rw[Yy,hn,Yu];rfl
 |c s=>
  obtain⟨rfl,rfl⟩:=j;refine⟨_,O,_,O,_,O,_,O,_,O,O,_,O,_,O,?_⟩;show(λc I=>if (!c)=true then _ else _) (decide (fromIndex x.length (e.length:Int)+s.length<=x.length) && Builtin.Str.subAt x s (fromIndex x.length (e.length:Int))) Z;rw[ahy C];refine⟨_,O,_,O,cE (aE _<|X_ T).1.1,?_⟩;refine⟨e++s.cps.toList,R,g,P,d,some<|.s "cut",some<|.s s,?_,f,m,by rw[C];simp,A,N,z,(YS tl)⟩;rw[Yy,<-YN,Yu];rfl
 rintro J Z ⟨e,M,g,L,d,w,v,rfl,f,m,C,A,G,z,tl⟩;rw[F,Xx] at G;cases G;rw[Yh] at A;subst A;have Y:sz d<=1000000:=by
  have:=B_ d;rw[YN,z] at this;lia
 have er:(⟨r.toArray⟩:Str)=o7 d:=iX (by rw[z]);refine⟨O,_,O,d,ax.of m,Zm Y,?_⟩;have k:=q Z f;rw[er] at k;exact k
theorem ahB(j:Int)(a:0<=j)(h:j<6):∃n:Int,e8 [V.i 1,V.i 2,V.i 0,V.i 3,V.i 5,V.i 40] j=some (.i n)/\0<=n/\n<=40:=by
 obtain rfl|rfl|rfl|rfl|rfl|rfl:j=0\/j=1\/j=2\/j=3\/j=4\/j=5:=by lia
 all_goals exact qH _ O ba ba
theorem G_(a b:be):ay (a++b)=ay a+ay b:=by simp[ay]
abbrev ahC:ol:=[("_law_mixed",GH),("_law_text",Ce)]
theorem yO(s:be)(h:∀p∈s,gT p):ay (iY s)=ay s:=by
 have e:iY s=c7 ((s.foldl bz ([],(("","",0):Zk))).1++[(s.foldl bz ([],(("","",0):Zk))).2]):=O;rw[e,G4,(aho s h).ay]
inductive At where|K|P (c:Nat)|C (c:Nat)
 deriving DecidableEq
abbrev gz:=List At
abbrev ZM:=bv×bv×List (bv×bv)
noncomputable def nb:gz->ZM
 |[]=>([],[],[])
 |.P c::U=>(c::(nb U).1,(nb U).2.1,(nb U).2.2)
 |.C c::U=>((nb U).1,c::(nb U).2.1,(nb U).2.2)
 |.K::U=>([],[],((nb U).1,(nb U).2.1)::(nb U).2.2)
def Zw:bv->gz->Prop
 |l,[]=>l=[]
 |l,.P _::U=>Zw l U
 |[],.K::_=>False
 |_::l,.K::U=>Zw l U
 |[],.C _::_=>False
 |a::l,.C c::U=>a=c/\Zw l U
abbrev Sg:=Sum Nat Nat
abbrev v6:=List Sg
noncomputable def res(i:Nat):gz->v6
 |[]=>[]
 |.P c::U=>.inr c::res i U
 |.K::U=>.inl i::res (i+1) U
 |.C _::U=>res (i+1) U
theorem pN:∀(U:gz)(i j:Nat),Sum.inl j∈res i U->i<=j
 |[],i,j,h=>by cases h
 |.P c::U,i,j,h=>by
  rcases Z5.mp h with z|z
  cases z;exact pN U i j z
 |.K::U,i,j,h=>by
  rcases Z5.mp h with z|z
  cases z;exact Yw _;have:=pN U (i+1) j z;exact YA this
 |.C c::U,i,j,h=>by have:=pN U (i+1) j h;exact YA this
noncomputable def Xw(i:Nat)(l:bv):v6->ZM
 |[]=>([],l,[])
 |.inr c::r=>(c::(Xw i l r).1,(Xw i l r).2.1,(Xw i l r).2.2)
 |.inl j::r=>([],l.take<|j - i,((Xw (j+1) (l.drop<|j+1 - i) r).1,(Xw (j+1) (l.drop<|j+1 - i) r).2.1)::(Xw (j+1) (l.drop<|j+1 - i) r).2.2)
theorem SI(c:Nat)(l:bv)(i:Nat):∀r:v6,(∀j,Sum.inl j∈r->i+1<=j)->Xw i (c::l) r=((Xw (i+1) l r).1,c::(Xw (i+1) l r).2.1,(Xw (i+1) l r).2.2)
 |[],_=>O
 |.inr d::r,h=>by
  simp only[Xw,(SI c l i r λj a=>h j (.tail _ a))]
 |.inl j::r,h=>by
  have a:=h j (.head _);simp only[Xw];rw[show j - i=(j - (i+1))+1 by lia,List.take_succ_cons,show j+1 - i=(j+1 - (i+1))+1 by lia,List.drop_succ_cons]
theorem yP:∀(U:gz)(i:Nat)(l:bv),Zw l U->nb U=Xw i l (res i U)
 |[],i,l,h=>by cases h;rfl
 |.P c::U,i,l,h=>by
  simp only[nb,res,Xw,<-(yP U i l h)]
 |.K::U,i,[],h=>h.elim
 |.K::U,i,a::l,h=>by
  simp only[nb,res,Xw];rw[show i+1 - i=1 by lia,Xy];simp only[List.drop_succ_cons,YU,zU,<-(yP U (i+1) l h)]
 |.C c::U,i,[],h=>h.elim
 |.C c::U,i,a::l,h=>by
  obtain⟨rfl,h⟩:=h;simp only[nb,res];rw[SI a l i _ λj b=>pN U (i+1) j b,<-(yP U (i+1) l h)]
theorem ahD{U Y:gz}(x:Zw l U)(y:Zw l Y)(h:res 0 U=res 0 Y):nb U=nb Y:=by
 rw[yP U 0 l x,yP Y 0 l y,h]
noncomputable def pR:bv->gz->bv
 |l,[]=>[]
 |l,.P c::U=>c::pR l U
 |[],.K::U=>pR [] U
 |a::l,.K::U=>a::pR l U
 |[],.C _::U=>pR [] U
 |_::l,.C _::U=>pR l U
inductive cC:gz->gz->gz->Prop
 |n:cC [] [] []
 |p {c U Y zs}:cC U Y zs->cC U (.P c::Y) (.P c::zs)
 |c {c U Y zs}:cC U Y zs->cC (.C c::U) Y (.C c::zs)
 |kk {U Y zs}:cC U Y zs->cC (.K::U) (.K::Y) (.K::zs)
 |kc {c U Y zs}:cC U Y zs->cC (.K::U) (.C c::Y) (.C c::zs)
 |pk {c U Y zs}:cC U Y zs->cC (.P c::U) (.K::Y) (.P c::zs)
 |pc {c U Y zs}:cC U Y zs->cC (.P c::U) (.C c::Y) zs
noncomputable def sb(r:v6)(k:Nat):Sg->Sg
 |.inr c=>.inr c
 |.inl j=>r.getD (j - k) (.inr 0)
def sub(r:v6)(k:Nat)(t:v6):v6:=t.map (sb r k)
theorem Ct(x:Sg)(r:v6)(k:Nat)(t:v6)(h:∀j,Sum.inl j∈t->k+1<=j):sub (x::r) k t=sub r (k+1) t:=by
 refine List.map_congr_left λy a=>?_;cases y with
 |inr c=>rfl
 |inl j=>
  have:=h j a;simp only[sb];rw[show j - k=(j - (k+1))+1 by lia,List.getD_cons_succ]
theorem Hc{U Y z:gz}(h:cC U Y z):∀(l:bv)(i k:Nat),Zw l U->Zw (pR l U) Y->Zw l z/\pR l z=pR (pR l U) Y/\res i z=sub (res i U) k (res k Y):=by
 induction h with
 |n=>intro l i k e f;exact⟨e,O,O⟩
 | @p c U Y z _ g=>
  intro l i k e f;obtain⟨a,b,d⟩:=g l i k e f;refine⟨a,?_,?_⟩;show c::pR l z=c::pR (pR l U) Y;rw[b];show .inr c::res i z=_;rw[d];rfl
 | @c c U Y z _ g=>
  intro l i k e f;cases l with
  |nil=>cases e
  |cons a l=>
   obtain⟨rfl,e⟩:=e;obtain⟨q,o,m⟩:=g l (i+1) k e f;exact⟨⟨O,q⟩,o,m⟩
 | @kk U Y z _ g=>
  intro l i k e f;cases l with
  |nil=>cases e
  |cons a l=>
   obtain⟨q,o,m⟩:=g l (i+1) (k+1) e f;refine⟨q,?_,?_⟩;show a::pR l z=a::pR (pR l U) Y;rw[o];show .inl i::res (i+1) z=sub (.inl i::res (i+1) U) k (.inl k::res (k+1) Y);rw[m];show _=sb (.inl i::res (i+1) U) k (.inl k)::sub (.inl i::res (i+1) U) k (res (k+1) Y);rw[Ct _ _ _ _ λj r=>pN Y (k+1) j r];simp only[sb];rw[Xy,List.getD_cons_zero]
 | @kc c U Y z _ g=>
  intro l i k e f;cases l with
  |nil=>cases e
  |cons a l=>
   obtain⟨rfl,f⟩:=f;obtain⟨q,o,m⟩:=g l (i+1) (k+1) e f;refine⟨⟨O,q⟩,o,?_⟩;show res (i+1) z=sub (.inl i::res (i+1) U) k (res (k+1) Y);rw[m,Ct _ _ _ _ λj r=>pN Y (k+1) j r]
 | @pk c U Y z _ g=>
  intro l i k e f;obtain⟨q,o,m⟩:=g l i (k+1) e f;refine⟨q,?_,?_⟩;show c::pR l z=c::pR (pR l U) Y;rw[o];show .inr c::res i z=sub (.inr c::res i U) k (.inl k::res (k+1) Y);rw[m];show _=sb (.inr c::res i U) k (.inl k)::sub (.inr c::res i U) k (res (k+1) Y);rw[Ct _ _ _ _ λj r=>pN Y (k+1) j r];simp only[sb];rw[Xy,List.getD_cons_zero]
 | @pc c U Y z _ g=>
  intro l i k e f;obtain⟨Z,f⟩:=f;obtain⟨q,o,m⟩:=g l i (k+1) e f;refine⟨q,o,?_⟩;show res i z=sub (.inr c::res i U) k (res (k+1) Y);rw[m,Ct _ _ _ _ λj r=>pN Y (k+1) j r]
def sw:At->At|.K=>.K|.P c=>.C c|.C c=>.P c
theorem yQ:∀(U:gz)(l:bv),Zw l U->Zw (pR l U) (U.map sw)/\pR (pR l U) (U.map sw)=l
 |[],l,h=>by cases h;exact⟨O,O⟩
 |.P c::U,l,h=>by
  obtain⟨a,b⟩:=yQ U l h;exact⟨⟨O,a⟩,b⟩
 |.K::U,[],h=>h.elim
 |.K::U,a::l,h=>by
  obtain⟨e,b⟩:=yQ U l h;refine⟨e,?_⟩;show a::pR (pR l U) (U.map sw)=_;rw[b]
 |.C c::U,[],h=>h.elim
 |.C c::U,a::l,h=>by
  obtain⟨rfl,h⟩:=h;obtain⟨e,b⟩:=yQ U l h;refine⟨e,?_⟩;show a::pR (pR l U) (U.map sw)=_;rw[b]
noncomputable def oq:Nat->bv->bv->List (bv×bv)->v6
 |i,p,q,[]=>p.map .inr
 |i,p,q,(b,a)::r=>p.map .inr++ .inl (i+q.length)::oq (i+q.length+1) b a r
theorem KE(c:Nat):∀(r:List (bv×bv))(i:Nat)(p q:bv),oq (i+1) p q r=oq i p (c::q) r
 |[],i,p,q=>O
 |(b,a)::r,i,p,q=>by
  simp only[oq,Zc];rw[show i+1+q.length=i+(q.length+1) by lia]
theorem ahF(c:Nat):∀(r:List (bv×bv))(i:Nat)(p q:bv),oq i (c::p) q r=.inr c::oq i p q r
 |[],i,p,q=>O
 |(b,a)::r,i,p,q=>O
theorem yR:∀(U:gz)(i:Nat),res i U=oq i (nb U).1 (nb U).2.1 (nb U).2.2
 |[],i=>O
 |.P c::U,i=>by
  show .inr c::res i U=oq i (c::(nb U).1) _ _;rw[yR U i,ahF];rfl
 |.C c::U,i=>by
  show res (i+1) U=oq i (nb U).1 (c::(nb U).2.1) _;rw[yR U<|i+1,KE c];rfl
 |.K::U,i=>by
  show .inl i::res (i+1) U=.inl (i+0)::oq (i+0+1) _ _ _;rw[yR U<|i+1];rfl
theorem WG{U Y:gz}(h:nb U=nb Y)(i:Nat):res i U=res i Y:=by rw[yR,yR,h]
noncomputable def kx:bv->bv->List (bv×bv)->ZM->ZM
 |p,q,[],F=>(p++F.1,q++F.2.1,F.2.2)
 |p,q,(a,b)::r,F=>(p,q,((kx a b r F).1,(kx a b r F).2.1)::(kx a b r F).2.2)
theorem ahH(c:Nat)(p q:bv)(r:List (bv×bv))(F:ZM):kx (c::p) q r F=(c::(kx p q r F).1,(kx p q r F).2.1,(kx p q r F).2.2):=by
 cases r<;>rfl
theorem ahI(c:Nat)(p q:bv)(r:List (bv×bv))(F:ZM):kx p (c::q) r F=((kx p q r F).1,c::(kx p q r F).2.1,(kx p q r F).2.2):=by
 cases r<;>rfl
theorem pO:∀(U Y:gz),nb (U++Y)=kx (nb U).1 (nb U).2.1 (nb U).2.2 (nb Y)
 |[],Y=>O
 |.K::U,Y=>by
  simp only[Yn,nb,pO U Y];rfl
 |.P c::U,Y=>by
  simp only[Yn,nb,pO U Y,ahH]
 |.C c::U,Y=>by
  simp only[Yn,nb,pO U Y,ahI]
theorem uc{U Y i:gz}(h:nb U=nb b)(a:nb Y=nb i):nb (U++Y)=nb (b++i):=by rw[pO,pO,h,a]
theorem He:∀(p:bv),nb (p.map .P)=(p,[],[])
 |[]=>O
 |c::p=>by simp only[ZU,nb,He p]
theorem Hf:∀(p:bv),nb (p.map .C)=([],p,[])
 |[]=>O
 |c::p=>by simp only[ZU,nb,Hf p]
theorem SJ(p q:bv):nb (q.map .C++p.map .P)=nb (p.map .P++q.map .C):=by
 rw[pO,pO,He,Hf];simp[kx]
noncomputable def rK(n:Nat):gz:=List.replicate n .K
theorem ahJ(n:Nat)(U:gz):nb (rK (n+1)++U)=([],[],List.replicate n ([],[])++((nb U).1,(nb U).2.1)::(nb U).2.2):=by
 induction n with
 |zero=>rfl
 |succ n i=>
  have e:rK (n+1+1)++U=.K::(rK (n+1)++U):=O;rw[e];simp only[nb,i];rfl
theorem Hg:∀(a l:bv)(U:gz),Zw (a++l) (rK a.length++U)↔Zw l U
 |[],l,U=>Iff.rfl
 |c::a,l,U=>Hg a l U
theorem Hh:∀(a l:bv)(U:gz),pR (a++l) (rK a.length++U)=a++pR l U
 |[],l,U=>O
 |c::a,l,U=>by
  show c::pR (a++l) (rK a.length++U)=_;rw[Hh a l U];rfl
theorem ud:∀(s l:bv)(U:gz),Zw l (s.map .P++U)↔Zw l U
 |[],l,U=>Iff.rfl
 |c::s,l,U=>ud s l U
theorem Cu:∀(s l:bv)(U:gz),pR l (s.map .P++U)=s++pR l U
 |[],l,U=>O
 |c::s,l,U=>by
  show c::pR l (s.map .P++U)=_;rw[Cu s l U];rfl
theorem Hi:∀(s l:bv)(U:gz),Zw (s++l) (s.map .C++U)↔Zw l U
 |[],l,U=>Iff.rfl
 |c::s,l,U=>by
  show c=c/\Zw (s++l) (s.map .C++U)↔_;rw[Hi s l U];simp
theorem Cv:∀(s l:bv)(U:gz),pR (s++l) (s.map .C++U)=pR l U
 |[],l,U=>O
 |c::s,l,U=>Cv s l U
inductive dh:gz->gz->gz->gz->Prop
 |n:dh [] [] [] []
 |p1 {c U Y o t}:dh U Y o t->dh (.P c::U) Y (.P c::o) (.K::t)
 |p2 {c U Y o t}:dh U Y o t->dh U (.P c::Y) (.K::o) (.P c::t)
 |kk {U Y o t}:dh U Y o t->dh (.K::U) (.K::Y) (.K::o) (.K::t)
 |kc {c U Y o t}:dh U Y o t->dh (.K::U) (.C c::Y) o (.C c::t)
 |ck {c U Y o t}:dh U Y o t->dh (.C c::U) (.K::Y) (.C c::o) t
 |cc {c U Y o t}:dh U Y o t->dh (.C c::U) (.C c::Y) o t
theorem dh.fits{U Y o:gz}(h:dh U Y o t):∀l,Zw l U->Zw l Y->Zw (pR l U) t/\Zw (pR l Y) o/\pR (pR l U) t=pR (pR l Y) o:=by
 induction h with
 |n=>intro l e f;cases e;exact⟨O,O,O⟩
 | @p1 c U Y o t _ i=>
  intro l e f;obtain⟨a,b,d⟩:=i l e f;exact⟨a,b,by show c::_=c::_;rw[d]⟩
 | @p2 c U Y o t _ i=>
  intro l e f;obtain⟨a,b,d⟩:=i l e f;exact⟨a,b,by show c::_=c::_;rw[d]⟩
 | @kk U Y o t _ i=>
  intro l e f;cases l with
  |nil=>cases e
  |cons x l=>
   obtain⟨a,b,d⟩:=i l e f;exact⟨a,b,by show x::_=x::_;rw[d]⟩
 | @kc c U Y o t _ i=>
  intro l e f;cases l with
  |nil=>cases e
  |cons x l=>
   obtain⟨rfl,f⟩:=f;obtain⟨a,b,d⟩:=i l e f;exact⟨⟨O,a⟩,b,d⟩
 | @ck c U Y o t _ i=>
  intro l e f;cases l with
  |nil=>cases e
  |cons x l=>
   obtain⟨rfl,e⟩:=e;obtain⟨a,b,d⟩:=i l e f;exact⟨a,⟨O,b⟩,d⟩
 | @cc c U Y o t _ i=>
  intro l e f;cases l with
  |nil=>cases e
  |cons x l=>
   obtain⟨rfl,e⟩:=e;obtain⟨Z,f⟩:=f;exact i l e f
variable{ps D':be}{ts zs:gz}{tx:List bv}{d t C' d' b4:PySem.Addr}{us:bi}{we:Hp}{l':bv}{E':Nat}
def aN:Pt->gz
 |.k n=>rK n.toNat
 |.p s=>s.cps.toList.map .P
 |.c s=>s.cps.toList.map .C
def aq(ps:be):gz:=(ps.map aN).flatten
theorem dr(p:Pt)(ps:be):aq (p::ps)=aN p++aq ps:=O
theorem gc(ps q:be):aq (ps++q)=aq ps++aq q:=by simp[aq]
theorem gV(p:Pt):aq [p]=aN p:=by simp[aq]
def iD:Pt->Prop|.k n=>0<=n|_=>True
theorem Cw(h:gT p):iD p:=by cases p<;>first|exact h|trivial
theorem rn(h:a_ p):iD p:=by
 cases p with
 |k n=>exact Int.le_trans (Vz _) (show(1:Int)<=n from h)
 |_=>trivial
theorem ZS.fits(h:ZS l ps r):Zw l (aq ps)/\pR l (aq ps)=r:=by
 induction h with
 |N=>exact⟨O,O⟩
 | @k a l r n ps e _ i=>
  rw[dr];have b:aN (.k n)=rK a.length:=by show rK n.toNat=_;rw[e];simp
  rw[b];exact⟨(Hg a l _).mpr i.1,by rw[Hh,i.2]⟩
 | @t s l r ps _ i=>
  rw[dr];exact⟨(ud _ l _).mpr i.1,by show pR l (s.cps.toList.map .P++_)=_;rw[Cu,i.2]⟩
 | @C s l r ps _ i=>
  rw[dr];exact⟨(Hi _ l _).mpr i.1,by show pR _ (s.cps.toList.map .C++_)=_;rw[Cv,i.2]⟩
theorem SK:∀(n:Nat)(l:bv)(U:gz),Zw l (rK n++U)->∃a b,l=a++b/\a.length=n
 | 0,l,U,h=>⟨[],l,O,O⟩
 |n+1,[],U,h=>(show False from h).elim
 |n+1,c::l,U,h=>by
  obtain⟨a,b,e,d⟩:=SK n l U h;exact⟨c::a,b,e▸O,by simp[d]⟩
theorem wg:∀(s l:bv)(U:gz),Zw l (s.map .C++U)->∃b,l=s++b
 |[],l,U,h=>⟨l,O⟩
 |c::s,[],U,h=>(show False from h).elim
 |c::s,d::l,U,h=>by
  obtain⟨e,h⟩:=(show d=c/\Zw l (s.map .C++U) from h);obtain⟨b,a⟩:=wg s l U h;exact⟨b,by rw[e,a];rfl⟩
theorem ue:∀(ps:be)(l:bv),(∀p∈ps,iD p)->Zw l (aq ps)->ZS l ps (pR l<|aq ps)
 |[],l,_,h=>by
  have:=h;subst this;exact .N
 |.k n::ps,l,d,h=>by
  rw[dr] at h⊢;obtain⟨a,b,rfl,f⟩:=SK _ _ _ h;have y:0<=n:=d _ (.head _);have g:aN (.k n)=rK a.length:=by show rK n.toNat=_;rw[f]
  rw[g] at h⊢;rw[Hh];exact .k ba<|ue ps b (λp e=>d p<|.tail _ e)<|(Hg a b _).mp h
 |.p s::ps,l,d,h=>by
  show ZS l _ (pR l<|s.cps.toList.map .P++_);rw[Cu];exact .t<|ue ps l (λp e=>d p<|.tail _ e)<|(ud _ l _).mp h
 |.c s::ps,l,d,h=>by
  obtain⟨b,rfl⟩:=wg _ _ _ h;show ZS _ _ (pR _<|s.cps.toList.map .C++_);rw[Cv];exact .C<|ue ps b (λp e=>d p<|.tail _ e)<|(Hi _ b _).mp h
def mL(s:NS):gz:=aq s.1++((o7 s.2.1).cps.toList.map .P++(o7 s.2.2).cps.toList.map .C)
theorem SM(m:Str->Pt)(f:Nat->At)(h:∀s,aN (m s)=s.cps.toList.map f)(x:Str):aq (Yp m x)=x.cps.toList.map f:=by
 by_cases a:x="";rw[a];rfl;rw[lQ a,gV,h]
theorem SN(h:be)(p c:bn):aq (d6 h p c)=mL (h,p,c):=by
 unfold d6 mL;rw[gc,gc,SM .p .P<|λY=>O,SM .c .C<|λY=>O,X7]
theorem SO(m n:Nat):rK m++rK n=rK (m+n):=by unfold rK;rw[List.replicate_append_replicate]
theorem ahK(c:be)(n:Int)(d:0<=n)(h:∀p∈c,iD p):aq (fg c n)=aq c++rK n.toNat:=by
 unfold fg;split;rename_i m e;have a:=List.mem_of_getLast? e;have C:0<=m:=h _ a;have b:c=c.dropLast++[.k m]:=by
  have j:c≠ []:=by intro z;rw[z] at a;cases a
  rw[List.getLast?_eq_some_getLast j] at e;rw[<-(X8 e),List.dropLast_concat_getLast]
 conv=>rhs;rw[b]
 rw[gc,gc,gV,gV,X7];show _++rK (n+m).toNat=_++(rK m.toNat++rK n.toNat);rw[SO,show(n+m).toNat=m.toNat+n.toNat by lia];rw[gc,gV];rfl
theorem SQ(h:∀s,iD<|mk s)(x:Str):∀p∈Yp mk x,iD p:=by
 intro p a;unfold Yp at a;split at a;cases a;rw[ZF.mp a];exact h x
theorem SR(p c:bn)(h:∀p∈b,iD p):∀q∈d6 b p c,iD q:=by
 intro q a;rcases R8.mp a with z|z
 rcases R8.mp z with z|z
 exact h q z;exact SQ (mk:=.p) (λY=>trivial) _ q z;exact SQ (mk:=.c) (λY=>trivial) _ q z
theorem ahL(b:0<=n)(h:∀p∈ch,iD p):∀q∈fg ch n,iD q:=by
 intro q a;unfold fg at a;split at a;rename_i m e;rcases R8.mp a with z|z
 exact h q ((List.dropLast_sublist ch).subset z);rw[ZF.mp z];have C:0<=m:=h _ (List.mem_of_getLast? e);show 0<=n+m;lia;rcases R8.mp a with z|z
 exact h q z;rw[ZF.mp z];exact b
theorem ahM(s:NS)(p:Pt)(f:iD p)(h:∀q∈s.1,iD q):nb (mL<|dJ s p)=nb (mL s++aN p)/\∀q∈ (dJ s p).1,iD q:=by
 obtain⟨b,u,a⟩:=s;cases p with
 |p x=>
  refine⟨?_,h⟩;show nb (aq b++((o7<|u++[x]).cps.toList.map .P++(o7 a).cps.toList.map .C))=nb (aq b++((o7 u).cps.toList.map .P++(o7 a).cps.toList.map .C)++x.cps.toList.map .P);rw[rf,Jn,Z4,X7,X7,X7];exact uc O<|uc O ((SJ _ _).symm)
 |c x=>
  refine⟨?_,h⟩;show nb (aq b++((o7 u).cps.toList.map .P++(o7<|a++[x]).cps.toList.map .C))=nb (aq b++((o7 u).cps.toList.map .P++(o7 a).cps.toList.map .C)++x.cps.toList.map .C);rw[rf,Jn,Z4,X7,X7]
 |k n=>
  have y:=f;by_cases d:0<n;have e:dJ (b,u,a) (.k n)=(fg (d6 b u a) n,[],[]):=Fr d;rw[e];refine⟨?_,ahL y<|SR _ _ h⟩;show nb (aq (fg (d6 b u a) n)++[])=nb (mL (b,u,a)++rK n.toNat);rw[Yh,ahK _ _ y<|SR _ _ h,SN];have e:dJ (b,u,a) (.k n)=(b,u,a):=Fk d;rw[e];refine⟨?_,h⟩;show _=nb (mL (b,u,a)++rK n.toNat);rw[show n.toNat=0 by lia];show _=nb (_++[]);rw[Yh]
theorem SS:∀(ps:be)(s:NS),(∀p∈ps,iD p)->(∀q∈s.1,iD q)->nb (mL<|ps.foldl dJ s)=nb (mL s++aq ps)
 |[],s,_,_=>by show nb (mL s)=nb (mL s++[]);rw[Yh]
 |p::ps,s,h,c=>by
  obtain⟨a,b⟩:=ahM s p (h p<|.head _) c;show nb (mL<|ps.foldl dJ<|dJ s p)=_;rw[SS ps _ (λq d=>h q<|.tail _ d) b,dr,<-X7];exact uc a O
theorem uf(ps:be)(h:∀p∈ps,iD p):nb (aq<|ku ps)=nb (aq ps):=by
 unfold ku;rw[SN];exact (SS ps ([],[],[]) h nofun)
theorem jY{s:Str}(h:s≠""):∃c r,s.cps.toList=c::r:=by
 cases e:s.cps.toList with
 |nil=>exact absurd (iX (e▸O)) h
 |cons c r=>exact⟨c,r,O⟩
theorem wj(s:Str)(U:gz):nb (s.cps.toList.map .P++U)=(s.cps.toList++(nb U).1,(nb U).2.1,(nb U).2.2):=by
 rw[pO,He];rfl
theorem ug(s:Str)(U:gz):nb (s.cps.toList.map .C++U)=((nb U).1,s.cps.toList++(nb U).2.1,(nb U).2.2):=by
 rw[pO,Hf];rfl
theorem uh{n:Int}(h:1<=n)(U:gz):nb (rK n.toNat++U)=([],[],List.replicate (n.toNat - 1) ([],[])++((nb U).1,(nb U).2.1)::(nb U).2.2):=by
 obtain⟨m,e⟩:∃m,n.toNat=m+1:=⟨n.toNat - 1,ba⟩;rw[e,ahJ];rfl
theorem SU(h:qY "put" w=true):w≠"put"/\w≠"cut":=by
 refine⟨λz=>?_,λz=>?_⟩ <;>subst z<;>exact absurd h ap
theorem ahN(h:qY "cut" w=true):w≠"cut":=by
 intro z;subst z;cases ap h
theorem SV(h:qY "keep" w=true):w≠"keep":=by
 intro z;subst z;cases ap h
theorem rq{ps:be}{w:Str}(h:Ze w ps=true)(o:∀p∈ps,a_ p)(d:w="put"\/w="cut"):(nb<|aq ps).1=[]:=by
 cases ps with
 |nil=>rfl
 |cons p ps=>
  simp only[Ze,ZW] at h;have f:=o p (.head _);cases p with
  |k n=>show(nb<|rK n.toNat++_).1=_;rw[uh f]
  |p s=>
   obtain⟨a,b⟩:=SU h.1;rcases d with z|z
   cases a z;cases b z
  |c s=>
   show(nb<|s.cps.toList.map .C++_).1=_;rw[ug];exact rq h.2 (λq e=>o q<|.tail _ e)<|.inr O
theorem Hj(h:Ze "cut" ps=true)(o:∀p∈ps,a_ p):(nb<|aq ps).2.1=[]:=by
 cases ps with
 |nil=>rfl
 |cons p ps=>
  simp only[Ze,ZW] at h;have a:=o p (.head _);cases p with
  |k n=>show(nb<|rK n.toNat++_).2.1=_;rw[uh a]
  |p s=>exact absurd O (SU h.1).2
  |c s=>exact absurd O (ahN h.1)
theorem SW(a:Ze "keep" ps=true)(o:∀p∈ps,a_ p)(d:(nb<|aq ps).1=[])(b:(nb<|aq ps).2.1=[]):ps=[]:=by
 cases ps with
 |nil=>rfl
 |cons p ps=>
  simp only[Ze,ZW] at a;have h:=o p (.head _);cases p with
  |k n=>exact absurd O (SV a.1)
  |p s=>
   obtain⟨c,r,e⟩:=jY h.2;have g:(nb<|s.cps.toList.map .P++aq ps).1=[]:=d;rw[e] at g;cases g
  |c s=>
   obtain⟨c,r,e⟩:=jY h.2;have y:(nb<|s.cps.toList.map .C++aq ps).2.1=[]:=b;rw[e] at y;cases y
theorem SX{a:bv×bv}{r:List (bv×bv)}:∀{m n:Nat},List.replicate m (([],[]):bv×bv)++a::r=List.replicate n ([],[])++b::s->(m=n/\a=b/\r=s)\/(m<n/\a=([],[])/\r≠ [])\/(n<m/\b=([],[])/\s≠ [])
 | 0,0,h=>by
  injection h with d c
  exact .inl ⟨O,d,c⟩
 | 0,n+1,h=>by
  injection h with d c
  exact .inr<|.inl ⟨(X9 _),d,by rw[c];simp⟩
 |m+1,0,h=>by
  injection h with d c
  exact .inr<|.inr ⟨(X9 _),d.symm,by rw[<-c];simp⟩
 |m+1,n+1,h=>by
  injection h with _ c
  rcases SX c with⟨x,y⟩|⟨x,y⟩|⟨x,y⟩
  exact .inl ⟨ba,y⟩;exact .inr (.inl ⟨(Yr x _),y⟩);exact .inr (.inr ⟨(Yr x _),y⟩)
theorem SY(q:Pt)(b:be)(o:∀p∈q::b,a_ p)(h:([],[],[])=nb (aq (q::b))):False:=by
 have d:=o q (.head _);have f:=h;cases q with
 |k n=>
  have a:([],[],[])=nb (rK n.toNat++aq b):=f;rw[uh d] at a;have:=FM (λx=>x.2.2) a;simp at this
 |p s=>
  obtain⟨c,r,e⟩:=jY d.2;have a:([],[],[])=nb (s.cps.toList.map .P++aq b):=f;rw[wj,e] at a;have:=FM (λx=>x.1) a;simp at this
 |c s=>
  obtain⟨c,r,e⟩:=jY d.2;have a:([],[],[])=nb (s.cps.toList.map .C++aq b):=f;rw[ug,e] at a;have:=FM (λx=>x.2.1) a;simp at this
theorem Cz:∀(ps b:be)(w v:Str),Ze w ps=true->Ze v b=true->(∀p∈ps,a_ p)->(∀p∈b,a_ p)->nb (aq ps)=nb (aq b)->ps=b
 |[],[],_,_,_,_,_,_,_=>O
 |[],q::b,_,_,_,_,_,y,h=>(SY q b y h).elim
 |p::ps,[],_,_,_,_,y,_,h=>(SY p ps y h.symm).elim
 |p::ps,q::b,w,v,u,f,y,H,h=>by
  simp only[Ze,ZW] at u f;have B:=y p (.head _);have i:=H q (.head _);have T:=λx F=>y x (.tail _ F);have Q:=λx F=>H x (.tail _ F);have X:p=q->nb (aq ps)=nb (aq b)->p::ps=q::b:=λD g=>by
   rw[D,Cz ps b p.word q.word u.2 f.2 T Q g]
  cases p with
  |k n=>
   have d:nb (rK n.toNat++aq ps)=nb (aN q++aq b):=h;rw[uh B] at d;cases q with
   |k m=>
    have a:_=nb (rK m.toNat++aq b):=d;rw[uh i] at a;have L:(1:Int)<=n:=B;have M:(1:Int)<=m:=i;rcases SX (FM (λx=>x.2.2) a) with⟨D,g,j⟩|⟨D,g,j⟩|⟨D,g,j⟩
    refine X (by congr 1;lia) ?_;have l:=FM Prod.fst g;exact Prod.ext l<|Prod.ext (FM Prod.snd g) j;have:=SW u.2 T (FM Prod.fst g) (FM Prod.snd g);rw[this] at j;exact absurd O j;have:=SW f.2 Q (FM Prod.fst g) (FM Prod.snd g);rw[this] at j;exact absurd O j
   |p s=>
    obtain⟨c,r,e⟩:=jY i.2;have a:_=nb (s.cps.toList.map .P++aq b):=d;rw[wj,e] at a;have:=FM (λx=>x.1) a;simp at this
   |c s=>
    obtain⟨c,r,e⟩:=jY i.2;have a:_=nb (s.cps.toList.map .C++aq b):=d;rw[ug,e] at a;have:=FM (λx=>x.2.1) a;simp at this
  |p x=>
   obtain⟨K,I,E⟩:=jY B.2;have d:nb (x.cps.toList.map .P++aq ps)=nb (aN q++aq b):=h;rw[wj] at d;have t:=rq u.2 T (.inl O);cases q with
   |k m=>
    have a:_=nb (rK m.toNat++aq b):=d;rw[uh i,E] at a;have:=FM (λx=>x.1) a;simp at this
   |p s=>
    have a:_=nb (s.cps.toList.map .P++aq b):=d;rw[wj,t,rq f.2 Q<|.inl O,Yh,Yh] at a;have z:=FM (λx=>x.2) a;refine X (by rw[iX (FM (λx=>x.1) a)]) ?_;exact Prod.ext (by rw[t,rq f.2 Q<|.inl O]) z
   |c s=>
    have a:_=nb (s.cps.toList.map .C++aq b):=d;rw[ug,rq f.2 Q<|.inr O,E] at a;have:=FM (λx=>x.1) a;simp at this
  |c x=>
   obtain⟨K,I,E⟩:=jY B.2;have d:nb (x.cps.toList.map .C++aq ps)=nb (aN q++aq b):=h;have t:=rq u.2 T (.inr O);have G:=Hj u.2 T;rw[ug] at d;cases q with
   |k m=>
    exfalso;have a:_=nb (rK m.toNat++aq b):=d;rw[uh i,E] at a;have:=FM (λx=>x.2.1) a;simp at this
   |p s=>
    exfalso;obtain⟨c,r,e⟩:=jY i.2;have a:_=nb (s.cps.toList.map .P++aq b):=d;rw[wj,t,e] at a;have:=FM (λx=>x.1) a;simp at this
   |c s=>
    have a:_=nb (s.cps.toList.map .C++aq b):=d;rw[ug,t,G,Hj f.2 Q,Yh,Yh] at a;refine X (by rw[iX (FM (λx=>x.2.1) a)]) ?_;exact Prod.ext (by rw[t,rq f.2 Q<|.inr O])<|Prod.ext (by rw[G,Hj f.2 Q]) (FM (λx=>x.2.2) a)
theorem mM{r:io}:((k,v)::r).lookup k=some v:=by simp
theorem eS{j:Str}{r:io}(h:¬k=j):((j,v)::r).lookup k=r.lookup k:=by
 have:(k==j)=false:=by lia
 simp[List.lookup,this]
theorem aaK{r:io}:aU k v ((k,w)::r)=(k,v)::r:=by simp[aU]
theorem aoF{j:Str}{r:io}(h:¬j=k):aU k v ((j,w)::r)=(j,w)::aU k v r:=by simp[aU,h]
theorem ahO{Q:Cl->Prop}(h:cj T v H P)(i:∀b,P b->Q b):cj T v H Q:=by
 cases v with
 |r a=>
  unfold cj at h⊢;simp only at h⊢;split at h
  all_goals first|exact i _ h|exact h.elim
 |a=>exact i _ h
 |b b=>exact i _ h
 |i Y=>exact i _ h
 |s Y=>exact i _ h
 |_=>cases h
theorem ahP(h:cj T v H P)(s:aA H B):cj T v B P:=by
 cases v with
 |r a=>
  unfold cj at h⊢;simp only at h⊢;cases e:H a with
  |none=>rw[e] at h;cases h
  |some o=>rw[e] at h;rw[s _ _ e];exact h
 |a=>exact h
 |b b=>exact h
 |i Y=>exact h
 |s Y=>exact h
 |_=>cases h
def lS(T:Ty)(v:V)(H:Hp):Prop:=cj T v H λb=>b=false
theorem lS.same(h:lS T v H)(s:aA H B):lS T v B:=ahP h s
theorem lS.go{Q:Cl->Prop}(h:lS T v H)(q:Q false):cj T v H Q:=ahO h λb e=>e▸q
noncomputable def ahQ(x:Str):Cl:=x.cps.toList.all λc=>SG.cps.contains c
theorem S_{a:Type}(p:a->Cl):∀l:List a,l.all p=false->(l.takeWhile p).length<l.length
 |[],h=>by cases h
 |c::l,h=>by
  rw[List.takeWhile_cons];cases b:p c with
  |false=>simp
  |true=>
   rw[o8,b] at h;have:=S_ p l h;simp;exact this
theorem ahR(x y:Str)(h:(x.cps.toList.all λc=>y.cps.contains c)=false):Txt.lstripChars x y≠"":=by
 have l:=S_ _ _ h;have f:stripLo y.cps.contains true x=(x.cps.toList.takeWhile y.cps.contains).length:=by
  unfold stripLo;rw[Fr O]
 intro z;have a:=FM Str.length z;unfold Txt.lstripChars Txt.stripBy stripSame stripped at a;have d:x.cps.size=x.cps.toList.length:=O;split at a;have:=a;cases zF _ (XG l (Y8 this));have b:(x.cps.extract (x.cps.toList.takeWhile y.cps.contains).length x.cps.size).size=0:=a;rw[Array.size_extract] at b;lia
def wq(v:V)(H:Hp):Prop:=(∃x,v=.s x/\x.length<=1000000/\ahQ x=false)\/lS .s v H
theorem wq.same(h:wq v H)(s:aA H B):wq v B:=by
 rcases h with h|h
 exact .inl h;exact .inr (h.same s)
def wt(v:V)(H:Hp):Prop:=(∃b,v=.b b)\/lS .i v H
theorem wt.same(h:wt v H)(s:aA H B):wt v B:=by
 rcases h with h|h
 exact .inl h;exact .inr (h.same s)
inductive yT(W:bi)(H:Hp)(Q:VK)(E:XK):Prop|i(v:_)(_:W=[v])(_:((∃i,v=.i i/\Q (.b true) H)\/(wt v H/\Q (.b false) H)))
theorem ahS{K:Frag}:cL (yT) (λE=>aV K E) Oc kq:=by
 intro W H Q E h;obtain⟨v,rfl,⟨i,rfl,q⟩|⟨⟨b,rfl⟩|n,q⟩⟩:=h;exact⟨_,O,O,_,O,gN (qH _ O O q)⟩;exact⟨_,O,O,_,O,gN (qH _ O O q)⟩;exact qH _ O O (n.go (pQ _ O (jo q)))
theorem ahT(h:mG W H Q E):yT W H Q E:=by
 obtain⟨i,rfl,q⟩:=h;exact⟨_,O,.inl ⟨i,O,q⟩⟩
inductive Hl(W:bi)(H:Hp)(Q:VK)(E:XK):Prop|i(v:_)(_:W=[v])(_:((∃x,v=.s x/\good x/\Q (.b true) H)\/(wq v H/\Q (.b false) H)))
theorem ahU{K:Frag}:cL (Hl) (λE=>cR K E) Gg kq:=by
 intro W H Q E h;obtain⟨v,rfl,⟨x,rfl,a,q⟩|⟨⟨x,rfl,l,a⟩|n,q⟩⟩:=h;exact agH _ _ _ _ ⟨x,O,a,q⟩;refine⟨_,O,O,_,O,gN ⟨_,O,O,cE l,?_⟩⟩;show Q (.b<|false ^^ decide (V.s (Txt.lstripChars x SG)=V.s "")) H;rw[XH<|λz=>ahR x SG a ba];exact q;exact qH _ O O (n.go (pQ _ O (jo q)))
abbrev ahV:ol:=[("is_text",Hl)]
inductive Ta(C:z4)(W:bi)(H:Hp)(Q:VK)(E:XK):Prop|i(v:_)(_:W=[v])(_:((∃x,v=.s x/\good x/\Q .a H)\/(wq v H/\E (.ref C) none H)))
abbrev aaA(K:Frag)(C:z4)(E:XK):aW:=aJ K ahV [] (et:=[("BadText",C)]) (E:=E)
theorem ahW{K:Frag}:cL (Ta C) (λE=>aaA K C E) Of kq:=by
 intro W H Q E h;obtain⟨v,rfl,⟨x,rfl,a,q⟩|⟨n,q⟩⟩:=h;exact pQ _ O ⟨_,O,.inl (qH x O a q)⟩;exact pQ _ O ⟨_,O,.inr ⟨n,jM,q⟩⟩
theorem ahX(h:yM W H Q E):Ta C W H Q E:=by
 obtain⟨x,rfl,a,q⟩:=h;exact⟨_,O,.inl ⟨x,O,a,q⟩⟩
inductive Hn(K:Frag)(W:bi)(H:Hp)(Q:VK)(E:XK):Prop|i(v p U:_)(_:W=[v,.r p])(_:aF K H p U)(_:U.all jP=true)(_:((∃w,v=.s w/\Q (.b<|iR (.s w) U) H)\/(lS .s v H/\Q (.b false) H)))
theorem ahY{K:Frag}:cL (Hn K) (λE=>aV K E) Gf Ge:=by
 intro W H Q E h;obtain⟨v,p,U,rfl,a,f,⟨w,rfl,q⟩|⟨n,q⟩⟩:=h;exact agI _ _ _ _ ⟨w,p,U,O,a,f,q⟩;exact qH _ O O (n.go (pQ _ O (jo q)))
theorem ahZ{K:Frag}(h:v7 K W H Q E):Hn K W H Q E:=by
 obtain⟨w,p,U,rfl,a,f,q⟩:=h;exact⟨_,p,U,O,a,f,.inl ⟨w,O,q⟩⟩
def ah0(v:V)(H:Hp):Prop:=lS .t v H\/∃a U,v=.r a/\H a=some (.t U)/\U.length<=1000000/\(U.length≠2\/∃w t,U=[w,t]/\
 (lS .s w H\/(∃s,w=.s s/\s≠"keep"/\s≠"cut"/\s≠"put")\/(w=.s "keep"/\(wt t H\/∃n,t=.i n/\n<1))\/((w=.s "cut"\/w=.s "put")/\(wq t H\/t=.s ""))))
abbrev akI(K:Frag):ol:=[("is_word",Hn K),("is_whole",yT),("is_text",Hl)]
inductive Tb(W:bi)(H:Hp)(Q:VK)(E:XK):Prop|i(v:_)(_:W=[v])(_:((∃p,jW H v p/\a_ p/\∀B,aA H B->Q (.b true) B)\/(ah0 v H/\∀B,aA H B->Q (.b false) B)))
theorem Tc(s t:Str):iR (.s s) [.s t]=(t==s):=by
 show(jn (.s t) (.s s)||false)=_;rw[A0];rfl
abbrev eN(K:Frag)(E:XK):aW:=aJ K (akI K) [] (E:=E)
theorem Qb{K:Frag}:cL (Tb) (λE=>eN K E) BR kq:=by
 intro W H Q E h;have u:∀(a:z4)(w t:V)(X:VK)(I:Hp)(J:St),J[0]?=some (some<|.r a)->I a=some (.t [w,t])->
   (∀(M:z4) Z,aA I Z->∀b:Cl,(b=true->w=.s "cut"\/w=.s "put")->(b=false->w≠ .s "cut"/\w≠ .s "put")->X (.b b) Z)->(lS .s w I\/∃s,w=.s s)->
   af (eN K E) (.l 0 [(.i (.v 0)<|.c<|.i 0),(.T [(.c<|.s "cut"),(.c<|.s "put")])]) J I X:=by
  intro a w t X I J h0 j q g;refine pQ _ h0 (.inr<|.inl ⟨_,_,_,_,O,O,aF.of j,O,cI,λt ht=>?_⟩);have f:=Yb (o:=.t [V.s "cut",V.s "put"]) ht;refine⟨w,t,_,O,aF.of av,O,?_⟩;rcases g with g|⟨s,rfl⟩
  refine .inr ⟨g.same f,q t _ f false (λz=>by cases z) λ_=>⟨?_,?_⟩⟩;rintro rfl;cases (show true=false from g);rintro rfl;cases (show true=false from g);refine .inl (pQ s O (q t _ f _ (λz=>?_) λz=>?_));have m:(("cut"==s)||(("put"==s)||false))=true:=z;simp at m;rcases m with m|m<;>subst m
  exact .inl O;exact .inr O;have m:(("cut"==s)||(("put"==s)||false))=false:=z;simp at m;exact⟨λy=>m.1 (by injection y with y;exact y.symm),λy=>m.2 (by injection y with y;exact y.symm)⟩
 obtain⟨v,rfl,⟨p,⟨a,rfl,j⟩,A,q⟩|⟨hn|⟨a,U,rfl,j,hl,d⟩,q⟩⟩:=h;refine qH _ O O (v3 j (pQ _ O (.inr (sY _ (aF.of j) _ O ?_))));refine pQ _ O (.inr<|.inl ⟨_,_,_,_,O,O,aF.of j,O,jM,λx S=>?_⟩);have e:=Yb (o:=.t [V.s "keep"]) S;refine⟨.s p.word,x,[.s "keep"],O,aF.of av,O,.inl (pQ p.word O ?_)⟩;have C:=e _ _ j;generalize fy H x (.t [V.s "keep"])=I at e C;have XV:∀(s:Str),good s->s≠""->I a=some (.t [.s p.word,.s s])->p.word="put"\/p.word="cut"->az (eN K E) (BR.drop 2) (Dn Q) (Y2 kq [.r a]) I:=by
  intro s gs ns hs g;refine u a (.s p.word) (.s s) _ I _ O hs (λM Z f b L D=>?_)<|.inr ⟨_,O⟩;have B:b=true:=by
   cases b with
   |true=>rfl
   |false=>
    obtain⟨G,F⟩:=D O;rcases g with z|z
    exact absurd (FM V.s z) F;exact absurd (FM V.s z) G
  subst B;have bE:=f _ _ hs;refine pQ _ O (gN (pQ _ O (.inr<|.inl ⟨_,_,_,_,O,O,aF.of bE,O,.s s,O,.inl ⟨s,O,gs,_,O,?_⟩⟩)));refine gN (pQ _ O (.inr<|.inl ⟨_,_,_,_,O,O,aF.of bE,O,?_⟩));show Q (.b<|true ^^ decide (V.s s=V.s "")) _;rw[XH<|λz=>ns (by injection z)];exact q _<|e.trans f
 cases p with
 |k n=>
  refine pQ _ O (.inr<|.inl ⟨_,_,_,_,O,O,aF.of C,O,.i n,O,.inl ⟨n,O,_,O,?_⟩⟩);refine gN (pQ _ O (.inr<|.inl ⟨_,_,_,_,O,O,aF.of C,O,trivial,?_⟩));show Q (.b<|decide<|1<=n) I;rw[Y4 (show(1:Int)<=n from A)];exact q _ e
 |p s=>
  exact XV s A.1 A.2 C<|.inl O
 |c s=>
  exact XV s A.1 A.2 C<|.inr O
 exact qH _ O O (hn.go<|q _<|aA.refl _);refine qH _ O O (v3 j (pQ _ O (.inr (sY _ (aF.of j) _ O ?_))));rcases d with d|⟨w,t,rfl,d⟩
 rw[XH<|λz=>d (by injection z with z;lia)];exact q _<|aA.refl _;refine pQ _ O (.inr<|.inl ⟨_,_,_,_,O,O,aF.of j,O,jM,λx S=>?_⟩);have e:=Yb (o:=.t [V.s "keep"]) S;refine⟨w,x,[.s "keep"],O,aF.of av,O,?_⟩;have C:=e _ _ j;generalize fy H x (.t [V.s "keep"])=I at e C;have Y:(lS .s w I\/∃s,w=.s s)->w≠ .s "cut"->w≠ .s "put"->az (eN K E) (BR.drop 2) (Dn Q) (Y2 kq [.r a]) I:=by
  intro g P N;refine u a w t _ I _ O C (λM Z f b L D=>?_) g;have B:b=false:=by
   cases b with
   |false=>rfl
   |true=>rcases L rfl with z|z;exact absurd z P;exact absurd z N
  subst B;exact pQ _ O (jo<|q _<|e.trans f)
 rcases d with d|⟨s,rfl,n0,P,N⟩|⟨rfl,d⟩|⟨g,d⟩
 refine .inr ⟨d.same e,Y (.inl<|d.same e) ?_ ?_⟩;rintro rfl;cases (show true=false from d);rintro rfl;cases (show true=false from d);refine .inl (pQ s O ?_);rw[Tc,beq_eq_false_iff_ne.mpr<|GE n0];exact Y (.inr (qX s O)) (λz=>P (by injection z))<|λz=>N (by injection z);refine .inl (pQ _ O ?_);refine pQ _ O (.inr<|.inl ⟨_,_,_,_,O,O,aF.of C,O,t,O,?_⟩);rcases d with d|⟨n,rfl,hn⟩
 exact .inr (tL (d.same e) _ O (jo<|q _ e));refine .inl (sY n O _ O (gN (pQ _ O (.inr<|.inl ⟨_,_,_,_,O,O,aF.of C,O,trivial,?_⟩))));show Q (.b<|decide<|1<=n) I;rw[XH ba];exact q _ e;have R:∃s,w=.s s/\("keep"==s)=false:=by
  rcases g with rfl|rfl
  exact pQ _ O ap;exact pQ _ O ap
 obtain⟨s,rfl,hk⟩:=R;refine .inl (pQ s O ?_);rw[Tc,hk];refine u a (.s s) t _ I _ O C (λM Z f b L D=>?_)<|.inr ⟨s,O⟩;have B:b=true:=by
  cases b with
  |true=>rfl
  |false=>
   obtain⟨G,F⟩:=D O;rcases g with z|z
   exact absurd z G;exact absurd z F
 subst B;have iE:=f _ _ C;refine pQ _ O (gN (pQ _ O (.inr<|.inl ⟨_,_,_,_,O,O,aF.of iE,O,t,O,?_⟩)));rcases d with d|rfl
 exact .inr (tL (d.same<|e.trans f) _ O (jo<|q _<|e.trans f));refine .inl (tI _ O ⟨ap,λc hc=>by cases hc⟩ _ O (gN (pQ _ O (.inr<|.inl ⟨_,_,_,_,O,O,aF.of iE,O,?_⟩))));exact q _<|e.trans f
theorem ah3(h:GI W H Q E):Tb W H Q E:=by
 obtain⟨v,p,rfl,a,o,q⟩:=h;exact⟨_,O,.inl ⟨p,a,o,q⟩⟩
section
variable{u:aW}{D:En}{J:St}{H:Hp}{r:ga}{Q:VK}{f:bi->Hp->Prop}{QT:sK}
theorem aa(h:J[i]?=some (some v))(q:Q v H):af u (.v i) J H Q:=⟨_,h,q⟩
theorem ai(q:Q v H):af u (.c v) J H Q:=q
theorem Td(q:Q (u.gv j) H):af u (.g j) J H Q:=q
theorem bg(h:af u a J H λx I=>af u b J I λy Z=>kj u.K op x y Z Q):af u (.b op a b) J H Q:=h
theorem ky(h:af u a J H λx I=>af u b J I λy Z=>dc u.K op x y Z Q):af u (.p op a b) J H Q:=h
theorem bF(h:af u a J H λx I=>af u b J I λy Z=>o6 u.K u.sd x y Z Q):af u (.i a b) J H Q:=h
theorem ah4(h:br u as J H λW I=>u.fs j (W++[]) I Q u.E):af u (.l j as) J H Q:=h
theorem bA(s:Sp)(a:u.fs j=s)(h:br u as J H λW I=>s W I Q u.E):af u (.l j as) J H Q:=by
 subst a;refine ah4 ?_;have e:(fun(W:bi)(I:Hp)=>u.fs j (W++[]) I Q u.E)=λW I=>u.fs j W I Q u.E:=by
  funext W I;rw[Yh]
 rw[e];exact h
theorem Te(h:br u as J H λW I=>lu u.K b W I Q):af u (.t b as) J H Q:=h
theorem dt(h:br u as J H λU I=>U.length<=sizeLine/\∀p,I p=none->Q (.r p) (fy I p<|.t U)):af u (.T as) J H Q:=h
theorem cQ(h:br u as J H λU I=>U.length<=sizeLine/\∀p,I p=none->Q (.r p) (fy I p<|.l U)):af u (.L as) J H Q:=h
theorem aD(q:f [] H):br u [] J H f:=q
theorem ao(h:af u a J H λx I=>br u as J I λU Z=>f (x::U) Z):br u (a::as) J H f:=h
theorem aO(h:af u e J H λx I=>az u r D (J.set i<|some x) I):az u (.a i e::r) D J H:=h
theorem cW(h:af u e J H λY I=>az u r D J I):az u (.d e::r) D J H:=h
theorem b_(h:af u e J H D.r):az u (.r e::r) D J H:=h
end
theorem Paired.app:∀{U b:List α}{Y u:List β},Paired R U Y->Paired R b u->Paired R (U++b) (Y++u):=by
 intro Z Z Z Z h s;induction h with
 |nil=>exact s
 |cons r Z i=>exact .cons r i
theorem ZS.good(h:ZS l ps r)(a:∀c∈l,SG.cps.contains c=true)(b:∀p∈ps,oo p):∀c∈r,SG.cps.contains c=true:=by
 induction h with
 |N=>exact a
 |k e Y i=>
  intro c g;rcases R8.mp g with z|z
  exact a c (R8.mpr<|.inl z);exact i (λd f=>a d<|R8.mpr<|.inr f) (λp h=>b p<|.tail _ h) c z
 |t Y i=>
  intro c g;rcases R8.mp g with z|z
  exact(b _ (.head _):sg _) c z;exact i a (λp h=>b p<|.tail _ h) c z
 |C Y i=>exact i (λd f=>a d<|R8.mpr<|.inr f) (λp h=>b p<|.tail _ h)
theorem ZS.len(h:ZS l ps r):r.length<=l.length+ay ps:=by
 induction h with
 |N=>simp
 | @k a l r n ps e _ i=>
  have:ay (.k n::ps)=0+ay ps:=O;simp;lia
 | @t s l r ps _ i=>
  have:ay (.p s::ps)=s.length+ay ps:=O;have e:=YN s;simp only[Yy];lia
 | @C s l r ps _ i=>
  have:ay (.c s::ps)=s.length+ay ps:=O;simp;lia
theorem Ho(k:Nat)(n:Int)(m:Nat)(a:n=m):oZ x (some (k:Int)) (some<|(k:Int)+n)=⟨((x.cps.toList.drop k).take m).toArray⟩:=by
 have e:(k:Int)+n=((k+m:Nat):Int):=by lia
 unfold oZ oY;rw[e,HT.nQ,HT.nQ];by_cases h:k<=x.cps.toList.length;rw[show min k x.cps.toList.length=k by lia];by_cases b:k+m<=x.cps.toList.length;rw[show min (k+m) x.cps.toList.length=k+m by lia,X5];rw[RP (by rw[Y0];omega),RP (by rw[Y0];lia)];rw[show min k x.cps.toList.length=x.cps.toList.length by lia,Xx,XX (AP (x8 h)),Yg,Yg]
inductive ui(W:bi)(H:Hp)(Q:VK)(E:XK):Prop|i(x a U ps r:_)(_:W=[.s x,.r a])(_:good x)(_:H a=some (.l U))(_:aC H U ps)(_:(∀p∈ps,GF p))(_:ZS x.cps.toList ps r)(_:r.length<=1000000)(_:Q (.s ⟨r.toArray⟩) H)
theorem ah5{K:Frag}:cL (ui) (λE=>aV K E) OU Gh:=by
 intro W H Q E h;obtain⟨x,a,U,ps,r,rfl,R,L,P,aE,S,I,q⟩:=h;have g:=FS P;refine uK _ O a O (qX _ (ax.of L)) (jk (K:=K) (a:=a) (xs:=U) (λi J Z=>mR λl z d t w v=>xS (J=[some (.s x),some (.r a),some (.s ⟨d.toArray⟩),some (.i ((l.length:Nat):Int)),w,v]) (Z=H) (x.cps.toList=l++z) (r=d++t) (ZS z (ps.drop i) t))
 ⟨[],x.cps.toList,[],r,none,none,O,O,O,O,S⟩ (by rintro i J Z _ ⟨_,_,_,_,_,_,_,e,_,_,_⟩;exact e ▸ ax.of L) ?_ ?_)
 rintro i y J Z X ⟨l,z,d,t,w,v,rfl,rfl,j,f,m⟩;obtain⟨C,F,b,rfl,Y⟩:=P.get X;have M:i<ps.length:=(ZT.mp F).1;have ed:ps.drop i=C::ps.drop (i+1):=by
  rw[Zy M];congr 1;exact X8<|(YO M).symm.trans F
 rw[ed] at m;obtain⟨u,D,N,B,rfl,rfl,A,o⟩:=G6 m;have c8:=aE C (X_ F);have T:d.length+N.length<=1000000:=by rw[f] at I;simp at I;lia
 refine tA b _ O (.inl<|aF.of Y) O _ _ O _ _ O O ?_;cases C with
 |p s=>
  obtain⟨rfl,rfl⟩:=o;refine⟨_,O,_,O,_,O,_,O,cE (by exact T),?_⟩;refine⟨l,D,d++s.cps.toList,B,some<|.s "put",some<|.s s,?_,O,j,by rw[f];simp,A⟩;rw[show(⟨d.toArray⟩++s:Str)=⟨(d++s.cps.toList).toArray⟩ from iX (by rw[Jn])];rfl
 |c s=>
  obtain⟨rfl,rfl⟩:=o;refine⟨_,O,_,O,_,O,_,O,_,O,_,O,cE c8,?_⟩;refine⟨l++s.cps.toList,D,d,B,some<|.s "cut",some<|.s s,?_,O,by rw[j];simp,f,A⟩;rw[Yy,<-YN,Yu];rfl
 |k n=>
  obtain⟨rfl,G⟩:=o;refine⟨_,O,_,O,_,O,_,O,?_⟩;refine sY _ O _ O ⟨_,O,_,O,_,O,_,O,_,O,cE R.1,?_⟩;rw[G9 j n G];refine⟨cE (by exact T),?_⟩;refine sY _ O _ O ?_;refine⟨l++u,D,d++u,B,some<|.s "keep",some<|.i n,?_,O,by rw[j];simp,by rw[f];simp,A⟩;rw[show(⟨d.toArray⟩++ ⟨u.toArray⟩:Str)=⟨(d++u).toArray⟩ from iX (by rw[Jn]),Yy,G,Yu];rfl
 rintro J Z ⟨l,z,d,t,w,v,rfl,rfl,j,f,m⟩;rw[g,Xx] at m;cases m;rw[Yh] at f;subst f;exact pQ _ O q
def bf:Pt->Nat|.k n=>n.toNat|.p s=>s.length|.c s=>s.length
noncomputable def c4:Pt->Nat->Pt
 |.k n,o=>.k (n - o)
 |.p s,o=>.p ⟨(s.cps.toList.drop o).toArray⟩
 |.c s,o=>.c ⟨(s.cps.toList.drop o).toArray⟩
noncomputable def aY:Pt->Nat->Pt
 |.k _,o=>.k o
 |.p s,o=>.p ⟨(s.cps.toList.take o).toArray⟩
 |.c s,o=>.c ⟨(s.cps.toList.take o).toArray⟩
theorem Tg(p:Pt)(o:Nat):(c4 p o).word=p.word:=by cases p<;>rfl
theorem ah6(p:Pt)(o:Nat):(aY p o).word=p.word:=by cases p<;>rfl
theorem lU(h:a_ p):tM p=(bf p:Int)/\1<=bf p:=by
 cases p with
 |k n=>
  have a:(1:Int)<=n:=h;exact⟨by show n=(n.toNat:Int);lia,by show 1<=n.toNat;lia⟩
 |p s=>
  obtain⟨c,r,e⟩:=jY h.2;exact⟨O,by show 1<=s.length;rw[YN,e];simp⟩
 |c s=>
  obtain⟨c,r,e⟩:=jY h.2;exact⟨O,by show 1<=s.length;rw[YN,e];simp⟩
theorem lZ(l:bv):(⟨l.toArray⟩:Str).length=l.length:=O
theorem ot(p:Pt)(o:Nat)(h:o<=bf p):bf (c4 p o)=bf p - o:=by
 cases p with
 |k n=>
  show(n - (o:Int)).toNat=n.toNat - o;lia
 |p s=>show(⟨(s.cps.toList.drop o).toArray⟩:Str).length=s.length - o;rw[lZ,Y0,<-YN]
 |c s=>show(⟨(s.cps.toList.drop o).toArray⟩:Str).length=s.length - o;rw[lZ,Y0,<-YN]
theorem yU(p:Pt)(o:Nat)(h:o<=bf p):bf (aY p o)=o:=by
 cases p with
 |k n=>show((o:Int)).toNat=o;exact Yf _
 |p s=>
  have a:o<=s.length:=h;rw[YN] at a;show(⟨(s.cps.toList.take o).toArray⟩:Str).length=o;rw[lZ,Y7];lia
 |c s=>
  have a:o<=s.length:=h;rw[YN] at a;show(⟨(s.cps.toList.take o).toArray⟩:Str).length=o;rw[lZ,Y7];lia
theorem drop_zero(p:Pt):c4 p 0=p:=by
 cases p with
 |k n=>show Pt.k (n - ((0:Nat):Int))=_;rw[show n - ((0:Nat):Int)=n by lia]
 |p s=>show Pt.p ⟨(s.cps.toList.drop 0).toArray⟩=_;rw[YU]
 |c s=>show Pt.c ⟨(s.cps.toList.drop 0).toArray⟩=_;rw[YU]
theorem drop_drop(p:Pt)(a b:Nat):c4 (c4 p a) b=c4 p (a+b):=by
 cases p with
 |k n=>show Pt.k (n - (a:Int) - (b:Int))=Pt.k (n - ((a+b:Nat):Int));lia
 |p s=>show Pt.p ⟨((s.cps.toList.drop a).drop b).toArray⟩=Pt.p ⟨(s.cps.toList.drop<|a+b).toArray⟩;rw[List.drop_drop]
 |c s=>show Pt.c ⟨((s.cps.toList.drop a).drop b).toArray⟩=Pt.c ⟨(s.cps.toList.drop<|a+b).toArray⟩;rw[List.drop_drop]
theorem XU(p:Pt)(h:iD p):aY p (bf p)=p:=by
 cases p with
 |k n=>
  have a:0<=n:=h;show Pt.k ((n.toNat:Nat):Int)=_;rw[show((n.toNat:Nat):Int)=n by lia]
 |p s=>show Pt.p ⟨(s.cps.toList.take s.length).toArray⟩=_;rw[YN,o_]
 |c s=>show Pt.c ⟨(s.cps.toList.take s.length).toArray⟩=_;rw[YN,o_]
theorem CC(p:Pt)(o:Nat)(h:o<=bf p):aN p=aN (aY p o)++aN (c4 p o):=by
 cases p with
 |k n=>
  have a:o<=n.toNat:=h;show rK n.toNat=rK ((o:Nat):Int).toNat++rK (n - (o:Int)).toNat;rw[SO];congr 1;lia
 |p s=>
  show s.cps.toList.map At.P=(s.cps.toList.take o).map At.P++(s.cps.toList.drop o).map At.P;rw[<-Z4,Yt]
 |c s=>
  show s.cps.toList.map At.C=(s.cps.toList.take o).map At.C++(s.cps.toList.drop o).map At.C;rw[<-Z4,Yt]
theorem CF(h:good s)(l:bv)(a:l.length<=s.length)(m:∀c∈l,c∈s.cps.toList):good ⟨l.toArray⟩:=
 ⟨by exact oT a h.1,λc b=>h.2 c<|m c b⟩
theorem CG(h:l≠ []):(⟨l.toArray⟩:Str)≠"":=λz=>h (by have:=FM (λs=>s.cps.toList) z;exact this)
theorem Hq{o:Nat}(h:a_ p)(a:o<bf p):a_ (c4 p o):=by
 cases p with
 |k n=>
  have d:o<n.toNat:=a;show(1:Int)<=n - (o:Int);lia
 |p s=>
  have d:o<s.cps.toList.length:=by exact a
  exact⟨CF h.1 _ (Y0▸Zl _ _) λc b=>ZH b,CG (by intro z;have:=FM List.length z;rw[Y0] at this;have t:s.cps.toList.length - o=0:=this;lia)⟩
 |c s=>
  have d:o<s.cps.toList.length:=by exact a
  exact⟨CF h.1 _ (by rw[Y0,<-YN];exact Zl _ _) λc b=>ZH b,CG (by intro z;have:=FM List.length z;rw[Y0] at this;have t:s.cps.toList.length - o=0:=this;lia)⟩
theorem CH{o:Nat}(h:a_ p)(e:1<=o)(b:o<=bf p):a_ (aY p o):=by
 cases p with
 |k n=>show(1:Int)<= (o:Int);lia
 |p s=>
  have d:o<=s.cps.toList.length:=by exact b
  exact⟨CF h.1 _ (by rw[Y7,<-YN];lia) λc a=>pI a,CG (by intro z;have:=FM List.length z;rw[Y7] at this;have t:min o s.cps.toList.length=0:=this;lia)⟩
 |c s=>
  have d:o<=s.cps.toList.length:=by exact b
  exact⟨CF h.1 _ (by rw[Y7,<-YN];lia) λc a=>pI a,CG (by intro z;have:=FM List.length z;rw[Y7] at this;have t:min o s.cps.toList.length=0:=this;lia)⟩
noncomputable def wf(L:z4)(i o:Int):io:=[("parts",.r L),("passed_by",.i i),("offset",.i o)]
theorem CI{i o:Int}:(wf L i o).lookup ("parts":Str)=some (.r L):=mM
theorem yV{i o:Int}:(wf L i o).lookup ("passed_by":Str)=some (.i i):=O
theorem Th{i o:Int}:(wf L i o).lookup ("offset":Str)=some (.i o):=O
theorem CJ{i o:Int}{m:Str}(b:¬m="parts")(a:¬m="passed_by")(h:¬m="offset"):(wf L i o).lookup m=none:=(eS b).trans ((eS a).trans<|(eS h).trans O)
theorem Ti{i o:Int}:aU "offset" (.i k) (wf L i o)=wf L i k:=O
theorem YY{i o:Int}:aU "passed_by" (.i k) (wf L i o)=wf L k o:=O
theorem ah8:aU "offset" (.i 0) (aU "passed_by" (.i 0)<|aU "parts" (.r L) [])=wf L 0 0:=O
def bY(C:z4)(H:Hp)(w L:z4)(r:be):Prop:= ∃(d:z4)(U:bi)(ps:be)(i o:Nat),H w=some (.i C d<|wf L i o)/\H L=some (.l U)/\aC H U ps/\(∀p∈ps,a_ p)/\ps.length<=200000/\
 ((ps.drop i=[]/\r=[])\/∃p t,ps.drop i=p::t/\o<bf p/\r=c4 p o::t)
theorem bY.keep{r:be}(h:bY C H w L r)(k:∀b o,H b=some o->b=w\/b=L\/(∃U,o=.t U)->B b=some o):bY C B w L r:=by
 obtain⟨x,U,ps,i,o,zq⟩:=YE h;obtain⟨f,d,c,a⟩:=Yq zq;exact uA x U ⟨ps,i,o,k _ _ f<|.inl O,k _ _ d<|.inr<|.inl O,c.mono λb Y e=>k _ _ e (.inr<|.inr ⟨Y,O⟩),a⟩
theorem bY.same{r:be}(h:bY C H w L r)(s:aA H B):bY C B w L r:=h.keep λb o e Y=>s b o e
theorem bY.but{r:be}(h:bY C H w L r)(b:bp c H B)(a:H c=some (.l U))(n:c≠L):bY C B w L r:=by
 refine h.keep λd o e z=>b d o e ?_;obtain⟨x,Z,Z,Z,Z,f,Z⟩:=YE h;rcases z with rfl|rfl|⟨Y,rfl⟩
 exact cD f a ba;exact n.symm;exact cD e a ba
theorem bY.ok{r:be}(h:bY C H w L r):∀p∈r,a_ p:=by
 obtain⟨x,U,ps,i,o,zq⟩:=YE h;obtain⟨k,j,g,d,f,⟨Y,rfl⟩|⟨p,t,e,c,rfl⟩⟩:=Gi zq;intro p b;cases b;have m:=λq a=>d q (ZH (by rw[e];exact a));intro q a;rcases Z5.mp a with rfl|a
 exact Hq (m p<|.head _) c;exact m q (.tail _ a)
def rz:be->Str
 |[]=> ""
 |p::_=>p.word
inductive mO(C:z4)(W:bi)(H:Hp)(Q:VK)(E:XK):Prop|i(w d a:z4)(U:bi)(ps:be)(_:W=[.r w,.r a])(_:H w=some (.i C d []))(_:H a=some (.l U))(_:aC H U ps)(_:(∀p∈ps,a_ p))(_:ps.length<=200000)(_:∀L B,H L=none->L≠w->bp w H B->bY C B w L ps->Q .a B)
theorem ah9{K:Frag}(T:qQ K C):cL (mO C) (λE=>aV K E) OZ OY:=by
 intro W H Q E h;obtain⟨w,d,a,U,ps,rfl,g,s,P,m,q,k⟩:=h;refine⟨_,O,U,.inl<|ax.of s,λL j=>?_⟩;have f:=aH g j;refine uR _ O w C d [] O (by rw[aw f];exact g) T.c T.yw am ?_;refine uR _ O w C d _ O av T.c T.t (by show 1<1000;decide) ?_;refine uR _ O w C d _ O av T.c T.yx (by show 2<1000;decide) ?_;rw[AA,AA];have b:bp w H (fy (fy H L<|.l U) w<|.i C d<|aU "offset" (.i 0)<|aU "passed_by" (.i 0)<|aU "parts" (.r L) []):=λc o e n=>by rw[aw n,aw<|aH e j];exact e
 refine k L _ j f.symm b (sU d U ps 0 0 ?_ ?_ (P.mono ?_) m q ?_);rw[av];rfl;rw[aw f.symm,av];intro c Y e;exact b c _ e<|cD e g ba;cases ps with
 |nil=>exact .inl ⟨O,O⟩
 |cons p t=>exact .inr (p4 p t O ((lU<|m p<|.head _).2) (by rw[drop_zero]))
theorem Hr{t:be}(h:ps.drop i=p::t):ps[i]?=some p/\ps.drop (i+1)=t/\i<ps.length:=by
 have l:i<ps.length:=by
  rcases Nat.lt_or_ge i ps.length with z|z
  exact z;rw[XX z] at h;cases h
 refine⟨?_,?_,l⟩;have:=FM List.head? h;simpa using this;rw[<-List.drop_drop,h];rfl
theorem aC.at(h:aC H U ps)(e:ps[i]?=some p):∃a,U[i]?=some (.r a)/\H a=some (.t [.s p.word,p.val]):=by
 have f:i<U.length:=by rw[(FS h)];exact(ZT.mp e).1
 obtain⟨q,b,a,d,c⟩:=h.get (i:=i) (v:=U[i]) am;rw[e] at b;cases b;exact⟨a,by rw[<-d];simp,c⟩
inductive rA(C:z4)(W:bi)(H:Hp)(Q:VK)(E:XK):Prop|i(w L:z4)(a:be)(_:W=[.r w])(_:bY C H w L a)(_:Q (.s<|rz a) H)
theorem ah_{K:Frag}(T:qQ K C):cL (rA C) (λE=>aV K E) O0 lI:=by
 intro W H Q E h;obtain⟨w,L,r,rfl,⟨d,U,ps,i,o,b,g,f,v,u,k⟩,q⟩:=h;have s:=FS f;refine sL _ O w C d _ _ O b T.c T.t yV _ O w C d _ _ O b T.c T.yw CI (.inl (tI _ (ax.of g) trivial _ O ?_));rcases k with⟨e,rfl⟩|⟨p,t,e,n,rfl⟩
 have:ps.length<=i:=by
  rcases Nat.lt_or_ge i ps.length with z|z
  rw[Zy z] at e;cases e;exact z
 exact iF q<|XH ba;obtain⟨m,y,x⟩:=Hr e;obtain⟨a,l,j⟩:=f.at m;refine iT (sL _ O w C d _ _ O b T.c T.yw CI _ O w C d _ _ O b T.c T.t yV (.inl (r3 _ _ _ _ O O (ax.of g) (eM l) (.inr<|.inl ⟨_,_,_,_,O,O,aF.of j,O,?_⟩))))<|Y4 ba;rw[show rz (c4 p o::t)=p.word from Tg p o] at q;exact q
inductive CK(C:z4)(W:bi)(H:Hp)(Q:VK)(E:XK):Prop|i(w L d:z4)(U:bi)(ps:be)(i o:Nat)(p:Pt)(_:W=[.r w])(_:H w=some (.i C d<|wf L i o))(_:H L=some (.l U))(_:aC H U ps)(_:ps[i]?=some p)(_:a_ p)(_:Q (.i<|(bf p:Int) - (o:Int)) H)
abbrev alZ(K:Frag)(E:XK):aW:=aJ K [("part_size",qZ)] [] (E:=E)
theorem II{K:Frag}(T:qQ K C):cL (CK C) (λE=>alZ K E) O1 lI:=by
 intro W H Q E h;obtain⟨w,L,d,U,ps,i,o,p,rfl,b,j,g,l,e,q⟩:=h;obtain⟨a,k,f⟩:=g.at l;refine sL _ O w C d _ _ O b T.c T.yw CI _ O w C d _ _ O b T.c T.t yV (.inl (r3 _ _ _ _ O O (ax.of j) (eM k) ⟨_,p,O,pQ a O f,tO e,pQ _ O ⟨w,C,d,_,_,O,b,T.c,T.yx,Th,trivial,?_⟩⟩));rw[(lU e).1];exact q
inductive ou(C:z4)(W:bi)(H:Hp)(Q:VK)(E:XK):Prop|i(w L:z4)(p:Pt)(t:be)(_:W=[.r w])(_:bY C H w L (p::t))(_:Q (.i (bf p:Int)) H)
theorem aib(h:ou C W H Q E):CK C W H Q E:=by
 obtain⟨w,L,p,t,rfl,⟨x,U,ps,i,o,g,f,d,c,m,⟨Y,e⟩|⟨a,k,e,l,j⟩⟩,q⟩:=h;cases e;cases j;obtain⟨b,Y,Y⟩:=Hr e;refine⟨w,L,x,U,ps,i,o,a,O,g,f,d,b,c _<|X_ b,?_⟩;rw[ot a o (AP l)] at q;rw[show((bf a:Int) - (o:Int))=((bf a - o:Nat):Int) by lia];exact q
def d9(p:Pt)(t:be)(k:Nat):be:=if k=bf p then t else c4 p k::t
inductive pS(C:z4)(W:bi)(H:Hp)(Q:VK)(E:XK):Prop|i(w L:z4)(p:Pt)(t:be)(k:Nat)(_:W=[.r w,.i (k:Int)])(_:bY C H w L (p::t))(_:1<=k)(_:k<=bf p)(_:∀r B,bp w H B->B r=some (.t [.s (aY p k).word,(aY p k).val])->H r=none->bY C B w L (d9 p t k)->Q (.r r) B)
abbrev fS(K:Frag)(C:z4)(E:XK):aW:=aJ K [] [] [] [("left",C,CK C)] (E:=E)
theorem JE{K:Frag}(T:qQ K C):cL (pS C) (λE=>fS K C E) Gj O3:=by
 intro W H Q E h;obtain⟨w,L,p,t,k,rfl,⟨x,U,ps,i,o,l,A,N,M,h5,⟨_,e⟩|⟨d,D,e,ho,e'⟩⟩,a',J,q⟩:=h;cases e;cases e';obtain⟨R,e2,e3⟩:=Hr e;obtain⟨a,ea,Z⟩:=N.at R;have I:=M _ (X_ R);rw[ot d o (AP ho)] at J;have bu:w≠L:=cD l A (by intro z;cases z);have yW:a≠w:=cD Z l (by intro z;cases z);refine sL _ O w C x _ _ O l T.c T.yw CI _ O w C x _ _ O l T.c T.t yV (.inl (r3 _ _ _ _ O O (ax.of A) (eM ea) ?_));refine pQ _ O ⟨w,C,x,_,_,O,l,T.c,T.yx,Th,?_⟩;refine sY _ O _ O ?_;refine sY _ O _ O ⟨w,C,x,_,O,l,T.c,T.yx,(by show 3<1000;decide),?_⟩;rw[Ti];have B:∀(fs:io),dn H (fy H w<|.i C x fs):=λfs b Y m=>by rw[aw<|cD m l (by intro z;cases z)];exact m
 refine pQ _ O ⟨w,x,_,O,av,CJ (by decide+kernel) (by decide+kernel) (by decide+kernel),w,L,x,U,ps,i,o+k,d,O,av,(by rw[aw bu.symm];exact A),N.mono<|B _,R,I,?_⟩;have XV:∀(j g:Nat),((ps.drop j=[]/\d9 (c4 d o) t k=[])\/∃p D,ps.drop j=p::D/\g<bf p/\d9 (c4 d o) t k=c4 p g::D)->
   az (fS K C E) (Gj.drop 5) (Dn Q) [some<|.r w,some<|.i (k:Int),some<|.r a,some<|.i (o:Int),some<|.i ((o+k:Nat):Int)] (fy H w<|.i C x<|wf L (j:Int) (g:Int)):=by
  intro j g hr;have y:fy H w (.i C x<|wf L (j:Int) (g:Int)) a=some (.t [.s d.word,d.val]):=by rw[aw yW];exact Z
  have f:∀v:V,v=(aY (c4 d o) k).val->∀r,fy H w (.i C x<|wf L (j:Int) (g:Int)) r=none->Q (.r r) (fy (fy H w<|.i C x<|wf L (j:Int) (g:Int)) r<|.t [.s d.word,v]):=by
   rintro v rfl r u;have Tj:r≠w:=λz=>by rw[z,av] at u;cases u
   have Tn:H r=none:=by rw[aw Tj] at u;exact u
   have S:bp w H (fy (fy H w<|.i C x<|wf L (j:Int) (g:Int)) r<|.t [.s d.word,(aY (c4 d o) k).val]):=λb ob m G=>by rw[aw<|aH m Tn,aw G];exact m
   refine q r _ S (by rw[av,ah6,Tg]) Tn (sU x U ps j g ?_ (S _ _ A bu.symm) (N.mono λb Y m=>S b _ m (cD m l (by intro z;cases z))) M h5 hr);rw[aw Tj.symm,av]
  refine pQ _ O (.inr<|.inl ⟨_,_,_,_,O,O,aF.of y,O,?_⟩);refine pQ _ O (.inr<|.inl ⟨_,_,_,_,O,O,aF.of y,O,_,O,?_⟩);rw[ZZ,iN];cases d with
  |k n=>exact gN (qH _ O cI (f _ O))
  |p s=>
   refine jo (pQ _ O (.inr<|.inl ⟨_,_,_,_,O,O,aF.of y,O,_,O,_,O,_,O,_,O,cE I.1.1,cI,f _ ?_⟩));show V.s (oZ s (some (o:Int))<|some ((o+k:Nat):Int))=V.s ⟨((s.cps.toList.drop o).take k).toArray⟩;rw[Yu,Ho o (k:Int) k O]
  |c s=>
   refine jo (pQ _ O (.inr<|.inl ⟨_,_,_,_,O,O,aF.of y,O,_,O,_,O,_,O,_,O,cE I.1.1,cI,f _ ?_⟩));show V.s (oZ s (some (o:Int))<|some ((o+k:Nat):Int))=V.s ⟨((s.cps.toList.drop o).take k).toArray⟩;rw[Yu,Ho o (k:Int) k O]
 refine pQ _ O ?_;rw[ZZ];by_cases X:k=bf d - o;refine iT ?_ (Y4 (by congr 1;lia));refine pQ _ O ⟨w,C,x,_,_,O,av,T.c,T.t,yV,_,O,w,C,x,_,O,av,T.c,T.t,(by show 3<1000;decide),?_⟩;rw[AA,YY];refine uR _ O w C x _ O av T.c T.yx (by show 3<1000;decide) ?_;rw[AA,Ti];refine XV (i+1) 0 ?_;have P:d9 (c4 d o) t k=t:=Fr (by rw[ot d o (AP ho)];exact X);rw[P,e2];cases t with
 |nil=>exact .inl ⟨O,O⟩
 |cons F t2=>
  have hm:a_ F:=M F (ZH (by rw[e];exact .tail _ (.head _)));exact .inr (p4 F t2 O ((lU hm).2) (by rw[drop_zero]))
 refine iF ?_ (XH (by lia));refine XV i (o+k)<|.inr ⟨d,t,e,ba,?_⟩;have P:d9 (c4 d o) t k=c4 (c4 d o) k::t:=Fk (by rw[ot d o (AP ho)];exact X);rw[P,drop_drop]
theorem cC.app{U Y u a:gz}(h:cC U Y zs)(d:cC b u a):cC (U++b) (Y++u) (zs++a):=by
 induction h with
 |n=>exact d
 |p Z i=>exact .p i
 |c Z i=>exact .c i
 |kk Z i=>exact .kk i
 |kc Z i=>exact .kc i
 |pk Z i=>exact .pk i
 |pc Z i=>exact .pc i
theorem To:∀s:bv,cC [] (s.map .P) (s.map .P)
 |[]=>.n
 |c::s=>.p (To s)
theorem Hs:∀s:bv,cC (s.map .C) [] (s.map .C)
 |[]=>.n
 |c::s=>.c (Hs s)
theorem Tp:∀n:Nat,cC (rK n) (rK n) (rK n)
 | 0=>.n
 |n+1=>.kk (Tp n)
theorem Tq:∀s:bv,cC (rK s.length) (s.map .C) (s.map .C)
 |[]=>.n
 |c::s=>.kc (Tq s)
theorem Tr:∀s:bv,cC (s.map .P) (rK s.length) (s.map .P)
 |[]=>.n
 |c::s=>.pk (Tr s)
theorem Ts:∀s:bv,cC (s.map .P) (s.map .C) []
 |[]=>.n
 |c::s=>.pc (Ts s)
def aG:gz->Nat
 |[]=>0
 |.P _::U=>aG U
 |.K::U=>aG U+1
 |.C _::U=>aG U+1
def eO:gz->Nat
 |[]=>0
 |.P _::U=>eO U+1
 |.K::U=>eO U+1
 |.C _::U=>eO U
def cnt:gz->Nat
 |[]=>0
 |.K::U=>cnt U
 |.P _::U=>cnt U+1
 |.C _::U=>cnt U+1
theorem i6:∀(U:gz)(l:bv),Zw l U->l.length=aG U
 |[],l,h=>by cases h;rfl
 |.P c::U,l,h=>i6 U l h
 |.K::U,[],h=>h.elim
 |.K::U,a::l,h=>by simp[aG,i6 U l h]
 |.C c::U,[],h=>h.elim
 |.C c::U,a::l,h=>by simp[aG,i6 U l h.2]
theorem uj:∀(U:gz)(l:bv),Zw l U->(pR l U).length=eO U
 |[],l,h=>O
 |.P c::U,l,h=>by simp[pR,eO,uj U l h]
 |.K::U,[],h=>h.elim
 |.K::U,a::l,h=>by simp[pR,eO,uj U l h]
 |.C c::U,[],h=>h.elim
 |.C c::U,a::l,h=>uj U l h.2
theorem gf:∀(U Y:gz),aG (U++Y)=aG U+aG Y
 |[],Y=>by simp[aG]
 |.P c::U,Y=>gf U Y
 |.K::U,Y=>by simp only[Yn,aG,gf U Y];lia
 |.C c::U,Y=>by simp only[Yn,aG,gf U Y];lia
theorem rB:∀(U Y:gz),cnt (U++Y)=cnt U+cnt Y
 |[],Y=>by simp[cnt]
 |.K::U,Y=>rB U Y
 |.P c::U,Y=>by simp only[Yn,cnt,rB U Y];lia
 |.C c::U,Y=>by simp only[Yn,cnt,rB U Y];lia
theorem cC.cnt{U Y:gz}(h:cC U Y zs):cnt zs<=cnt U+cnt Y:=by
 induction h<;>simp only[Internal.cnt] <;>lia
theorem wx{Y:gz}:∀(U:gz)(l:bv),Zw l (U++Y)->∃g f,l=g++f/\Zw g U/\Zw f Y/\pR l (U++Y)=pR g U++pR f Y:=by
 intro U;induction U with
 |nil=>exact λl h=>qM [] l O O h O
 |cons x U i=>
  intro l h;cases x with
  |P c=>
   obtain⟨g,f,rfl,a,b,d⟩:=i l h;exact qM g f O a b (by show c::pR _ (U++Y)=c::(pR g U++pR f Y);rw[d])
  |K=>
   cases l with
   |nil=>exact(show False from h).elim
   |cons e l=>
    obtain⟨g,f,rfl,a,b,d⟩:=i l h;exact qM (e::g) f O a b (by show e::pR _ (U++Y)=e::(pR g U++pR f Y);rw[d])
  |C c=>
   cases l with
   |nil=>exact(show False from h).elim
   |cons e l=>
    obtain⟨j,h⟩:=(show e=c/\Zw l (U++Y) from h);obtain⟨g,f,rfl,a,b,d⟩:=i l h;exact qM (e::g) f O ⟨j,a⟩ b d
theorem Tt{a:bv}{Y:gz}(h:Zw (a++b) (Y++zs))(g:a.length=aG Y):Zw a Y/\Zw b zs:=by
 obtain⟨f,l,e,c,d,Z⟩:=wx Y _ h;have:=i6 _ _ c;obtain⟨rfl,rfl⟩:=List.append_inj e ba;exact⟨c,d⟩
theorem ox(n:Nat):aG (rK n)=n:=by
 induction n with
 |zero=>rfl
 |succ n i=>show aG (rK n)+1=_;rw[i]
theorem jC(s:bv):aG (s.map .C)=s.length:=by
 induction s with
 |nil=>rfl
 |cons c s i=>show aG (s.map .C)+1=_;rw[i];rfl
theorem aih(n:Nat):eO (rK n)=n:=by
 induction n with
 |zero=>rfl
 |succ n i=>show eO (rK n)+1=_;rw[i]
theorem aii(s:bv):eO (s.map .P)=s.length:=by
 induction s with
 |nil=>rfl
 |cons c s i=>show eO (s.map .P)+1=_;rw[i];rfl
theorem Tu:∀(U:gz)(l:bv),Zw l U->pR l U=[]->∀x∈U,∃c,x=.C c:=by
 intro U;induction U with
 |nil=>intro l _ _ x b;cases b
 |cons c U r=>
  intro l h e x b;cases c with
  |P c=>cases e
  |K=>
   cases l with
   |nil=>exact h.elim
   |cons a l=>cases e
  |C c=>
   cases l with
   |nil=>exact h.elim
   |cons a l=>
    rcases Z5.mp b with rfl|b
    exact⟨c,O⟩;exact r l h.2 e x b
theorem dh.app{U Y o u:gz}(h:dh U Y o ts)(a:dh b u A T):dh (U++b) (Y++u) (o++A) (ts++T):=by
 induction h with
 |n=>exact a
 |p1 Z i=>exact .p1 i
 |p2 Z i=>exact .p2 i
 |kk Z i=>exact .kk i
 |kc Z i=>exact .kc i
 |ck Z i=>exact .ck i
 |cc Z i=>exact .cc i
theorem Tw:∀s:bv,dh (s.map .P) [] (s.map .P) (rK s.length)
 |[]=>.n
 |c::s=>.p1 (Tw s)
theorem Tx:∀s:bv,dh [] (s.map .P) (rK s.length) (s.map .P)
 |[]=>.n
 |c::s=>.p2 (Tx s)
theorem Tz:∀n:Nat,dh (rK n) (rK n) (rK n) (rK n)
 | 0=>.n
 |n+1=>.kk (Tz n)
theorem TB:∀s:bv,dh (rK s.length) (s.map .C) [] (s.map .C)
 |[]=>.n
 |c::s=>.kc (TB s)
theorem TC:∀s:bv,dh (s.map .C) (rK s.length) (s.map .C) []
 |[]=>.n
 |c::s=>.ck (TC s)
theorem TF:∀s:bv,dh (s.map .C) (s.map .C) [] []
 |[]=>.n
 |c::s=>.cc (TF s)
theorem dh.Ht{U Y o:gz}(h:dh U Y o ts):cnt o<=cnt U/\cnt ts<=cnt Y:=by
 induction h<;>simp only[cnt] <;>lia
section
variable{u:aW}{D:En}{J:St}{H:Hp}{r:ga}{Q:VK}{QA:bi->Hp->Prop}{g:sK}
theorem rC(C:z4)(s:Sp)(b:u.ms j=(C,s))(h:af u o J H λx I=>∃a d f,x=.r a/\I a=some (.i C d f)/\f.lookup m=none/\s [x] I Q u.E):af u (.q j m o []) J H Q:=by
 show sJ (u.ms j).1 m (u.ms j).2 [] u.E (af u o) (br u []) J H Q;rw[b];exact h
theorem pT(C:z4)(s:Sp)(b:u.ms j=(C,s))(h:af u o J H λx I=>∃p d f,x=.r p/\I p=some (.i C d f)/\f.lookup m=none/\af u a J I λy Z=>s [x,y] Z Q u.E):af u (.q j m o [a]) J H Q:=by
 show sJ (u.ms j).1 m (u.ms j).2 [] u.E (af u o) (br u [a]) J H Q;rw[b];exact h
theorem yX(C:z4)(s:Sp)(b:u.kt j=(C,s))(h:af u a J H λy I=>∀x d,I x=none->I d=none->d≠x->s [.r x,y] (fy (fy I d<|.o x) x<|.i C d []) (λv Z=>v=.a/\Q (.r x) Z) u.E):af u (.m j [a]) J H Q:=by
 show AZ (u.kt j).1 (u.kt j).2 [] u.E (br u [a]) J H Q;rw[b];exact h
theorem yY{c:RE}(W:Nat->St->Hp->Prop)(d:∃m,W m J H)(h:∀m J H,W m J H->bo u c J H λb I=>if b=true then ∃N:St->Hp->Prop,(∀V B,N V B->∃a,a<m/\W a V B)/\az u body {{D with nx:=az u r D} with nx:=N,c:=N,bk:=az u r D} J I else az u r D J I):az u (.q c body::r) D J H:=⟨W,d,h⟩
theorem aX{c:RE}{t:ga}(h:bo u c J H λb I=>if b=true then az u t {D with nx:=az u r D} J I else az u e {D with nx:=az u r D} J I):az u (.i c t e::r) D J H:=h
theorem aL(h:af u a J H λx I=>af u b J I λy Z=>dc u.K op x y Z λz c=>∃k,z=.b k/\g k c):bo u (.p op a b) J H g:=h
theorem bK(h:af u o J H λx I=>∃a C d s v,x=.r a/\I a=some (.i C d s)/\gj u.K C/\fZ u.K C f/\s.lookup f=some v/\Q v I):af u (.f o f) J H Q:=h
theorem eU(h:af u o J H λx I=>sO u.K (Bx m) x I/\af u a J I λy Z=>vD u.K m x [y] Z Q):af u (.a m o [a]) J H Q:=h
theorem dv{K:Frag}(q:Q (.b<|x==y) H):dc K .Eq (.s x) (.s y) H Q:=by
 show Q (.b<|false ^^ decide (V.s x=V.s y)) H;rw[ZZ,iN];exact q
theorem yZ{K:Frag}(q:Q (.b<|x !=y) H):dc K .NotEq (.s x) (.s y) H Q:=by
 show Q (.b<|true ^^ decide (V.s x=V.s y)) H;rw[KU,iN];exact q
end
theorem bY.ob{r:be}(h:bY C H w L r):∃(d:z4)(i o:Int),H w=some (.i C d<|wf L i o):=by
 obtain⟨d,U,ps,i,o,a,Y⟩:=YE h;exact⟨d,i,o,a⟩
theorem Hu{i o:Int}:(wf L i o).lookup ("word":Str)=none/\(wf L i o).lookup ("left":Str)=none/\(wf L i o).lookup ("take":Str)=none:=
 ⟨CJ (by decide+kernel) (by decide+kernel) (by decide+kernel),CJ (by decide+kernel) (by decide+kernel) (by decide+kernel),CJ (by decide+kernel) (by decide+kernel) (by decide+kernel)⟩
inductive CL(W:bi)(H:Hp)(Q:VK)(E:XK):Prop|i(v:V)(p:Pt)(u:Str)(_:W=[v,.s u])(_:jW H v p)(_:((∃n,p=.k n/\∀c t B,aA H B->H c=none->B c=some (.l [.r t])->B t=some (.t [.s "cut",.s u])->Q (.r c) B)\/
 (p=.p u/\∀c B,aA H B->H c=none->B c=some (.l [])->Q (.r c) B)))
abbrev g8(K:Frag)(et:jp)(E:XK):aW:=aJ K [] [] (et:=et) (E:=E)
theorem aij{K:Frag}:cL (CL) (λE=>g8 K et E) Pc Pb:=by
 intro W H Q E h;obtain⟨v,p,u,rfl,⟨a,rfl,d⟩,⟨n,rfl,q⟩|⟨rfl,q⟩⟩:=h;refine⟨_,O,.inr<|.inl ⟨_,_,_,_,O,O,aF.of d,O,_,O,⟨_,O,cI,λt g=>⟨jM,λc b=>?_⟩⟩⟩⟩;have f:=Yb (o:=.t [V.s "cut",V.s u]) g;have e:=Yb (o:=.l [V.r t]) b;exact q c t _ (f.trans e) (f.free b) av<|e _ _ av;refine⟨_,O,.inr<|.inl ⟨_,_,_,_,O,O,aF.of d,O,_,O,⟨_,O,.inr<|.inl ⟨_,_,_,_,O,O,aF.of d,O,_,O,_,O,?_⟩⟩⟩⟩;rw[Y4 (show(Pt.p u).val=V.s u from O)];exact⟨nE _,λc b=>q c _ (Yb b) b av⟩
theorem Hv(p:Pt)(t:be)(k:Nat):(d9 p t k).length<=t.length+1:=by
 unfold d9;split<;>simp
theorem CM(t:be)(a:k<=bf p):aq (p::t)=aN (aY p k)++aq (d9 p t k):=by
 unfold d9;rw[dr,CC p k a];split;rename_i e;have:aN (c4 p k)=[]:=by
  have h:=ot p k a;rw[e,Xy] at h;cases p with
  |k n=>
   have l:(n - (k:Int)).toNat=0:=e▸h;show rK (n - (k:Int)).toNat=[];rw[l];rfl
  |p s=>
   rw[<-e] at h;have l:(⟨(s.cps.toList.drop k).toArray⟩:Str).length=0:=h;rw[lZ] at l;show(s.cps.toList.drop k).map At.P=[];rw[CA.mp l];rfl
  |c s=>
   rw[<-e] at h;have l:(⟨(s.cps.toList.drop k).toArray⟩:Str).length=0:=h;rw[lZ] at l;show(s.cps.toList.drop k).map At.C=[];rw[CA.mp l];rfl
 rw[this,Yh];rw[dr,X7]
theorem wy(p:Pt):(aN p).length=bf p:=by
 cases p with
 |k n=>show(rK n.toNat).length=_;unfold rK;rw[X1];rfl
 |p s=>show(s.cps.toList.map At.P).length=_;rw[Y9];rfl
 |c s=>show(s.cps.toList.map At.C).length=_;rw[Y9];rfl
theorem Hw(t:be)(a:1<=k)(h:k<=bf p):(aq<|d9 p t k).length< (aq (p::t)).length:=by
 rw[CM t h,Yy,wy,yU p k h];lia
theorem wz{c:be}(h:u.ms j=(C,rA C))(d:J[i]?=some (some<|.r w))(W:bY C H w L c)(q:Q (.s<|rz c) H):af u (.q j "word" (.v i) []) J H Q:=by
 obtain⟨x,a,b,e⟩:=W.ob;exact rC C (rA C) h<|aa d ⟨w,x,_,O,e,Hu.1,w,L,c,O,W,q⟩
theorem wA{t:be}(h:u.ms j=(C,ou C))(c:J[i]?=some (some<|.r w))(W:bY C H w L (p::t))(q:Q (.i (bf p:Int)) H):af u (.q j "left" (.v i) []) J H Q:=by
 obtain⟨x,a,b,d⟩:=W.ob;exact rC C (ou C) h<|aa c ⟨w,x,_,O,d,Hu.2.1,w,L,p,t,O,W,q⟩
theorem wB{t:be}(h:u.ms j=(C,pS C))(e:J[i]?=some (some<|.r w))(W:bY C H w L (p::t))(g:1<=k)(d:k<=bf p)(f:∀c:VK,c (.i (k:Int)) H->af u a J H c)(q:∀r B,bp w H B->B r=some (.t [.s (aY p k).word,(aY p k).val])->H r=none->bY C B w L (d9 p t k)->Q (.r r) B):af u (.q j "take" (.v i) [a]) J H Q:=by
 obtain⟨m,x,b,l⟩:=W.ob;exact pT C (pS C) h<|aa e ⟨w,m,_,O,l,Hu.2.2,f _ (⟨w,L,p,t,k,O,W,g,d,q⟩)⟩
inductive CO(C:z4)(W:bi)(H:Hp)(Q:VK)(E:XK):Prop|i(w L:z4)(v:V)(b:be)(t:Pt)(l:bv)(Y:gz)(_:W=[.r w,v])(_:bY C H w L b)(_:jW H v t)(_:a_ t)(_:(∀s,t≠ .p s))(_:b.length<=200000)(_:Zw l (aq b))(_:Zw (pR l<|aq b) (aN t++Y))(_:∀(c:z4)(B:Hp)(d:bi)(a f:be)(l':bv)(zs:gz),bp w H B->H c=none->B c=some (.l d)->aC B d a->(∀p∈a,a_ p)->bY C B w L f->aq b=zs++aq f->cC zs (aN t) (aq a)->
  Zw l' (aq f)->Zw (pR l'<|aq f) Y->a.length+f.length<=b.length+1->Q (.r c) B)
theorem bp.wC{d:z4}(b:bp w H B)(h:H w=some (.i C d f)):dn H B:=λc U e=>b c _ e (cD e h ba)
theorem aik:aY (c4 (.c s) k) m=.c ⟨((s.cps.toList.drop k).take m).toArray⟩:=O
inductive Hy(C w b c L:z4)(H:Hp)(a:be)(t:Pt)(Y:gz)(m:Nat)(J:St)(B:Hp):Prop|i(k:Nat)(e u:im)(d:bi)(s f:be)(l':bv)(zs:gz)(_:m=(aq f).length)(_:J=[some<|.r w,some<|.r b,some<|.r c,some<|.i (k:Int),e,u])(_:bp w H B)(_:B c=some (.l d))(_:aC B d s)(_:(∀p∈s,a_ p))(_:bY C B w L f)(_:aq a=zs++aq f)(_:cC zs (aN<|aY t k) (aq s))(_:k<=bf t)(_:Zw l' (aq f))(_:Zw (pR l'<|aq f) (aN (c4 t k)++Y))(_:s.length+f.length<=a.length+(if k=bf t then 1 else 0)):Hy C w b c L H a t Y m J B
abbrev hI(K:Frag)(C:z4)(E:XK):aW:=aJ K [("part_size",qZ),("cut_behind",CL)] [] [] [("word",C,rA C),("take",C,pS C),("left",C,ou C)] (E:=E)
theorem ail{K:Frag}:cL (CO C) (λE=>hI K C E) Pe Pd:=by
 intro W H Q E h;obtain⟨w,L,v,rs,f,l,Y,rfl,W4,⟨M,rfl,pU⟩,aE,y6,yI,j',i',q⟩:=h;obtain⟨o',v'⟩:=lU aE;refine aO<|cQ<|aD ⟨nE _,λc U=>?_⟩;refine aO<|ai ?_;have b0:bp w H (fy H c<|.l []):=λb o e _=>by rw[aw<|aH e U];exact e
 obtain⟨u',i0,o0,TH⟩:=W4.ob;have oy:c≠w:=λz=>by rw[z,TH] at U;cases U
 have mP:c≠L:=by
  obtain⟨_,_,_,_,_,zq⟩:=YE W4;obtain⟨_,hL,_⟩:=Yo zq;exact(aH hL U).symm
 refine yY (Hy C w M c L H rs f Y)
  (qX _ ⟨0,none,none,[],[],rs,l,[],O,O,b0,av,.nil,(λp hp=>by cases hp),W4.same<|Yb U,O,?_,nE _,j',by rw[drop_zero];exact i',am⟩) ?_
 have e:aN (aY f 0)=[]:=CA.mp (by rw[wy,yU f 0<|nE _]);rw[e];exact .n;rintro m J I ⟨k,u4,u5,y,g,fM,l',zs,rfl,rfl,b1,CQ,jD,jZ,S,ez,i7,hk,hZ,F,j⟩;have Hz:I M=some (.t [.s f.word,f.val]):=b1 _ _ pU (cD pU TH (by intro z;cases z));have HA:=FS jD;have sz:∀{J:St}{Q1:VK},J[1]?=some (some<|.r M)->Q1 (.i (bf f:Int)) I->af (hI K C E) (.l 0 [.v 1]) J I Q1:=by
  intro J Q1 h1 hq;refine bA qZ O<|ao<|aa h1<|aD ⟨_,f,O,⟨M,O,Hz⟩,tO aE,?_⟩;rw[o'];exact hq
 refine aL<|aa O<|sz O ⟨trivial,_,O,?_⟩;by_cases TJ:k<bf f;refine iT (pQ _ (λV' B z=>z) ?_) (Y4 ba);have q':=Hq aE TJ;have vA:(if k=bf f then 1 else 0)=0:=Fk (XS TJ);rw[vA] at j;cases fM with
 |nil=>
  exfalso;have e1:pR l' (aq [])=[]:=O;rw[e1] at F;have:=i6 _ _ F;rw[gf] at this;have p':aG (aN<|c4 f k)=bf f - k:=by
   rw[<-ot f k hk];cases f with
   |k n=>exact ox _
   |p s=>exact absurd O (y6 s)
   |c s=>show aG ((s.cps.toList.drop k).map At.C)=_;rw[jC];show _=(⟨(s.cps.toList.drop k).toArray⟩:Str).length;rw[lZ]
  simp only[Y6] at this;lia
 |cons p t=>
  have hp:=S.ok p (.head _);obtain⟨TK,uk⟩:=lU hp;refine aX<|aL<|wz (C:=C) O O S<|ai<|dv ⟨_,O,?_⟩;show if ((p.word:Str)=="cut")=true then _ else _
  have a':∀(Z:Hp)(R:bi)(a:z4)(pt:Pt),bp w H Z->Z c=some (.l R)->aC Z R g->Z a=some (.t [.s pt.word,pt.val])->
    bp w H (fy Z c<|.l<|R++[V.r a])/\aC (fy Z c<|.l<|R++[V.r a]) (R++[V.r a]) (g++[pt]):=by
   intro Z R a pt bb u pH iE;have tt:dn Z (fy Z c<|.l<|R++[V.r a]):=bp.upd.dS u;exact⟨λb o e n=>by rw[aw<|aH e U];exact bb b o e n,aC.snoc (pH.mono tt) (pQ a O (tt _ _ iE))⟩
  have CT:∀(Z:Hp)(R TL:bi)(HB:be),Z c=some (.l R)->bY C Z w L HB->bY C (fy Z c<|.l TL) w L HB:=λZ R TL HB u W2=>W2.but bp.upd u mP;by_cases i8:p.word="cut"
  
  rw[i8];obtain⟨s,rfl⟩:∃s,p=.c s:=by
   cases p with
   |k n=>exact absurd (show("keep":Str)="cut" from i8) ap
   |p s=>exact absurd (show("put":Str)="cut" from i8) ap
   |c s=>exact qX s O
  have ta:aY (.c s) (bf<|.c s)=.c s:=XU _ trivial;have re:d9 (.c s) t (bf<|.c s)=t:=Fr O;refine cW<|eU<|aa O ⟨.inl ⟨O,_,ax.of CQ⟩,wB (C:=C) (k:=bf (.c s)) O O S uk (Yw _) (λQ' hq=>wA (C:=C) O O S hq) λa Z X ha vh W2=>?_⟩;rw[ta] at ha;rw[re] at W2;have u:Z c=some (.l y):=X _ _ CQ oy;obtain⟨k',i1,o1,wD⟩:=S.ob;have pH:aC Z y g:=jD.mono (X.wC wD);obtain⟨bb,pp⟩:=a' Z y a (.c s) (b1.trans X) u pH ha;refine qH y u (bV ba) ?_;rw[dr] at hZ F ez;obtain⟨la,lb,rfl,f1,f2,f3⟩:=wx _ _ hZ;have f0:pR la (aN<|.c s)=[]:=by
   obtain⟨b,rfl⟩:=wg s.cps.toList la [] (by rw[Yh];exact f1);have:=i6 _ _ f1;have e1:aG (aN<|.c s)=s.cps.toList.length:=jC _;rw[e1,Yy] at this;have:b=[]:=CA.mp ba;subst this;have:=Cv s.cps.toList [] [];simp only[Yh] at this;rw[Yh];exact this
  rw[f3,f0,Cs] at F;refine pQ _ ?_ ⟨k,u4,u5,y++[V.r a],g++[.c s],t,lb,zs++aN (.c s),O,O,bb,av,pp,?_,CT Z _ _ _ u W2,by rw[ez,X7],?_,hk,f2,F,?_⟩;rw[dr,Yy,wy];lia;intro x hx;rcases R8.mp hx with z|z
  exact jZ x z;rw[ZF.mp z];exact hp;have:=i7.app (Hs s.cps.toList);rw[Yh] at this;rw[gc,gV];exact this;rw[vA];simp only[Yy,Zc,Y6] at j⊢;lia;have ju:((p.word:Str)=="cut")=false:=beq_eq_false_iff_ne.mpr i8;rw[ju];obtain⟨n,hn⟩:∃n,n=min (bf p) (bf f - k):=qX _ O;have gQ:1<=n:=by lia
  have kZ:n<=bf p:=by lia
  have r':n<=bf f - k:=by lia
  have b':(if ((bf f:Int) - (k:Int)) < (bf p:Int) then ((bf f:Int) - (k:Int)) else (bf p:Int))=(n:Int):=by
   split<;>lia
  refine aO<|Te<|ao<|wA (C:=C) O O S<|ao<|bg<|sz O<|aa O ⟨trivial,aD ?_⟩;show az _ _ _ ([some<|.r w,some<|.r M,some<|.r c,some<|.i (k:Int),u4,u5].set 4 (some<|V.i (if ((bf f:Int) - (k:Int)) < (bf p:Int) then ((bf f:Int) - (k:Int)) else (bf p:Int)))) I;rw[b'];refine aO<|wB (C:=C) (k:=n) O O S gQ kZ (λQ' hq=>aa O hq) λa Z X ha vh W2=>?_;have u:Z c=some (.l y):=X _ _ CQ oy;obtain⟨k',i1,o1,wD⟩:=S.ob;have pH:aC Z y g:=jD.mono (X.wC wD);have TM:Z M=some (.t [.s f.word,f.val]):=X _ _ Hz (cD Hz wD (by intro z;cases z));have HC:=b1.trans X;have n':=CH hp gQ kZ;have eA:=CM t kZ;have eB:aN (c4 f k)=aN (aY (c4 f k) n)++aN (c4 f<|k+n):=by
   rw[CC (c4 f k) n (by rw[ot f k hk];exact r'),drop_drop]
  have eC:aN (aY f<|k+n)=aN (aY f k)++aN (aY (c4 f k) n):=by
   have h1:=CC f (k+n) ba;have h2:=CC f k hk;rw[eB] at h2;rw[h2,<-X7] at h1;exact(List.append_inj_left' h1 O).symm
  rw[eA] at hZ F ez;obtain⟨la,lb,rfl,f1,f2,f3⟩:=wx _ _ hZ;rw[f3,eB,X7] at F;have c':(pR la<|aN<|aY p n).length=n:=by
   rw[uj _ _ f1];cases p with
   |k m=>exact aih n
   |p s=>show eO ((s.cps.toList.take n).map At.P)=n;rw[aii,Y7];have hh:n<=s.length:=kZ;rw[YN] at hh;lia
   |c s=>exact absurd O i8
  have HD:aG (aN<|aY (c4 f k) n)=n:=by
   have e:bf (aY (c4 f k) n)=n:=yU _ _ (by rw[ot f k hk];exact r');cases f with
   |k m=>exact ox n
   |p s=>exact absurd O (y6 s)
   |c s=>
    have e':(⟨((s.cps.toList.drop k).take n).toArray⟩:Str).length=n:=e;rw[lZ] at e';show aG (((s.cps.toList.drop k).take n).map At.C)=n;rw[jC];exact e'
  obtain⟨g1,g2⟩:=Tt F (by rw[c',HD]);have XV:∀(A:Hp)(lM:bi)(wF:be),bp w H A->A c=some (.l lM)->aC A lM wF->(∀x∈wF,a_ x)->bY C A w L (d9 p t n)->cC (zs++aN (aY p n)) (aN<|aY f<|k+n) (aq wF)->wF.length<=g.length+1->
    ∃m',m'< (aq (p::t)).length/\Hy C w M c L H rs f Y m' [some<|V.r w,some<|.r M,some<|.r c,some<|.i<|(k:Int)+(n:Int),some<|.i (n:Int),some<|.r a] A:=by
   intro A lM wF b3 N f' g' W3 jB t';refine pQ _ (Hw t gQ kZ) ⟨k+n,some<|.i (n:Int),some<|.r a,lM,wF,d9 p t n,lb,zs++aN (aY p n),O,by rw[Yu],b3,N,f',g',W3,by rw[ez,X7],jB,ba,f2,g2,?_⟩;have r1:=Hv p t n;simp only[Zc] at j;by_cases hz:n=bf p;have r2:d9 p t n=t:=Fr hz;rw[r2];split<;>lia
   rw[Fr (show k+n=bf f by lia)];lia
  refine aX<|aL<|bF<|aa O<|ai<|.inr<|.inl ⟨_,_,_,_,O,O,aF.of TM,O,ai<|dv ⟨_,O,?_⟩⟩;cases f with
  |p s=>exact absurd O (y6 s)
  |k m=>
   refine gN ?_;refine cW<|eU<|aa O ⟨.inl ⟨O,_,ax.of u⟩,aa O ⟨y,u,bV ba,?_⟩⟩;obtain⟨bb,pp⟩:=a' Z y a (aY p n) HC u pH ha;refine aO<|bg<|aa O<|aa O ?_;refine XV _ _ (g++[aY p n]) bb av pp ?_ (CT Z _ _ _ u W2) ?_ am;intro x hx;rcases R8.mp hx with z|z
   exact jZ x z;rw[ZF.mp z];exact n';rw[eC,gc,gV];refine i7.app ?_;show cC (aN<|aY p n) (rK ((n:Nat):Int).toNat) (aN<|aY p n);rw[Yf];cases p with
   |k m'=>show cC (rK ((n:Nat):Int).toNat) (rK n) (rK ((n:Nat):Int).toNat);rw[Yf];exact Tp n
   |p s=>
    have:=Tr (s.cps.toList.take n);rw[Y7] at this;have hh:n<=s.length:=kZ;rw[YN] at hh;rw[show min n s.cps.toList.length=n by lia] at this;exact this
   |c s=>exact absurd O i8
  |c s=>
   refine jo ?_;have gI:Z M=some (.t [.s "cut",.s s]):=TM;refine cW<|eU<|aa O ⟨.inl ⟨O,_,ax.of u⟩,bA CL O<|ao<|aa O<|ao ?_⟩;refine pQ _ O (.inr<|.inl ⟨_,_,_,_,O,O,aF.of gI,O,_,O,_,O,_,O,_,O,_,O,cE aE.1.1,?_⟩);rw[Ho k (n:Int) n O];generalize hu:((s.cps.toList.drop k).take n)=D at*;have um:aN (aY (c4 (.c s) k) n)=D.map At.C:=by rw[<-hu];rfl
   have d':D.length=n:=by rw[um,jC] at HD;exact HD
   rw[um] at g1;refine⟨_,aY p n,⟨D.toArray⟩,O,pQ a O ha,?_⟩;cases p with
   |c T=>exact absurd O i8
   |k m=>
    refine .inl (pQ _ O (λd tt A G hd HE HF=>?_));have N:=G _ _ u;refine qM y [V.r tt] N HE (cE (by simp;lia)) ?_;obtain⟨bb,pp⟩:=a' A y tt (.c ⟨D.toArray⟩) (λb o e nn=>G b o<|HC b o e nn) N (pH.mono<|aQ G) HF;refine aO<|bg<|aa O<|aa O ?_;refine XV _ _ (g++[.c ⟨D.toArray⟩]) bb av pp ?_ (CT A _ _ _ N<|W2.same G) ?_ am;intro x hx;rcases R8.mp hx with z|z
    exact jZ x z;rw[ZF.mp z];have:=CH (Hq aE TJ) gQ (show n<=bf (c4 (.c s) k) by rw[ot _ k hk];exact r');rw[aik,hu] at this;exact this;rw[eC,gc,gV,um];refine i7.app ?_;show cC (rK ((n:Nat):Int).toNat) (D.map At.C) (D.map At.C);rw[Yf,<-d'];exact Tq D
   |p T=>
    have eu:(T.cps.toList.take n)=D:=by
     have TN:Zw la ((T.cps.toList.take n).map At.P++[]):=by rw[Yh];exact f1
     have uo:la=[]:=(ud _ _ _).mp TN;subst uo;have o1:pR [] (aN<|aY (.p T) n)=T.cps.toList.take n:=by
      have:=Cu (T.cps.toList.take n) [] [];rw[Yh] at this;exact this.trans<|Yh _
     rw[o1] at g1;obtain⟨b,e⟩:=wg D _ [] (by rw[Yh];exact g1);have jr:=i6 _ _ g1;rw[jC] at jr;rw[e,Yy] at jr;have:b=[]:=CA.mp ba;rw[this,Yh] at e;exact e
    refine .inr ⟨by show Pt.p ⟨(T.cps.toList.take n).toArray⟩=_;rw[eu],λd A G hd HE=>?_⟩;have N:=G _ _ u;refine qM y [] N HE (cE (by simp;lia)) ?_;rw[Yh];have tt:dn A (fy A c<|.l y):=bp.upd.dS N;refine aO<|bg<|aa O<|aa O ?_;refine XV _ _ g (λb o e nn=>by rw[aw<|aH e U];exact G b o (HC b o e nn)) av ((pH.mono<|aQ G).mono tt) jZ (CT A _ _ _ N<|W2.same G) ?_ (Y5 _);rw[eC,um];have:=i7.app (Ts D);rw[Yh] at this;show cC (zs++(T.cps.toList.take n).map At.P) _ _;rw[eu];exact this
 refine iF ?_ (XH ba);have h':k=bf f:=Yk hk (Zv TJ);subst h';rw[XU f<|rn aE] at i7;have e0:aN (c4 f<|bf f)=[]:=CA.mp (by rw[wy,ot f _<|Yw _,Xy]);rw[e0,Cs] at F;rw[Fr O] at j;exact b_<|aa O<|q c I y g fM l' zs b1 U CQ jD jZ S ez i7 hZ F j
theorem YW(ps:be):yD ps=YZ (Cr ps):=by
 unfold yD YZ Cr;rw[List.filter_map,Zq];congr 1;funext p;cases p<;>rfl
 congr 1;funext p;cases p with
 |k n=>show(decide<|"keep"≠"cut")=decide ("keep"≠"put");decide
 |p n=>show(decide<|"put"≠"cut")=decide ("cut"≠"put");decide
 |c n=>show(decide<|"cut"≠"cut")=decide ("put"≠"put");decide
theorem ZS.gives(h:ZS l ps r):(yD ps).sum=r.length:=by
 rw[YW];exact h.Cq.over
theorem aix(p:Pt):cnt (aN p)=bZ p:=by
 cases p with
 |k n=>
  have:∀m,cnt (rK m)=0:=λm=>by
   induction m with
   |zero=>rfl
   |succ m i=>exact i
  exact this _
 |p s=>
  show cnt (s.cps.toList.map .P)=s.length;rw[YN];induction s.cps.toList with
  |nil=>rfl
  |cons c t i=>show cnt (t.map .P)+1=_;rw[i];rfl
 |c s=>
  show cnt (s.cps.toList.map .C)=s.length;rw[YN];induction s.cps.toList with
  |nil=>rfl
  |cons c t i=>show cnt (t.map .C)+1=_;rw[i];rfl
theorem kz(ps:be):cnt (aq ps)=ay ps:=by
 induction ps with
 |nil=>rfl
 |cons p ps i=>
  rw[dr,rB,aix,i];simp[ay]
theorem y7(h:ps[i]?=some p):aq (ps.take<|i+1)=aq (ps.take i)++aN p:=by
 rw[Wj,h];simp[aq]
theorem ajD(h:ps[i]?=some p):ps.drop i=p::ps.drop (i+1):=by
 have a:=(ZT.mp h).1;rw[Zy a];congr 1;exact X8<|(YO a).symm.trans h
structure uq(one D' ps:be)(l r:bv):Prop where
 ok:∀p∈ps,a_ p
 ch:Ze "" ps=true
 run:ZS l ps r
 res:res 0 (aq ps)=sub (res 0<|aq one) 0 (res 0<|aq D')
 len:ps.length<=3* (one.length+D'.length)+2
 ay:ay ps<=ay one+ay D'
 aI:∃zs,cC (aq one) (aq D') zs/\nb (aq ps)=nb zs
inductive HG(W:bi)(H:Hp)(Q:VK)(E:XK):Prop|i(a b:z4)(U Y:bi)(o D':be)(l m r:bv)(_:W=[.r a,.r b])(_:H a=some (.l U))(_:H b=some (.l Y))(_:aC H U o)(_:aC H Y D')(_:(∀p∈o,a_ p))(_:(∀p∈D',a_ p))(_:Ze "" o=true)(_:Ze "" D'=true)(_:o.length+D'.length<=180000)(_:ay o+ay D'<=100000)(_:ZS l o m)(_:ZS m D' r)(_:∀(c:z4)(B:Hp)(zs:bi)(ps:be),aA H B->H c=none->B c=some (.l zs)->aC B zs ps->uq o D' ps l r->Q (.r c) B)
theorem aiy(g:ZS l one m)(e:ZS m D' r)(b:∀p∈s,a_ p)(y:s.length<=one.length+D'.length)(x:ay one+ay D'<=100000)(h:cC (aq one) (aq D') (aq s)):uq one D' (ku s) l r/\ay s<=100000:=by
 have H:=by
  have:=h.cnt;rw[kz,kz,kz] at this;exact this
 have u:=SD b (oT H x);have q:=yK s u;obtain⟨z,i,Y⟩:=tW s u (oT H x);obtain⟨k,j⟩:=g.fits;obtain⟨c,f⟩:=e.fits;rw[<-j] at c f;obtain⟨v,t,n⟩:=Hc h l 0 0 k c;have T:=uf s λp a=>rn (b p a);have w:=by
  have:=ue s l (λp a=>rn<|b p a) v;rw[t,f] at this;exact this
 have d:=Cn s;refine⟨⟨q▸i,ba,q▸yL w,by rw[WG T,n],ba,by rw[q,yO s u];exact H,_,h,T⟩,(oT H x)⟩
inductive HI(C a b w c L:z4)(H:Hp)(o D':be)(i:Nat)(J:St)(e:Hp):Prop|i(u:im)(Y:bi)(s d:be)(l':bv)(zs:gz)(_:J=[some<|.r a,some<|.r b,some<|.r w,some<|.r c,u])(_:aA H e)(_:e c=some (.l Y))(_:aC e Y s)(_:(∀p∈s,a_ p))(_:bY C e w L d)(_:aq o=zs++aq d)(_:cC zs (aq<|D'.take i) (aq s))(_:Zw l' (aq d))(_:Zw (pR l'<|aq d) (aq<|D'.drop i))(_:s.length+d.length<=o.length+i):HI C a b w c L H o D' i J e
inductive TR(C a b w c L:z4)(u:im)(H:Hp)(o D':be)(m:Nat)(J:St)(e:Hp):Prop|i(Y:bi)(s d:be)(l':bv)(zs:gz)(_:m=d.length)(_:J=[some<|.r a,some<|.r b,some<|.r w,some<|.r c,u])(_:aA H e)(_:e c=some (.l Y))(_:aC e Y s)(_:(∀p∈s,a_ p))(_:bY C e w L d)(_:aq o=zs++aq d)(_:cC zs (aq D') (aq s))(_:Zw l' (aq d))(_:pR l' (aq d)=[])(_:s.length+d.length<=o.length+D'.length):TR C a b w c L u H o D' m J e
abbrev hY(K:Frag)(C:z4)(et:jp)(E:XK):aW:=aJ K [("sizes",ph),("parts_behind",CO C),("neat",tQ)] [] [] [("word",C,rA C),("take",C,pS C),("left",C,ou C)] [("Walk",C,mO C)] (et:=et) (E:=E)
theorem aiz{K:Frag}(T:qQ K C):cL (HG) (λE=>hY K C et E) Ph Pg:=by
 intro W H Q E h;obtain⟨a,b,U,Y,j,D',l,m,r,rfl,ha,hb,kh,gu,jT,gK,dB,bO,o',HJ,mQ,l6,q⟩:=h;have lx:=FS kh;have ly:=FS gu;obtain⟨f1,f2⟩:=mQ.fits;obtain⟨f3,f4⟩:=l6.fits;rw[<-f2] at f3;refine aX<|aL<|bF<|bA ph O<|ao<|aa O<|aD ⟨a,U,j,O,ha,kh,jT,dB,ba,λt1 I s1 gU=>?_⟩;refine ai<|.inr<|.inl ⟨_,_,_,_,O,O,aF.of gU,O,?_⟩;refine bF<|bA ph O<|ao<|aa O<|aD ⟨b,Y,D',O,s1 _ _ hb,gu.mono<|aQ s1,gK,bO,ba,λt2 Z s2 fO=>?_⟩;refine ai<|.inr<|.inl ⟨_,_,_,_,O,O,aF.of fO,O,?_⟩;refine pQ _ O ?_;rw[mQ.gives,l6.over,Y4 O];have dD:=s1.trans s2;refine aO<|yX C (mO C) O<|aa O λw dx hw y8 ju=>?_;have s3:aA Z (fy (fy Z dx<|.o w) w<|.i C dx []):=λb o e=>by rw[aw<|aH e hw,aw<|aH e y8];exact e
 have oA:=dD.trans s3;refine⟨w,dx,a,U,j,O,av,oA _ _ ha,kh.mono<|aQ oA,jT,ba,λL H3 hL p' b3 W1=>⟨O,?_⟩⟩;have mS:aA H H3:=λb o e=>b3 b o (oA b o e) (aH (dD b o e) hw);have fw:H w=none:=dD.free hw;refine aO<|cQ<|aD ⟨nE _,λc hc=>?_⟩;have fc:H c=none:=mS.free hc;have mP:c≠L:=by
  obtain⟨_,_,_,_,_,zq⟩:=YE W1;obtain⟨_,g',_⟩:=Yo zq;exact(aH g' hc).symm
 have oy:c≠w:=by
  obtain⟨_,_,_,hW⟩:=W1.ob;exact(aH hW hc).symm
 have TU:∀{u H5:Hp},aA H u->bp w u H5->aA H H5:=λs b d o e=>b d o (s d o e) (aH e fw);have HK:∀{u:Hp}{o:HO},aA H u->aA H (fy u c o):=λs d o e=>by rw[aw<|aH e fc];exact s d o e
 refine uK _ O b O (qX _ (ax.of ((Yb (o:=.l []) hc) _ _ (mS _ _ hb)))) (jk (K:=K) (a:=b) (xs:=Y) (HI C a b w c L H j D')
 ⟨none,[],[],j,l,[],O,mS.trans<|Yb hc,av,.nil,(λp hp=>by cases hp),W1.same<|Yb hc,O,.n,f1,f3,am⟩
  (by rintro i J u _ ⟨_,_,_,_,_,_,_,S,_,_,_,_,_,_,_,_,_⟩;exact ax.of (S _ _ hb)) ?_ ?_)
 rintro i y J u hi ⟨u0,g,f,X,l',zs,rfl,S,N,D,jZ,W4,F,G,M,fb,mT⟩;obtain⟨p,hp,mH⟩:=gu.get hi;obtain⟨A,rfl,pU⟩:=mH.mono (aQ S);have e9:i<D'.length:=(ZT.mp hp).1;have i9:=gK p (X_ hp);have GZ:=FS D;rw[ajD hp,dr] at fb;refine aX<|aL<|bF<|aa O<|ai<|.inr<|.inl ⟨_,_,_,_,O,O,aF.of pU,O,ai<|dv ⟨_,O,?_⟩⟩;have a':(∀s,p≠ .p s)->az (hY K C et E) [.d<|.a .e (.v 3) [(.l 1 [.v 2,.v 4])]]
   {nx:=HI C a b w c L H j D' (i+1),r:=Q} [some<|.r a,some<|.r b,some<|.r w,some<|.r c,some<|.r A] u:=by
  intro y6;refine cW<|eU<|aa O ⟨.inl ⟨O,_,ax.of N⟩,bA (CO C) O<|ao<|aa O<|ao<|aa O<|aD ?_⟩;refine⟨w,L,_,X,p,l',_,O,W4,pQ A O pU,i9,y6,ba,M,fb,λd H5 HL n' d' l5 b' b5 hd h' TV m' W5 k' rD j' i' uu=>?_⟩;have pJ:H5 c=some (.l g):=b5 _ _ N oy;obtain⟨_,_,_,f'⟩:=W4.ob;have q':=FS TV;refine qM g HL pJ h' (cE ba) ?_;have R:dn H5 (fy H5 c<|.l<|g++HL):=bp.upd.dS pJ;refine⟨some<|.r A,g++HL,f++n',d',l5,zs++b',O,HK<|TU S b5,av,Paired.app ((D.mono<|b5.wC f').mono R)<|TV.mono R,?_,W5.but bp.upd pJ mP,by rw[F,k',X7],?_,j',i',?_⟩;intro x hx;rcases R8.mp hx with z|z
  exact jZ x z;exact m' x z;rw[y7 hp,gc];exact G.app rD;simp only[Yy];lia
 cases p with
 |p s=>
  refine gN ?_;refine cW<|eU<|aa O ⟨.inl ⟨O,_,ax.of N⟩,aa O ⟨g,N,bV ba,?_⟩⟩;have R:dn u (fy u c<|.l<|g++[V.r A]):=bp.upd.dS N;refine⟨some<|.r A,g++[V.r A],f++[.p s],X,l',zs,O,HK S,av,aC.snoc (D.mono R) (pQ A O (R _ _ pU)),?_,W4.but bp.upd N mP,F,?_,M,(ud _ _ _).mp fb,by simp;lia⟩;intro x hx;rcases R8.mp hx with z|z
  exact jZ x z;rw[ZF.mp z];exact i9;rw[y7 hp,gc,gV];have:=G.app (To s.cps.toList);rw[Yh] at this;exact this
 |k n=>exact jo (a' λs z=>by cases z)
 |c s=>exact jo (a' λs z=>by cases z)
 rintro J u ⟨u0,g,f,X,l',zs,rfl,S,N,D,jZ,W4,F,G,M,fb,mT⟩;rw[ly,o_] at G;rw[ly,Xx] at fb;have oe:pR l' (aq X)=[]:=fb;refine yY (TR C a b w c L u0 H j D')
  (qX _ ⟨g,f,X,l',zs,O,O,S,N,D,jZ,W4,F,G,M,oe,ba⟩) ?_
 rintro mm J H5 ⟨g,f,X,l',zs,rfl,rfl,s5,pJ,D,jZ,W5,F,G,M,oe,uu⟩;have GZ:=FS D;refine aL<|wz (C:=C) O O W5<|ai<|yZ ⟨_,O,?_⟩;cases X with
 |nil=>
  refine iF ?_ O;rw[show aq []=[] from O,Yh] at F;subst F;obtain⟨J0,HH⟩:=aiy mQ l6 jZ (by simp at uu;exact uu) HJ G;refine b_<|bA tQ O<|ao<|aa O<|aD ⟨c,g,f,O,pJ,D,by simp at uu;lia,HH,λd H6 ws s6 hd h6 rE=>?_⟩;exact q d H6 ws _ (s5.trans s6) (s5.free hd) h6 rE J0
 |cons p t=>
  have i9:=W5.ok p (.head _);obtain⟨TK,uk⟩:=lU i9;have i8:∃s,p=.c s:=by
   have qE:=Tu _ _ M oe;cases p with
   |c s=>exact qX s O
   |k n=>
    exfalso;have gQ:(1:Int)<=n:=i9;obtain⟨c',e⟩:=qE .K (by rw[dr];refine ZX _ ?_;show At.K∈rK n.toNat;unfold rK;rw[List.mem_replicate];exact⟨ba,O⟩);cases e
   |p s=>
    exfalso;obtain⟨c0,r0,e0⟩:=jY i9.2;obtain⟨c',e⟩:=qE (.P c0) (by rw[dr];refine ZX _ ?_;show At.P c0∈s.cps.toList.map At.P;rw[e0];exact .head _);cases e
  obtain⟨s,rfl⟩:=i8;have ta:aY (.c s) (bf<|.c s)=.c s:=XU _ trivial;have re:d9 (.c s) t (bf<|.c s)=t:=Fr O;refine iT (pQ _ (λV' B z=>z) ?_) O;refine cW<|eU<|aa O ⟨.inl ⟨O,_,ax.of pJ⟩,wB (C:=C) (k:=bf (.c s)) O O W5 uk (Yw _) (λQ' hq=>wA (C:=C) O O W5 hq) λA H6 b6 pU vh W6=>?_⟩;rw[ta] at pU;rw[re] at W6;have jA:H6 c=some (.l g):=b6 _ _ pJ oy;obtain⟨_,_,_,e'⟩:=W5.ob;simp only[Zc] at uu;refine qH g jA (bV ba) ?_;have R:dn H6 (fy H6 c<|.l<|g++[V.r A]):=bp.upd.dS jA;rw[dr] at M oe F;obtain⟨la,lb,zq⟩:=ZL (wx _ _ M);obtain⟨rfl,g1,g2,g3⟩:=Yq zq;rw[g3] at oe;refine pQ t.length am ⟨g++[V.r A],f++[.c s],t,lb,zs++aN (.c s),O,O,HK<|TU s5 b6,av,aC.snoc ((D.mono<|b6.wC e').mono R) ⟨A,O,R _ _ pU⟩,?_,W6.but bp.upd jA mP,by rw[F,X7],?_,g2,(List.append_eq_nil_iff.mp oe).2,by simp;lia⟩;intro x hx;rcases R8.mp hx with z|z
  exact jZ x z;rw[ZF.mp z];exact i9;rw[gc,gV];have:=G.app (Hs s.cps.toList);rw[Yh] at this;exact this
def y9(w c d:z4)(H B:Hp):Prop:= ∀b o,H b=some o->b≠w->b≠c->b≠d->B b=some o
theorem bY.TX{r:be}(h:bY C H w L r)(b:y9 v c d H B)(j:H c=some (.l U))(g:H d=some (.l Y))(q:c≠L)(p:d≠L)(n:w≠v)(m:∃C' x t,H v=some (.i C' x t)):bY C B w L r:=by
 obtain⟨C',M,N,f⟩:=m;refine h.keep λe o a z=>b e o a ?_ ?_ ?_
 all_goals obtain⟨x,Z,Z,Z,Z,zq⟩:=YE h;obtain⟨k,s,Z⟩:=Yo zq
 rcases z with rfl|rfl|⟨Y,rfl⟩
 exact n;exact cD s f ba;exact cD a f ba;rcases z with rfl|rfl|⟨Y,rfl⟩
 exact cD k j ba;exact q.symm;exact cD a j ba;rcases z with rfl|rfl|⟨Y,rfl⟩
 exact cD k g ba;exact p.symm;exact cD a g ba
inductive CU(C:z4)(W:bi)(H:Hp)(Q:VK)(E:XK):Prop|i(w L c d:z4)(s:Str)(t:be)(U Y:bi)(_:W=[.r w,.r c,.r d])(_:bY C H w L (.p s::t))(_:H c=some (.l U))(_:H d=some (.l Y))(_:c≠d)(_:c≠L)(_:d≠L)(_:U.length<=100000)(_:Y.length<=100000)(_:∀(a b:z4)(B:Hp),y9 w c d H B->B c=some (.l<|U++[.r a])->B d=some (.l<|Y++[.r b])->B a=some (.t [.s "put",.s s])->B b=some (.t [.s "keep",.i (s.length:Int)])->bY C B w L t->Q .a B)
abbrev agO(K:Frag)(C:z4)(E:XK):aW:=aJ K [("part_size",qZ)] [] [] [("take",C,pS C),("left",C,ou C)] (E:=E)
theorem aiM{K:Frag}:cL (CU C) (λE=>agO K C E) O5 O4:=by
 intro W H Q E h;obtain⟨w,L,c,d,s,t,U,Y,rfl,n,D,A,F,mP,M,lx,ly,q⟩:=h;have x:=n.ok _ (.head _);obtain⟨TK,R⟩:=lU x;have S:aY (.p s) (bf<|.p s)=.p s:=XU _ trivial;have X:d9 (.p s) t (bf<|.p s)=t:=Fr O;refine aO<|wB O O n R (Yw _) (λQ' hq=>wA O O n hq) λa I m u vh G=>?_;rw[S] at u;rw[X] at G;obtain⟨Z,Z,Z,y⟩:=n.ob;have B:=m _ _ D (cD D y ba);refine cW<|eU<|aa O ⟨.inl ⟨O,_,ax.of B⟩,aa O ⟨U,B,bV (oT lx (Zs _ _)),?_⟩⟩;have f:fy I c (.l<|U++[.r a]) d=some (.l Y):=by rw[aw F.symm];exact (m _ _ A (cD A y ba))
 have k:fy I c (.l<|U++[.r a]) a=some (.t [.s "put",.s s]):=by rw[aw<|cD u B ba];exact u
 refine cW<|eU<|aa O ⟨.inl ⟨O,_,ax.of f⟩,dt<|ao<|ai<|ao<|bA qZ O<|ao<|aa O<|aD ⟨_,.p s,O,⟨a,O,k⟩,tO x,aD ⟨cI,λj g=>?_⟩⟩⟩;have J:fy (fy I c<|.l<|U++[.r a]) j (.t [.s "keep",.i<|tM<|.p s]) d=some (.l Y):=by rw[aw<|aH f g];exact f
 refine qH Y J (bV (oT ly (Zs _ _))) ?_;have T:c≠j:=λz=>by rw[<-z,av] at g;cases g
 have f2:=by rw[aw T.symm] at g;exact g
 refine q a j _ ?_ ?_ av ?_ ?_ ?_;intro b o e v n2 n3;rw[aw n3,aw<|aH (m b o e v) f2,aw n2];exact m b o e v;rw[aw F,aw T,av];rw[aw<|cD k f (by lia),aw<|aH k g];exact k;rw[aw (aH f g).symm,av];rfl;refine((G.but bp.upd B mP).same<|Yb g).but bp.upd J M
inductive HN(W:bi)(H:Hp)(Q:VK)(E:XK):Prop|i(g v:V)(c d:z4)(f e:Pt)(U Y:bi)(_:W=[g,v,.r c,.r d])(_:jW H g f)(_:jW H v e)(_:(∀s,f≠ .p s))(_:(∀s,e≠ .p s))(_:(∀s h,f=.c s->e=.c h->s=h))(_:H c=some (.l U))(_:H d=some (.l Y))(_:c≠d)(_:U.length<=100000)(_:Y.length<=100000)(_:∀(B:Hp),(∀b o,H b=some o->b≠c->b≠d->B b=some o)->B c=some (.l<|U++if So e then [g] else [])->B d=some (.l<|Y++if So f then [v] else [])->Q .a B)
theorem aiO{K:Frag}:cL (HN) (λE=>g8 K et E) O7 O6:=by
 intro W H Q E h;obtain⟨N,M,c,d,I,F,U,Y,rfl,⟨u,rfl,f⟩,⟨X,rfl,j⟩,v,T,y,a,g,A,S,R,q⟩:=h;have P:∀zs,fy H c (.l zs) d=some (.l Y):=λzs=>by rw[aw A.symm];exact g
 have L:∀zs b o,H b=some o->b≠c->b≠d->fy H c (.l zs) b=some o:=λzs b o e x Z=>by rw[aw x];exact e
 have J:∀zs b o,H b=some o->b≠c->b≠d->fy H d (.l zs) b=some o:=λzs b o e Z w=>by rw[aw w];exact e
 have C:∀zs D b o,H b=some o->b≠c->b≠d->fy (fy H c<|.l zs) d (.l D) b=some o:=λzs D b o e x w=>by rw[aw w,aw x];exact e
 cases I with
 |p s=>exact absurd O (v s)
 |k n=>
  refine pQ _ O (.inr<|.inl ⟨_,_,_,_,O,O,aF.of f,O,_,O,?_⟩);refine pQ _ O (.inr<|.inl ⟨_,_,_,_,O,O,aF.of j,O,_,O,?_⟩);cases F with
  |p s=>exact absurd O (T s)
  |k m=>
   refine tI _ O (.inl (uJ O _ (ax.of a))) _ O ⟨U,a,bV (oT S (Zs _ _)),?_⟩;have B:fy H c (.l<|U++[V.r u]) u=some (.t [.s "keep",.i n]):=by rw[aw<|cD f a (by lia)];exact f
   refine pQ _ O (.inr<|.inl ⟨_,_,_,_,O,O,aF.of B,O,_,O,?_⟩);refine tI _ O (.inl (uJ O _ (ax.of<|P _))) _ O ⟨Y,P _,bV (oT R (Zs _ _)),?_⟩;exact q _ (C _ _) (by rw[aw A,av];rfl) (by rw[av];rfl)
  |c s=>
   refine tI _ O (.inl (uJ O _ (ax.of g))) _ O ⟨Y,g,bV (oT R (Zs _ _)),?_⟩;exact q _ (J _) (by rw[aw A,a];simp[So]) (by rw[av];rfl)
 |c s=>
  refine pQ _ O (.inr<|.inl ⟨_,_,_,_,O,O,aF.of f,O,_,O,?_⟩);refine pQ _ O (.inr<|.inl ⟨_,_,_,_,O,O,aF.of j,O,_,O,?_⟩);cases F with
  |p s=>exact absurd O (T s)
  |k m=>
   refine pQ _ O (.inr<|.inl ⟨_,_,_,_,O,O,aF.of j,O,_,O,?_⟩);refine tI _ O (.inl (uJ O _ (ax.of a))) _ O ⟨U,a,bV (oT S (Zs _ _)),?_⟩;have B:fy H c (.l<|U++[V.r u]) u=some (.t [.s "cut",.s s]):=by rw[aw<|cD f a (by simp)];exact f
   refine pQ _ O (.inr<|.inl ⟨_,_,_,_,O,O,aF.of B,O,_,O,?_⟩);exact q _ (L _) (by rw[av];rfl) (by rw[P];simp[So])
  |c G=>
   have e:=y s G O O;subst e;refine pQ _ O (.inr<|.inl ⟨_,_,_,_,O,O,aF.of f,O,_,O,.inr<|.inl ⟨_,_,_,_,O,O,aF.of j,O,_,O,?_⟩⟩);rw[KU,Y4 (show(Pt.c s).val=(Pt.c s).val from O)];exact q _ (λb o e Z Z=>e) (by rw[a];simp[So]) (by rw[g];simp[So])
theorem aiR{Q:sK}(h:bo u a J H λc I=>if c=true then Q true I else bo u b J I Q):bo u (.o [a,b]) J H Q:=h
inductive d_:gz->gz->gz->gz->Prop
 |n:d_ [] [] [] []
 |p1 {c U Y os ts}:d_ U Y os ts->d_ (.P c::U) Y (.P c::os) (.K::ts)
 |p2 {c U Y os ts}:(∀d zs,U≠ .P d::zs)->d_ U Y os ts->d_ U (.P c::Y) (.K::os) (.P c::ts)
 |kk {U Y os ts}:d_ U Y os ts->d_ (.K::U) (.K::Y) (.K::os) (.K::ts)
 |kc {c U Y os ts}:d_ U Y os ts->d_ (.K::U) (.C c::Y) os (.C c::ts)
 |ck {c U Y os ts}:d_ U Y os ts->d_ (.C c::U) (.K::Y) (.C c::os) ts
 |cc {c U Y os ts}:d_ U Y os ts->d_ (.C c::U) (.C c::Y) os ts
def Zn(a b o t:gz):Prop:=dh a b o t/\∀U Y s ts,d_ U Y s ts->d_ (a++U) (b++Y) (o++s) (t++ts)
theorem aiS(s:bv):Zn (s.map .P) [] (s.map .P) (rK s.length):=⟨Tw s,by
 induction s with
 |nil=>intro U Y o ts h;exact h
 |cons c s i=>intro U Y o ts h;exact .p1 (i U Y o ts h)⟩
theorem aiT(n:Nat):Zn (rK n) (rK n) (rK n) (rK n):=⟨Tz n,by
 induction n with
 |zero=>intro U Y o ts h;exact h
 |succ n i=>intro U Y o ts h;exact .kk (i U Y o ts h)⟩
theorem aiU(s:bv):Zn (rK s.length) (s.map .C) [] (s.map .C):=⟨TB s,by
 induction s with
 |nil=>intro U Y o ts h;exact h
 |cons c s i=>intro U Y o ts h;exact .kc (i U Y o ts h)⟩
theorem aiV(s:bv):Zn (s.map .C) (rK s.length) (s.map .C) []:=⟨TC s,by
 induction s with
 |nil=>intro U Y o ts h;exact h
 |cons c s i=>intro U Y o ts h;exact .ck (i U Y o ts h)⟩
theorem aiW(s:bv):Zn (s.map .C) (s.map .C) [] []:=⟨TF s,by
 induction s with
 |nil=>intro U Y o ts h;exact h
 |cons c s i=>intro U Y o ts h;exact .cc (i U Y o ts h)⟩
theorem Ua{U Y o:gz}(n:∀d zs,U≠ .P d::zs)(h:d_ U Y o ts):∀s:bv,d_ U (s.map .P++Y) (rK s.length++o) (s.map .P++ts)
 |[]=>h
 |c::s=>.p2 n (Ua n h s)
def oB(U Y a b c z o t:gz):Prop:=dh c z o t/\∀s ts,d_ a b s ts->d_ U Y (o++s) (t++ts)
theorem oB.seg{U Y c a d z o t:gz}(h:oB U Y (c++a) (b1++b) d z o t)(s:Zn c b1 f e):oB U Y a b (d++c) (z++b1) (o++f) (t++e):=
 ⟨h.1.app s.1,λg ts p=>by rw[X7,X7];exact h.2 _ _ (s.2 _ _ _ _ p)⟩
theorem oB.p2{U Y a b c z o t:gz}{s:bv}(n:∀d zs,a≠ .P d::zs)(h:oB U Y a (s.map .P++b) c z o t):oB U Y a b c (z++s.map .P) (o++rK s.length) (t++s.map .P):=
 ⟨by have:=h.1.app (Tx s);rw[Yh] at this;exact this,λe ts p=>by rw[X7,X7];exact h.2 _ _ (Ua n p s)⟩
theorem aiX(o:∀p∈ps,a_ p)(h:rz ps≠"put"):∀d zs,aq ps≠ .P d::zs:=by
 intro d zs;cases ps with
 |nil=>intro z;cases z
 |cons p t=>
  have a:=o p (.head _);cases p with
  |p s=>exact absurd O h
  |k n=>
   obtain⟨m,e⟩:∃m,n.toNat=m+1:=⟨n.toNat - 1,by have:1<=n:=a;lia⟩;show rK n.toNat++_≠_;rw[e];intro z;cases z
  |c s=>
   obtain⟨c,r,e⟩:=jY a.2;show s.cps.toList.map At.C++_≠_;rw[e];intro z;cases z
structure xC(one D' ps qs:be)(l m n:bv):Prop where
 CW:∀p∈ps,a_ p
 CY:∀p∈qs,a_ p
 ch1:Ze "" ps=true
 ch2:Ze "" qs=true
 runs:∃r,ZS n ps r/\ZS m qs r
 za:ps.length<=3* (one.length+D'.length)+2
 zb:qs.length<=3* (one.length+D'.length)+2
 ap1:ay ps<=ay one
 ap2:ay qs<=ay D'
 pas:∃os ts,dh (aq one) (aq D') os ts/\nb (aq ps)=nb os/\nb (aq qs)=nb ts
 ai0:∃os ts,d_ (aq one) (aq D') os ts/\nb (aq ps)=nb os/\nb (aq qs)=nb ts
theorem Ub(o:∀p∈ps,a_ p)(t:ay ps<=100000)(h:Zw l (aq ps)):(∀p∈ku ps,a_ p)/\Ze "" (ku ps)=true/\ZS l (ku ps) (pR l<|aq ps)/\ay (ku ps)=ay ps:=by
 have u:=SD o t;obtain⟨b,g,Y⟩:=tW ps u t;rw[(yK ps u)];exact⟨g,b,yL<|ue ps l (λp a=>rn<|o p a) h,yO ps u⟩
theorem ai1(k:ZS l one m)(j:ZS l D' n)(d:∀p∈r1,a_ p)(c:∀p∈r2,a_ p)(F:r1.length<=one.length+D'.length)(E:r2.length<=one.length+D'.length)(G:ay one+ay D'<=100000)(h:dh (aq one) (aq D') (aq r1) (aq r2))(i:d_ (aq one) (aq D') (aq r1) (aq r2)):xC one D' (ku r1) (ku r2) l m n/\ay r1<=100000/\ay r2<=100000:=by
 obtain⟨w,v⟩:=h.Ht;rw[kz,kz] at w v;obtain⟨u,t⟩:=k.fits;obtain⟨s,q⟩:=j.fits;obtain⟨f,e,g⟩:=h.fits l u s;rw[q] at e g;obtain⟨B,A,z,I⟩:=Ub d (oT (nS w) G) e;obtain⟨y,x,H,b4⟩:=Ub c (oT (Z_ v) G) f;have D:=Cn r1;have C:=Cn r2;refine⟨⟨B,y,A,x,pQ _ z ba,ba,ba,(oT (Y8 I) w),(oT (Y8 b4) v),p4 _ _ h (uf r1 λp b=>rn (d p b)) (uf r2 λp b=>rn (c p b)),p4 _ _ i (uf r1 λp b=>rn (d p b)) (uf r2 λp b=>rn (c p b))⟩,(oT (nS w) G),(oT (Z_ v) G)⟩
inductive HP(W:bi)(H:Hp)(Q:VK)(E:XK):Prop|i(a b:z4)(U Y:bi)(o D':be)(l m n:bv)(_:W=[.r a,.r b])(_:H a=some (.l U))(_:H b=some (.l Y))(_:aC H U o)(_:aC H Y D')(_:(∀p∈o,a_ p))(_:(∀p∈D',a_ p))(_:Ze "" o=true)(_:Ze "" D'=true)(_:o.length+D'.length<=30000)(_:ay o+ay D'<=100000)(_:ZS l o m)(_:ZS l D' n)(_:∀(t c d:z4)(B:Hp)(zs w:bi)(ps q:be),aA H B->H c=none->H d=none->c≠d->B t=some (.t [.r c,.r d])->B c=some (.l zs)->B d=some (.l w)->aC B zs ps->aC B w q->xC o D' ps q l m n->Q (.r t) B)
abbrev akS(C:z4):ol:=[("sizes",ph),("put_first",CU C),("share",HN),("neat",tQ)]
abbrev aiC(C:z4):List (Str×z4×Sp):=[("word",C,rA C),("left",C,ou C),("take",C,pS C)]
theorem Uc{t:be}:(rz (p::t) !="")=true:=by
 cases p<;>rfl
inductive HQ(C a b w v c d L M:z4)(H:Hp)(o D':be)(m:Nat)(J:St)(e:Hp):Prop|i(u:im)(zs s:bi)(j h g f:be)(k z:gz)(l':bv)(_:m=(aq g).length+(aq f).length)(_:J=[some<|.r a,some<|.r b,some<|.r w,some<|.r v,some<|.r c,some<|.r d,u])(_:aA H e)(_:e c=some (.l zs))(_:e d=some (.l s))(_:aC e zs j)(_:aC e s h)(_:(∀p∈j,a_ p))(_:(∀p∈h,a_ p))(_:bY C e w L g)(_:bY C e v M f)(_:aq o=k++aq g)(_:aq D'=z++aq f)(_:oB (aq o) (aq D') (aq g) (aq f) k z (aq j) (aq h))(_:Zw l' (aq g))(_:Zw l' (aq f))(_:j.length+g.length+f.length<=o.length+D'.length)(_:h.length+g.length+f.length<=o.length+D'.length):HQ C a b w v c d L M H o D' m J e
abbrev j_(K:Frag)(C:z4)(et:jp)(E:XK):aW:=aJ K (akS C) [] [] (aiC C) [("Walk",C,mO C)] (et:=et) (E:=E)
theorem ai2{K:Frag}(T:qQ K C):cL (HP) (λE=>j_ K C et E) O9 O8:=by
 intro W H Q E h;obtain⟨a,b,U,Y,A,D',l,m,n,rfl,ha,hb,kh,gu,jT,gK,dB,bO,H',HJ,mQ,l6,q⟩:=h;have lx:=FS kh;have ly:=FS gu;obtain⟨f1,f2⟩:=mQ.fits;obtain⟨f3,f4⟩:=l6.fits;refine aX<|aL<|bF<|bA ph O<|ao<|aa O<|aD ⟨a,U,A,O,ha,kh,jT,dB,ba,λt1 I s1 gU=>?_⟩;refine ai<|.inr<|.inl ⟨_,_,_,_,O,O,aF.of gU,O,?_⟩;refine bF<|bA ph O<|ao<|aa O<|aD ⟨b,Y,D',O,s1 _ _ hb,gu.mono<|aQ s1,gK,bO,ba,λt2 Z s2 fO=>?_⟩;refine ai<|.inr<|.inl ⟨_,_,_,_,O,O,aF.of fO,O,?_⟩;show ∃k,V.b (true ^^ decide (V.i (YZ A).sum=V.i (YZ D').sum))=V.b k/\_;refine pQ _ O ?_;rw[mQ.over,l6.over,Y4 O];have dD:=s1.trans s2;refine aO<|yX C (mO C) O<|aa O λw dx hw y8 ju=>?_;have s3:aA Z (fy (fy Z dx<|.o w) w<|.i C dx []):=λb o e=>by rw[aw<|aH e hw,aw<|aH e y8];exact e
 have oA:=dD.trans s3;refine⟨w,dx,a,U,A,O,av,oA _ _ ha,kh.mono<|aQ oA,jT,ba,λL H3 hL W' b3 W1=>⟨O,?_⟩⟩;have mS:aA H H3:=λb o e=>b3 b o (oA b o e) (aH (dD b o e) hw);have fw:H w=none:=dD.free hw;refine aO<|yX C (mO C) O<|aa O λv HR hv G' a0=>?_;have s4:aA H3 (fy (fy H3 HR<|.o v) v<|.i C HR []):=λb o e=>by rw[aw<|aH e hv,aw<|aH e G'];exact e
 have gX:=mS.trans s4;refine⟨v,HR,b,Y,D',O,av,gX _ _ hb,gu.mono<|aQ gX,gK,ba,λM H5 hM T' b5 V5=>⟨O,?_⟩⟩;have pV:aA H3 H5:=λb o e=>b5 b o (s4 b o e) (aH e hv);have HS:=mS.trans pV;have fv:H v=none:=mS.free hv;have W5:=W1.same pV;obtain⟨_,_,_,o'⟩:=W1.ob;have CZ:w≠v:=aH o' hv;refine aO<|cQ<|aD ⟨nE _,λc hc=>?_⟩;refine aO<|cQ<|aD ⟨nE _,λd hd=>?_⟩;have h_:c≠d:=λz=>by rw[<-z,av] at hd;cases hd
 have wG:H5 d=none:=by rw[aw h_.symm] at hd;exact hd
 have fc:H c=none:=HS.free hc;have fd:H d=none:=HS.free wG;have D:∀{H4:Hp}{w' L':z4}{rs:be},bY C H4 w' L' rs->∃zs,H4 L'=some (.l zs):=λ⟨_,zs,_,_,_,_,h,_⟩=>qX zs h;obtain⟨_,pX⟩:=D W5;obtain⟨_,Ud⟩:=D V5;have mP:c≠L:=(aH pX hc).symm;have HU:c≠M:=(aH Ud hc).symm;have y_:d≠L:=(aH pX wG).symm;have HV:d≠M:=(aH Ud wG).symm;have s6:aA H5 (fy (fy H5 c<|.l []) d<|.l []):=(Yb hc).trans (Yb hd);refine yY (HQ C a b w v c d L M H A D')
  (qX _ ⟨none,[],[],[],[],A,D',[],[],l,O,O,HS.trans s6,(by rw[aw h_,av]),av,.nil,.nil,(λp hp=>by cases hp),(λp hp=>by cases hp),W5.same s6,V5.same s6,O,O, ⟨.n,λ_ _ h=>h⟩,f1,f3,am,am⟩) ?_
 rintro mm J H6 ⟨u0,zs,ws,r1,r2,P,G,z1,z2,l',rfl,rfl,rF,jA,pY,hz,rE,o1,o2,X,V6,e1,e2,oC,fa,fb,za,zb⟩;have GZ:=FS hz;have Ba:=FS rE;obtain⟨X',iw,ow,uw⟩:=ZL X.ob;obtain⟨Y',iv,ov,C0⟩:=ZL V6.ob;have oy:c≠w:=cD jA uw (by intro z;cases z);have Ue:c≠v:=cD jA C0 (by intro z;cases z);have CV:d≠w:=cD pY uw (by intro z;cases z);have Ug:d≠v:=cD pY C0 (by intro z;cases z);have XV:P=[]->G=[]->az (j_ K C et E) [.r<|.T [(.l 3 [.v 4]),(.l 3 [.v 5])]] (Dn Q) [some<|.r a,some<|.r b,some<|.r w,some<|.r v,some<|.r c,some<|.r d,u0] H6:=by
  rintro rfl rfl;rw[show aq []=[] from O,Yh] at e1 e2;subst e1 e2;simp only[Y6] at za zb;have hO:=oC.2 [] [] .n;rw[Yh,Yh] at hO;have oC:=oC.1;obtain⟨J0,t1,t2⟩:=ai1 mQ l6 o1 o2 za zb HJ oC hO;refine b_<|dt<|ao<|bA tQ O<|ao<|aa O<|aD ⟨c,zs,r1,O,jA,hz,ba,t1,λe u d' s7 f h7 q'=>?_⟩;refine ao<|bA tQ O<|ao<|aa O<|aD ⟨d,ws,r2,O,s7 _ _ pY,rE.mono<|aQ s7,ba,t2,λg H8 c' s8 hg h8 p'=>?_⟩;refine aD ⟨cI,λt ht=>?_⟩;have s9:=Yb (o:=.t [V.r e,V.r g]) ht;have k':e≠g:=aH h7 hg;exact q t e g _ d' c' _ _ (rF.trans<|s7.trans<|s8.trans s9) (rF.free f) ((rF.trans s7).free hg) k' av (s9 _ _<|s8 _ _ h7) (s9 _ _ h8) ((q'.mono<|aQ s8).mono<|aQ s9) (p'.mono<|aQ s9) J0
 have a':(P≠ []\/G≠ [])->∃N:St->Hp->Prop,(∀V' B,N V' B->∃m',m'< (aq P).length+(aq G).length/\HQ C a b w v c d L M H A D' m' V' B)/\
   az (j_ K C et E) [.i (.p .Eq (.q 0 "word" (.v 2) []) (.c (.s "put"))) [.d (.l 1 [.v 2,.v 4,.v 5])] [.i (.p .Eq (.q 0 "word" (.v 3) []) (.c (.s "put"))) [.d (.l 1 [.v 3,.v 5,.v 4])] [.a 6 (.t .m [(.q 1 "left" (.v 2) []),(.q 1 "left" (.v 3) [])]),
    .d (.l 2 [(.q 2 "take" (.v 2) [.v 6]),(.q 2 "take" (.v 3) [.v 6]),.v 4,.v 5])]]]
    {{Dn Q with nx:=az (j_ K C et E) [.r<|.T [(.l 3 [.v 4]),(.l 3 [.v 5])]] (Dn Q)} with nx:=N,c:=N,bk:=az (j_ K C et E) [.r<|.T [(.l 3 [.v 4]),(.l 3 [.v 5])]] (Dn Q)} [some<|.r a,some<|.r b,some<|.r w,some<|.r v,some<|.r c,some<|.r d,u0] H6:=by
  intro F';refine pQ _ (λV' B z=>z) ?_;have Uh:∀{u:Hp}{x:z4},H x=none->y9 x c d H6 u->aA H u:=λ{u x} hx b e o f=>b e o (rF e o f) (aH f hx) (aH f fc) (aH f fd);have Ui:∀{u:Hp}{x:z4}{C' HM oN},H6 x=some (.i C' HM oN)->y9 x c d H6 u->dn H6 u:=λ{u x C' HM oN} hx b e W f=>b e _ f (cD f hx (by intro z;cases z)) (cD f jA (by intro z;cases z)) (cD f pY (by intro z;cases z));have wH:∀{r:be}{x:Pt},(∀p∈r,a_ p)->a_ x->∀p∈r++[x],a_ p:=λ{r x} h hx p hp=>by
   rcases R8.mp hp with z|z
   exact h p z;rw[ZF.mp z];exact hx
  refine aX<|aL<|wz (C:=C) O O X<|ai<|dv ⟨_,O,?_⟩;by_cases fK:rz P="put";obtain⟨s,t,rfl⟩:∃s t,P=.p s::t:=by
   cases P with
   |nil=>exact absurd (show("":Str)="put" from fK) ap
   |cons p t=>
    cases p with
    |p s=>exact uA s t O
    |k n=>exact absurd (show("keep":Str)="put" from fK) ap
    |c n=>exact absurd (show("cut":Str)="put" from fK) ap
  have i9:=X.ok _ (.head _);refine iT ?_ O;refine cW<|bA (CU C) O<|ao<|aa O<|ao<|aa O<|ao<|aa O<|aD ?_;simp only[Zc] at za zb;refine⟨w,L,c,d,s,t,zs,ws,O,X,jA,pY,h_,mP,y_,ba,ba,λS R u F HW HX HY HZ W7=>?_⟩;have tt:=Ui uw F;have V7:bY C u v M G:=V6.TX F jA pY HU HV CZ.symm (uA _ _ ⟨_,uw⟩);rw[dr] at e1 fa;have jr:=wy (.p s);have yE:=(lU i9).2;refine pQ _ ?_ ⟨u0,zs++[V.r S],ws++[V.r R],r1++[.p s],r2++[.k (s.length:Int)],t,G,z1++aN (.p s),z2,l',O,O,Uh fw F,HW,HX,aC.snoc (p:=.p s) (hz.mono tt) (pQ S O HY),aC.snoc (p:=.k (s.length:Int)) (rE.mono tt) (pQ R O HZ),wH o1 i9,wH (x:=.k (s.length:Int)) o2 (show(1:Int)<= (s.length:Int) by have:1<=s.length:=yE;lia),W7,V7,by rw[e1,X7],e2,?_,(ud _ _ _).mp fa,fb,by simp;lia,by simp;lia⟩;rw[dr,Yy];lia;rw[dr] at oC;have:=oB.seg (b1:=[]) oC (aiS s.cps.toList);rw[Yh] at this;rw[gc,gc,gV,gV];have ek:aN (.k (s.length:Int))=rK s.cps.toList.length:=by show rK ((s.length:Int)).toNat=_;rw[Yf,YN]
  rw[ek];exact this;refine iF ?_ (beq_eq_false_iff_ne.mpr fK);refine aX<|aL<|wz (C:=C) O O V6<|ai<|dv ⟨_,O,?_⟩;by_cases fE:rz G="put";obtain⟨s,t,rfl⟩:∃s t,G=.p s::t:=by
   cases G with
   |nil=>exact absurd (show("":Str)="put" from fE) ap
   |cons p t=>
    cases p with
    |p s=>exact uA s t O
    |k n=>exact absurd (show("keep":Str)="put" from fE) ap
    |c n=>exact absurd (show("cut":Str)="put" from fE) ap
  have i9:=V6.ok _ (.head _);refine iT ?_ O;refine cW<|bA (CU C) O<|ao<|aa O<|ao<|aa O<|ao<|aa O<|aD ?_;simp only[Zc] at za zb;refine⟨v,M,d,c,s,t,ws,zs,O,V6,pY,jA,h_.symm,HV,HU,ba,ba,λS R u A' HX HW HY HZ V7=>?_⟩;have F:y9 v c d H6 u:=λe o f n1 n2 n3=>A' e o f n1 n3 n2;have tt:=Ui C0 F;have W7:bY C u w L P:=X.TX F jA pY mP y_ CZ (uA _ _ ⟨_,C0⟩);rw[dr] at e2 fb;have jr:=wy (.p s);have yE:=(lU i9).2;refine pQ _ ?_ ⟨u0,zs++[V.r R],ws++[V.r S],r1++[.k (s.length:Int)],r2++[.p s],P,t,z1,z2++aN (.p s),l',O,O,Uh fv F,HW,HX,aC.snoc (p:=.k (s.length:Int)) (hz.mono tt) (pQ R O HZ),aC.snoc (p:=.p s) (rE.mono tt) (pQ S O HY),wH (x:=.k (s.length:Int)) o1 (show(1:Int)<= (s.length:Int) by have:1<=s.length:=yE;lia),wH o2 i9,W7,V7,e1,by rw[e2,X7],?_,fa,(ud _ _ _).mp fb,by simp;lia,by simp;lia⟩;rw[dr,Yy];lia;rw[dr] at oC;have:=oB.p2 (s:=s.cps.toList) (aiX X.ok fK) oC;rw[gc,gc,gV,gV];have ek:aN (.k (s.length:Int))=rK s.cps.toList.length:=by show rK ((s.length:Int)).toNat=_;rw[Yf,YN]
  rw[ek];exact this;refine iF ?_ (beq_eq_false_iff_ne.mpr fE);have C1:∀{p:Pt}{t:be},rz (p::t)≠"put"->∀s,p≠ .p s:=λ{p t} h s z=>by subst z;exact h O
  have Uj:∀{p:Pt}{t:be},a_ p->(∀s,p≠ .p s)-> ¬Zw [] (aq (p::t)):=by
   intro p t hp hn hf;have hl:=i6 _ _ hf;rw[dr,gf] at hl;have h1:=(lU hp).2;have:aG (aN p)=bf p:=by
    cases p with
    |k n=>exact ox _
    |p s=>exact absurd O (hn s)
    |c s=>show aG (s.cps.toList.map At.C)=s.length;rw[jC,YN]
   simp only[Y6] at hl;lia
  obtain⟨x,t,ex⟩:∃x t,P=x::t:=by
   cases P with
   |cons x t=>exact uA x t O
   |nil=>
    exfalso;have g7:l'=[]:=fa;subst g7;cases G with
    |nil=>rcases F' with z|z<;>exact z O
    |cons y j=>exact Uj (V6.ok y<|.head _) (C1 fE) fb
  subst ex;obtain⟨y,j,ey⟩:∃y j,G=y::j:=by
   cases G with
   |cons y j=>exact uA y j O
   |nil=>
    exfalso;have g7:l'=[]:=fb;subst g7;exact Uj (X.ok x<|.head _) (C1 fK) fa
  subst ey;have nx:=C1 fK;have ny:=C1 fE;have Uk:=X.ok x (.head _);have Ul:=V6.ok y (.head _);obtain⟨M',K'⟩:=lU Uk;obtain⟨J',I'⟩:=lU Ul;obtain⟨k,hk⟩:∃k,k=min (bf x) (bf y):=qX _ O;have k1:1<=k:=by lia
  have k2:k<=bf x:=by lia
  have k3:k<=bf y:=by lia
  have b':(if (bf y:Int) < (bf x:Int) then (bf y:Int) else (bf x:Int))=(k:Int):=by split<;>lia
  refine aO<|Te<|ao<|wA (C:=C) O O X<|ao<|wA (C:=C) O O V6<|aD ?_;show az _ _ _ ([some<|.r a,some<|.r b,some<|.r w,some<|.r v,some<|.r c,some<|.r d,u0].set 6 (some<|V.i (if (bf y:Int) < (bf x:Int) then (bf y:Int) else (bf x:Int)))) H6;rw[b'];refine cW<|bA HN O<|ao<|wB (C:=C) (k:=k) O O X k1 k2 (λQ' hq=>aa O hq) λS u F dC O' W7=>?_;have V7:bY C u v M (y::j):=V6.keep λe o f z=>F e o f (by
   rcases z with rfl|rfl|⟨_,rfl⟩
   exact CZ.symm;obtain⟨_,r'⟩:=D V6;exact cD r' uw (by intro z;cases z);exact cD f uw (by intro z;cases z))
  refine ao<|wB (C:=C) (k:=k) O O V7 k1 k3 (λQ' hq=>aa O hq) λR H8 b8 iE N' V8=>?_;obtain⟨_,_,_,R'⟩:=ZL W7.ob;obtain⟨_,_,_,C2⟩:=ZL V7.ob;have W8:bY C H8 w L (d9 x t k):=W7.keep λe o f z=>b8 e o f (by
   rcases z with rfl|rfl|⟨_,rfl⟩
   exact CZ;obtain⟨_,u'⟩:=D W7;exact cD u' C2 (by intro z;cases z);exact cD f C2 (by intro z;cases z))
  have Um:=b8 _ _ dC (cD dC C2 (by intro z;cases z));have Uo:=b8 _ _ (F _ _ jA oy) Ue;have Uq:=b8 _ _ (F _ _ pY CV) Ug;have f':dn H6 H8:=(F.wC uw).trans (b8.wC C2);refine ao<|aa O<|ao<|aa O<|aD ?_;have eA:=CM t k2;have eB:=CM j k3;rw[eA] at fa;rw[eB] at fb;obtain⟨la,lb,rfl,g1,g2,g3⟩:=wx _ _ fa;have uo:la.length=k:=by
   rw[i6 _ _ g1];have e:=yU x k k2;cases x with
   |k n=>exact ox k
   |p s=>exact absurd O (nx s)
   |c s=>
    have e':(⟨(s.cps.toList.take k).toArray⟩:Str).length=k:=e;rw[lZ] at e';show aG ((s.cps.toList.take k).map At.C)=k;rw[jC];exact e'
  have h':aG (aN<|aY y k)=k:=by
   have e:=yU y k k3;cases y with
   |k n=>exact ox k
   |p s=>exact absurd O (ny s)
   |c s=>
    have e':(⟨(s.cps.toList.take k).toArray⟩:Str).length=k:=e;rw[lZ] at e';show aG ((s.cps.toList.take k).map At.C)=k;rw[jC];exact e'
  obtain⟨g4,g5⟩:=Tt fb (by rw[uo,h']);have ze:∀{s:Str}{u0:bv},Zw u0 (aN<|.c s)->s.cps.toList=u0:=by
   intro s u0 hu;obtain⟨b,rfl⟩:=wg s.cps.toList u0 [] (by rw[Yh];exact hu);have h1:=i6 _ _ hu;have e1:aG (aN<|.c s)=s.cps.toList.length:=jC _;rw[e1,Yy] at h1;have:b=[]:=CA.mp ba;rw[this,Yh]
  have j':=CH Uk k1 k2;have i':=CH Ul k1 k3;simp only[Zc] at za zb;refine⟨.r S,.r R,c,d,aY x k,aY y k,zs,ws,O,pQ S O Um,pQ R O iE,?_,?_,?_,Uo,Uq,h_,ba,ba,λH9 b9 x' v'=>?_⟩;intro s z;cases x<;>first|exact absurd O (nx _)|cases z
  intro s z;cases y<;>first|exact absurd O (ny _)|cases z
  intro s s' z z';rw[z] at g1;rw[z'] at g4;exact iX<|(ze g1).trans (ze g4).symm;have zf:∀{e:z4}{o:HO},H8 e=some o->(e=w\/e=L\/e=v\/e=M\/∃W,o=.t W)->H9 e=some o:=by
   intro e o f z;obtain⟨_,C3⟩:=D W8;obtain⟨_,U'⟩:=D V8;obtain⟨_,_,_,P'⟩:=W8.ob;obtain⟨_,_,_,S'⟩:=V8.ob;refine b9 e o f ?_ ?_;rcases z with rfl|rfl|rfl|rfl|⟨W,rfl⟩
   exact oy.symm;exact mP.symm;exact Ue.symm;exact HU.symm;exact cD f Uo (by intro z;cases z);rcases z with rfl|rfl|rfl|rfl|⟨W,rfl⟩
   exact CV.symm;exact y_.symm;exact Ug.symm;exact HV.symm;exact cD f Uq (by intro z;cases z)
  have W9:bY C H9 w L (d9 x t k):=W8.keep λe o f z=>zf f (by
   rcases z with z|z|z
   exact .inl z;exact .inr (.inl z);exact .inr (.inr (.inr (.inr z))))
  have V9:bY C H9 v M (d9 y j k):=V8.keep λe o f z=>zf f (by
   rcases z with z|z|z
   exact .inr (.inr<|.inl z);exact .inr (.inr<|.inr<|.inl z);exact .inr (.inr (.inr (.inr z))))
  have C4:dn H6 H9:=λe W f=>zf (f' e W f) (.inr<|.inr<|.inr<|.inr ⟨W,O⟩);have E':H9 S=some (.t [.s (aY x k).word,(aY x k).val]):=zf Um (.inr<|.inr<|.inr<|.inr ⟨_,O⟩);have B':H9 R=some (.t [.s (aY y k).word,(aY y k).val]):=zf iE (.inr<|.inr<|.inr<|.inr ⟨_,O⟩);have g':aA H H9:=λe o f=>b9 e o (b8 e o (F e o (rF e o f)<|aH f fw)<|aH f fv) (aH f fc) (aH f fd);have vI:=Hw t k1 k2;have Nx:=Hw j k1 k3;have Z':(d9 x t k).length+(d9 y j k).length<=t.length+j.length+1:=by
   have r1:=Hv x t k;have r2:=Hv y j k;by_cases hz:k=bf x;have e:d9 x t k=t:=Fr hz;rw[e];lia;have GL:k=bf y:=by lia
   have e:d9 y j k=j:=Fr GL;rw[e];lia
  refine pQ _ (Nat.add_lt_add vI Nx) ⟨some<|.i (k:Int),zs++(if So (aY y k) then [V.r S] else []),ws++(if So (aY x k) then [V.r R] else []),r1++(if So (aY y k) then [aY x k] else []),r2++(if So (aY x k) then [aY y k] else []),d9 x t k,d9 y j k,z1++aN (aY x k),z2++aN (aY y k),lb,O,O,g',x',v',?_,?_,?_,?_,W9,V9,by rw[e1,eA,X7],by rw[e2,eB,X7],?_,g2,g5,?_,?_⟩;split;exact aC.snoc (hz.mono C4) (pQ S O E');rw[Yh,Yh];exact hz.mono C4;split;exact aC.snoc (rE.mono C4) (pQ R O B');rw[Yh,Yh];exact rE.mono C4;split;exact wH o1 j';rw[Yh];exact o1;split;exact wH o2 i';rw[Yh];exact o2;rw[gc,gc];rw[eA,eB] at oC;refine oB.seg oC ?_;cases x with
  |p s=>exact absurd O (nx s)
  |k n=>
   have Ur:aN (aY (.k n) k)=rK k:=by show rK ((k:Nat):Int).toNat=_;rw[Yf]
   cases y with
   |p s=>exact absurd O (ny s)
   |k n'=>
    have H_:aN (aY (.k n') k)=rK k:=by show rK ((k:Nat):Int).toNat=_;rw[Yf]
    rw[show(if So (aY (.k n') k)=true then [aY (.k n) k] else [])=[aY (.k n) k] from O,show(if So (aY (.k n) k)=true then [aY (.k n') k] else [])=[aY (.k n') k] from O,gV,gV,Ur,H_];exact aiT k
   |c s=>
    rw[show(if So (aY (.c s) k)=true then [aY (.k n) k] else [])=[] from O,show(if So (aY (.k n) k)=true then [aY (.c s) k] else [])=[aY (.c s) k] from O,gV,Ur];have ec:aN (aY (.c s) k)=la.map At.C:=by
     have:=ze (s:=⟨(s.cps.toList.take k).toArray⟩) g4;show(s.cps.toList.take k).map At.C=_;rw[show s.cps.toList.take k=la from this]
    rw[ec,<-uo];exact aiU la
  |c s=>
   have ec:aN (aY (.c s) k)=la.map At.C:=by
    have:=ze (s:=⟨(s.cps.toList.take k).toArray⟩) g1;show(s.cps.toList.take k).map At.C=_;rw[show s.cps.toList.take k=la from this]
   cases y with
   |p s=>exact absurd O (ny s)
   |k n'=>
    have H_:aN (aY (.k n') k)=rK k:=by show rK ((k:Nat):Int).toNat=_;rw[Yf]
    rw[show(if So (aY (.k n') k)=true then [aY (.c s) k] else [])=[aY (.c s) k] from O,show(if So (aY (.c s) k)=true then [aY (.k n') k] else [])=[] from O,gV,H_,ec,<-uo];exact aiV la
   |c s'=>
    have y':aN (aY (.c s') k)=la.map At.C:=by
     have:=ze (s:=⟨(s'.cps.toList.take k).toArray⟩) g4;show(s'.cps.toList.take k).map At.C=_;rw[show s'.cps.toList.take k=la from this]
    rw[show(if So (aY (.c s') k)=true then [aY (.c s) k] else [])=[] from O,show(if So (aY (.c s) k)=true then [aY (.c s') k] else [])=[] from O,ec,y'];exact aiW la
  have:(r1++(if So (aY y k) then [aY x k] else [])).length<=r1.length+1:=by rw[Yy];split<;>simp
  lia;have:(r2++(if So (aY x k) then [aY y k] else [])).length<=r2.length+1:=by rw[Yy];split<;>simp
  lia
 refine aiR<|aL<|wz (C:=C) O O X<|ai<|yZ ⟨_,O,?_⟩;cases P with
 |cons x t=>exact iT (iT (a'<|.inl am) O) Uc
 |nil=>
  refine iF ?_ O;refine aL<|wz (C:=C) O O V6<|ai<|yZ ⟨_,O,?_⟩;cases G with
  |cons x t=>exact iT (a'<|.inr am) Uc
  |nil=>exact iF (XV O O) O
theorem zg:∀(U:gz)(i j:Nat),Sum.inl j∈res i U->j<i+aG U
 |[],i,j,h=>by cases h
 |.P c::U,i,j,h=>by
  rcases Z5.mp h with z|z
  cases z;exact zg U i j z
 |.K::U,i,j,h=>by
  rcases Z5.mp h with z|z
  cases z;exact Yd (lJ _ _);have:=zg U (i+1) j z;show j<i+(aG U+1);lia
 |.C c::U,i,j,h=>by have:=zg U (i+1) j h;show j<i+(aG U+1);lia
theorem wI:∀(U:gz)(i:Nat),(res i U).length=eO U
 |[],i=>O
 |.P c::U,i=>by simp[res,eO,wI U i]
 |.K::U,i=>by simp[res,eO,wI U<|i+1]
 |.C c::U,i=>wI U (i+1)
theorem C5(n:Nat):∀i,res i (rK n)=(List.range' i n).map Sum.inl:=by
 induction n with
 |zero=>intro i;rfl
 |succ n h=>
  intro i;show .inl i::res (i+1) (rK n)=_;rw[h];rfl
abbrev ajm:ol:=[("_law_whole",mG)]
inductive ux(W:bi)(H:Hp)(Q:VK)(E:XK):Prop|i(a b U Y ps:_)(_:W=[.r a,.r b])(_:H a=some (.l U))(_:H b=some (.l Y))(_:aC H U ps)(_:aC H Y ps)(_:∀B,aA H B->Q (.b true) B)
theorem ajn{K:Frag}{a:z4}{g:TG}{h:TS}(v:U.length=Y.length)(P:Nat->St->Hp->Prop)(u:P 0 J H)(n:∀i J H,P i J H->ax K H a U/\ax K H b Y)(s:∀i x y J H T,U[i]?=some x->Y[i]?=some y->P i J H->H T=none->g (.r T) J (fy H T<|.t [x,y]) λd Z=>h {D with nx:=P (i+1),c:=P (i+1),bk:=D.nx} d Z)(l:∀J H,P U.length J H->D.nx J H):
  ∃W:Nat->Nat->St->Hp->Prop,(∃m,W 0 m J H)/\∀i m J H,W i m J H->
   ((ye K a b).stop i H/\D.nx J H)\/((ye K a b).go i H/\∃N:St->Hp->Prop,(∀V B,N V B->∃j,j<m/\W (i+1) j V B)/\∀x B,(ye K a b).gh i H x B->g x J B λd Z=>h {D with nx:=N,c:=N,bk:=D.nx} d Z):=by
 refine pQ (λi m J H=>m=U.length - i/\i<=U.length/\P i J H) (qH U.length O (nE _) u) ?_;rintro i m J H ⟨rfl,w,p⟩;obtain⟨f,q⟩:=n i J H p;by_cases R:i<U.length;refine .inr (tL (qM U Y f q R (XG R (Y8 v))) (P<|i+1) (λV B k=>tH (U.length - (i+1)) ba O R k) (λx B y=>?_));obtain⟨T,o,rfl,y⟩:=y;have e:=y U Y U[i] Y[i] f q am am;subst e;exact s i U[i] Y[i] J H T am am p o;have e:=Yk w (Zv R);subst e;exact .inl ⟨p4 U Y f q ba,l J H p⟩
abbrev aiL(K:Frag)(E:XK):aW:=aJ K ajm [] (E:=E)
theorem ajo{K:Frag}(W:bi)(H:Hp)(Q:VK)(E:XK)(h:ux W H Q E):az (aiL K E) OT {nx:=λV B=>Q .a B,r:=Q} (Y2 OS W) H:=by
 obtain⟨a,b,U,Y,ps,rfl,j,l,m,u,q⟩:=h;have P:=FS m;have N:=FS u;refine qH _ O O (v5 j (pQ _ O (.inl (sY _ (ax.of j) _ O (.inl (sY _ (ax.of l) _ O ?_))))));rw[show(U.length:Int)=(Y.length:Int) by lia,Y4 O];refine sY _ O _ O ⟨a,b,O,qX _ (ax.of j),qX _ (ax.of l),ajn ba (λi J Z=>∃v w,J=[some (.r a),some (.r b),v,w]/\aA H Z) (q9 none none O (aA.refl _))
  (λi J Z ⟨_,_,_,f⟩=> ⟨ax.of (f _ _ j),ax.of (f _ _ l)⟩) ?_ ?_⟩
 rintro i x y J Z T A o ⟨v,w,rfl,f⟩ D;have g:aA H (fy Z T<|.t [x,y]):=f.trans (Yb D);obtain⟨p,C,L,rfl,G⟩:=m.get A;obtain⟨M,z,I,rfl,F⟩:=u.get o;rw[C] at z;cases z;have d:=g _ _ G;have e:=g _ _ F;refine tA T _ O (.inl<|aF.of av) O _ _ O _ _ O O (qH _ O O (v3 d (pQ _ O (.inr (sY _ (aF.of d) _ O (pQ _ O (.inr<|.inl ⟨_,_,_,_,O,O,aF.of d,O,O,pQ _ O (.inr<|.inl ⟨_,_,_,_,O,O,aF.of d,O,_,O,.inr<|.inl ⟨_,_,_,_,O,O,aF.of e,O,_,O,?_⟩⟩)⟩)))))));rw[Y4 O];refine pQ _ O (.inr<|.inl ⟨_,_,_,_,O,O,aF.of e,O,O,?_⟩);cases p with
 |k n=>
  refine pQ _ O (.inr<|.inl ⟨_,_,_,_,O,O,aF.of d,O,O,_,O,pQ _ O (.inr<|.inl ⟨_,_,_,_,O,O,aF.of d,O,_,O,.inr<|.inl ⟨_,_,_,_,O,O,aF.of e,O,_,O,?_⟩⟩)⟩);rw[Y4 O];exact pQ _ O (.inr<|.inl ⟨_,_,_,_,O,O,aF.of e,O,O,pQ _ O (.inr<|.inl ⟨_,_,_,_,O,O,aF.of d,O,n,O,q9 _ _ O g⟩)⟩)
 |p s=>
  refine pQ _ O (.inr<|.inl ⟨_,_,_,_,O,O,aF.of d,O,O,_,O,pQ _ O (.inr<|.inl ⟨_,_,_,_,O,O,aF.of d,O,_,O,.inr<|.inl ⟨_,_,_,_,O,O,aF.of e,O,_,O,?_⟩⟩)⟩);rw[Y4 O];exact pQ _ O (.inr<|.inl ⟨_,_,_,_,O,O,aF.of e,O,O,q9 _ _ O g⟩)
 |c s=>
  refine pQ _ O (.inr<|.inl ⟨_,_,_,_,O,O,aF.of d,O,O,_,O,pQ _ O (.inr<|.inl ⟨_,_,_,_,O,O,aF.of d,O,_,O,.inr<|.inl ⟨_,_,_,_,O,O,aF.of e,O,_,O,?_⟩⟩)⟩);rw[Y4 O];exact pQ _ O (.inr<|.inl ⟨_,_,_,_,O,O,aF.of e,O,O,q9 _ _ O g⟩)
 rintro J Z ⟨v,w,rfl,f⟩;exact q Z f
structure bU(ps:be)(l r:bv):Prop where
 ok:∀p∈ps,a_ p
 c:Ze "" ps=true
 run:ZS l ps r
theorem uq.chg(h:uq one D' ps l r):bU ps l r:=⟨h.ok,h.ch,h.run⟩
theorem ajp{K:Frag}:cL (mG) (λE=>aV K E) Oc aiP:=by
 intro W H Q E h;obtain⟨i,rfl,q⟩:=h;exact⟨_,O,O,_,O,gN (qH _ O O q)⟩
section
variable{u:aW}{D:En}{J:St}{H:Hp}{r:ga}{Q:VK}{QA:bi->Hp->Prop}{f:sK}
theorem j3{K:Frag}{Q:Cl->Prop}(h:Q b):nX K (.b b) H Q:=h
theorem fQ(h:bo u a J H λb I=>f (!b) I):bo u (.n a) J H f:=h
theorem kA(s:Sp)(a:u.fs j=s)(h:br u as J H λW I=>s W I (λx Z=>nX u.K x Z λb=>f b Z) u.E):bo u (.l j as) J H f:=by
 subst a;show br u as J H λW I=>u.fs j (W++[]) I (λx Z=>nX u.K x Z λb=>f b Z) u.E;have e:(fun(W:bi)(I:Hp)=>u.fs j (W++[]) I (λx Z=>nX u.K x Z λb=>f b Z) u.E)=λW I=>u.fs j W I (λx Z=>nX u.K x Z λb=>f b Z) u.E:=by
  funext W I;rw[Yh]
 rw[e];exact h
theorem Ib(h:bo u a J H λc I=>if c=true then bo u b J I f else f false I):bo u (.d [a,b]) J H f:=h
end
theorem C6{r:ga}{i:bv}(h:af u e J H λx I=>o9 u.K i.length (nY i) x J I (az u r D)):az u (.l i e::r) D J H:=h
theorem uz{K:Frag}{Q:x0}(h:H t=some (.t [v,w]))(q:Q ((J.set i<|some v).set j<|some w) H):o9 K [i,j].length (nY [i,j]) (.r t) J H Q:=
 ⟨t,_,O,.inl<|aF.of h,O,_,_,O,_,_,O,O,q⟩
theorem ajq{K:Frag}{Q:bi->Hp->z4->Prop}{t:TE}{l:Int}(v:n<=1000000)(P:Nat->bi->Hp->Prop)(j:P 0 [] H)(c:∀i Y Z,i<n->aA H Z->P i Y Z->∀e:VK,(∀y a,aA Z a->P (i+1) (Y++[y]) a->e y a)->t (some (.i<|l+i)::cN J fv) Z e)(X:∀Y Z p,aA H Z->P n Y Z->Z p=none->Q Y Z p):∃W:Nat->Nat->bi->Hp->Prop,(∃m,W 0 m [] H)/\∀i m Y Z,W i m Y Z->
   ((fu l n).stop i Z/\∀p,Z p=none->Q Y Z p)\/
   ((fu l n).go i Z/\∀x a,(fu l n).gh i Z x a->jR K none x a λzs=>k_ none (zs.map some++cN J fv) a λb f=>
    if b=true then t (zs.map some++cN J fv) f λy u=>Y.length<sizeLine/\∃d,d<m/\W (i+1) d (Y++[y]) u else ∃d,d<m/\W (i+1) d Y f):=by
 refine pQ (λi m Y Z=>m=n - i/\i<=n/\Y.length=i/\aA H Z/\P i Y Z) (tH _ O (nE _) O ⟨aA.refl _,j⟩) ?_;rintro i m Y Z zq;obtain⟨rfl,w,k,s,p⟩:=c3 zq;by_cases R:i<n;refine .inr ⟨R,?_⟩;rintro x a ⟨rfl,rfl⟩;exact c i Y _ R s p _ λy z g h=>tL (bV ba) (n - (i+1)) ba ⟨O,R,by simp[k],s.trans g,h⟩;have r:=Yk w (Zv R);subst r;exact .inl ⟨Yw _,λq o=>X Y _ q s p o⟩
section
variable{u:aW}{J:St}{H:Hp}{Q:VK}{f:sK}{K:Frag}
theorem oE(h:af u a J H λx I=>cj T x I λb=>f b I):bo u (.R T a) J H f:=by
 have e:∀(q:VK),(fun(x:V)(I:Hp)=>cj T x I λb=>q (.b b) I)=λx I=>qI T [x,.t T.nm] I q:=by
  intro q;simp[qI]
 show af u a J H λx I=>qI T [x,.t T.nm] I λv Z=>nX u.K v Z λb=>f b Z;rw[<-e];exact h
theorem c9{a:z4}{i:Int}(h:H a=some (.t U))(e:e8 U i=some v)(q:Q v H):o6 K s (.r a) (.i i) H Q:=
 .inr (.inl ⟨_,_,_,_,O,O,aF.of h,e,q⟩)
theorem jE{y:Int}(q:Q (.b<|decide<|x=y) H):dc K .Eq (.i x) (.i y) H Q:=by
 show Q (.b<|false ^^ decide (V.i x=V.i y)) H;rw[ZZ,show decide (V.i x=V.i y)=decide (x=y) from decide_eq_decide.mpr ⟨λz=>by lia,λz=>by lia⟩];exact q
theorem wJ{y:Int}(q:Q (.b<|!decide (x=y)) H):dc K .NotEq (.i x) (.i y) H Q:=by
 show Q (.b<|true ^^ decide (V.i x=V.i y)) H;rw[KU,show decide (V.i x=V.i y)=decide (x=y) from decide_eq_decide.mpr ⟨λz=>by lia,λz=>by lia⟩];exact q
theorem Us(q:Q (.b false) H):dc K .NotEq (.s x) (.s x) H Q:=by
 refine yZ ?_;rw[show(x !=x)=false by lia];exact q
theorem dW{i j:Int}(h:Q (.i<|i+j) H):kj K .Add (.i i) (.i j) H Q:=h
end
section
open PySem.StrLaws
end
noncomputable def cA:be->Nat
 |[]=>0
 |.k k::r=>k.toNat+cA r
 |.p _::r=>cA r
 |.c s::r=>s.length+cA r
theorem iG{K:Frag}{a:z4}{i:Int}(h:H a=some (.l U))(e:e8 U i=some v)(q:Q v H):o6 K s (.r a) (.i i) H Q:=
 .inl ⟨_,_,_,_,O,O,ax.of h,e,q⟩
inductive wK(W:bi)(H:Hp)(Q:VK)(E:XK):Prop|i(i l h:_)(_:W=[.i i,.i l,.i h])(_:l<=i)(_:i<=h)(_:Q (.b true) H)
theorem rG{p:α->Prop}:∀x∈ ([]:List α),p x:=nofun
theorem rH{p:b->Prop}{a:b}{l:List b}(h:p a)(t:∀x∈l,p x):∀x∈a::l,p x:=List.forall_mem_cons.2 ⟨h,t⟩
section
variable{P:BT}{w:A9}{K:Frag}{p:db}{g:Do}{k:Nat}
theorem dH.weak{d:Ev}{ps:bn}{a:Sp}(A:dH P w K p g CX k f d ps b)(h:∀W H Q E,a W H Q E->b W H Q E):dH P w K p g CX k f d ps a:=
 ⟨λW H Q E q=>A.len W H Q E<|h _ _ _ _ q,λl o s H c us W Q E r j i v e=>A.run l o s H c us W Q E r j i v<|h _ _ _ _ e⟩
theorem n4.weak{a:Sp}(T:n4 P w K p g k x b)(h:∀W H Q E,a W H Q E->b W H Q E):n4 P w K p g k x a:=by
 obtain⟨f,d,ps,F,r⟩:=T;exact⟨f,d,ps,F.weak h,r⟩
theorem og.weak{a:Sp}(T:og P w K p g k (x,C,b))(h:∀W H Q E,a W H Q E->b W H Q E):og P w K p g k (x,C,a):=by
 obtain⟨c,f,d,ps,m,F,r⟩:=T;exact⟨c,f,d,ps,m,F.weak h,r⟩
open PySem.W in
theorem ajr{x:Str}(X:K.In g)(G:g.Ns mainGlobals p)(e:nsIn K mainGlobals x=some (some<|.ref C))(q:excIn K C [.type "ValueError",.type "Exception",.type "BaseException",.type "object"] "ValueError.__new__"=true):BQ p g (x,C):=by
 refine⟨_,_,_,_,⟨mg_of X G e,?_⟩,PySem.F.excBase_ValueError⟩;unfold excIn at q;split at q;rename_i dd cd sl ho;split at q;rename_i C' bm k0 k1 k2 k3 n k5 hm hs;simp only[ZW,Op,ZI] at q;obtain⟨⟨⟨⟨⟨rfl,rfl⟩,Ut⟩,ht⟩,aE⟩,BC⟩:=q;obtain⟨nm,bs,mro,ns,qn,hd,sn,sub,ab,col,del⟩:=cd;dsimp only at hm Ut aE BC;subst hm Ut;obtain⟨sl⟩:=sl;have bE:sl=_:=hs;subst bE;exact⟨bm,ns,nm,qn,bs,hd,sn,sub,ab,col,dd,k0,k1,k2,k3,k5,_,X _ _ ho,.of_isNs<|isNs_of_in X aE,nsMap_none_of_in X aE BC,tail_of_in X ht⟩;cases q;cases q
end
def ajs(v:V)(l h:Int)(H:Hp):Prop:=wt v H\/∃i,v=.i i/\(i<l\/h<i)
inductive Uu(W:bi)(H:Hp)(Q:VK)(E:XK):Prop|i(v:V)(l h:Int)(_:W=[v,.i l,.i h])(_:((∃i,v=.i i/\l<=i/\i<=h/\Q (.b true) H)\/(ajs v l h H/\Q (.b false) H)))
abbrev anP(K:Frag)(E:XK):aW:=aJ K [("is_whole",yT)] [] (E:=E)
theorem ajt{K:Frag}:cL (Uu) (λE=>anP K E) OW OV:=by
 intro W H Q E h;have c:∀(i l a:Int)(b:Cl)(H:Hp),decide (l<=i/\i<=a)=b->Q (.b b) H->af (aJ K [("is_whole",yT)] []) (.yc .LtE .LtE (.v 1) (.v 0)<|.v 2) [some<|.i i,some<|.i l,some<|.i a] H Q:=by
  intro i l a b H f q;refine⟨_,O,_,O,trivial,_,O,du (λd=>?_)<|λd=>?_⟩;refine⟨_,O,trivial,?_⟩;have e:decide (i<=a)=b:=by lia
  show Q (.b<|decide<|i<=a) H;rw[e];exact q;have e:b=false:=by lia
  rw[e] at q
  first
   |exact q
   | (rw[e2];exact q)
 obtain⟨v,l,a,rfl,⟨i,rfl,d,g,q⟩|⟨n|⟨i,rfl,f⟩,q⟩⟩:=h;exact pQ _ O ⟨_,O,.inl (sY i O _ O (gN<|c i l a true H ba q))⟩;exact pQ _ O ⟨_,O,.inr (tL n _ O (jo q))⟩;exact pQ _ O ⟨_,O,.inl (sY i O _ O (gN<|c i l a false H ba q))⟩
theorem aju(h:wK W H Q E):Uu W H Q E:=by
 obtain⟨i,l,a,rfl,c,b,q⟩:=h;exact⟨_,l,a,O,.inl ⟨i,O,c,b,q⟩⟩
section
open PyProof.Rows
end
theorem cb{r:ga}(h:az u r D J H):az u [] {D with nx:=az u r D} J H:=h
section
variable{u:aW}{D:En}{J:St}{H:Hp}{r:ga}{Q:VK}
theorem C7(A B:VK)(h:∀v I,A v I↔B v I)(a:af u x J H A):af u x J H B:=by
 have:=funext λx=>funext λI=>propext (h x I);rw[<-this];exact a
theorem dE(h:af u x J H λv I=>vp u.K v I λn=>Q (.i n) I):af u (.t .l [x]) J H Q:=h
variable{QT:sK}
theorem ajw(C:z4)(s:Sp)(c:u.kt j=(C,s))(h:af u a J H λy H0=>af u b J H0 λz I=>∀x d,I x=none->I d=none->d≠x->s [.r x,y,z] (fy (fy I d<|.o x) x<|.i C d []) (λv Z=>v=.a/\Q (.r x) Z) u.E):af u (.m j [a,b]) J H Q:=by
 show AZ (u.kt j).1 (u.kt j).2 [] u.E (br u [a,b]) J H Q;rw[c];exact h
theorem eJ(h:af u e J H λv I=>af u o J I λx Z=>∃a C d s,x=.r a/\Z a=some (.i C d s)/\gj u.K C/\fZ u.K C f/\s.length<1000/\az u r D J (fy Z a<|.i C d<|aU f v s)):az u (.c o f e::r) D J H:=h
end
theorem C8{r:ga}(h:af u x J H λv I=>∃a,v=.r a/\(∃U,ax u.K I a U)/\∃W:Nat->Nat->St->Hp->Prop,(∃m,W 0 m J I)/\∀j m J H,W j m J H->
  ((jN u.K a).stop j H/\({D with nx:=az u r D}:En).nx J H)\/((jN u.K a).go j H/\∃N:St->Hp->Prop,(∀V B,N V B->∃d,d<m/\W (j+1) d V B)/\∀x B,(jN u.K a).gh j H x B->gH i x J B λb Z=>az u body {({D with nx:=az u r D}:En) with nx:=N,c:=N,bk:=({D with nx:=az u r D}:En).nx} b Z)):
  az u (.e i .l [x] body::r) D J H:=C7 _ _ (λY Y=>Iff.rfl) h
section
variable{u:aW}{D:En}{J:St}{H:Hp}{r:ga}{Q:VK}
theorem wL{i:Int}(h:Q (.i<|-i) H):af u (.N<|.c<|.i i) J H Q:=h
theorem ajx(h:af u e J H λv I=>af u o J I λx Z=>af u ix J Z λy b=>A7 x y v b λa=>az u r D J a):az u (.s o ix e::r) D J H:=h
theorem C9(h:af u x J H λv I=>∃a,v=.r a/\(∃U,ax u.K I a U)/\∃W:Nat->Nat->St->Hp->Prop,(∃m,W 0 m J I)/\∀j m J H,W j m J H->
  ((jN u.K a).stop j H/\({D with nx:=az u r D}:En).nx J H)\/((jN u.K a).go j H/\∃N:St->Hp->Prop,(∀V B,N V B->∃d,d<m/\W (j+1) d V B)/\∀x B,(jN u.K a).gh j H x B->o9 u.K is.length (nY is) x J B λb Z=>az u body {({D with nx:=az u r D}:En) with nx:=N,c:=N,bk:=({D with nx:=az u r D}:En).nx} b Z)):
  az u (.k is .l [x] body::r) D J H:=C7 _ _ (λY Y=>Iff.rfl) h
end
theorem ajy(n:Nat):kf (n+1) (-1)=some n:=by
 unfold kf;have:¬(0:Int)<= -1:=by lia
 rw[Fk this,Fr ba];congr 1;lia
theorem Ic(h:a_ p):oo p:=by
 cases p with
 |k n=>trivial
 |p s=>exact h.1.2
 |c s=>exact h.1.2
section
variable{u:aW}{D:En}{J:St}{H:Hp}{r:ga}{Q:VK}
theorem Uv{l d:RE}(h:af u a J H λx I=>af u l J I λi Z=>∃c:Int,i=.i c/\af u d J Z λj e=>∃b:Int,j=.i b/\vF u.K x (some c) (some b) e Q):af u (.s a (some l)<|some d) J H Q:=h
theorem wM(h:af u x J H λv I=>∃n:Int,[v]=[.i n]/\ -(2 ^ 62)<=n/\n<2 ^ 62/\∃W:Nat->Nat->St->Hp->Prop,(∃m,W 0 m J I)/\∀j m J H,W j m J H->
  ((fu 0 n.toNat).stop j H/\({D with nx:=az u r D}:En).nx J H)\/((fu 0 n.toNat).go j H/\∃N:St->Hp->Prop,(∀V B,N V B->∃b,b<m/\W (j+1) b V B)/\∀x B,(fu 0 n.toNat).gh j H x B->gH i x J B λa Z=>az u body {({D with nx:=az u r D}:En) with nx:=N,c:=N,bk:=({D with nx:=az u r D}:En).nx} a Z)):
  az u (.e i .e [x] body::r) D J H:=C7 _ _ (λY Y=>Iff.rfl) h
end
theorem Ie{K:Frag}{i j:Int}(h:Q (.i<|i - j) H):kj K .Sub (.i i) (.i j) H Q:=⟨trivial,h⟩
theorem rJ{t:RE}(h:bo u t J H λc I=>if c=true then af u a J I Q else af u b J I Q):af u (.H t a b) J H Q:=h
theorem Uw(U:bi)(i j:Nat):iP U (some (i:Int)) (some (j:Int))=(U.drop i).take (j - i):=by
 unfold iP;rw[HT.nQ,HT.nQ];by_cases h:i<=U.length;by_cases a:j<=U.length;rw[show min i U.length=i by lia,show min j U.length=j by lia];rw[show min i U.length=i by lia,RP (by rw[Y0];omega),RP (by rw[Y0];lia)];rw[XX ba,XX (AP (x8 h)),Yg,Yg]
section
variable{K:Frag}{H:Hp}{Q:VK}{u:aW}{J:St}{D:En}
theorem C_{r:on}(h:af u a J H λx I=>∃c,x=.b c/\if c=true then af u (.d (b::r)) J I Q else Q (.b false) I):af u (.d (a::b::r)) J H Q:=h
theorem Ux(h:af u a J H Q):af u (.d [a]) J H Q:=h
theorem Uy(h:af u a J H λx I=>∃c,x=.b c/\if c=true then Q (.b true) I else af u b J I Q):af u (.o [a,b]) J H Q:=h
end
namespace Uz
open PySem PySem.W PyProof.Rows
section
variable{n:Nat}{lt:Nat->Nat->Cl}{p:Array Nat}
variable{cmp:Nat->Nat->(Cl->AC->Prop)->AC->Prop}{R:AC->Prop}
end
end Uz
section
open PyProof.Rows PySem.W
end
section
variable{K:Frag}
end
theorem mU:∀{U:List b}{Y:List β}{i:Nat}{x:b},Paired R U Y->U[i]?=some x->∃y,Y[i]?=some y/\R x y:=by
 intro U Y i x h;induction h generalizing i with
 |nil=>intro h;simp at h
 |cons a _ r=>
  intro h;cases i with
  |zero=>cases h;exact⟨_,O,a⟩
  |succ i=>exact r (by simpa using h)
theorem rL{a:Type}{l:List a}{x:a}(h:l[i]?=some x):l.take (i+1)=l.take i++[x]:=by
 rw[List.take_succ_eq_append_getElem ((ZT.mp h).1),(ZT.mp h).2]
section
variable{K:Frag}
end
theorem ajz(U:bi):iP U (some 1) none=U.drop 1:=by
 unfold iP;have h:=HT.nQ U.length 0 1;rw[show((1:Nat):Int)=1 from O] at h;rw[h,HT.Zj];by_cases z:1<=U.length;rw[Nat.min_eq_left z,RP am];have:U=[]:=List.eq_nil_of_length_eq_zero ba;subst this;rfl
section
variable{K:Frag}
end
section
variable{K:Frag}
end
theorem UA{s:Str}(h:s≠""):1<=s.length:=by
 obtain⟨c,r,e⟩:=jY h;rw[YN,e];simp
theorem UB:∀(ps:be)(w:Str),Ze w ps=true->(∀p∈ps,a_ p)->ps.length<=2*ay ps+1/\(w="keep"->ps.length<=2*ay ps)
 |[],w,_,_=>⟨nE _,λY=>nE _⟩
 |p::ps,w,h,o=>by
  simp only[Ze,ZW] at h;have a:=o p (.head _);obtain⟨e,i⟩:=UB ps p.word h.2 λq b=>o q (.tail _ b);have t:ay (p::ps)=bZ p+ay ps:=O;rw[Zc];cases p with
  |k n=>
   have:=i O;exact⟨ba,λz=>absurd z<|SV h.1⟩
  |p s=>have d:1<=bZ (.p s):=UA a.2;exact⟨ba,λY=>by lia⟩
  |c s=>have d:1<=bZ (.c s):=UA a.2;exact⟨ba,λY=>by lia⟩
section
variable{K:Frag}
theorem UC{z:Int}(q:k (T==.i)):cj T (.i z) H k:=q
end
inductive UD(W:bi)(H:Hp)(Q:VK)(E:XK):Prop|i(c:Int)(x:Str)(m:Int)(_:W=[.i c,.s x,.i m])(_:good x)(_:x.length<=16000)(_:0<=m)(_:m<=100)(_:∀b B Y ps q,aA H B->H b=none->B b=some (.l Y)->aC B Y ps->(∀p∈ps,gT p)->ps.length<=101->ay ps<=40*m.toNat->ZS x.cps.toList ps q->Q (.r b) B)
inductive Ig(b:z4)(H:Hp)(c m:Int)(x:Str)(i:Nat)(J:St)(Z:Hp):Prop|i(u v w z:im)(Y:bi)(ps:be)(a d q:bv)(_:J=[some<|.i c,some<|.s x,some<|.i m,some<|.r b,some<|.i ((a.length:Nat):Int),u,v,w,z])(_:aA H Z)(_:Z b=some (.l Y))(_:aC Z Y ps)(_:ps.length=i)(_:(∀p∈ps,gT p))(_:ay ps<=40*i)(_:x.cps.toList=a++d)(_:ZS a ps q):Ig b H c m x i J Z
abbrev aoY(K:Frag)(E:XK):aW:=aJ K ahC [] (E:=E)
theorem N5{K:Frag}(W:bi)(H:Hp)(Q:VK)(E:XK)(h:UD W H Q E):az (aoY K E) ON {nx:=λ_ B=>Q .a B,r:=Q} (Y2 OM W) H:=by
 obtain⟨c,x,m,rfl,hx,HA,Cy,Hk,k⟩:=h;refine⟨nE _,λb hb=>?_⟩;refine uK _ O m O ba ⟨ba,qz (lo:=0) (n:=m.toNat) (Ig b H c m x)
 ⟨none,none,none,none,[],[],[],x.cps.toList,[],O,Yb hb,av,.nil,O,(λp X=>by cases X),Yw _,O,.N⟩ ?_ ?_⟩
 rintro i J Z hi ⟨u0,v,w,z,Y,ps,f,D,q,rfl,s2,T,cP,hl,aE,U,L,dO⟩;have a':=FS cP;have e':x.length=f.length+D.length:=by rw[YN,L];simp
 refine sY _ O _ O ⟨c,_,O,?_⟩;generalize mixed c (50+(0+(i:Int)))=j;refine⟨akH,λt1 gU=>?_⟩;have j0:0<=j / 4 % 6:=Zu _ ap;have j1:j / 4 % 6<6:=ZK _ ap;obtain⟨G,e5,c',i'⟩:=ahB (j / 4 % 6) j0 j1;refine⟨_,O,⟨ap,ap⟩,(by show(0:Int) <6;decide),.inl (r3 _ _ _ _ O O (ax.of av) e5 ?_)⟩;have s3:aA H (fy Z t1<|.l [.i 1,.i 2,.i 0,.i 3,.i 5,.i 40]):=s2.trans (Yb gU);have P:fy Z t1 (.l [.i 1,.i 2,.i 0,.i 3,.i 5,.i 40]) b=some (.l Y):=by rw[aw<|aH T gU];exact T
 have v_:=cP.mono (aQ<|Yb (o:=.l [.i 1,.i 2,.i 0,.i 3,.i 5,.i 40]) gU);generalize fy Z t1 (.l [.i 1,.i 2,.i 0,.i 3,.i 5,.i 40])=H3 at s3 P v_;refine⟨_,O,_,O,cE (oT HA (Zs _ _)),_,O,trivial,?_⟩;obtain⟨g,UE⟩:∃g,g=(if (x.length:Int) - (f.length:Int) <G then (x.length:Int) - (f.length:Int) else G):=⟨_,O⟩;have d':0<=g/\g<=40/\g<= (D.length:Int):=by
  rw[UE];split<;>lia
 show az _ _ _ [some<|V.i c,some<|V.s x,some<|V.i m,some<|V.r b,some<|V.i ((f.length:Nat):Int),some<|V.i<|0+(i:Int),some<|V.i j,some<|V.i G,some<|V.i (if (x.length:Int) - (f.length:Int) <G then (x.length:Int) - (f.length:Int) else G)] H3;rw[<-UE];obtain⟨u,lb,e2,Ih⟩:∃u lb,D=u++lb/\g=(u.length:Int):=⟨D.take g.toNat,D.drop g.toNat,(Yt _ _).symm,by rw[Y7];omega⟩;have R:∀(p:Pt)(M:Hp),aA H M->M b=some (.l Y)->aC M Y ps->∀t,M t=none->
   fy M t (.t [.s p.word,p.val]) b=some (.l Y)/\Y.length<sizeLine/\
    aA H (fy (fy M t<|.t [.s p.word,p.val]) b<|.l<|Y++[.r t])/\aC (fy (fy M t<|.t [.s p.word,p.val]) b<|.l<|Y++[.r t]) (Y++[.r t]) (ps++[p]):=by
  intro p M s4 Ii h' t U;have Dc:b≠t:=aH Ii U;refine⟨(by rw[aw Dc];exact Ii),bV ba,pf s4 hb<|sameBut (Yb U) bp.upd,?_⟩;refine aC.snoc (h'.mono<|(sameBut (Yb U) bp.upd).dS Ii) ⟨t,O,?_⟩;rw[aw Dc.symm,av]
 have UG:∀p,gT p->∀q∈ps++[p],gT q:=by
  intro p X q hq;rcases R8.mp hq with z|z
  exact aE q z;rw[ZF.mp z];exact X
 have b':∀c∈u,SG.cps.contains c=true:=λc hc=>hx.2 c (by rw[L,e2];simp[hc]);refine⟨_,O,(by show(0:Int) <4;decide),_,O,?_⟩;refine du (λh=>?_)<|λh=>?_;have h3:j % 4=3:=by
  have:=IR (show decide (V.i (j % 4)=V.i 3)=true from by rw[<-ZZ (decide _)];exact h);injection this
 refine⟨_,O,.inl ⟨O,_,ax.of P⟩,_,O,_,O,j,G,O,c',ba,λy S gy ly F=>⟨cI,λt I=>?_⟩⟩;obtain⟨a1,a2,a3,a4⟩:=Yq (R (.p y) S (s3.trans F) (F _ _ P) (v_.mono<|aQ F) t I);refine⟨Y,a1,a2,?_⟩;refine⟨_,O,(by show(0:Int) <4;decide),trivial,_,O,iF ?_<|XH ba⟩;have A:=dO.app (ZS.t (s:=y) ZS.N);rw[Yh,Yh] at A;refine⟨_,_,_,_,Y++[V.r t],ps++[Pt.p y],f,D,_,O,a3,av,a4,by simp[hl],UG _ ⟨gy,ba⟩,?_,L,A⟩;rw[G_];show ay ps+(y.length+0)<=_;lia;have h3:j % 4≠3:=λz=>h (by show(false ^^ decide (V.i (j % 4)=V.i 3))=true;rw[z];rfl);have h4:j % 4<3:=by have:=ZK j (show(0:Int) <4 by decide);lia
 have XV:∀(p:Pt)(S:Hp)(iu:bi)(q':bv),aA H S->S b=some (.l iu)->aC S iu (ps++[p])->gT p->bZ p<=40->ZS (f++u) (ps++[p]) q'->
   Ig b H c m x (i+1) [some<|V.i c,some<|V.s x,some<|V.i m,some<|V.r b,some<|V.i<|(f.length:Int)+g,some<|V.i<|0+(i:Int),some<|V.i j,some<|V.i G,some<|V.i g] S:=by
  intro p S iu q' F h5 g' rp tp A;refine⟨some<|.i<|0+(i:Int),some<|.i j,some<|.i G,some<|.i g,iu,ps++[p],f++u,lb,q',?_,F,h5,g',by simp[hl],UG p rp,?_,by rw[L,e2];simp,A⟩;rw[Yy,Ih,Yu];rw[G_];have:ay [p]=bZ p:=by simp[ay]
  lia
 refine⟨_,O,(by show(0:Int) <4;decide),_,O,?_⟩;refine du (λh5=>?_)<|λh5=>?_;refine⟨_,O,.inl ⟨O,_,ax.of P⟩,_,O,_,O,_,O,_,O,_,O,_,O,cE (oT HA (Zs _ _)),?_⟩;rw[G9 (by rw[L,e2]) g Ih];refine⟨cI,λt I=>?_⟩;obtain⟨a1,a2,a3,a4⟩:=R (.c ⟨u.toArray⟩) H3 s3 P v_ t I;refine⟨Y,a1,a2,?_⟩;refine⟨_,O,(by show(0:Int) <4;decide),trivial,_,O,iT ?_<|Y4 h4⟩;refine⟨_,O,_,O,?_⟩;have A:=dO.app (ZS.C (s:=⟨u.toArray⟩) ZS.N);rw[Yh] at A;have ll:(⟨u.toArray⟩:Str).length=u.length:=by rw[YN]
 exact XV (.c ⟨u.toArray⟩) _ _ _ a3 av a4 ⟨⟨by rw[ll];lia,b'⟩,by rw[ll];lia⟩ (by show(⟨u.toArray⟩:Str).length<=40;rw[ll];lia) A;refine⟨_,O,.inl ⟨O,_,ax.of P⟩,_,O,cI,λt I=>?_⟩;obtain⟨a1,a2,a3,a4⟩:=R (.k g) H3 s3 P v_ t I;refine⟨Y,a1,a2,?_⟩;refine⟨_,O,(by show(0:Int) <4;decide),trivial,_,O,iT ?_<|Y4 h4⟩;refine⟨_,O,_,O,?_⟩;have A:=dO.app (ZS.k (a:=u) Ih ZS.N);rw[Yh] at A;exact XV (.k g) _ _ _ a3 av a4 d'.1 (by show 0<=40;decide) A;rintro J Z ⟨u0,v,w,z,Y,ps,f,D,q,rfl,s2,T,cP,hl,aE,U,L,dO⟩;have a':=FS cP;have e':x.length=f.length+D.length:=by rw[YN,L];simp
 refine⟨_,O,_,O,cE (oT HA (Zs _ _)),_,O,trivial,cI,λt I=>⟨jM,λd hd=>?_⟩⟩;have Dc:b≠t:=aH T I;have wu:fy Z t (.t [.s "keep",.i<|(x.length:Int) - (f.length:Int)]) b=some (.l Y):=by rw[aw Dc];exact T
 have yn:b≠d:=aH wu hd;have pZ:t≠d:=λz=>by rw[<-z,av] at hd;cases hd
 have s4:aA Z (fy (fy Z t<|.t [.s "keep",.i<|(x.length:Int) - (f.length:Int)]) d<|.l [.r t]):=(Yb I).trans (Yb hd);refine .inl ⟨b,d,Y,[.r t],O,O,(by rw[aw yn];exact wu),av,cE (by simp;lia),λe he=>?_⟩;have F:=s4.trans (Yb (o:=.l (Y++[.r t])) he);have l7:Z e=none:=s4.free he;have A:=dO.app (ZS.k (a:=D) (n:=(x.length:Int) - (f.length:Int)) ba ZS.N);rw[Yh,<-L] at A;have f':t≠e:=λz=>by rw[<-z,aw pZ,av] at he;cases he
 refine k e _ (Y++[.r t]) (ps++[.k<|(x.length:Int) - (f.length:Int)]) _ (s2.trans F) (s2.free l7) av (aC.snoc (cP.mono<|aQ F) ⟨t,O,?_⟩) ?_ (by simp;lia) ?_ A;rw[aw f',aw pZ,av];rfl;intro p X;rcases R8.mp X with z|z
 exact aE p z;rw[ZF.mp z];show(0:Int)<=_;lia;rw[G_];show ay ps+(0+0)<=40*m.toNat;exact U
abbrev ajI:ol:=[("_law_neat",pK),("_law_parts",UD)]
inductive zi(W:bi)(H:Hp)(Q:VK)(E:XK):Prop|i(c:Int)(x:Str)(m:Int)(_:W=[.i c,.s x,.i m])(_:good x)(_:x.length<=16000)(_:0<=m)(_:m<=100)(_:∀b B Y ps q,aA H B->H b=none->B b=some (.l Y)->aC B Y ps->(∀p∈ps,a_ p)->Ze "" ps=true->ps.length<=305->ay ps<=40*m.toNat->ZS x.cps.toList ps q->Q (.r b) B)
abbrev aoP(K:Frag)(E:XK):aW:=aJ K ajI [] (E:=E)
theorem KY{K:Frag}(W:bi)(H:Hp)(Q:VK)(E:XK)(h:zi W H Q E):az (aoP K E) OR {nx:=λU B=>Q .a B,r:=Q} (Y2 OQ W) H:=by
 obtain⟨c,x,m,rfl,g,A,C,v,k⟩:=h;refine sY _ O _ O ⟨_,O,c,x,m,O,g,A,C,v,λb I Y ps q s y j p e w t u=> ⟨b,Y,ps,O,j,p,(oT w (Zs _ _)),ba,λd Z zs f o i z=>?_⟩⟩;obtain⟨n,l,U⟩:=tW ps e ba;have R:=Cn ps;rw[yK ps e] at R;exact k d Z zs (iY ps) q (s.trans f) (s.free o) i z l n ba (by rw[yO ps e];exact t)<|yL u
noncomputable def ja(c:Nat):List bv->List bv
 |[]=>[[c]]
 |p::ps=>(c::p)::ps
def gp:gz->List bv×ut
 |[]=>([[]],[])
 |.P c::U=>(ja c (gp U).1,(gp U).2)
 |.K::U=>([]::(gp U).1,none::(gp U).2)
 |.C c::U=>([]::(gp U).1,some c::(gp U).2)
theorem l8:∀U:gz,∃p ps,(gp U).1=p::ps
 |[]=>⟨_,_,O⟩
 |.P c::U=>by
  obtain⟨p,ps,e⟩:=l8 U;exact⟨c::p,ps,by show ja c (gp U).1=_;rw[e];rfl⟩
 |.K::U=>⟨_,_,O⟩
 |.C c::U=>⟨_,_,O⟩
theorem uB:∀U:gz,(gp U).1.length=(gp U).2.length+1
 |[]=>O
 |.P c::U=>by
  obtain⟨p,ps,e⟩:=l8 U;have:=uB U;show(ja c (gp U).1).length=_;rw[e] at this⊢;exact this
 |.K::U=>by show(gp U).1.length+1=(gp U).2.length+1+1;rw[uB U]
 |.C c::U=>by show(gp U).1.length+1=(gp U).2.length+1+1;rw[uB U]
theorem wO:∀U:gz,(gp U).2.length=aG U
 |[]=>O
 |.P c::U=>wO U
 |.K::U=>by show(gp U).2.length+1=aG U+1;rw[wO U]
 |.C c::U=>by show(gp U).2.length+1=aG U+1;rw[wO U]
noncomputable def mV(s:bv):List bv->List bv
 |[]=>[]
 |[p]=>[p++s]
 |p::q::r=>p::mV s (q::r)
theorem Ik{ps:List bv}(h:ps≠ []):mV s (p::ps)=p::mV s ps:=by
 cases ps with
 |nil=>exact absurd O h
 |cons q r=>rfl
theorem ajK{c:Nat}:∀ps:List bv,ps≠ []->mV s (ja c ps)=ja c (mV s ps)
 |[],h=>absurd O h
 |[p],_=>O
 |p::q::r,_=>O
theorem Dd(s:bv):∀U:gz,gp (U++s.map .P)=(mV s (gp U).1,(gp U).2)
 |[]=>by
  induction s with
  |nil=>rfl
  |cons c s i=>show(ja c (gp<|s.map .P).1,(gp<|s.map .P).2)=_;rw[show gp (s.map At.P)=_ from i];rfl
 |.P c::U=>by
  obtain⟨p,ps,e⟩:=l8 U;show(ja c (gp<|U++s.map .P).1,(gp<|U++s.map .P).2)=(mV s<|ja c (gp U).1,(gp U).2);rw[Dd s U,ajK _ ba]
 |.K::U=>by
  obtain⟨p,ps,e⟩:=l8 U;show([]::(gp<|U++s.map .P).1,none::(gp<|U++s.map .P).2)=(mV s ([]::(gp U).1),none::(gp U).2);rw[Dd s U,Ik ba]
 |.C c::U=>by
  obtain⟨p,ps,e⟩:=l8 U;show([]::(gp<|U++s.map .P).1,some c::(gp<|U++s.map .P).2)=(mV s ([]::(gp U).1),some c::(gp U).2);rw[Dd s U,Ik ba]
theorem ajL{c:Nat}{r:List bv}:∀ps:List bv,ps≠ []->ja c ps++r=ja c (ps++r)
 |[],h=>absurd O h
 |p::ps,_=>O
def jF:wv->At
 |none=>.K
 |some c=>.C c
theorem zj(s:ut):∀U:gz,gp (U++s.map jF)=((gp U).1++List.replicate s.length [],(gp U).2++s)
 |[]=>by
  induction s with
  |nil=>rfl
  |cons o s i=>
   cases o with
   |none=>show([]::(gp<|s.map jF).1,none::(gp<|s.map jF).2)=_;rw[show gp (s.map jF)=_ from i];rfl
   |some c=>show([]::(gp<|s.map jF).1,some c::(gp<|s.map jF).2)=_;rw[show gp (s.map jF)=_ from i];rfl
 |.P c::U=>by
  obtain⟨p,ps,e⟩:=l8 U;show(ja c (gp<|U++s.map jF).1,(gp<|U++s.map jF).2)=(ja c (gp U).1++_,_);rw[zj s U,ajL _ ba];rfl
 |.K::U=>by
  show([]::(gp<|U++s.map jF).1,none::(gp<|U++s.map jF).2)=_;rw[zj s U];rfl
 |.C c::U=>by
  show([]::(gp<|U++s.map jF).1,some c::(gp<|U++s.map jF).2)=_;rw[zj s U];rfl
noncomputable def rM:Option wv->Option wv->be
 |some none,some none=>[.k 1]
 |some none,some (some c)=>[.c ⟨#[c]⟩]
 |_,_=>[]
noncomputable def tw(f:Cl)(m p:bv):be:=cond f [.k (m.length:Nat),.p ⟨p.toArray⟩] [.p ⟨m.toArray⟩,.k (p.length:Nat)]
def gP(f:Cl)(m p:bv)(a b:Option wv):be:=tw f m p++rM (cond f a b) (cond f b a)
def uC(f:Cl):List bv->List bv->ut->ut->be
 |m::s,p::ps,c,l=>gP f m p c.head? l.head?++uC f s ps c.tail l.tail
 |_,_,_,_=>[]
def pG(f:Cl)(o D':be):be:=uC f (gp<|aq o).1 (gp<|aq D').1 (gp<|aq o).2 (gp<|aq D').2
theorem ajM{U Y o:gz}(f:Cl)(h:d_ U Y o ts):aq (uC f (gp U).1 (gp Y).1 (gp U).2 (gp Y).2)=cond f ts o:=by
 induction h with
 |n=>cases f<;>rfl
 | @p1 c U Y o ts _ i=>
  obtain⟨p,ps,e⟩:=l8 U;obtain⟨q,s,a⟩:=l8 Y;simp only[gp,e,a,ja] at i⊢;cases f;exact FM (.P c:: ·) i;exact FM (.K:: ·) i
 | @p2 c U Y o ts b _ i=>
  obtain⟨q,s,a⟩:=l8 Y;obtain⟨m,e⟩:∃m,(gp U).1=[]::m:=by
   rcases U with Z|⟨Z|Z|Z,U⟩
   exact⟨_,O⟩;exact⟨_,O⟩;cases b _ _ O;exact⟨_,O⟩
  simp only[gp,e,a,ja] at i⊢;cases f;exact FM (.K:: ·) i;exact FM (.P c:: ·) i
 |kk Z i=>cases f<;>exact FM (.K:: ·) i
 | @kc c _ _ _ _ _ i=>cases f;exact i;exact FM (.C c:: ·) i
 | @ck c _ _ _ _ _ i=>cases f;exact FM (.C c:: ·) i;exact i
 |cc Z i=>cases f<;>exact i
theorem UH{U Y o:gz}(h:d_ U Y o ts){a:At}(n:a≠ .K):(a∈ts->a∈Y)/\(a∈o->a∈U):=by
 have s:∀{l l':gz},(a∈l->a∈l')->a∈ .K::l->a∈l':=λf h=>(Z5.mp h).elim (λz=>absurd z n) f;have c:∀{b:At}{l l':gz},(a∈l->a∈l')->a∈b::l->a∈b::l':=λf h=>(Z5.mp h).elim (λz=>z ▸ .head _) λz=>.tail _ (f z);induction h with
 |n=>exact⟨id,id⟩
 |p1 Z i=>exact⟨s i.1,c i.2⟩
 |p2 Z Z i=>exact⟨c i.1,s i.2⟩
 |kk Z i=>exact⟨c i.1,c i.2⟩
 |kc Z i=>exact⟨c i.1,λz=>.tail _<|i.2 z⟩
 |ck Z i=>exact⟨λz=>.tail _<|i.1 z,c i.2⟩
 |cc Z i=>exact⟨λz=>.tail _<|i.1 z,λz=>.tail _<|i.2 z⟩
theorem Il{U Y o:gz}(h:d_ U Y o ts):dh U Y o ts:=by
 induction h with
 |n=>exact .n
 |p1 Z i=>exact .p1 i
 |p2 Z Z i=>exact .p2 i
 |kk Z i=>exact .kk i
 |kc Z i=>exact .kc i
 |ck Z i=>exact .ck i
 |cc Z i=>exact .cc i
theorem RV{U Y:gz}(e:Zw l U)(b:Zw l Y):∃o ts,d_ U Y o ts:=by
 induction U generalizing Y l with
 |nil=>
  induction Y with
  |nil=>exact uA _ _ .n
  |cons y Y j=>
   rcases y with Z|c|Z
   rotate_left
   obtain⟨o,ts,h⟩:=j b;exact uA _ _ (.p2 nofun h)
   all_goals cases l<;>simp[Zw] at e b
 |cons x U f=>
  by_cases g:∃c,x=.P c;obtain⟨c,rfl⟩:=g;obtain⟨o,ts,h⟩:=f e b;exact uA _ _ (.p1 h);induction Y with
  |nil=>cases l<;>rcases x with Z|c|Z<;>simp[Zw] at e b g
  |cons y Y i=>
   rcases y with Z|d|d
   rotate_left
   obtain⟨o,ts,h⟩:=i b;exact uA _ _ (.p2 (λd zs z=>by cases z;exact g (qX d O)) h)
   all_goals
    cases l with
    |nil=>simp[Zw] at b
    |cons a l=>?_
    rcases x with Z|c|c
    rotate_left
    exact absurd ⟨c,O⟩ g
   obtain⟨o,ts,h⟩:=f e.2 b.2;obtain⟨rfl,Z⟩:=e;obtain⟨rfl,Z⟩:=b;exact uA _ _ (.cc h);obtain⟨o,ts,h⟩:=f e b.2;exact uA _ _ (.kc h);obtain⟨o,ts,h⟩:=f e.2 b;exact uA _ _ (.ck h);obtain⟨o,ts,h⟩:=f e b;exact uA _ _ (.kk h)
theorem ajP{a:At}(h:p∈ps)(b:a∈aN p):a∈aq ps:=by
 exact XF.mpr ⟨_,m8 h,b⟩
theorem De(h:∀p∈ps,a_ p){c:Nat}(b: .P c∈aq ps\/ .C c∈aq ps):SG.cps.contains c=true:=by
 have i:∀a:At,(a=.P c\/a=.C c)->a∈aq ps->SG.cps.contains c=true:=λa g q=>by
  obtain⟨l,m,I⟩:=XF.mp q;obtain⟨p,j,rfl⟩:=gS.mp m;have o:=h p j;cases p with
  |k n=>
   have:=List.eq_of_mem_replicate (show a∈rK n.toNat from I);rcases g with rfl|rfl<;>cases this
  |p s=>
   obtain⟨d,f,rfl⟩:=gS.mp (show a∈s.cps.toList.map .P from I);rcases g with e|e<;>cases e
   exact o.1.2 _ f
  |c s=>
   obtain⟨d,f,rfl⟩:=gS.mp (show a∈s.cps.toList.map .C from I);rcases g with e|e<;>cases e
   exact o.1.2 _ f
 rcases b with b|b
 exact i _ (.inl O) b;exact i _ (.inr O) b
theorem ajQ(f:Cl){ps:List bv}{c l:ut}(h: .k n∈uC f s ps c l):0<=n:=by
 induction s generalizing ps c l with
 |nil=>cases ps<;>cases h
 |cons m s i=>
  cases ps with
  |nil=>cases h
  |cons p ps=>
   rcases R8.mp (show .k n∈gP f m p c.head? l.head?++uC f s ps c.tail l.tail from h) with h|h
   rcases R8.mp h with h|h
   cases f<;>simp[tw] at h<;>lia
   unfold rM at h;split at h<;>simp at h
   lia;exact i h
theorem Io(f:Cl){o:be}(h:d_ (aq o) (aq D') b ts)(i:∀p∈cond f D' o,a_ p)(m:ay (cond f D' o)<=100000):aq (pG f o D')=cond f ts b/\ay (pG f o D')<=ay (cond f D' o)/\∀p∈pG f o D',gT p:=by
 have e:=ajM f h;have t:ay (pG f o D')<=ay (cond f D' o):=by
  rw[<-kz,<-kz];refine oT (Y8<|FM cnt e) ?_;cases f;exact(Il h).Ht.1;exact(Il h).Ht.2
 refine⟨e,t,λp I=>?_⟩;have l:=oT (tX I) (oT t m);have g:∀a∈aN p,a≠ .K->a∈aq (cond f D' o):=λa q n=>by
  have j:=e ▸ ajP I q;cases f;exact(UH h n).2 j;exact(UH h n).1 j
 cases p with
 |k n=>exact ajQ f I
 |p s=>exact⟨⟨oT l ap,λc d=>De i<|.inl<|g _ (m8 d) (by lia)⟩,l⟩
 |c s=>exact⟨⟨oT l ap,λc d=>De i<|.inr<|g _ (m8 d) (by lia)⟩,l⟩
theorem UI(f:Cl){o:be}(s:∀p∈cond f D' o,a_ p)(P:xC o D' ps q l m n)(t:ay (cond f D' o)<=100000):iY (pG f o D')=cond f q ps:=by
 obtain⟨g,ts,h,c,b⟩:=P.ai0;obtain⟨x,d,r⟩:=Io f h s t;obtain⟨a,k,Y⟩:=tW _ r (oT d t);have e:=(FM nb<|FM aq (yK _ r).symm).trans ((uf _ λp h=>Cw (r p h)).trans<|FM nb x);cases f;exact Cz _ _ "" "" a P.ch1 k P.CW (e.trans c.symm);exact Cz _ _ "" "" a P.ch2 k P.CY (e.trans b.symm)
abbrev jG(o D':be):be:=iY (pG true o D')
abbrev wQ(o D':be):be:=iY (pG false o D')
theorem Df(c:bU one l m)(b:bU D' l n)(g:ay one<=100000)(a:ay D'<=100000):(∃r,bU (jG one D') m r/\bU (wQ one D') n r)/\ay (jG one D')<=ay D'/\ay (wQ one D')<=ay one/\ay (pG true one D')<=ay D'/\ay (pG false one D')<=ay one:=by
 obtain⟨s,k⟩:=c.run.fits;obtain⟨j,i⟩:=b.run.fits;obtain⟨u,ts,h⟩:=RV s j;obtain⟨x,t,w⟩:=Io true h b.ok a;obtain⟨N,q,I⟩:=Io false h c.ok g;obtain⟨f,e,d⟩:=(Il h).fits l s j;rw[k,i] at d;rw[k,<-show _=ts from x] at f;rw[i,<-show _=u from N] at e;obtain⟨y,v,Y⟩:=tW _ w (oT t a);obtain⟨A,z,Y⟩:=tW _ I (oT q g);refine⟨⟨pR m ts,⟨v,y,?_⟩,⟨z,A,?_⟩⟩,(yO _ w).symm ▸ t,(yO _ I).symm ▸ q,t,q⟩;have:=yL (ue _ m (λp h=>Cw<|w p h) f);rw[x] at this;exact this;have:=yL (ue _ n (λp h=>Cw<|I p h) e);rw[N] at this;rw[show pR m ts=_ from d];exact this
noncomputable def sV(ps:List bv):bi:=ps.map λp=>V.s ⟨p.toArray⟩
noncomputable def oV:wv->V
 |none=>.a
 |some c=>.s ⟨#[c]⟩
theorem UJ(v:V):∀n:Nat,(List.replicate n [v]).flatten=List.replicate n v
 :=by simp
section
variable{K:Frag}{H B:Hp}{Q:VK}{u:aW}{J:St}{i j:Int}
theorem jb(h:0<j)(q:Q (.i<|i % j) H):kj K .Mod (.i i) (.i j) H Q:=⟨h,q⟩
theorem mW(h:EK i j)(q:Q (.i<|i / j) H):kj K .FloorDiv (.i i) (.i j) H Q:=⟨h,q⟩
theorem UK(h:xG i j)(q:Q (.i<|i*j) H):kj K .Mult (.i i) (.i j) H Q:=⟨h,q⟩
theorem ajR{a:Str}(h:a.length+b.length<=1000000)(q:Q (.s<|a++b) H):kj K .Add (.s a) (.s b) H Q:=⟨cE h,q⟩
theorem uD{a:z4}(e:H a=some (.l U))(d:H b=some (.l Y))(h:U.length+Y.length<=1000000)(q:∀c,H c=none->Q (.r c) (fy H c<|.l<|U++Y)):kj K .Add (.r a) (.r b) H Q:=
 .inl ⟨a,b,U,Y,O,O,e,d,cE h,q⟩
theorem UL{a:z4}(h:H a=some (.l [v]))(b:n<=1000000)(q:∀c,H c=none->Q (.r c) (fy H c<|.l<|List.replicate n v)):kj K .Mult (.r a) (.i (n:Nat)) H Q:=by
 refine uS a _ _ O O h ba ba ⟨cE (by show 1*n<=_;lia),λc f=>?_⟩;rw[UJ];exact q c f
theorem p9(h:af u a J H λx I=>lu u.K .t [x] I Q):af u (.t .t [a]) J H Q:=h
theorem mX(s:Str):(s==s)=true:=by simp
end
theorem Cg(s z:bv):∀A:List bv,mV s (A++[z])=A++[z++s]
 |[]=>O
 |p::A=>by
  show mV s (p::(A++[z]))=p::(A++[z++s]);rw[Ik am,Cg s z A]
theorem ajS{a:Type}:∀{l:List a},l≠ []->∃A z,l=A++[z]
 |l,h=>⟨l.dropLast,l.getLast h,(List.dropLast_concat_getLast h).symm⟩
theorem ajT(a b:bv):(⟨a.toArray⟩:Str)++(⟨b.toArray⟩:Str)=⟨(a++b).toArray⟩:=by
 show(⟨a.toArray++b.toArray⟩:Str)=_;rw[List.append_toArray]
theorem ajU(s:Str):(⟨s.cps.toList.toArray⟩:Str)=s:=O
section
variable{K:Frag}{H B:Hp}
inductive uE(W:bi)(H:Hp)(Q:VK)(E:XK):Prop|i(a:z4)(U:bi)(ps:be)(_:W=[.r a])(_:H a=some (.l U))(_:aC H U ps)(_:(∀p∈ps,a_ p))(_:cA ps<=10000)(_:ay ps<=10000)(_:ps.length<=100000)(_:∀t c d B,aA H B->H c=none->H d=none->B t=some (.t [.r c,.r d])->B c=some (.l<|sV (gp<|aq ps).1)->B d=some (.l<|(gp<|aq ps).2.map oV)->Q (.r t) B)
theorem Iu(ps:be)(h:∀p∈ps,a_ p):aG (aq ps)=cA ps:=by
 induction ps with
 |nil=>rfl
 |cons p ps i=>
  rw[dr];have o:∀U Y:gz,aG (U++Y)=aG U+aG Y:=by
   intro U Y;induction U with
   |nil=>simp[aG]
   |cons a U i=>cases a<;>simp only[Yn,aG,i] <;>lia
  rw[o,(i λq b=>h q (.tail _ b))];cases p with
  |k n=>
   have:∀n:Nat,aG (rK n)=n:=by
    intro n;induction n with
    |zero=>rfl
    |succ n i=>show aG (.K::rK n)=_;simp only[aG,i]
   show aG (rK n.toNat)+cA ps=n.toNat+cA ps;rw[this]
  |p s=>
   have:∀l:bv,aG (l.map .P)=0:=by
    intro l;induction l with
    |nil=>rfl
    |cons c l i=>exact i
   show aG (s.cps.toList.map .P)+cA ps=cA ps;rw[this,Ym]
  |c s=>
   have:∀l:bv,aG (l.map .C)=l.length:=by
    intro l;induction l with
    |nil=>rfl
    |cons c l i=>show aG (l.map .C)+1=_;rw[i];rfl
   show aG (s.cps.toList.map .C)+cA ps=s.length+cA ps;rw[this];simp[Str.length]
theorem L8:cL (uE) (λE=>aV K E) Rb Ra:=by
 intro W H Q E h;obtain⟨a,U,ps,rfl,ha,pv,ok,ho,ht,hl,q⟩:=h;have lx:=FS pv;refine aO<|cQ<|ao<|ai<|aD ⟨jM,λP R=>?_⟩;generalize zz:fy _ P _=I;have s1:=bC R zz;have y:=bu zz;refine aO<|cQ<|aD ⟨nE _,λS N=>?_⟩;generalize zz:fy _ S _=Z;have s2:=bC N zz;have M:=bu zz;have uF:=s2 _ _ y;have Y:P≠S:=aH y N;have UM:∀i,(gp<|aq<|ps.take i).2.length<=cA ps/\cnt (aq<|ps.take i)<=ay ps:=λi=>by
  refine⟨?_,?_⟩;rw[wO,Iu _ λp hp=>ok p (pI hp)];have e:cA ps=cA (ps.take i)+cA (ps.drop i):=by
   have oa:∀us ws:be,cA (us++ws)=cA us+cA ws:=by
    intro us ws;induction us with
    |nil=>simp[cA]
    |cons u0 us ih=>cases u0<;>simp only[Yn,cA,ih] <;>lia
   rw[<-oa,Yt]
  lia;rw[kz];have e:ay ps=ay (ps.take i)+ay (ps.drop i):=by
   unfold ay;rw[<-Et,<-Z4,Yt]
  lia
 refine C9 (aa O (qH a O (qX _ (ax.of (s2 _ _ (s1 _ _ ha)))) (jk (K:=K) (a:=a) (xs:=U) (λi J u=>A4 λ(P S:z4)(F B x:im)=>eT (J=[some (.r a),some (.r P),some (.r S),F,B,x]) (H P=none) (H S=none) (P≠S) (aA H u) (u P=some (.l (sV (gp (aq (ps.take i))).1))) (u S=some (.l ((gp (aq (ps.take i))).2.map oV))))
 ⟨P,S,none,none,none,O,R,s1.free N,Y,s1.trans s2,uF,M⟩ (by rintro i J u _ ⟨_,_,_,_,_,_,_,_,_,s,_,_⟩;exact ax.of (s _ _ ha)) ?_ ?_)))
 clear y uF M Y R N s1 s2;rintro i v J u hv ⟨P,S,F,B,x,rfl,R,N,Y,s,y,M⟩;obtain⟨p,l9,t,rfl,jB⟩:=mU pv hv;have aE:=ok p (X_ l9);have g:aq (ps.take<|i+1)=aq (ps.take i)++aN p:=by rw[rL l9,gc,gV]
 obtain⟨b1,b2⟩:=UM i;obtain⟨c1,c2⟩:=UM (i+1);have gl:=uB (aq<|ps.take i);have Iw:=uB (aq<|ps.take<|i+1);rw[g] at c1 c2 Iw;refine uz (s _ _ jB) ?_;have f:∀(j:ut)(X:z4)(H4:Hp)(D:En),aA u H4->H4 X=some (.l<|j.map oV)->aN p=j.map jF->(∀(n d:z4)(F B x:im)(T:Hp),H n=none->H d=none->n≠d->aA H T->T n=some (.l<|sV (gp<|aq<|ps.take<|i+1).1)->T d=some (.l<|(gp<|aq<|ps.take<|i+1).2.map oV)->D.nx [some<|.r a,some<|.r n,some<|.r d,F,B,x] T)->
   az (aV K E) [.a 2<|.b .Add (.v 2)<|.v 5,.a 1<|.b .Add (.v 1)<|.b .Mult (.L [(.c<|.s "")])<|.t .l [.v 5]] D [some<|.r a,some<|.r P,some<|.r S,some<|.s p.word,some p.val,some<|.r X] H4:=by
  intro j X H4 D G hW g' kk;have gg:=zj j (aq<|ps.take i);rw[g'] at g c1 Iw;rw[gg] at c1 Iw;have lo:j.length<=cA ps:=by rw[Yy] at c1;exact oT (Zs _ _) c1
  have b':=G _ _ M;have Dg:=G _ _ y;have l1:((gp<|aq<|ps.take i).2.map oV).length+(j.map oV).length<=1000000:=by rw[Y9,Y9];lia
  refine aO<|bg<|aa O<|aa O<|uD b' hW l1 λd f5=>?_;have t5:=Yb (o:=.l ((gp<|aq<|ps.take i).2.map oV++j.map oV)) f5;have Iy:fy H4 d (.l<|(gp<|aq<|ps.take i).2.map oV++j.map oV) d=some (.l<|(gp<|aq<|ps.take<|i+1).2.map oV):=by rw[av,<-Z4,g,gg]
  generalize fy H4 d (.l<|(gp<|aq<|ps.take i).2.map oV++j.map oV)=T at t5 Iy⊢;refine aO<|bg<|aa O<|bg<|cQ<|ao<|ai<|aD ⟨jM,λBs fB=>?_⟩;generalize zz:fy _ Bs _=H6;have t6:=bC fB zz;have hB:=bu zz;refine dE<|aa O<|.inl ⟨_,ax.of<|t6 _ _<|t5 _ _ hW,?_⟩;rw[Y9];refine UL hB ba λB2 f'=>?_;generalize zz:fy _ B2 _=H7;have t7:=bC f' zz;have c':=bu zz;have l2:(sV (gp<|aq<|ps.take i).1).length+(List.replicate j.length<|V.s "").length<=1000000:=by unfold sV;rw[Y9,X1];lia
  have wU:=((G.trans t5).trans t6).trans t7;refine uD (wU _ _ y) c' l2 λn f8=>?_;have t8:=Yb (o:=.l (sV (gp<|aq<|ps.take i).1++List.replicate j.length (V.s ""))) f8;have s5:aA H T:=(s.trans G).trans t5;have d':H d=none:=(s.trans G).free f5;have e':H n=none:=(s.trans wU).free f8;have a':=t8 _ _ (t7 _ _<|t6 _ _ Iy);refine kk n d _ _ _ _ e' d' (λz=>?_) ((s.trans wU).trans t8) ?_ a';have:H7 d=none:=by rw[<-z];exact f8
  rw[t7 _ _<|t6 _ _ Iy] at this;cases this;rw[av,g,gg];unfold sV;rw[Z4,YK];rfl
 cases p with
 |p z=>
  refine aX<|aL<|aa O<|ai<|dv ⟨_,O,iT ?_<|mX _⟩;obtain⟨A,w,eA⟩:=ajS (show(gp<|aq<|ps.take i).1≠ [] by obtain⟨_,_,e⟩:=l8 (aq<|ps.take i);rw[e];exact zbz _ _);have gg:=Dd z.cps.toList (aq<|ps.take i);have UN:aN (.p z)=z.cps.toList.map At.P:=O;have UO:u P=some (.l<|sV A++[V.s ⟨w.toArray⟩]):=by rw[y,eA];unfold sV;rw[Z4];rfl
  have lw:w.length<=20000/\z.length<=20000:=by
   have hz:bZ (.p z)<=ay ps:=tX (X_ l9);refine⟨?_,by have:bZ (.p z)=z.length:=O;lia⟩;have gw:∀(U:gz)(q:bv),q∈ (gp U).1->q.length<=cnt U:=by
    intro U;induction U with
    |nil=>intro q hq;rw[ZF.mp hq];exact nE _
    |cons b U ih=>
     intro q hq;cases b with
     |P c=>
      obtain⟨p0,p1,e⟩:=l8 U;have iO:q∈ja c (gp U).1:=hq;rw[e] at iO;rcases Z5.mp iO with h|h
      rw[h];have:=ih p0 (by rw[e];exact .head _);show p0.length+1<=cnt U+1;exact j2 this _;have:=ih q (by rw[e];exact .tail _ h);show q.length<=cnt U+1;exact YS this
     |K=>
      rcases Z5.mp (show q∈ []::(gp U).1 from hq) with h|h
      rw[h];exact nE _;exact ih q h
     |C c=>
      rcases Z5.mp (show q∈ []::(gp U).1 from hq) with h|h
      rw[h];exact nE _;have:=ih q h;show q.length<=cnt U+1;exact YS this
   have:=gw _ w (by rw[eA];exact Yc _ (.head _));lia
  refine ajx<|bg<|bF<|aa O<|wL<|iG UO (vn _ _)<|aa O<|ajR (by simp[Str.length] at*;lia)<|aa O<|wL ⟨P,_,_,(sV A).length,O,O,UO,by rw[Yy];exact ajy _,?_⟩;have bP:bp P u (fy u P<|.l<|(sV A++[V.s ⟨w.toArray⟩]).set (sV A).length<|V.s<|(⟨w.toArray⟩:Str)++z):=bp.upd;refine⟨P,S,_,_,_,O,R,N,Y,λb o e=>bP _ _ (s _ _ e)<|aH e R,?_,?_⟩;rw[av,g,UN,gg,eA,Cg];have:(⟨w.toArray⟩:Str)++z=⟨(w++z.cps.toList).toArray⟩:=by rw[<-ajT,ajU]
  rw[this,List.set_append_right _ _<|Yw _,Xy];unfold sV;rw[Z4];rfl;rw[g,UN,gg];exact bP _ _ M (GE Y)
 |k k=>
  have hk:1<=k:=aE;obtain⟨m,rfl⟩:∃m:Nat,k=(m:Int):=qX k.toNat ba;refine aX<|aL<|aa O<|ai<|dv ⟨_,O,iF ?_ (show("keep"=="put")=false by decide+kernel)⟩;refine aO<|rJ<|aL<|aa O<|ai<|dv ⟨_,O,iF ?_ (show("keep"=="cut")=false by decide+kernel)⟩;refine bg<|cQ<|ao<|ai<|aD ⟨jM,λBs fB=>?_⟩;have t4:=Yb (o:=.l [V.a]) fB;have mo:m<=cA ps:=by
   have e1:aN (.k (m:Int))=(List.replicate m none).map jF:=by show rK (m:Int).toNat=_;rw[Yf,YK];rfl
   rw[e1,zj] at c1;have h':=c1;rw[Yy,X1] at h';exact oT (Zs _ _) h'
  refine aa O<|UL (av (a:=Bs)) ba λX fW=>?_;refine f (List.replicate m none) X _ _ (t4.trans<|Yb fW) (by rw[av,YK];rfl) (by show rK (m:Int).toNat=_;rw[Yf,YK];rfl) λn d F B x T k1 k2 k3 k4 k5 k6=>⟨n,d,F,B,x,O,k1,k2,k3,k4,k5,k6⟩
 |c z=>
  refine aX<|aL<|aa O<|ai<|dv ⟨_,O,iF ?_ (show("cut"=="put")=false by decide+kernel)⟩;refine aO<|rJ<|aL<|aa O<|ai<|dv ⟨_,O,iT ?_<|mX _⟩;have hz:bZ (.c z)<=ay ps:=tX (X_ l9);have lB:z.length<=ay ps:=hz;refine p9<|aa O ⟨cE ba,λX fW=>?_⟩;refine f (z.cps.toList.map some) X _ _ (Yb fW) (by rw[av,Zq];rfl) (by rw[Zq];rfl) λn d F B x T k1 k2 k3 k4 k5 k6=>⟨n,d,F,B,x,O,k1,k2,k3,k4,k5,k6⟩
 rintro J u ⟨P,S,F,B,x,rfl,R,N,Y,s,y,M⟩;rw[lx,o_] at y M;refine b_<|dt<|ao<|aa O<|ao<|aa O<|aD ⟨cI,λt ft=>?_⟩;have G:=Yb (o:=.t [V.r P,V.r S]) ft;exact q t P S _ (s.trans G) R N av (G _ _ y)<|G _ _ M
end
def l_(f:Cl)(m ps:List bv)(c l:ut)(i:Nat):be:=(List.range i).flatMap λk=>gP f (m.getD k []) (ps.getD k []) c[k]? l[k]?
theorem UP(f:Cl)(m ps:List bv)(c l:ut)(i:Nat):l_ f m ps c l (i+1)=l_ f m ps c l i++gP f (m.getD i []) (ps.getD i []) c[i]? l[i]?:=by
 unfold l_;rw[List.range_succ];simp
theorem aj5(f:Cl){ps:List bv}{c l:ut}(h:s.length=ps.length):uC f s ps c l=l_ f s ps c l s.length:=by
 induction s generalizing ps c l with
 |nil=>cases ps<;>rfl
 |cons m s i=>
  cases ps with
  |nil=>cases h
  |cons p ps=>
   show gP f m p c.head? l.head?++uC f s ps c.tail l.tail=_;rw[i<|SZ h];unfold l_;rw[Zc,List.range_succ_eq_map,List.flatMap_cons,List.flatMap_map];congr 1;cases c<;>cases l<;>rfl
   refine FM List.flatten (List.map_congr_left λk Y=>?_);rw[List.getElem?_tail,List.getElem?_tail];rfl
theorem UQ(f:Cl)(m ps:List bv)(c l:ut)(i:Nat):(l_ f m ps c l i).length<=3*i:=by
 induction i with
 |zero=>exact Yw _
 |succ i h=>
  rw[UP,Yy];have:(gP f (m.getD i []) (ps.getD i []) c[i]? l[i]?).length<=3:=by
   unfold gP tw rM;cases f<;>simp<;>split<;>simp
  exact YC h this
section
variable{K:Frag}{H B:Hp}
theorem gA(q:Q (.b<|decide<|v=.a) H):dc K .Is v .a H Q:=⟨O,q⟩
theorem wV:∀(U:gz)(q:bv),q∈ (gp U).1->q.length<=cnt U
 |[],q,a=>by rw[ZF.mp a];exact nE _
 |.P c::U,q,a=>by
  obtain⟨p,b,e⟩:=l8 U;have i:q∈ja c (gp U).1:=a;rw[e] at i;rcases Z5.mp i with h|h
  rw[h];have:=wV U p (e▸.head _);exact j2 this _;have:=wV U q (e▸.tail _ h);exact YS this
 |.K::U,q,a=>by
  rcases Z5.mp (show q∈ []::(gp U).1 from a) with h|h
  rw[h];exact nE _;exact wV U q h
 |.C c::U,q,a=>by
  rcases Z5.mp (show q∈ []::(gp U).1 from a) with h|h
  rw[h];exact nE _;have:=wV U q h;exact YS this
inductive Iz(f:Cl)(W:bi)(H:Hp)(Q:VK)(E:XK):Prop|i(a b:z4)(U Y:bi)(o D':be)(_:W=[.r a,.r b])(_:H a=some (.l U))(_:H b=some (.l Y))(_:aC H U o)(_:aC H Y D')(_:(∀p∈o,a_ p))(_:(∀p∈D',a_ p))(_:cA o=cA D')(_:cA o<=10000)(_:ay o<=10000)(_:ay D'<=10000)(_:o.length<=100000)(_:D'.length<=100000)(_:ay (pG f o D')<=100000)(_:∀c B zs,aA H B->H c=none->B c=some (.l zs)->aC B zs (iY<|pG f o D')->Q (.r c) B)
abbrev zm:Sp:=Iz true
abbrev IA:Sp:=Iz false
noncomputable def aj6(f:Cl):ga:=
 [.l [2,3] (.l 0 [.v 0]),
 .l [4,5] (.l 0 [.v 1]),
 .a 6 (.L []),
 .e 7 .e [(.t .l [.v 2])] [.a 6 (.b .Add (.v 6) (.L (cond f [(.T [(.c (.s "keep")),(.t .l [(.i (.v 2) (.v 7))])]),(.T [(.c (.s "put")),(.i (.v 4) (.v 7))])] [(.T [(.c (.s "put")),(.i (.v 2) (.v 7))]),(.T [(.c (.s "keep")),(.t .l [(.i (.v 4) (.v 7))])])]))),
  .i (.d [(.p .Lt (.v 7) (.t .l [.v 3])),(.p .Is (.i (.v (cond f 3 5)) (.v 7)) (.c .a))]) [.d (.a .a (.v 6) [(.H (.p .Is (.i (.v (cond f 5 3)) (.v 7)) (.c .a)) (.T [(.c (.s "keep")),(.c (.i 1))]) (.T [(.c (.s "cut")),(.i (.v (cond f 5 3)) (.v 7))]))])] []],
 .r (.l 1 [.v 6])]
theorem FL(f:Cl){D:z4}{i:Int}(A:J[2]?=some (some<|.r E))(y:J[4]?=some (some<|.r D))(h:J[7]?=some (some<|.i i))(C:H E=some (.l us))(K:e8 us i=some (.s ⟨m.toArray⟩))(F:H D=some (.l x))(G:e8 x i=some (.s ⟨p.toArray⟩))(N:m.length<=10000)(M:p.length<=10000)(q:∀a b w B,aA H B->aC B [.r a,.r b] (tw f m p)->B w=some (.l [.r a,.r b])->Q (.r w) B):
  af u (.L<|cond f [(.T [(.c<|.s "keep"),(.t .l [(.i (.v 2)<|.v 7)])]),(.T [(.c<|.s "put"),(.i (.v 4)<|.v 7)])] [(.T [(.c<|.s "put"),(.i (.v 2)<|.v 7)]),(.T [(.c<|.s "keep"),(.t .l [(.i (.v 4)<|.v 7)])])]) J H Q:=by
 have n:∀l:bv,(⟨l.toArray⟩:Str).length=l.length:=λl=>rfl;have z:2<=sizeLine:=by decide
 cases f;refine cQ (ao<|dt<|ao<|ai<|ao<|bF<|aa A<|aa h<|iG C K<|aD ⟨z,λa o=>?_⟩);generalize e1:fy _ a _=I;have g:=bC o e1;refine ao<|dt<|ao<|ai<|ao<|dE<|bF<|aa y<|aa h<|iG (g _ _ F) G ⟨cE (by exact oT M (Zs _ _)),aD ⟨z,λb k=>?_⟩⟩;generalize e2:fy _ b _=Z;have e:=bC k e2;refine aD ⟨z,λw j=>?_⟩;generalize e3:fy _ w _=H3;have d:=bC j e3;exact q a b w H3 ((g.trans e).trans d) (.cons ⟨a,O,d _ _<|e _ _<|bu e1⟩<|.cons ⟨b,O,d _ _<|bu e2⟩ .nil)<|bu e3;refine cQ (ao<|dt<|ao<|ai<|ao<|dE<|bF<|aa A<|aa h<|iG C K ⟨cE (by rw[n];exact oT N (Zs _ _)),aD ⟨z,λa o=>?_⟩⟩);rw[n];generalize e1:fy _ a _=I;have g:=bC o e1;refine ao<|dt<|ao<|ai<|ao<|bF<|aa y<|aa h<|iG (g _ _ F) G<|aD ⟨z,λb k=>?_⟩;generalize e2:fy _ b _=Z;have e:=bC k e2;refine aD ⟨z,λw j=>?_⟩;generalize e3:fy _ w _=H3;have d:=bC j e3;exact q a b w H3 ((g.trans e).trans d) (.cons ⟨a,O,d _ _<|e _ _<|bu e1⟩<|.cons ⟨b,O,d _ _<|bu e2⟩ .nil)<|bu e3
inductive Zz(Z:Hp)(w:St)(g:be)(J:St)(H:Hp):Prop|i(L:z4)(zs:bi)(u:im)(_:J=w++[some<|.r L,u])(_:Z L=none)(_:aA Z H)(_:H L=some (.l zs))(_:aC H zs g):Zz Z w g J H
abbrev m5(K:Frag)(E:XK):aW:=aJ K [("_law_gaps",uE),("_law_neat",pK)] [] (E:=E)
theorem UR(f:Cl)(W:bi)(H:Hp)(Q:VK)(E:XK)(h:Iz f W H Q E):az (aJ K [("_law_gaps",uE),("_law_neat",pK)] [] (E:=E)) (aj6 f) (Dn Q) (Y2 yB W) H:=by
 obtain⟨a,b,U,Y,d,D',rfl,ha,hb,mY,jc,CW,CY,eo,lo,t1,t2,l1,l2,tp,q⟩:=h;refine C6<|bA uE O<|ao<|aa O<|aD ⟨a,U,d,O,ha,mY,CW,lo,t1,l1,λg1 F v I s1 f1 TN e' dB R=>uz e' ?_⟩;refine C6<|bA uE O<|ao<|aa O<|aD ⟨b,Y,D',O,s1 _ _ hb,jc.mono<|aQ s1,CY,ba,t2,l2,λg2 D u Z s2 f2 j' d' bO b'=>uz d' ?_⟩
 have dB:=s2 _ _ dB;have R:=s2 _ _ R;have dF:=s1.trans s2;have n1:=uB (aq d);have n2:=uB (aq D');have m1:(gp<|aq d).2.length=cA d:=by rw[wO,Iu _ CW]
 have m2:(gp<|aq D').2.length=cA D':=by rw[wO,Iu _ CY]
 have w1:∀q∈ (gp<|aq d).1,q.length<=10000:=λq hq=>by have:=wV _ q hq;rw[kz] at this;exact oT this t1
 have w2:∀q∈ (gp<|aq D').1,q.length<=10000:=λq hq=>by have:=wV _ q hq;rw[kz] at this;exact oT this t2
 rw[show pG f d D'=_ from aj5 f ba] at q tp
 have a':(gp<|aq d).2.length=(gp<|aq D').2.length:=by lia
 have i':(gp<|aq d).1.length<=10001:=by lia
 have h':(gp<|aq d).1.length=(gp<|aq D').1.length:=by lia
 clear n1 n2 m1 m2;generalize (gp<|aq d).1=m at*;generalize (gp<|aq d).2=g at*;generalize (gp<|aq D').1=ps at*;generalize (gp<|aq D').2=j at*;obtain⟨X,n,dx,dy,y8,US,lX,lY,eb,e3,e5⟩:∃(X n:ut) (dx dy:z4),Z dx=some (.l<|X.map oV)/\Z dy=some (.l<|n.map oV)/\X.length=g.length/\n.length=g.length/\(∀i:Nat,rM (cond f g[i]? j[i]?) (cond f j[i]? g[i]?)=rM X[i]? n[i]?)/\(∀r:St,(some (.r a)::some (.r b)::some (.r F)::some (.r v)::some (.r D)::some (.r u)::r)[cond f 3 5]?=some (some<|.r dx))/\∀r:St,(some (.r a)::some (.r b)::some (.r F)::some (.r v)::some (.r D)::some (.r u)::r)[cond f 5 3]?=some (some<|.r dy):=by
  cases f
  ·exact r4 j g u v b' R a'.symm O (λ_=>O) ⟨λ_=>O,λ_=>O⟩
  ·exact r4 g j v u R b' O a'.symm (λ_=>O) ⟨λ_=>O,λ_=>O⟩
 refine aO<|cQ<|aD ⟨nE _,λL fL=>?_⟩;generalize z3:fy _ L _=H3;have s3:=bC fL z3;refine wM<|dE<|aa O<|.inl ⟨_,ax.of<|s3 _ _ dB,_,O,?_,?_,qz (lo:=0) (λi J H4=>Zz Z [some<|.r a,some<|.r b,some<|.r F,some<|.r v,some<|.r D,some<|.r u] (l_ f m ps g j i) J H4) ⟨L,[],none,O,fL,s3,bu z3,.nil⟩ ?_ ?_⟩
 ·lia
 ·unfold sV;rw[Y9];lia
 ·clear s3 fL z3;rintro i J H4 hi ⟨L,zs,S,rfl,fL,M,hL,T⟩;have e9:i<m.length:=by rw[Yf] at hi;unfold sV at hi;rwa [Y9] at hi
  have c':i<ps.length:=XG e9 (Y8 h')
  rw[ZD];have lz:=FS T;have lg:=UQ f m ps g j i;have em:m[i]?=some (m.getD i []):=by rw[X6,YO e9];rfl
  have ep:ps[i]?=some (ps.getD i []):=by rw[X6,YO c'];rfl
  have nx:l_ f m ps g j (i+1)=l_ f m ps g j i++(tw f (m.getD i []) (ps.getD i [])++rM X[i]? n[i]?):=(UP ..).trans (by rw[<-eb];rfl)
  refine aO<|bg<|aa O<|FL f O O O (M _ _ dB) (eM (show(sV m)[i]?=_ by unfold sV;rw[Yi,em];rfl)) (M _ _ bO) (eM (show(sV ps)[i]?=_ by unfold sV;rw[Yi,ep];rfl)) (w1 _<|X_ em) (w2 _<|X_ ep) λta tb w H7 rN pw hw=>?_
  refine uD (rN _ _ hL) hw (by rw[lz];show _+2<=1000000;lia) λG f8=>?_
  generalize z8:fy _ G _=H8;have u4:=bC f8 z8;have C3:=bu z8;have Dh:Z G=none:=(M.trans rN).free f8;have N:=M.trans (rN.trans u4);have IB:aC H8 (zs++[V.r ta,V.r tb]) (l_ f m ps g j i++tw f (m.getD i []) (ps.getD i [])):=Paired.app (T.mono<|aQ<|rN.trans u4) (pw.mono<|aQ u4);generalize tw f (m.getD i []) (ps.getD i [])=t2 at nx IB;have C:∀S:im,rM X[i]? n[i]?=[]->Zz Z [some<|.r a,some<|.r b,some<|.r F,some<|.r v,some<|.r D,some<|.r u] (l_ f m ps g j<|i+1) [some<|.r a,some<|.r b,some<|.r F,some<|.r v,some<|.r D,some<|.r u,some<|.r G,S] H8:=λS IC=>⟨G,_,S,O,Dh,N,C3,by rw[nx,IC,Yh];exact IB⟩
  have UT:(g.map oV).length=g.length:=Y9 ..;refine aX<|Ib<|aL<|aa O<|dE<|aa O<|.inl ⟨_,ax.of<|N _ _ R,⟨trivial,_,O,du (λaR=>?_)<|λaR=>iF (cb<|C _ ?_) O⟩⟩
  rotate_left
  ·have:¬i<g.length:=λz=>aR (Y4 (by rw[UT];lia))
   rw[zC (l:=X) ba];rfl
  have g':i<g.length:=by have:=IR aR;rw[UT] at this;lia
  have ec:X[i]?=some X[i]:=YO ba
  have el:n[i]?=some n[i]:=YO (by omega)
  generalize X[i]=ci at ec;generalize n[i]=li at el;have ac:(X.map oV)[i]?=some (oV ci):=by rw[Yi,ec];rfl
  have al:(n.map oV)[i]?=some (oV li):=by rw[Yi,el];rfl
  refine aL<|bF<|aa (e3 _)<|aa O<|iG (N _ _ y8) (eM ac)<|ai<|gA ⟨_,O,?_⟩;cases ci with
  |some c=>exact iF (cb<|C _ (by rw[ec];rfl)) (XH (by intro z;cases z))
  |none=>
   refine iT ?_<|Y4 O;refine cW<|eU<|aa O ⟨.inl ⟨O,_,ax.of C3⟩,rJ<|aL<|bF<|aa (e5 _)<|aa O<|iG (N _ _ US) (eM al)<|ai<|gA ⟨_,O,?_⟩⟩;have f':(zs++[V.r ta,V.r tb]).length<=100000:=by rw[Yy,lz];show _+2<=100000;lia
   have A:∀(p:Pt) (x:z4) (P:Hp),aA H8 P->P x=some (.t [.s p.word,p.val])->rM X[i]? n[i]?=[p]->vD K .a (.r G) [.r x] P λ_ jv=>Zz Z [some<|.r a,some<|.r b,some<|.r F,some<|.r v,some<|.r D,some<|.r u] (l_ f m ps g j<|i+1) [some<|.r a,some<|.r b,some<|.r F,some<|.r v,some<|.r D,some<|.r u,some<|.r G,some<|.i (i:Int)] jv:=λp x P s9 h9 IC=>by
    have zo:=s9 _ _ C3;refine qH _ zo (bV (oT f' (Zs _ _))) ⟨G,_,_,O,Dh,λz o e=>?_,av,?_⟩
    ·rw[aw<|aH e Dh];exact s9 _ _ (N _ _ e)
    ·have tT:dn P (fy P G<|.l<|zs++[V.r ta,V.r tb]++[V.r x]):=λy us e=>by rw[aw (λz=>by rw[z,zo] at e;cases e)];exact e
     rw[nx,IC,<-X7];exact IO ((IB.mono<|aQ s9).mono tT) ⟨x,O,tT _ _ h9⟩
   cases li with
   |none=>
    refine iT ?_<|Y4 O;refine dt<|ao<|ai<|ao<|ai<|aD ⟨cI,λx f9=>?_⟩;exact A (.k 1) x _ (Yb f9) av (by rw[ec,el];rfl)
   |some c=>
    refine iF ?_<|XH (by intro z;cases z)
    refine dt<|ao<|ai<|ao<|bF<|aa (e5 _)<|aa O<|iG (N _ _ US) (eM al)<|aD ⟨cI,λx f9=>?_⟩;exact A (.c ⟨#[c]⟩) x _ (Yb f9) av (by rw[ec,el];rfl)
 ·rintro J H4 ⟨L,zs,S,rfl,fL,M,hL,T⟩;have e:(((sV m).length:Nat):Int).toNat=m.length:=by rw[Yf];unfold sV;rw[Y9]
  rw[e] at T;have lg:=UQ f m ps g j m.length;exact b_<|bA pK O<|ao<|aa O<|aD ⟨L,zs,_,O,hL,T,ba,tp,λc B ws s' fc hc pw=>q c B ws (dF.trans<|M.trans s') ((dF.trans M).free fc) hc pw⟩
theorem aka(W:bi)(H:Hp)(Q:VK)(E:XK)(h:zm W H Q E):az (m5 K E) Ri (Dn Q) (Y2 yB W) H:=UR true W H Q E h
theorem akb(W:bi)(H:Hp)(Q:VK)(E:XK)(h:IA W H Q E):az (m5 K E) Rf (Dn Q) (Y2 yB W) H:=UR false W H Q E h
end
structure d3(tx:List bv)(tk:List (Nat×be)):Prop where
 len:tx.length=tk.length+1
 chg:∀i h ps l r,tk[i]?=some (h,ps)->tx[i]?=some l->tx[i+1]?=some r->bU ps l r/\ay ps<=5000
noncomputable def Di(s:List be)(c:be):be:=s.foldl (λc o=>jG o c) c
theorem akc(s:List be)(o c:be):Di (s++[o]) c=jG o (Di s c):=by unfold Di;rw[List.foldl_append];rfl
def pj(t:List (Nat×be))(a j:Nat)(c:be):be:=Di (((t.drop a).take j).map (·.2)) c
theorem ID{a:Nat}{c:be}(e:tk[a+j]?=some (h,ps)):pj tk a (j+1) c=jG ps (pj tk a j c):=by
 unfold pj;rw[rL (YV▸e),Z4];exact akc _ _ _
theorem d3.snoc(T:d3 tx tk){h:Nat}(f:tx[tk.length]?=some l)(g:bU ps l r)(d:ay ps<=5000):d3 (tx++[r]) (tk++[(h,ps)]):=by
 refine⟨by rw[Yy,Yy,T.len];rfl,λi j o l' c e b a=>?_⟩;have m:i<tk.length+1:=by have:=(ZT.mp e).1;rw[Yy] at this;exact this
 by_cases R:i<tk.length;rw[X4 R] at e;rw[X4 (T.len▸m)] at b;rw[X4 (T.len▸Yr R _)] at a;exact T.chg i j o l' c e b a;have k:i=tk.length:=by lia
 subst k;rw[YI<|Yw _,Xy] at e;rw[X4 (T.len▸m),f] at b;rw[YI (T.len▸Yw _),T.len,Xy] at a;cases e;cases b;cases a;exact⟨g,d⟩
section
variable{u:aW}{D:En}{J:St}{H:Hp}{r:ga}{Q:VK}{f:sK}
theorem gB{i:RE}(h:af u e J H λv I=>af u o J I λx Z=>af u i J Z λy c=>∃a b,x=.r a/\ip c a y v b/\az u r D J b):az u (.t o i e::r) D J H:=h
theorem bD(h:af u a J H λx I=>af u b J I λy Z=>∃d v,x=.r d/\f_ Z d y (some v)/\Q v Z):af u (.B a b) J H Q:=h
theorem akd(h:af u a J H λy I=>af u b J I λx Z=>∃d o,x=.r d/\f_ Z d y o/\∃k,V.b (!o.isSome)=.b k/\f k Z):bo u (.yd a b) J H f:=h
variable{K:Frag}{M:lV}{C:z4}{B:Hp}{p dx d:z4}{n g:Nat}{ah:ii}{es:List Ent}
end
section
open PyProof.Rows
end
section
variable{K:Frag}{CP C CE CD:z4}
end
theorem zp(h:ZS l ps r):cA ps=l.length:=by
 induction h with
 |N=>rfl
 | @k a l r k ps e _ i=>show k.toNat+cA ps=_;rw[Yy];omega
 |t Y i=>exact i
 | @C s l r ps _ i=>show s.length+cA ps=_;rw[i,Yy,YN]
theorem ake(l:bv):o7 (l.map λc=>(⟨#[c]⟩:Str))=⟨l.toArray⟩:=by
 refine iX ?_;rw[tP];rw[Zq];induction l with
 |nil=>rfl
 |cons c l i=>rw[ZU,Dr,i];rfl
abbrev nV(n:bv):bi:=n.map λk=>V.i (k:Nat)
theorem IE(n:bv):SeqAt.shaped (.list<|n.map λk=>PyData.int (k:Nat))=true:=by
 have h:∀l:bv,PyData.canLayAll0 (l.map λk=>PyData.int (k:Nat))=true/\PyData.depthAll (l.map λk=>PyData.int (k:Nat))<=1:=by
  intro l;induction l with
  |nil=>exact⟨O,nE _⟩
  |cons k l i=>
   refine⟨?_,?_⟩;show((PyData.int (k:Nat)).canLay0 && PyData.canLayAll0 (l.map λk=>PyData.int (k:Nat)))=true;rw[i.1];rfl;show max (PyData.int (k:Nat)).depth (PyData.depthAll<|l.map λk=>PyData.int (k:Nat))<=1;have:(PyData.int (k:Nat)).depth=0:=O;lia
 obtain⟨c,d⟩:=h n;unfold SeqAt.shaped;have e:(PyData.list<|n.map λk=>PyData.int (k:Nat)).canLay0=true:=c;have a:(PyData.list<|n.map λk=>PyData.int (k:Nat)).depth<=64:=by show PyData.depthAll (n.map λk=>PyData.int (k:Nat))+1<=64;lia
 rw[e,Y4 a];rfl
theorem zq:∀n:bv,IsL H (n.map λk=>PyData.int (k:Nat)) (nV n)
 |[]=>O
 |k::r=>⟨_,_,O,O,zq r⟩
theorem akf{K:Frag}{a:z4}(c:H a=some (.l<|nV n))(h:H b=some (.l<|nV n))(q:Q (.b false) H):dc K .NotEq (.r a) (.r b) H Q:=by
 refine⟨.list<|n.map λk=>.int (k:Nat),.list<|n.map λk=>.int (k:Nat),⟨a,_,O,c,zq n⟩,⟨b,_,O,h,zq n⟩,IE n,IE n,?_⟩;rw[SeqAt.eqv_refl _<|Wp<|IE n];exact q
section
variable{K:Frag}{M:lV}{C:z4}{H B:Hp}{p dx d rw n:Nat}{rs:List Sd}
end
abbrev f6(x:Str)(k e:Nat)(f d a:V):io:=[("signs",.s x),("known",.i (k:Nat)),("serial",.i (e:Nat)),("flying",f),("delayed",d),("early",a)]
section
variable{x:Str}{b e:Nat}{f g h:V}
theorem Dj:(f6 x b e f g h).lookup ("signs":Str)=some (.s x):=mM
theorem uG:(f6 x b e f g h).lookup ("known":Str)=some (.i (b:Nat)):=O
theorem IF:(f6 x b e f g h).lookup ("serial":Str)=some (.i (e:Nat)):=O
theorem mZ:(f6 x b e f g h).lookup ("flying":Str)=some f:=O
theorem uH:(f6 x b e f g h).lookup ("delayed":Str)=some g:=O
theorem zr:(f6 x b e f g h).lookup ("early":Str)=some h:=O
theorem akg:aU "early" h (aU "delayed" g<|aU "flying" f<|aU "serial" (.i (e:Nat))<|aU "known" (.i (b:Nat))<|aU "signs" (.s x) [])=f6 x b e f g h:=O
theorem IG:aU "signs" (.s y) (f6 x b e f g h)=f6 y b e f g h:=aaK
theorem UU:aU "known" (.i (k:Nat)) (f6 x b e f g h)=f6 x k e f g h:=O
theorem UW:aU "serial" (.i (k:Nat)) (f6 x b e f g h)=f6 x b k f g h:=O
theorem Dk:aU "flying" v (f6 x b e f g h)=f6 x b e v g h:=O
theorem zt:aU "delayed" v (f6 x b e f g h)=f6 x b e f v h:=O
theorem akh:aU "early" v (f6 x b e f g h)=f6 x b e f g v:=O
end
abbrev f2(o:Nat)(s:z4):io:=[("number",.i (o:Nat)),("stand_now",.r s)]
theorem Dl:(f2 own s).lookup ("number":Str)=some (.i (own:Nat)):=mM
theorem p_:(f2 own s).lookup ("stand_now":Str)=some (.r s):=O
theorem jd{m:Str}(h:autoParam (¬m="number"/\ ¬m="stand_now") cs):(f2 own s).lookup m=none:=(eS h.1).trans ((eS h.2).trans O)
theorem aki{i:z4}:aU "stand_now" (.r i) (f2 own s)=f2 own i:=O
abbrev MS:=z4->Prop
structure aS where
 f:Nat->Option (Nat×z4×be)
 n:Nat
instance:CoeFun aS λ_=>Nat->Option (Nat×z4×be):=⟨aS.f⟩
def eK(M:MS)(H:Hp)(v:V)(ps:be):Prop:= ∃a U,v=.r a/\H a=some (.l U)/\aC H U ps/\ ¬M a
def bx(M:MS)(H:Hp)(v:V):Option be->Prop
 |none=>v=.a
 |some ps=>eK M H v ps
def aB(M:MS)(H B:Hp):Prop:= ∀b o,H b=some o-> ¬M b->B b=some o
def fU(M:MS)(H:Hp)(o:im):Option (Nat×z4×be)->Prop
 |none=>o=none
 |some u=>∃t U,o=some (.r t)/\H t=some (.t [.i (u.1:Nat),.r u.2.1])/\H u.2.1=some (.l U)/\aC H U u.2.2/\ ¬M u.2.1
def MS.add(M:MS)(a:z4):MS:=λz=>z=a\/M z
def Al(M:MS)(H:Hp):Prop:= ∀z,M z->∃o,H z=some o
def MS.ea(M:MS)(ea:aS):MS:=λz=>M z\/∃n u,ea n=some u/\u.2.1=z
structure bQ(M:MS)(CS:z4)(H:Hp)(q dq e:z4)(x:Str)(kn se:Nat)(fl de:Option be)(ea:aS):Prop where
 ob:∃vf vd,H q=some (.i CS dq<|f6 x kn se vf vd<|.r e)/\bx (M.ea ea) H vf fl/\bx (M.ea ea) H vd de
 l:∃ah,H e=some (.d ah)/\ah.length<=ea.n/\∀n:Nat,fU M H (cv ah<|.inl (n:Int)) (ea n)
 nd:∀n m u0 v,ea n=some u0->ea m=some v->u0.2.1=v.2.1->n=m
structure cq(M:MS)(C CS:z4)(H:Hp)(p dp q dq e:z4)(own:Nat)(x:Str)(kn se:Nat)(fl de:Option be)(ea:aS):Prop where
 ob:H p=some (.i C dp<|f2 own q)
 st:bQ M CS H q dq e x kn se fl de ea
section
variable{K:Frag}{M M':MS}{C f:z4}{H B:Hp}{p X q g e:z4}{b:Nat}{x:Str}{A G:Nat}{m P:Option be}{R:aS}
theorem eK.same(h:eK M H v ps)(s:aA H B):eK M B v ps:=by
 obtain⟨a,U,e,d,c,b⟩:=h;exact⟨a,U,e,s _ _ d,c.mono<|aQ s,b⟩
theorem bx.same:∀{o:Option be},bx M H v o->aA H B->bx M B v o
 |none,h,_=>h
 |some _,h,s=>eK.same h s
theorem fU.same{o:im}:∀{u:Option (Nat×z4×be)},fU M H o u->aA H B->fU M B o u:=by
 intro u h s;cases u with
 |none=>exact h
 |some _=>
  obtain⟨t,U,e,d,c,b,a⟩:=h;exact q8 t U e (s _ _ d) (s _ _ c) (b.mono<|aQ s) a
theorem bQ.same(S:bQ M f H q g e x A G m P R)(s:aA H B):bQ M f B q g e x A G m P R:=by
 obtain⟨vf,v,d,c,h⟩:=S.ob;obtain⟨i,b,k,a⟩:=S.l;exact⟨p4 vf v (s _ _ d) (c.same s) (h.same s),qH i (s _ _ b) k (λn=>(a n).same s),S.nd⟩
theorem bx.weak(w:∀z,N' z->N z\/H z=none):∀{o:Option be},bx N H v o->bx N' H v o:=by
 intro o h;cases o with
 |none=>exact h
 |some _=>
  obtain⟨a,U,e,d,c,b⟩:=h;exact qM a U e d c (λz=>(w a z).elim b λy=>by lia)
theorem fU.weak{o:im}(w:∀z,M' z->M z\/H z=none):∀{u:Option (Nat×z4×be)},fU M H o u->fU M' H o u
 |none,h=>h
 |some _,⟨t,U,e,d,c,b,a⟩=>q8 t U e d c b (λz=>(w _ z).elim a λy=>by lia)
theorem bQ.weak(S:bQ M f H q g e x A G m P R)(w:∀z,M' z->M z\/H z=none):bQ M' f H q g e x A G m P R:=by
 obtain⟨vf,v,o,j,i⟩:=S.ob;obtain⟨p,d,k,c⟩:=S.l;have b:∀z,M'.ea R z->M.ea R z\/H z=none:=λz h=>h.elim (λy=>(w z y).elim (λa=>.inl<|.inl a) .inr) λy=>.inl (.inr y);exact⟨p4 vf v o (j.weak b) (i.weak b),qH p d k (λn=>(c n).weak w),S.nd⟩
theorem cq.same(S:cq M C f H p X q g e b x A G m P R)(s:aA H B):cq M C f B p X q g e b x A G m P R:=⟨s _ _ S.ob,S.st.same s⟩
def Dm(H:Hp)(Q:VK):Option be->Prop
 |none=>Q .a H
 |some ps=>∀l B U,aA H B->H l=none->B l=some (.l U)->aC B U ps->Q (.r l) B
inductive IH(C f:z4)(W:bi)(H:Hp)(Q:VK)(E:XK):Prop|i(M:MS)(p X q g e:z4)(b:Nat)(x:Str)(A G:Nat)(m P:Option be)(R:aS)(_:W=[.r p])(_:cq M C f H p X q g e b x A G m P R)(_:Q (.s x) H)
inductive zu(C f:z4)(W:bi)(H:Hp)(Q:VK)(E:XK):Prop|i(M:MS)(p X q g e:z4)(b:Nat)(x:Str)(A G:Nat)(m P:Option be)(R:aS)(_:W=[.r p])(_:cq M C f H p X q g e b x A G m P R)(_:Q (.i (A:Nat)) H)
theorem akj(T:jx K C)(a:iW K f):cL (IH C f) (λE=>aV K E) Qr lI:=by
 intro W H Q E h;obtain⟨M,p,X,q,g,e,b,x,A,G,m,P,R,rfl,S,k⟩:=h;obtain⟨vf,v,d,Y⟩:=S.st.ob;exact b_<|bK<|bK<|aa O ⟨p,C,X,_,_,O,S.ob,T.c,T.m,p_,q,f,g,_,_,O,d,a.c,a.q,Dj,k⟩
theorem akk(T:jx K C)(a:iW K f):cL (zu C f) (λE=>aV K E) Qt lI:=by
 intro W H Q E h;obtain⟨M,p,X,q,g,e,b,x,A,G,m,P,R,rfl,S,k⟩:=h;obtain⟨vf,v,d,Y⟩:=S.st.ob;exact b_<|bK<|bK<|aa O ⟨p,C,X,_,_,O,S.ob,T.c,T.m,p_,q,f,g,_,_,O,d,a.c,a.o,uG,k⟩
theorem je(q:Q (.b<|!decide (v=.a)) H):dc K .IsNot v .a H Q:=⟨O,q⟩
theorem qd{c b:RE}(h:bo u c J H λt I=>if t=true then af u a J I Q else af u b J I Q):af u (.H c a b) J H Q:=h
theorem jH{a:z4}:decide (V.r a=.a)=false:=O
inductive zv(W:bi)(H:Hp)(Q:VK)(E:XK):Prop|i(M:MS)(v:V)(o:Option be)(_:W=[v])(_:bx M H v o)(_:Dm H Q o)
theorem akl:cL (zv) (λE=>aV K E) Qi Qh:=by
 intro W H Q E h;obtain⟨M,v,o,rfl,b,k⟩:=h;cases o with
 |none=>
  cases (show v=.a from b);exact b_<|qd<|aL<|aa O<|ai<|gA ⟨_,O,iT (ai k)<|Y4 O⟩
 |some ps=>
  obtain⟨a,U,rfl,c,p,Y⟩:=(show eK M H v ps from b);exact b_<|qd<|aL<|aa O<|ai<|gA ⟨_,O,iF (p9<|aa O ⟨_,.inl<|ax.of c,λl m=>k l _ U (Yb m) m av<|p.mono<|aQ<|Yb m⟩) jH⟩
inductive zw(C f:z4)(W:bi)(H:Hp)(Q:VK)(E:XK):Prop|i(M:MS)(p X q g e:z4)(b:Nat)(x:Str)(A G:Nat)(m P:Option be)(R:aS)(_:W=[.r p])(_:cq M C f H p X q g e b x A G m P R)(_:Dm H Q m)
inductive zx(C f:z4)(W:bi)(H:Hp)(Q:VK)(E:XK):Prop|i(M:MS)(p X q g e:z4)(b:Nat)(x:Str)(A G:Nat)(m P:Option be)(R:aS)(_:W=[.r p])(_:cq M C f H p X q g e b x A G m P R)(_:Dm H Q P)
abbrev m6(K:Frag)(E:XK):aW:=aJ K [("copied",zv)] [] (E:=E)
theorem TY(T:jx K C)(a:iW K f):cL (zw C f) (λE=>m6 K E) Qw lI:=by
 intro W H Q E h;obtain⟨M,p,X,q,g,e,b,x,A,G,m,P,R,rfl,S,k⟩:=h;obtain⟨vf,v,i,d,Y⟩:=S.st.ob;exact b_<|bA zv O<|ao<|bK<|bK<|aa O ⟨p,C,X,_,_,O,S.ob,T.c,T.m,p_,q,f,g,_,_,O,i,a.c,a.j,mZ,aD ⟨_,vf,m,O,d,k⟩⟩
theorem akn(T:jx K C)(a:iW K f):cL (zx C f) (λE=>m6 K E) Qz lI:=by
 intro W H Q E h;obtain⟨M,p,X,q,g,e,b,x,A,G,m,P,R,rfl,S,k⟩:=h;obtain⟨vf,v,i,Y,d⟩:=S.st.ob;exact b_<|bA zv O<|ao<|bK<|bK<|aa O ⟨p,C,X,_,_,O,S.ob,T.c,T.m,p_,q,f,g,_,_,O,i,a.c,a.l,uH,aD ⟨_,v,P,O,d,k⟩⟩
def wW(H:Hp)(t:z4)(b G A:Nat)(ps:be)(l:z4):Prop:=H t=some (.t [.s "ask",.i (b:Nat),.i (G:Nat),.i (A:Nat),.r l])/\∃U,H l=some (.l U)/\aC H U ps
inductive zy(C f:z4)(W:bi)(H:Hp)(Q:VK)(E:XK):Prop|i(M:MS)(p X q g e a:z4)(b:Nat)(x:Str)(A G:Nat)(ps:be)(P:Option be)(R:aS)(_:W=[.r p,.r q])(_:H p=some (.i C X<|f2 b a))(_:bQ M f H q g e x A G (some ps) P R)(_:∀t l B,aA H B->H t=none->H l=none->wW B t b G A ps l->Q (.r t) B)
theorem ako(T:jx K C)(d:iW K f):cL (zy C f) (λE=>aV K E) QE QD:=by
 intro W H Q E h;obtain⟨M,p,X,q,g,e,I,b,x,A,G,ps,P,R,rfl,z,S,k⟩:=h;obtain⟨vf,F,v,⟨a,U,rfl,D,y,Y⟩,Y⟩:=S.ob;refine b_<|dt<|ao<|ai<|ao<|bK<|aa O ⟨p,C,X,_,_,O,z,T.c,T.yA,Dl,ao<|bK<|aa O ⟨q,f,g,_,_,O,v,d.c,d.vZ,IF,ao<|bK<|aa O ⟨q,f,g,_,_,O,v,d.c,d.o,uG,ao<|p9<|bK<|aa O ⟨q,f,g,_,_,O,v,d.c,d.j,mZ,_,.inl<|ax.of D,λl m=>aD ⟨xx,λt w=>?_⟩⟩⟩⟩⟩;have u:=Yb (o:=.l U) m;have B:fy H l (.l U) l=some (.l U):=av;have n:=Yb (o:=.t [.s "ask",.i (b:Nat),.i (G:Nat),.i (A:Nat),.r l]) w;exact k t l _ (u.trans n) (u.free w) m ⟨av,U,n _ _ B,y.mono<|aQ<|u.trans n⟩
end
section
variable{K:Frag}{M:MS}{C g:z4}{H B:Hp}{p P q A e:z4}{R:Nat}{x:Str}{G N:Nat}{m f:Option be}{X:aS}
theorem uI{o:HO}{f:io}(h:H q=some (.i C' d' f)):dn H (fy H q o):=λz us e=>by
 rw[aw (λy=>by lia)];exact e
theorem eK.ins{o:HO}{s:io}{v:V}(h:eK M H v ps)(b:H q=some (.i C' d' s)):eK M (fy H q o) v ps:=by
 obtain⟨a,U,e,f,d,c⟩:=h;exact qM a U e (by rw[aw (λy=>by lia)];exact f) (d.mono<|uI b) c
theorem bx.ins{o:HO}{f:io}{v:V}:∀{z:Option be},bx M H v z->H q=some (.i C' d' f)->bx M (fy H q o) v z
 |none,h,_=>h
 |some _,h,a=>eK.ins h a
theorem fU.ins{o:HO}{s:io}{w:im}:∀{z:Option (Nat×z4×be)},fU M H w z->H q=some (.i C' d' s)->fU M (fy H q o) w z:=by
 intro z h a;cases z with
 |none=>exact h
 |some _=>
  obtain⟨t,U,f,e,d,c,b⟩:=h;exact q8 t U f (uI a _ _ e) (by rw[aw (λy=>by lia)];exact d) (c.mono<|uI a) b
theorem bQ.put(S:bQ M g H q A e x G N m f X)(c:bx (M.ea X) H vf fl')(d:bx (M.ea X) H vd de'):bQ M g (fy H q<|.i g A<|f6 x' kn' se' vf vd<|.r e) q A e x' kn' se' fl' de' X:=by
 obtain⟨w,v,h,Y,Y⟩:=S.ob;obtain⟨j,b,k,a⟩:=S.l;exact⟨p4 vf vd av (c.ins h) (d.ins h),qH j (by rw[aw (λy=>by lia)];exact b) k (λn=>(a n).ins h),S.nd⟩
theorem aB.same(s:aA H B):aB M H B:=λb o e Y=>s b o e
theorem aB.trans(a:aB M H B)(b:aB M B we):aB M H we:=λz o e h=>b _ _ (a _ _ e h) h
theorem aB.upd{o:HO}:aB (· =q) H (fy H q o):=λz o e h=>by rw[aw h];exact e
inductive zA(C g:z4)(W:bi)(H:Hp)(Q:VK)(E:XK):Prop|i(M:MS)(p P q A e a:z4)(v:V)(R:Nat)(x:Str)(G N:Nat)(ps:be)(m f:Option be)(X:aS)(_:W=[.r p,.r q,v])(_:H p=some (.i C P<|f2 R a))(_:p≠q)(_:bQ M g H q A e x G N m f X)(_:eK (M.ea X) H v ps)(_:∀L t l B,aB (· =q) H B->H L=none->H t=none->H l=none->bQ ((M.add L).add l) g B q A e x G (N+1) (some ps) f X->B L=some (.l [.r t])->wW B t R (N+1) G ps l->Q (.r L) B)
abbrev aaH(K:Frag)(C:z4)(g:z4)(E:XK):aW:=aJ K [] [] [] [("ask",C,zy C g)] (E:=E)
theorem Tv(T:jx K C)(n:iW K g):cL (zA C g) (λE=>aaH K C g E) QG BZ:=by
 intro W H Q E h;obtain⟨M,p,P,q,A,e,q0,v,R,x,G,N,ps,m,f,X,rfl,hp,fV,S,hv,k⟩:=h;obtain⟨vf,d,w,h2,h3⟩:=S.ob;refine eJ<|bg<|bK<|aa O ⟨q,g,A,_,_,O,w,n.c,n.vZ,IF,ai<|dW<|aa O ⟨q,g,A,_,O,w,n.c,n.vZ,am,?_⟩⟩;rw[show(N:Int)+1=((N+1:Nat):Int) by lia,UW];have S1:=S.put (x':=x) (kn':=G) (se':=N+1) h2 h3;have UX:eK (M.ea X) (fy H q<|.i g A<|f6 x G (N+1) vf d<|.r e) v ps:=hv.ins w;have b1:aB (· =q) H (fy H q<|.i g A<|f6 x G (N+1) vf d<|.r e):=aB.upd;have dN:fy H q (.i g A<|f6 x G (N+1) vf d<|.r e) q=some (.i g A<|f6 x G (N+1) vf d<|.r e):=av;have zB:bx (M.ea X) (fy H q<|.i g A<|f6 x G (N+1) vf d<|.r e) d f:=h3.ins w;generalize fy H q (.i g A<|f6 x G (N+1) vf d<|.r e)=I at S1 UX b1 dN zB⊢;refine eJ<|aa O<|aa O ⟨q,g,A,_,O,dN,n.c,n.j,am,?_⟩;rw[Dk];have B:=S1.put (x':=x) (kn':=G) (se':=N+1) (fl':=some ps) UX zB;have b2:aB (· =q) I (fy I q<|.i g A<|f6 x G (N+1) v d<|.r e):=aB.upd;generalize fy I q (.i g A<|f6 x G (N+1) v d<|.r e)=Z at B b2⊢;have D:=b1.trans b2;have Y:=fV;have F:∀{z:z4},Z z=none->H z=none:=λ{z} a=>by
  cases ez:H z with
  |none=>rfl
  |some o=>
   by_cases y:z=q;obtain⟨_,_,hq,_⟩:=B.ob;rw[y,hq] at a;cases a;rw[D _ _ ez y] at a;cases a
 refine b_<|cQ<|ao<|pT C (zy C g) O<|aa O ⟨p,P,_,O,D _ _ hp Y,jd,aa O ⟨M,p,P,q,A,e,q0,R,x,G,N+1,ps,f,X,O,D _ _ hp Y,B,λt l H3 u ft b ha=>aD ⟨jM,λL J=>?_⟩⟩⟩;have s:=Yb (o:=.l [.r t]) J;exact k L t l _ (D.trans<|aB.same<|u.trans s) (F<|u.free J) (F ft) (F b) (((B.weak λz a=>a.elim (λy=>.inr<|y ▸ b) λa=>a.elim (λy=>.inr<|y ▸ u.free J) .inl).same u).same s) av ⟨s _ _ ha.1,let ⟨U,g1,g2⟩:=ha.2;⟨U,s _ _ g1,g2.mono<|aQ s⟩⟩
theorem UY(C:z4)(s:Sp)(k:u.ms j=(C,s))(h:af u o J H λx I=>∃p d f,x=.r p/\I p=some (.i C d f)/\f.lookup m0=none/\af u a J I λy Z=>af u b J Z λz g=>s [x,y,z] g Q u.E):af u (.q j m0 o [a,b]) J H Q:=by
 have c:(u.ms j).1=C:=by lia
 have e:(u.ms j).2=s:=by lia
 show sJ (u.ms j).1 m0 (u.ms j).2 [] u.E (af u o) (br u [a,b]) J H Q;rw[c,e];exact h
def Dp(C g:z4):Sp:=λW H Q E=>∃(M:MS)(p P q A e a:z4)(R:Nat)(x:Str)(G N:Nat)(ps:be)(f:Option be)(X:aS),W=[.r p,.r q]/\H p=some (.i C P<|f2 R a)/\p≠q/\bQ M g H q A e x G N (some ps) f X/\
 match f with
 |none=>∀L B,aB (· =q) H B->H L=none->bQ (M.add L) g B q A e x G N none none X->B L=some (.l [])->Q (.r L) B
 |some d=>∀L t l B,aB (· =q) H B->H L=none->H t=none->H l=none->bQ ((M.add L).add l) g B q A e x G (N+1) (some d) none X->B L=some (.l [.r t])->wW B t R (N+1) G d l->Q (.r L) B
abbrev aiN(K:Frag)(C:z4)(g:z4)(CB:z4)(E:XK):aW:=aJ K [] [] [] [("take_off",C,zA C g)] (et:=[("BadLetter",CB)]) (E:=E)
theorem akq(T:jx K C)(b:iW K g):cL (Dp C g) (λE=>aiN K C g CB E) QR BZ:=by
 intro W H Q E h;obtain⟨M,p,P,q,A,e,q0,R,x,G,N,ps,f,X,rfl,hp,fV,S,k⟩:=h;obtain⟨vf,v,s,h2,h3⟩:=S.ob;obtain⟨a,U,rfl,ha,pv,na⟩:=(show eK (M.ea X) H vf ps from h2);refine aX<|aL<|bK<|aa O ⟨q,g,A,_,_,O,s,b.c,b.j,mZ,ai<|gA ⟨_,O,iF (cb (aO<|bK<|aa O ⟨q,g,A,_,_,O,s,b.c,b.l,uH,eJ<|ai<|aa O ⟨q,g,A,_,O,s,b.c,b.j,(by simp),?_⟩⟩)) jH⟩⟩;rw[Dk];have S1:=S.put (x':=x) (kn':=G) (se':=N) (fl':=none) O h3;have b1:aB (· =q) H (fy H q<|.i g A<|f6 x G N .a v<|.r e):=aB.upd;have F:fy H q (.i g A<|f6 x G N .a v<|.r e) q=some (.i g A<|f6 x G N .a v<|.r e):=av;have Y:bx (M.ea X) (fy H q<|.i g A<|f6 x G N .a v<|.r e) v f:=h3.ins s;generalize fy H q (.i g A<|f6 x G N .a v<|.r e)=I at S1 b1 F Y⊢;refine eJ<|ai<|aa O ⟨q,g,A,_,O,F,b.c,b.l,(by simp),?_⟩;rw[zt];have w:=S1.put (x':=x) (kn':=G) (se':=N) (fl':=none) (de':=none) O O;have b2:aB (· =q) I (fy I q<|.i g A<|f6 x G N .a .a<|.r e):=aB.upd;have J:bx (M.ea X) (fy I q<|.i g A<|f6 x G N .a .a<|.r e) v f:=Y.ins F;generalize fy I q (.i g A<|f6 x G N .a .a<|.r e)=Z at w b2 J⊢;have D:=b1.trans b2;have V:=fV;have u:∀{z:z4},Z z=none->H z=none:=λ{z} m=>by
  cases ez:H z with
  |none=>rfl
  |some o=>
   by_cases y:z=q;obtain⟨_,_,hq,_⟩:=w.ob;rw[y,hq] at m;cases m;rw[D _ _ ez y] at m;cases m
 cases f with
 |none=>
  cases (show v=.a from J);exact b_<|qd<|aL<|aa O<|ai<|gA ⟨_,O,iT (cQ<|aD ⟨nE _,λL n=>k L _ (D.trans<|aB.same<|Yb n) (u n) ((w.weak λz m=>m.elim (λy=>.inr<|y ▸ n) .inl).same<|Yb n) av⟩)<|Y4 O⟩
 |some ds=>
  obtain⟨a2,gR,zq⟩:=ZL ((show eK (M.ea X) Z v ds from J));obtain⟨rfl,iE,jc,B⟩:=Yq zq;refine b_<|qd<|aL<|aa O<|ai<|gA ⟨_,O,iF (UY C (zA C g) O<|aa O ⟨p,P,_,O,D _ _ hp V,jd,aa O<|aa O ⟨M,p,P,q,A,e,q0,_,R,x,G,N,ds,none,none,X,O,D _ _ hp V,fV,w,⟨a2,gR,O,iE,jc,B⟩,λL t l H3 b3 n ft d S3 hL hA=>k L t l H3 (D.trans b3) (u n) (u ft) (u d) S3 hL hA⟩⟩) jH⟩
def Dq(C g:z4):Sp:=λW H Q E=>∃(M:MS)(p P q A e:z4)(R:Nat)(x:Str)(G N:Nat)(m f:Option be)(X:aS),W=[.r p]/\cq M C g H p P q A e R x G N m f X/\
 match m with
 |none=>∀L a B,aA H B->H L=none->H a=none->B a=some (.t [.s "again",.i (R:Nat),.i (G:Nat)])->B L=some (.l [.r a])->Q (.r L) B
 |some ps=>∀L a t l B,aA H B->H L=none->H a=none->H t=none->H l=none->B a=some (.t [.s "again",.i (R:Nat),.i (G:Nat)])->wW B t R N G ps l->B L=some (.l [.r a,.r t])->Q (.r L) B
abbrev aaC(K:Frag)(C:z4)(g:z4)(E:XK):aW:=aJ K [] [] [] [("seen",C,zu C g),("ask",C,zy C g)] (E:=E)
theorem aks(T:jx K C)(u:iW K g):cL (Dq C g) (λE=>aaC K C g E) QX QW:=by
 intro W H Q E h;obtain⟨M,p,P,q,A,e,R,x,G,N,m,f,X,rfl,S,k⟩:=h;refine aO<|dt<|ao<|ai<|ao<|bK<|aa O ⟨p,C,P,_,_,O,S.ob,T.c,T.yA,Dl,ao<|rC C (zu C g) O<|aa O ⟨p,P,_,O,S.ob,jd,M,p,P,q,A,e,R,x,G,N,m,f,X,O,S,aD ⟨sq,λd y=>?_⟩⟩⟩;generalize zz:fy _ d _=I;have s:=bC y zz;have J:=bu zz;have b:=S.same s;obtain⟨vf,vd,F,D,h3⟩:=b.st.ob;cases m with
 |none=>
  cases (show vf=.a from D);refine b_<|qd<|aL<|bK<|bK<|aa O ⟨p,C,P,_,_,O,b.ob,T.c,T.m,p_,q,g,A,_,_,O,F,u.c,u.j,mZ,ai<|gA ⟨_,O,iT (cQ<|ao<|aa O<|aD ⟨jM,λL n=>?_⟩)<|Y4 O⟩⟩;have z:=Yb (o:=.l [.r d]) n;exact k L d _ (s.trans z) (s.free n) y (z _ _ J) av
 |some ps=>
  obtain⟨a,U,zq⟩:=ZL ((show eK (M.ea X) I vf ps from D));obtain⟨rfl,ha,pv,na⟩:=Yq zq;refine b_<|qd<|aL<|bK<|bK<|aa O ⟨p,C,P,_,_,O,b.ob,T.c,T.m,p_,q,g,A,_,_,O,F,u.c,u.j,mZ,ai<|gA ⟨_,O,iF (cQ<|ao<|aa O<|ao<|pT C (zy C g) O<|aa O ⟨p,P,_,O,b.ob,jd,bK<|aa O ⟨p,C,P,_,_,O,b.ob,T.c,T.m,p_,M,p,P,q,A,e,q,R,x,G,N,ps,f,X,O,b.ob,b.st,λt l H3 v ft w B=>aD ⟨cI,λL n=>?_⟩⟩⟩) jH⟩⟩;have i:=Yb (o:=.l [.r d,.r t]) n;exact k L d t l _ ((s.trans v).trans i) (s.free<|v.free n) y (s.free ft) (s.free w) (i _ _<|v _ _ J) ⟨i _ _ B.1,let ⟨U,Z,Y⟩:=B.2;⟨U,i _ _ Z,Y.mono<|aQ i⟩⟩ av
theorem IJ(h:∀p,H p=none->Q (.r p) (fy H p<|.d [])):af u .vB J H Q:=h
inductive zD(g:z4)(W:bi)(H:Hp)(Q:VK)(E:XK):Prop|i(q A:z4)(x:Str)(_:W=[.r q,.s x])(_:H q=some (.i g A []))(_:∀e B,H e=none->(∀z o,H z=some o->z≠q->B z=some o)->B q=some (.i g A<|f6 x 0 0 .a .a<|.r e)->B e=some (.d [])->Q .a B)
theorem akt(T:iW K g):cL (zD g) (λE=>aV K E) Qa P_:=by
 intro W H Q E h;obtain⟨q,A,x,rfl,P,k⟩:=h;refine eJ<|aa O<|aa O ⟨q,g,A,_,O,P,T.c,T.q,(by simp),?_⟩;have C:∀z o,H z=some o->z≠q->fy H q (.i g A<|aU "signs" (.s x) []) z=some o:=λz o e n=>by rw[aw n];exact e
 have N:fy H q (.i g A<|aU "signs" (.s x) []) q=some (.i g A<|aU "signs" (.s x) []):=av;generalize fy H q (.i g A<|aU "signs" (.s x) [])=I at C N⊢;refine eJ<|ai<|aa O ⟨q,g,A,_,O,N,T.c,T.o,(by show 1<1000;decide),?_⟩;have B:∀z o,H z=some o->z≠q->fy I q (.i g A<|aU "known" (.i 0)<|aU "signs" (.s x) []) z=some o:=λz o e n=>by rw[aw n];exact C z o e n
 have J:fy I q (.i g A<|aU "known" (.i 0)<|aU "signs" (.s x) []) q=some (.i g A<|aU "known" (.i 0)<|aU "signs" (.s x) []):=av;generalize fy I q (.i g A<|aU "known" (.i 0)<|aU "signs" (.s x) [])=Z at B J⊢;refine eJ<|ai<|aa O ⟨q,g,A,_,O,J,T.c,T.vZ,(by show 2<1000;decide),?_⟩;have w:∀z o,H z=some o->z≠q->fy Z q (.i g A<|aU "serial" (.i 0)<|aU "known" (.i 0)<|aU "signs" (.s x) []) z=some o:=λz o e n=>by rw[aw n];exact B z o e n
 have D:fy Z q (.i g A<|aU "serial" (.i 0)<|aU "known" (.i 0)<|aU "signs" (.s x) []) q=some (.i g A<|aU "serial" (.i 0)<|aU "known" (.i 0)<|aU "signs" (.s x) []):=av;generalize fy Z q (.i g A<|aU "serial" (.i 0)<|aU "known" (.i 0)<|aU "signs" (.s x) [])=H3 at w D⊢;refine eJ<|ai<|aa O ⟨q,g,A,_,O,D,T.c,T.j,(by show 3<1000;decide),?_⟩;generalize IL:aU "flying" .a (aU "serial" (.i 0)<|aU "known" (.i 0)<|aU "signs" (.s x) [])=f4;have M:f4.length=4:=IL▸rfl;have v:∀z o,H z=some o->z≠q->fy H3 q (.i g A f4) z=some o:=λz o e n=>by rw[aw n];exact w z o e n
 have u:fy H3 q (.i g A f4) q=some (.i g A f4):=av;generalize fy H3 q (.i g A f4)=F at v u⊢;refine eJ<|ai<|aa O ⟨q,g,A,_,O,u,T.c,T.l,(by lia),?_⟩;generalize UZ:aU "delayed" .a f4=f;have L:f.length=5:=by rw[<-UZ,<-IL];rfl
 have p:∀z o,H z=some o->z≠q->fy F q (.i g A f) z=some o:=λz o e n=>by rw[aw n];exact v z o e n
 have G:fy F q (.i g A f) q=some (.i g A f):=av;refine eJ<|IJ λe r=>?_;have m:e≠q:=λy=>by lia
 refine aa O (r4 q g A _ O (by rw[aw<|GE m];exact G) T.c T.t (by lia) ?_);refine k e _ ?_ (λz o d n=>?_) ?_ ?_;cases d:H e with
 |none=>rfl
 |some o=>rw[p _ _ d m] at r;cases r
 rw[aw n,aw<|aH (p _ _ d n) r];exact p _ _ d n;rw[av,<-UZ,<-IL];exact FM (λl=>some<|HO.i g A l) (akg);rw[aw m];exact av
theorem aku(h:af u a J H λv I=>∃p b,[v]=[.r p]/\I p=some (.d b)/\∀l,I l=none->Q (.r l) (fy I l<|.d b)):af u (.x Gy [a]) J H Q:=h
inductive IM(g:z4)(W:bi)(H:Hp)(Q:VK)(E:XK):Prop|i(M:MS)(q A e:z4)(x:Str)(G N:Nat)(m f:Option be)(X:aS)(_:W=[.r q])(_:bQ M g H q A e x G N m f X)(_:∀a c b B,aA H B->H a=none->H b=none->a≠b->bQ M g B a c b x G N m f X->Q (.r a) B)
abbrev o4(K:Frag)(g:z4)(E:XK):aW:=aJ K [] [] [] [] [("Stand",g,zD g)] (E:=E)
theorem akv(T:iW K g):cL (IM g) (λE=>o4 K g E) Qe Qd:=by
 intro W H Q E h;obtain⟨M,q,A,e,x,G,N,m,f,X,rfl,S,k⟩:=h;obtain⟨vf,v,y,h2,h3⟩:=S.ob;obtain⟨ah,he,lk,pe⟩:=S.l;refine aO<|yX g (zD g) O<|bK<|aa O ⟨q,g,A,_,_,O,y,T.c,T.q,Dj,λb s D IP ju=>⟨b,s,x,O,av,λu I b' b1 dN a'=>⟨O,?_⟩⟩⟩;have s1:∀z o,H z=some o->I z=some o:=λz o p=>b1 _ _ (by rw[aw<|aH p D,aw<|aH p IP];exact p) (aH p D);have F:∀{z:z4}{o:HO},H z=some o->z≠b:=λp=>aH p D;refine eJ<|bK<|aa O ⟨q,g,A,_,_,O,(s1 _ _ y),T.c,T.o,uG,aa O ⟨b,g,s,_,O,dN,T.c,T.o,(by simp),?_⟩⟩;rw[UU];have U:∀z o,H z=some o->fy I b (.i g s<|f6 x G 0 .a .a<|.r u) z=some o:=λz o p=>by rw[aw<|F p];exact s1 _ _ p
 have fJ:fy I b (.i g s<|f6 x G 0 .a .a<|.r u) b=some (.i g s<|f6 x G 0 .a .a<|.r u):=av;generalize fy I b (.i g s<|f6 x G 0 .a .a<|.r u)=Z at U fJ⊢;refine eJ<|bK<|aa O ⟨q,g,A,_,_,O,U _ _ y,T.c,T.vZ,IF,aa O ⟨b,g,s,_,O,fJ,T.c,T.vZ,(by simp),?_⟩⟩;rw[UW];have R:∀z o,H z=some o->fy Z b (.i g s<|f6 x G N .a .a<|.r u) z=some o:=λz o p=>by rw[aw<|F p];exact U _ _ p
 have iH:fy Z b (.i g s<|f6 x G N .a .a<|.r u) b=some (.i g s<|f6 x G N .a .a<|.r u):=av;generalize fy Z b (.i g s<|f6 x G N .a .a<|.r u)=H3 at R iH⊢;refine eJ<|bK<|aa O ⟨q,g,A,_,_,O,R _ _ y,T.c,T.j,mZ,aa O ⟨b,g,s,_,O,iH,T.c,T.j,(by simp),?_⟩⟩;rw[Dk];have P:∀z o,H z=some o->fy H3 b (.i g s<|f6 x G N vf .a<|.r u) z=some o:=λz o p=>by rw[aw<|F p];exact R _ _ p
 have zE:fy H3 b (.i g s<|f6 x G N vf .a<|.r u) b=some (.i g s<|f6 x G N vf .a<|.r u):=av;generalize fy H3 b (.i g s<|f6 x G N vf .a<|.r u)=H4 at P zE⊢;refine eJ<|bK<|aa O ⟨q,g,A,_,_,O,P _ _ y,T.c,T.l,uH,aa O ⟨b,g,s,_,O,zE,T.c,T.l,(by simp),?_⟩⟩;rw[zt];have w:∀z o,H z=some o->fy H4 b (.i g s<|f6 x G N vf v<|.r u) z=some o:=λz o p=>by rw[aw<|F p];exact P _ _ p
 have L:fy H4 b (.i g s<|f6 x G N vf v<|.r u) b=some (.i g s<|f6 x G N vf v<|.r u):=av;generalize fy H4 b (.i g s<|f6 x G N vf v<|.r u)=H5 at w L⊢;refine eJ<|aku<|bK<|aa O ⟨q,g,A,_,_,O,w _ _ y,T.c,T.t,zr,e,ah,O,w _ _ he,λB J=>?_⟩;have V:=aH L J;refine aa O (r4 b g s _ O (by rw[aw V];exact L) T.c T.t (by simp) ?_);have C:aA H (fy (fy H5 B<|.d ah) b<|.i g s<|f6 x G N vf v<|.r B):=λz o p=>by
  rw[aw<|F p,aw<|aH (w _ _ p) J];exact w _ _ p
 have fe:H B=none:=by
  cases p:H B with
  |none=>rfl
  |some o=>rw[w _ _ p] at J;cases J
 refine b_<|aa O<|k b s B _ C D fe V ⟨⟨vf,v,av,h2.same C,h3.same C⟩,⟨ah,by rw[aw<|GE V];exact av,lk,λn=>(pe n).same C⟩,S.nd⟩
inductive IQ(W:bi)(H:Hp)(Q:VK)(E:XK):Prop|i(a U ps:_)(_:W=[.r a])(_:H a=some (.l U))(_:aC H U ps)(_:(∀p∈ps,a_ p))(_:Ze "" ps=true)(_:∀B,aA H B->Q (.b true) B)
abbrev acK(K:Frag)(CB:z4)(E:XK):aW:=aJ K [("need_change",B9)] [("BadChange",.r CB)] (E:=E)
theorem akx:cL (IQ) (λE=>acK K CB E) PK kq:=by
 intro W H Q E h;obtain⟨a,U,ps,rfl,b,p,o,c,q⟩:=h;exact⟨CB,O,cW<|bA B9 O<|ao<|aa O<|aD ⟨a,U,ps,O,b,p,o,c,λB s=>b_<|ai<|q B s⟩⟩
inductive IS(C g:z4)(W:bi)(H:Hp)(Q:VK)(E:XK):Prop|i(p P:z4)(R:Nat)(x:Str)(_:W=[.r p,.i (R:Nat),.s x])(_:H p=some (.i C P []))(_:R<=7)(_:good x)(_:∀q A e B,H q=none->H e=none->q≠e->(∀z o,H z=some o->z≠p->B z=some o)->cq (λ_=>False) C g B p P q A e R x 0 0 none none ⟨λ_=>none,0⟩->Q .a B)
abbrev anG(K:Frag)(g:z4)(CN:z4)(E:XK):aW:=aJ K [("is_between",wK),("need_text",yM)] [("MOST_HANDS",.i 8)] [] [] [("Stand",g,zD g)] (et:=[("NoHand",CN)]) (E:=E)
theorem aky(T:jx K C):cL (IS C g) (λE=>anG K g CN E) Qo Qn:=by
 intro W H Q E h;obtain⟨p,P,R,x,rfl,L,ho,M,k⟩:=h;refine aX<|fQ<|kA wK O<|ao<|aa O<|ao<|ai<|ao<|bg<|Td<|ai<|Ie<|aD ⟨_,_,_,O,(Vz _),ba,j3<|iF (cb (cW<|bA yM O<|ao<|aa O<|aD ⟨x,O,M,eJ<|aa O<|aa O ⟨p,C,P,_,O,L,T.c,T.yA,am,?_⟩⟩)) O⟩;have j:∀z o,H z=some o->z≠p->fy H p (.i C P<|aU "number" (.i (R:Nat)) []) z=some o:=λz o e n=>by rw[aw n];exact e
 have r:fy H p (.i C P<|aU "number" (.i (R:Nat)) []) p=some (.i C P<|aU "number" (.i (R:Nat)) []):=av;generalize fy H p (.i C P<|aU "number" (.i (R:Nat)) [])=I at j r⊢;refine eJ<|yX g (zD g) O<|aa O λq A d Y ju=>⟨q,A,x,O,av,λe Z f X N J=>⟨O,?_⟩⟩;have s:∀z o,I z=some o->Z z=some o:=λz o b=>X _ _ (by rw[aw<|aH b d,aw<|aH b Y];exact b) (aH b d);have S:=s _ _ r;have B:=aH r d;have U:p≠e:=λy=>by lia
 have t:q≠e:=λy=>by lia
 refine aa O (r4 p C P _ O S T.c T.m (by show 1<1000;decide) ?_);have w:∀{z:z4},I z=none->z≠p->H z=none:=λ{z} u n=>by
  cases b:H z with
  |none=>rfl
  |some o=>rw[j _ _ b n] at u;cases u
 have l:=by
  rw[aw t.symm] at f;by_cases y:e=A;rw[y,av] at f;cases f;rw[aw y] at f;exact f
 refine k q A e _ (w d B.symm) (w l U.symm) t (λz o b n=>?_) ⟨?_,p4 .a .a ?_ O O,qH [] ?_ (nE _) (λG=>O),nofun⟩;rw[aw n];exact s _ _ (j _ _ b n);rw[av];have F:∀(D:Str)(v:V),aU D v []=[(D,v)]:=λG G=>O;rw[F,aoF (by decide+kernel),F];rw[aw B.symm];exact N;rw[aw U.symm];exact J
variable{K:Frag}{M:MS}{C:z4}{H B:Hp}{p dx N ch mk:z4}{x:Str}{aqr:bv}{tk:List (Nat×be)}
theorem jI{r:on}(h:bo u a J H λc I=>if c=true then QT true I else bo u (.o (b::r)) J I QT):bo u (.o (a::b::r)) J H QT:=h
theorem oF(h:bo u a J H QT):bo u (.o [a]) J H QT:=h
theorem akA(h:af u (.l j as) J H λx I=>nX u.K x I λb=>QT b I):bo u (.l j as) J H QT:=h
theorem wY{a:z4}(h:H a=some (.t U))(q:k U.length):vp K (.r a) H k:=.inr ⟨U,aF.of h,q⟩
theorem akB{a:z4}(f:u.fs j=v7 u.K)(e:J[i]?=some (some<|.r a))(h:H a=some (.t (.s w::W)))(q:∀B,aA H B->Q (.b true) B):af u (.l j [(.i (.v i)<|.c<|.i 0),(.T [(.c<|.s w)])]) J H Q:=by
 refine bA (v7 u.K) f<|ao<|bF<|aa e<|ai<|c9 h (show e8 (.s w::W) ((0:Nat):Int)=_ from eM O)<|ao<|dt<|ao<|ai<|aD ⟨jM,λt d=>aD ⟨w,t,_,O,aF.of av,O,?_⟩⟩;have e:iR (.s w) [.s w]=true:=by show((w==w)||false)=true;rw[mX];rfl
 rw[e];exact q _ (Yb d)
abbrev gC(R n a:Nat)(b:z4):bi:=[.s "took",.i (R:Nat),.i (n:Nat),.i (a:Nat),.r b]
inductive IT(C:z4)(W:bi)(H:Hp)(Q:VK)(E:XK):Prop|i(p P q d b:z4)(R n e:Nat)(Y:bi)(c:be)(_:W=[.r p,.r d])(_:H p=some (.i C P<|f2 R q))(_:H d=some (.t<|gC R n e b))(_:1<=n)(_:e<=7)(_:H b=some (.l Y))(_:aC H Y c)(_:(∀p∈c,a_ p))(_:Ze "" c=true)(_:∀B,aA H B->Q .a B)
abbrev alT(K:Frag)(CB:z4)(E:XK):aW:=aJ K [("is_word",v7 K),("is_whole",mG),("is_between",wK),("is_change",IQ)] [("MOST_HANDS",.i 8)] (et:=[("BadLetter",CB)]) (E:=E)
theorem akC(T:jx K C):cL (IT C) (λE=>alT K CB E) QN QM:=by
 intro W H Q E h;obtain⟨p,P,q,t,b,R,n,m,Y,c,rfl,d,l,g,w,e,v,o,f,k⟩:=h;refine aX<|jI<|fQ<|oE<|aa O<|v3 l<|iF (jI<|aL<|dE<|aa O<|wY l<|ai<|wJ ⟨_,O,iF (oF<|fQ<|akA<|akB O O l λI s=>j3 (iF (cb ?_) O)) O⟩) O;have j:=s _ _ l;exact aX<|jI<|fQ<|kA mG O<|ao<|bF<|aa O<|ai<|c9 j O<|aD ⟨_,O,j3<|iF (oF<|aL<|bF<|aa O<|ai<|c9 j O<|bK<|aa O ⟨p,C,P,_,_,O,(s _ _ d),T.c,T.yA,Dl,wJ ⟨_,O,iF (cb (aX<|jI<|fQ<|kA mG O<|ao<|bF<|aa O<|ai<|c9 j O<|aD ⟨_,O,j3<|iF (jI<|aL<|bF<|aa O<|ai<|c9 j O<|ai ⟨trivial,_,O,iF (oF<|fQ<|kA wK O<|ao<|bF<|aa O<|ai<|c9 j O<|ao<|ai<|ao<|bg<|Td<|ai<|Ie<|aD ⟨_,_,_,O,(Vz _),ba,j3<|iF (cb (aX<|fQ<|kA IQ O<|ao<|bF<|aa O<|ai<|c9 j O<|aD ⟨b,Y,c,O,s _ _ e,v.mono<|aQ s,o,f,λZ a=>j3<|iF (cb<|k _<|s.trans a) O⟩)) O⟩)<|XH ba⟩) O⟩)) ba⟩⟩) O⟩
end
def OC:Option be->bv->bv->Prop
 |none,l,r=>l=r
 |some ps,l,r=>bU ps l r
def cB:Option be->Nat
 |none=>0
 |some ps=>ay ps
noncomputable def pP(c:be):Option be->be
 |none=>c
 |some f=>wQ c f
def pF(c:be)(o:Option be):Option be:=o.map (jG c)
theorem OC.pass{c}:∀{o:Option be},OC o l m->bU c l l'->ay c<=5000->cB o<=5000->∃e,OC (pF c o) l' e/\bU (pP c o) m e/\cB (pF c o)<=cB o/\ay (pP c o)<=ay c
 |none,h,d,_,_=>by
  subst h;exact tH l' O d (Yw _) (Yw _)
 |some f,h,d,k,g=>by
  obtain⟨⟨r,a,b⟩,j,i,Y⟩:=Df d (show bU f l m from h) (oT k (Zs _ _)) (oT g (Zs _ _));exact tH r a b j i
theorem OC.len:∀{o:Option be},OC o l m->m.length<=l.length+cB o
 |none,h=>by rw[show l=m from h];exact lJ _ _
 |some f,h=>(show bU f l m from h).run.len
theorem oG{c:be}(h:bU c l n)(t:ay c<=5000):c.length<=10001:=by
 have:=(UB c "" h.c h.ok).1;lia
section
variable{K:Frag}{M T:MS}{C g:z4}{H B:Hp}{p P q s e:z4}{N:Nat}{x:Str}{w A:Nat}{G X:Option be}{R:aS}
theorem bQ.zG(S:bQ M g H q s e x w A G X R)(b:H z=none){u:Nat×z4×be}(h:R n=some u):u.2.1≠z:=λy=>by
 obtain⟨c,Y,Y,k⟩:=S.l;have:=k n;rw[h] at this;obtain⟨t,U,zq⟩:=ZL this;obtain⟨Y,Y,a,Y⟩:=Yq zq;rw[y,b] at a;cases a
theorem bQ.qs(S:bQ M g H q s e x w A G X R):∃f,H q=some (.i g s f):=let ⟨_,_,h,_⟩:=S.ob;⟨_,h⟩
theorem Ds{v:V}{N:MS}(h:H d=some (.l U))(p:aC H U ps)(n:¬N d):bx N H (.r d) (some ps):=⟨d,U,O,h,p,n⟩
abbrev wZ(K:Frag)(E:XK):aW:=aJ K [("passed",HP),("done",yN)] [] (E:=E)
theorem U1{r:ga}{e:Str}{y:io}{N:MS}{o:Option be}{a:z4}{c:be}{u:im}(z:gj K g)(n:fZ K g e)(x:H q=some (.i g s y))(B:y.lookup e=some v)(X:y.length<1000)(L:bx N H v o)(ha:H a=some (.l U))(R:aC H U c)(k:bU c l l')(j:OC o l m)(M:ay c<=5000)(A:cB o<=5000)(W:o=none->∀u,az (wZ K E) r D [some<|.r q,some<|.r a,u] H)(T:∀f,o=some f->∀h d I zs w u,aA H I->H h=none->H d=none->h≠d->I h=some (.l zs)->I d=some (.l w)->aC I zs (wQ c f)->aC I w (jG c f)->az (wZ K E) r D [some<|.r q,some<|.r h,u] (fy I q<|.i g s<|aU e (.r d) y)):
  az (wZ K E) (.i (.p .IsNot (.f (.v 0) e)<|.c .a) [.a 2<|.l 0 [.v 1,(.f (.v 0) e)],.a 1<|.i (.v 2)<|.c<|.i 0,.c (.v 0) e<|.i (.v 2)<|.c<|.i 1] []::r) D [some<|.r q,some<|.r a,u] H:=by
 cases o with
 |none=>
  cases (show v=.a from L);exact aX<|aL<|bK<|aa O ⟨q,g,s,_,_,O,x,z,n,B,ai<|je ⟨_,O,iF (cb<|W O _) (O)⟩⟩
 |some f=>
  obtain⟨b,Y,zq⟩:=ZL ((show eK N H v f from L));obtain⟨rfl,hb,S,V⟩:=Yq zq;have A:ay f<=5000:=A;have l1:=oG k M;have l2:=oG j A;refine aX<|aL<|bK<|aa O ⟨q,g,s,_,_,O,x,z,n,B,ai<|je ⟨_,O,iT (aO<|bA HP O<|ao<|aa O<|ao<|bK<|aa O ⟨q,g,s,_,_,O,x,z,n,B,aD ⟨a,b,U,Y,c,f,l,l',m,O,ha,hb,R,S,k.ok,j.ok,k.c,j.c,ba,ba,k.run,j.run,λt h d I zs w ps Q C fc fd h_ J eL Z F G P=>?_⟩⟩) (O)⟩⟩;have e1:wQ c f=ps:=UI false k.ok P ba;have e2:jG c f=Q:=UI true j.ok P ba;rw[<-e1] at F;rw[<-e2] at G;exact aO<|bF<|aa O<|ai<|c9 J O (eJ<|bF<|aa O<|ai<|c9 J O<|aa O ⟨q,g,s,_,O,C _ _ x,z,n,X,T f O h d I zs w _ C fc fd h_ eL Z F G⟩)
inductive IU(g:z4)(W:bi)(H:Hp)(Q:VK)(E:XK):Prop|i(M:MS)(q s e:z4)(x:Str)(w A:Nat)(G X:Option be)(R:aS)(a:z4)(U:bi)(c:be)(l l' m:bv)(_:W=[.r q,.r a])(_:bQ (M.add a) g H q s e x w A G X R)(_:Al M H)(_:H a=some (.l U))(_:aC H U c)(_:bU c l l')(_:OC G l m)(_:OC X m x.cps.toList)(_:ay c<=5000)(_:cB G<=5000)(_:cB X<=5000)(_:good x)(_:x.length<=100000)(_:∀b d r B,ZS x.cps.toList (pP (pP c G) X) r->aB (· =q) H B->(b=a\/H b=none)->bQ (M.add b) g B q s e ⟨r.toArray⟩ w A (pF c G) (pF (pP c G) X) R->B b=some (.l d)->aC B d (pP (pP c G) X)->Q (.r b) B)
theorem akD(T:iW K g):cL (IU g) (λE=>wZ K E) Ql Qk:=by
 intro W H Q E h;obtain⟨M,q,s,e,x,w,A,G,X,R,a,U,c,l,l',m,rfl,S,al,ha,pv,hc,hf,hd,t1,t2,t3,gx,lx,k⟩:=h;obtain⟨m',Bi,eL,tf,tc⟩:=hf.pass hc t1 t2;obtain⟨r,oP,V,td,g'⟩:=hd.pass eL (oT tc t1) t3;have XV:∀F bw B D,aB (· =q) H B->(F=a\/H F=none)->bQ (M.add F) g B q s e x w A (pF c G) (pF (pP c G) X) R->B F=some (.l bw)->aC B bw (pP (pP c G) X)->az (wZ K E) [.c (.v 0) "signs"<|.l 1 [(.f (.v 0) "signs"),.v 1],.r<|.v 1] (Dn Q) [some<|.r q,some<|.r F,D] B:=by
  intro F bw B D b' fa S' iC Dt;obtain⟨vf,Y,u,h2,h3⟩:=S'.ob;have rl:=V.run.len;have h':=YN x;have ls:=oG V (oT g' (oT tc t1));refine eJ<|bA yN O<|ao<|bK<|aa O ⟨q,g,s,_,_,O,u,T.c,T.q,Dj,ao<|aa O<|aD ⟨x,F,bw,_,r,O,gx,iC,Dt,V.ok,V.c,(oT ls (Zs _ _)),V.run,ba,λZ b=>?_⟩⟩;refine aa O (r4 q g s _ O (b _ _ u) T.c T.q (by simp) ?_);rw[IG];have P:=(S'.same b).put (x':=⟨r.toArray⟩) (kn':=w) (se':=A) (h2.same b) (h3.same b);have tT:=uI (o:=.i g s (f6 ⟨r.toArray⟩ w A vf Y<|.r e)) (b _ _ u);refine b_<|aa O<|k F bw r _ V.run (b'.trans<|(aB.same b).trans aB.upd) fa P ?_<|(Dt.mono<|aQ b).mono tT;rw[aw (λy=>by lia)];exact b _ _ iC
 have nM:∀{H0:Hp}{z:z4},Al M H0->H0 z=none-> ¬M z:=λal t hm=>by obtain⟨o,ho⟩:=al _ hm;rw[t] at ho;cases ho
 have C:∀N gk I D,aB (· =q) H I->(N=a\/H N=none)->bQ (M.add N) g I q s e x w A (pF c G) X R->I N=some (.l gk)->aC I gk (pP c G)->az (wZ K E) [.i (.p .IsNot (.f (.v 0) "delayed")<|.c .a) [.a 2<|.l 0 [.v 1,(.f (.v 0) "delayed")],.a 1<|.i (.v 2)<|.c<|.i 0,.c (.v 0) "delayed"<|.i (.v 2)<|.c<|.i 1] [],.c (.v 0) "signs"<|.l 1 [(.f (.v 0) "signs"),.v 1],.r<|.v 1] (Dn Q) [some<|.r q,some<|.r N,D] I:=by
  intro N gk I D b1 d' S1 dC mY;obtain⟨vf,Y,u,h2,h3⟩:=S1.ob;have w5:Al M I:=λz t=>by
   by_cases y:z=q;exact qX _ (y▸u);obtain⟨o,ho⟩:=al z t;exact qX o (b1 _ _ ho y)
  refine U1 T.c T.l u uH (by simp) h3 dC mY eL hd (oT tc t1) t3 (λe0 D=>?_)<|λf ef c' d Z zs ws D b fc fd h_ J L pz pw=>?_;subst e0;exact XV N gk I D b1 d' S1 dC mY;subst ef;rw[zt];have fr:∀{z:z4},I z=none->H z=none:=λ{z} t=>by
   cases ez:H z with
   |none=>rfl
   |some o=>
    by_cases y:z=q;rw[y,u] at t;cases t;rw[b1 _ _ ez y] at t;cases t
  have P:=(S1.weak (M':=M.add c') λz t=>t.elim (λy=>.inr<|y ▸ fc) λy=>.inl (.inr y)).same b;obtain⟨rO,Dv,g1,g2,g3⟩:=P.ob;have e1:=b _ _ u;rw[g1] at e1;have e':rO=vf:=by cases e1;rfl
  subst e';have S3:=P.put (x':=x) (kn':=w) (se':=A) g2 (Ds (v:=.a) L pw λt=>by
   rcases t with(y|y)|⟨n,u0,hu,y⟩
   exact h_ y.symm;exact nM w5 fd y;exact S1.zG fd hu y)
  have tT:=uI (o:=.i g s (f6 x w A rO (.r d)<|.r e)) (b _ _ u);refine XV c' zs _ D (b1.trans<|(aB.same b).trans aB.upd) (.inr<|fr fc) S3 ?_<|pz.mono tT;rw[aw (λy=>by lia)];exact J
 obtain⟨vf,Y,u,h2,h3⟩:=S.ob;refine U1 T.c T.j u mZ (by simp) h2 ha pv hc hf t1 t2 (λe0 D=>?_)<|λf ef c' d Z zs ws D b fc fd h_ J L pz pw=>?_;subst e0;exact C a U H D (λ_ _ z _=>z) (.inl O) S ha pv;subst ef;rw[Dk];have P:=(S.weak (M':=M.add c') λz t=>t.elim (λy=>.inr<|y ▸ fc) λy=>.inl (.inr y)).same b;obtain⟨rO,Dv,g1,g2,g3⟩:=P.ob;have e1:=b _ _ u;rw[g1] at e1;have f':Dv=Y:=by cases e1;rfl
 subst f';have S3:=P.put (x':=x) (kn':=w) (se':=A) (Ds (v:=.a) L pw λt=>by
  rcases t with(y|y)|⟨n,u0,hu,y⟩
  exact h_ y.symm;exact nM al fd y;exact S.zG fd hu y) g3
 have tT:=uI (o:=.i g s (f6 x w A (.r d) Dv<|.r e)) (b _ _ u);refine C c' zs _ D ((aB.same b).trans aB.upd) (.inr fc) S3 ?_<|pz.mono tT;rw[aw (λy=>by lia)];exact J
theorem cq.pq(S:cq M C g H p P q s e N x w A G X R):p≠q:=λy=>by
 obtain⟨Y,Y,h,Y⟩:=S.st.ob;have:=S.ob;rw[y,h] at this;cases this
theorem E3{D:z4}(b:aB (· =q) H I)(h:I q=some (.i D s f))(a:I z=none):H z=none:=by
 cases e:H z with
 |none=>rfl
 |some o=>
  by_cases y:z=q;rw[y,h] at a;cases a;rw[b _ _ e y] at a;cases a
theorem Al.but{D:z4}(l:Al M H)(b:aB (· =q) H I)(h:I q=some (.i D s f)):Al M I:=λz a=>by
 by_cases y:z=q;exact⟨_,y▸h⟩;obtain⟨o,c⟩:=l z a;exact⟨o,b _ _ c y⟩
theorem Al.no(l:Al M H)(a:H z=none):¬M z:=λm=>by obtain⟨o,h⟩:=l _ m;rw[a] at h;cases h
def DoK(M:MS)(C g:z4)(H:Hp)(Q:VK)(p P q s e:z4)(N:Nat)(w A:Nat)(R:aS)(c:be)(m r:bv):Option be->Option be->Prop
 |none,_=>∀L t l B,aB (· =q) H B->H L=none->H t=none->H l=none->cq ((M.add L).add l) C g B p P q s e N ⟨r.toArray⟩ w (A+1) (some c) none R->B L=some (.l [.r t])->wW B t N (A+1) w c l->Q (.r L) B
 |some f,none=>∀L B,aB (· =q) H B->H L=none->cq (M.add L) C g B p P q s e N ⟨r.toArray⟩ w A (some f) (some c) R->B L=some (.l [])->Q (.r L) B
 |some f,some d=>∀L ps B,aB (· =q) H B->H L=none->uq d c ps m r->cq (M.add L) C g B p P q s e N ⟨r.toArray⟩ w A (some f) (some ps) R->B L=some (.l [])->Q (.r L) B
inductive zH(C g:z4)(W:bi)(H:Hp)(Q:VK)(E:XK):Prop|i(M:MS)(p P q s e:z4)(N:Nat)(x:Str)(w A:Nat)(G X:Option be)(R:aS)(a:z4)(U:bi)(c:be)(m r:bv)(_:W=[.r p,.r a])(_:cq M C g H p P q s e N x w A G X R)(_:Al M H)(_:(G=none->X=none))(_:H a=some (.l U))(_:aC H U c)(_:bU c x.cps.toList r)(_:OC X m x.cps.toList)(_:ay c<=5000)(_:cB X<=5000)(_:good x)(_:x.length<=100000)(_:DoK M C g H Q p P q s e N w A R c m r G X)
abbrev U2(K:Frag)(C g:z4)(E:XK):aW:=aJ K [("done",yN),("then",HG)] [] [] [("take_off",C,zA C g)] (E:=E)
theorem akK(T0:jx K C)(T:iW K g):cL (zH C g) (λE=>U2 K C g E) QJ QI:=by
 intro W H Q E h;obtain⟨M,p,P,q,s,e,N,x,w,A,G,X,R,a,U,c,m,r,rfl,S,al,fd,ha,pv,hc,hd,t1,t2,gx,lx,k⟩:=h;have fV:=S.pq;obtain⟨vf,vd,u,h2,h3⟩:=S.st.ob;have rl:=hc.run.len;have e':=YN x;have ls:=oG hc t1;refine aO<|bK<|aa O ⟨p,C,P,_,_,O,S.ob,T0.c,T0.m,p_,?_⟩;refine aO<|bA yN O<|ao<|bK<|aa O ⟨q,g,s,_,_,O,u,T.c,T.q,Dj,ao<|aa O<|aD ⟨x,a,U,_,r,O,gx,ha,pv,hc.ok,hc.c,(oT ls (Zs _ _)),hc.run,ba,λI V=>?_⟩⟩;have S1:=S.same V;have w5:Al M I:=λz F=>let ⟨o,ho⟩:=al z F;(qX o (V _ _ ho));have dC:=V _ _ ha;have mY:=pv.mono (aQ V);replace u:=V _ _ u;replace h2:=h2.same V;replace h3:=h3.same V;have XV:∀{f:be}{d':be}{Z:Hp}{b:z4}{Y:bi},G=some f->aA I Z->I b=none->Z b=some (.l Y)->aC Z Y d'->(∀L B,aB (· =q) H B->H L=none->cq (M.add L) C g B p P q s e N ⟨r.toArray⟩ w A (some f) (some d') R->B L=some (.l [])->Q (.r L) B)->az (U2 K C g E) [.c (.v 2) "signs"<|.v 3,.r<|.H (.p .Is (.f (.v 2) "flying")<|.c .a) (.q 0 "take_off" (.v 0) [.v 2,(.t .t [.v 1])])<|.L []] (Dn Q) [some<|.r p,some<|.r a,some<|.r q,some<|.s ⟨r.toArray⟩] (fy Z q<|.i g s<|f6 x w A vf (.r b)<|.r e):=by
  intro f d' Z b Y ef D J hb pb kk;subst ef;have S2:=(S1.st.same D).put (x':=x) (kn':=w) (se':=A) (vd:=.r b) (de':=some d') (h2.same D) (Ds (v:=.a) hb pb λF=>F.elim (w5.no J) λ⟨n,u0,hu,y⟩=>S1.st.zG J hu y);have b2:aB (· =q) H (fy Z q<|.i g s<|f6 x w A vf (.r b)<|.r e):=(aB.same<|V.trans D).trans aB.upd;have fJ:fy Z q (.i g s<|f6 x w A vf (.r b)<|.r e) q=some (.i g s<|f6 x w A vf (.r b)<|.r e):=av;have U3:=(h2.same D).ins (o:=.i g s (f6 x w A vf (.r b)<|.r e)) (D _ _ u);have iZ:bx (M.ea R) (fy Z q<|.i g s<|f6 x w A vf (.r b)<|.r e) (.r b) (some d'):=(Ds (v:=.a) hb pb λF=>F.elim (w5.no J) λ⟨n,u0,hu,y⟩=>S1.st.zG J hu y:bx (M.ea R) Z (.r b) (some d')).ins (D _ _ u);generalize fy Z q (.i g s<|f6 x w A vf (.r b)<|.r e)=H3 at S2 b2 fJ U3 iZ⊢;refine eJ<|aa O<|aa O ⟨q,g,s,_,O,fJ,T.c,T.q,(by show 6<1000;decide),?_⟩;rw[IG];have S3:=S2.put (x':=⟨r.toArray⟩) (kn':=w) (se':=A) (fl':=some f) (de':=some d') U3 iZ;have b3:aB (· =q) H (fy H3 q<|.i g s<|f6 ⟨r.toArray⟩ w A vf (.r b)<|.r e):=b2.trans aB.upd;have iH:fy H3 q (.i g s<|f6 ⟨r.toArray⟩ w A vf (.r b)<|.r e) q=some (.i g s<|f6 ⟨r.toArray⟩ w A vf (.r b)<|.r e):=av;obtain⟨fa,qe,rfl,_⟩:=(show eK (M.ea R) I vf f from h2);refine b_<|qd<|aL<|bK<|aa O ⟨q,g,s,_,_,O,iH,T.c,T.j,mZ,ai<|gA ⟨_,O,iF (cQ<|aD ⟨nE _,λL fL=>?_⟩) jH⟩⟩;have s5:=Yb (o:=.l []) fL;exact kk L _ (b3.trans<|aB.same s5) (E3 b3 iH fL) ⟨s5 _ _<|b3 _ _ S.ob fV,(S3.weak (M':=M.add L) λz F=>F.elim (λy=>.inr<|y ▸ fL) .inl).same s5⟩ av
 cases X with
 |some d=>
  cases G with
  |none=>cases fd O
  |some f=>
   obtain⟨b,Y,zq⟩:=ZL ((show eK (M.ea R) I vd d from h3));obtain⟨rfl,hb,pb,nb⟩:=Yq zq;have t2:ay d<=5000:=t2;have ld:=oG hd t2;refine aX<|aL<|bK<|aa O ⟨q,g,s,_,_,O,u,T.c,T.l,uH,ai<|je ⟨_,O,iT ?_ (by rw[jH];rfl)⟩⟩;refine eJ<|bA HG O<|ao<|bK<|aa O ⟨q,g,s,_,_,O,u,T.c,T.l,uH,ao<|aa O<|aD ⟨b,a,Y,U,d,c,m,x.cps.toList,r,O,hb,dC,pb,mY,hd.ok,hc.ok,hd.c,hc.c,ba,ba,hd.run,hc.run,λz Z zs ps D fz F pz J0=>?_⟩⟩;refine aa O (r4 q g s _ O (D _ _ u) T.c T.l (by show 6<1000;decide) ?_);rw[zt];exact XV O D fz F pz λL B b' fL S' hL=>k L ps B b' fL J0 S' hL
 |none=>
  cases (show vd=.a from h3);refine aX<|aL<|bK<|aa O ⟨q,g,s,_,_,O,u,T.c,T.l,uH,ai<|je ⟨_,O,iF ?_ (by rw[Y4 O];rfl)⟩⟩;cases G with
  |some f=>
   obtain⟨fa,qe,rfl,_⟩:=(show eK (M.ea R) I vf f from h2);refine aX<|aL<|bK<|aa O ⟨q,g,s,_,_,O,u,T.c,T.j,mZ,ai<|je ⟨_,O,iT ?_ (by rw[jH];rfl)⟩⟩;refine eJ<|p9<|aa O ⟨_,.inl<|ax.of dC,λb J=>?_⟩;have D:=Yb (o:=.l U) J;refine aa O (r4 q g s _ O (D _ _ u) T.c T.l (by show 6<1000;decide) ?_);rw[zt];exact XV O D J av (mY.mono<|aQ D) k
  |none=>
   cases (show vf=.a from h2);refine aX<|aL<|bK<|aa O ⟨q,g,s,_,_,O,u,T.c,T.j,mZ,ai<|je ⟨_,O,iF (cb ?_) (by rw[Y4 O];rfl)⟩⟩;refine eJ<|aa O<|aa O ⟨q,g,s,_,O,u,T.c,T.q,(by show 6<1000;decide),?_⟩;rw[IG];have S2:=S1.st.put (x':=⟨r.toArray⟩) (kn':=w) (se':=A) (fl':=none) (de':=none) h2 h3;have b2:aB (· =q) H (fy I q<|.i g s<|f6 ⟨r.toArray⟩ w A .a .a<|.r e):=(aB.same V).trans aB.upd;have fJ:fy I q (.i g s<|f6 ⟨r.toArray⟩ w A .a .a<|.r e) q=some (.i g s<|f6 ⟨r.toArray⟩ w A .a .a<|.r e):=av;have tT:=uI (o:=.i g s (f6 ⟨r.toArray⟩ w A .a .a<|.r e)) u;have iE:fy I q (.i g s<|f6 ⟨r.toArray⟩ w A .a .a<|.r e) a=some (.l U):=by rw[aw (λy=>by rw[y,u] at dC;cases dC)];exact dC
   have jc:=mY.mono tT;refine b_<|qd<|aL<|bK<|aa O ⟨q,g,s,_,_,O,fJ,T.c,T.j,mZ,ai<|gA ⟨_,O,iT ?_<|Y4 O⟩⟩;have fE:=b2 _ _ S.ob fV;refine UY C (zA C g) O<|aa O ⟨p,P,_,O,fE,jd,aa O<|p9<|aa O ⟨_,.inl<|ax.of iE,λb J=>?_⟩⟩;generalize zz:fy _ b _=H3;have s3:=bC J zz;have rP:=bu zz;have c':=al.but b2 fJ;refine⟨M,p,P,q,s,e,q,.r b,N,⟨r.toArray⟩,w,A,c,none,none,R,O,s3 _ _ fE,fV,S2.same s3,qM b U O rP (jc.mono<|aQ s3) (λF=>F.elim (c'.no J) λ ⟨n,u0,hu,y⟩=>S2.zG J hu y),λL t l H4 b4 fL ft a' S4 hL hA=>?_⟩;have U4:=(b2.trans<|aB.same s3).trans b4;have fr:∀{z:z4},H3 z=none->H z=none:=λF=>E3 b2 fJ (s3.free F);exact k L t l H4 U4 (fr fL) (fr ft) (fr a') ⟨U4 _ _ S.ob fV,S4⟩ hL hA
end
structure Gs where
 x:Str
 kn:Nat
 se:Nat
 f:Option be
 de:Option be
abbrev m4:=Nat×Nat×be
abbrev xz:=List m4
def kH(s:Nat):Option be->Nat
 |none=>s
 |some _=>s+1
noncomputable def qf(s k:Nat):Option be->xz
 |none=>[]
 |some d=>[(s+1,k,d)]
def gY(o:Nat)(e:Nat×be)(g:Gs):Gs:=if e.1=o then ⟨g.x,g.kn+1,kH g.se g.de,g.de,none⟩ else ⟨⟨(pR g.x.cps.toList<|aq<|pP (pP e.2 g.f) g.de).toArray⟩,g.kn+1,g.se,pF e.2 g.f,pF (pP e.2 g.f) g.de⟩
def jf(o:Nat)(e:Nat×be)(g:Gs):xz:=if e.1=o then qf g.se (g.kn+1) g.de else []
def jg(o:Nat)(e:Nat×be)(g:Gs):List be:=if e.1=o then [] else [pP (pP e.2 g.f) g.de]
def aK(o:Nat)(t:List (Nat×be))(g:Gs):Nat->Gs×xz×List be
 | 0=>(g,[],[])
 |j+1=>(gY o (t.getD (aK o t g j).1.kn (0,[])) (aK o t g j).1,(aK o t g j).2.1++jf o (t.getD (aK o t g j).1.kn (0,[])) (aK o t g j).1,(aK o t g j).2.2++jg o (t.getD (aK o t g j).1.kn (0,[])) (aK o t g j).1)
theorem akM(o:Nat)(e:Nat×be)(g:Gs):(gY o e g).kn=g.kn+1:=by unfold gY;split<;>rfl
theorem rQ(o:Nat)(t:List (Nat×be))(g:Gs):∀j,(aK o t g j).1.kn=g.kn+j
 | 0=>O
 |j+1=>by show(gY _ _ _).kn=_;rw[akM,rQ o t g j];rfl
theorem IV(o:Nat)(t:List (Nat×be))(g:Gs):∀j,(aK o t g j).2.1.length<=j/\(aK o t g j).2.2.length<=j
 | 0=>⟨Yw _,Yw _⟩
 |j+1=>by
  obtain⟨a,b⟩:=IV o t g j;have h:∀(e:Nat×be)(g:Gs),(jf o e g).length<=1/\(jg o e g).length<=1:=λe g=>by
   unfold jf jg;split;exact⟨by cases g.de<;>simp[qf],am⟩;exact⟨am,am⟩
  obtain⟨c,d⟩:=h (t.getD (aK o t g j).1.kn (0,[])) (aK o t g j).1;constructor;show(_++_:xz).length<=_;rw[Yy];exact YC a c;show(_++_:List be).length<=_;rw[Yy];exact YC b d
theorem akN{a:Nat}{c:be}(e:tk[a]?=some (h,ps)):pj tk a (j+1) c=pj tk (a+1) j (jG ps c):=by
 obtain⟨l,b⟩:=ZT.mp e;unfold pj;rw[Zy l,b];rfl
theorem Dw{a:Nat}{c:be}:pj tk a 0 c=c:=O
theorem akO(h:ZS l ps r)(b:ZS l ps r'):r=r':=h.fits.2.symm.trans b.fits.2
structure Iv(own:Nat)(tx:List bv)(tk:List (Nat×be))(g:Gs):Prop where
 T:d3 tx tk
 gt:∀l∈tx,l.length<=5000/\∀c∈l,SG.cps.contains c=true
 kn:g.kn<=tk.length
 fd:g.f=none->g.de=none
 o:∃l m,tx[g.kn]?=some l/\OC g.f l m/\OC g.de m g.x.cps.toList
 t:cB g.f<=5000
 i:cB g.de<=5000
 gx:∀c∈g.x.cps.toList,SG.cps.contains c=true
 pend:∀j ps,tk[g.kn+j]?=some (own,ps)->(∃f,g.f=some f/\ps=pj tk g.kn j f)/\∀j',j'<j->∀e,tk[g.kn+j']?=some e->e.1≠own
theorem Iv.len(I:Iv n tx k g):g.x.length<=15000/\good g.x:=by
 obtain⟨l,m,p,j,h⟩:=I.o;have a:=(I.gt l<|X_ p).1;have b:=j.len;have c:=h.len;have d:=I.t;have e:=I.i;have f:=YN g.x;exact⟨ba,ba,I.gx⟩
theorem OC.good:∀{o:Option be},OC o l m->(∀c∈l,SG.cps.contains c=true)->∀c∈m,SG.cps.contains c=true
 |none,h,g=>by rw[<-show l=m from h];exact g
 |some f,h,g=>by
  exact h.run.good g λp a=>Ic (h.ok p a)
theorem Iv.at'{t:List (Nat×be)}(I:Iv n tx t g)(h:t[g.kn]?=some e):∃l l' m,tx[g.kn]?=some l/\tx[g.kn+1]?=some l'/\bU e.2 l l'/\ay e.2<=5000/\OC g.f l m/\OC g.de m g.x.cps.toList:=by
 obtain⟨l,m,zq⟩:=ZL I.o;obtain⟨b,d,c⟩:=Yo zq;obtain⟨l',a⟩:∃l',tx[g.kn+1]?=some l':=qX _ (YO (I.T.len▸Yr ((ZT.mp h).1) _));obtain⟨j,i⟩:=I.T.chg _ e.1 e.2 _ _ h b a;exact uS l l' m b a j i d c
theorem Iv.next(I:Iv own tx k g)(h:k[g.kn]?=some e):Iv own tx k (gY own e g):=by
 have q:=(ZT.mp h).1;obtain⟨l,l',m,N,c,u,G,d,s⟩:=I.at' h;unfold gY;by_cases a:e.1=own;rw[Fr a];have p:k[g.kn+0]?=some (own,e.2):=by lia
 obtain⟨⟨f,n,D⟩,Y⟩:=I.pend 0 e.2 p;rw[Dw] at D;rw[n] at d;have B:=akO d.run (D ▸ u.run);subst B;refine⟨I.T,I.gt,q,λY=>O,p4 m _ c s O,I.i,nE _,I.gx,λj ps A=>?_⟩;have b:k[g.kn+(j+1)]?=some (own,ps):=by lia
 cases (I.pend (j+1) ps b).2 0 (Nat.succ_pos _) e h a;rw[Fk a];obtain⟨x,v,M,L,P⟩:=d.pass u G I.t;obtain⟨r,K,J,H,b4⟩:=s.pass M (oT P G) I.i;rw[J.run.fits.2];have C:(⟨r.toArray⟩:Str).cps.toList=r:=rfl;refine⟨I.T,I.gt,q,λz=>?_,p4 l' x c v ba,oT L I.t,oT H I.i,C▸K.good (v.good (I.gt _<|X_ c).2),λj ps A=>?_⟩;have:g.f=none:=by
  cases E:g.f with
  |none=>rfl
  |some f=>rw[E] at z;cases z
 rw[I.fd this];rfl;have b:k[g.kn+(j+1)]?=some (own,ps):=by lia
 obtain⟨⟨f,n,D⟩,w⟩:=I.pend (j+1) ps b;refine⟨pQ (jG e.2 f) (n▸rfl) (D▸akN h),λy b F p=>w (y+1) (Yr b _) F ba⟩
theorem Iv.run{t:List (Nat×be)}(I:Iv own tx t g):∀j,g.kn+j<=t.length->Iv own tx t (aK own t g j).1
 | 0,_=>I
 |j+1,h=>by
  refine (Iv.run I j (YA h)).next ?_;rw[X6,rQ,YO ba];rfl
theorem U5[DecidableEq κ](k j:κ):∀b:List (κ×V),cv (gO b k) j=if j=k then none else cv b j
 |[]=>by split<;>rfl
 |p::r=>by
  have i:=U5 k j r;by_cases h:p.1=k;have e:gO (p::r) k=gO r k:=by unfold gO;simp[h]
  rw[e,i];by_cases e:j=k;rw[Fr e,Fr e];rw[Fk e,Fk e,iS<|λz=>e<|z.symm.trans h];have e:gO (p::r) k=p::gO r k:=by unfold gO;simp[h]
  rw[e];by_cases e:p.1=j;rw[jQ e,jQ e,Fk<|λz=>h<|e.trans z];rw[iS e,iS e,i]
def da(M:MS)(H:Hp):Prop:= ∀m,M m->∃o,H m=some o/\∀us,o≠ .t us
noncomputable def eV(k:Nat)(f:aS):aS:=⟨λn=>if n<=k then none else f n,f.n⟩
noncomputable def kJ(f:aS)(n a:Nat)(b:z4)(c:be):aS:=⟨λj=>if j=n then some (a,b,c) else f j,f.n+1⟩
def IW(k:Nat)(e:aS)(n a:Nat)(c:be)(b:z4)(X:aS):Prop:=(k<n/\e n=none/\X=kJ e n a b c)\/((n<=k\/∃u,e n=some u)/\X=e)
section
variable{K:Frag}{M M' N S:MS}{C G:z4}{H B:Hp}{p w q s e:z4}{T:Nat}{x:Str}{A X:Nat}{g R:Option be}{f m:aS}
theorem aB.tup(n:da M H)(b:aB M H B):dn H B:=λz us e=>b _ _ e λm=>by
 obtain⟨o,h,a⟩:=n z m;rw[e] at h;cases h;exact a us O
theorem gZ{o a:HO}(h:H z=some a)(n:∀us,a≠ .t us):dn H (fy H z o):=λy us e=>by
 rw[aw (λw=>by rw[w,h] at e;cases e;exact n us O)];exact e
theorem j4{o c:HO}{a:z4}(h:H z=some c)(n:∀us,c≠ .l us)(b:H a=some (.l U)):fy H z o a=some (.l U):=by
 rw[aw (λw=>by rw[w,h] at b;cases b;exact n U O)];exact b
theorem bx.m9{o:HO}(h:H z=some b)(n:∀us,b≠ .t us)(c:∀us,b≠ .l us):∀{w:Option be},bx M H v w->bx M (fy H z o) v w:=by
 intro w q;cases w with
 |none=>exact q
 |some _=>
  obtain⟨a,U,g,f,e,d⟩:=q;exact qM a U g (j4 h c f) (e.mono<|gZ h n) d
theorem fU.m9{o a:HO}(h:H z=some a)(n:∀us,a≠ .t us)(b:∀us,a≠ .l us):∀{w:Option (Nat×z4×be)},fU M H v w->fU M (fy H z o) v w
 |none,h=>h
 |some _,⟨t,U,g,f,e,d,c⟩=>q8 t U g (gZ h n _ _ f) (j4 h b e) (d.mono<|gZ h n) c
theorem bQ.early{a:z4}{c:be}{p:ii}(S:bQ (M.add a) G H q s e x A X g R f)(k:H e=some (.d p))(N:H w=some (.t [.i (P:Nat),.r a]))(Q:H a=some (.l Y))(K:aC H Y c)(L:¬M a)(hn:f n=none):bQ M G (fy H e<|.d<|ZR p (.inl (n:Int))<|.r w) q s e x A X g R (kJ f n P a c):=by
 obtain⟨vf,J,Z,W,V⟩:=S.ob;obtain⟨dX,F,k3,E⟩:=S.l;rw[k] at F;cases F;have m:∀us:bi,(HO.d p)≠ .t us:=nofun;have B:∀us:bi,(HO.d p)≠ .l us:=nofun;have D:∀z,M.ea (kJ f n P a c) z->(M.add a).ea f z\/H z=none:=λz o=>by
  rcases o with o|⟨j,u,h,rfl⟩
  exact .inl (.inl<|.inr o);simp only[kJ] at h;split at h;cases h;exact .inl (.inl<|.inl O);exact .inl (.inr (q9 j u h O))
 refine⟨p4 vf J (by rw[aw (λy=>by lia)];exact Z) ((W.weak D).m9 k m B) ((V.weak D).m9 k m B),qH _ av (by have:=sR p (.inl (n:Int)) (.r w);exact oT this (j2 k3 _)) (λj=>?_),λi j u v h b I=>?_⟩;rw[Be];simp only[kJ];by_cases C:j=n;rw[Fr ba,Fr C];exact q8 w Y O (gZ k m _ _ N) (j4 k B Q) (K.mono<|gZ k m) L;rw[Fk<|λz=>C ba,Fk C];exact((E j).weak λz o=>.inl (.inr o)).m9 k m B;have U:∀{j:Nat}{u:Nat×z4×be},f j=some u->u.2.1≠a:=λ{j u} h y=>by
  have:=E j;rw[h] at this;obtain⟨_,_,_,_,_,_,T⟩:=this;exact T<|.inl y
 simp only[kJ] at h b;split at h;cases h;split at b;cases b;lia;cases U b I.symm;split at b;cases b;cases U h I;exact S.nd i j u v h b I
theorem bQ.pop{u:Nat×z4×be}{o:ii}(S:bQ M G H q s e x A X g R f)(a:H e=some (.d o))(D:f n=some u)(E:∀j,m j=if j=n then none else f j)(N:f.n<=m.n):bQ (M.add u.2.1) G (fy H e<|.d<|gO o<|.inl (n:Int)) q s e x A X g R m:=by
 obtain⟨vf,F,T,Q,P⟩:=S.ob;obtain⟨dX,C,K,L⟩:=S.l;rw[a] at C;cases C;have c:∀us:bi,(HO.d o)≠ .t us:=nofun;have p:∀us:bi,(HO.d o)≠ .l us:=nofun;have b:∀{j:Nat}{v:Nat×z4×be},m j=some v->j≠n/\f j=some v:=λ{j v} h=>by
  rw[E] at h;split at h;cases h;exact⟨‹_›,h⟩
 have B:∀z,(M.add u.2.1).ea m z->M.ea f z\/H z=none:=λz r=>by
  rcases r with(rfl|r)|⟨j,v,h,rfl⟩
  exact .inl (.inr (q9 n u D O));exact .inl (.inl r);exact .inl (.inr (q9 j v ((b h).2) O))
 refine⟨p4 vf F (by rw[aw (λy=>by lia)];exact T) ((Q.weak B).m9 a c p) ((P.weak B).m9 a c p),qH _ av (oT (Mv _ _)<|oT K N) (λj=>?_),λi j v I h J=>S.nd i j v I (b h).2 (b J).2⟩;rw[U5,E];by_cases k:j=n;rw[Fr ba,Fr k];rfl;rw[Fk<|λz=>k ba,Fk k];have:=L j;cases w:f j with
 |none=>rw[w] at this;exact this
 |some v=>
  rw[w] at this;obtain⟨t,U,zq⟩:=ZL this;obtain⟨g1,Z,Y,W,V⟩:=c3 zq;exact q8 t U g1 (gZ a c _ _ Z) (j4 a p Y) (W.mono<|gZ a c) (λz=>z.elim (λy=>k<|S.nd j n v u w D y) V)
def oH(N:MS)(P b:z4)(T:Nat)(H:Hp)(v:V)(a:m4):Prop:= ∃t l,v=.r t/\wW H t T a.1 a.2.1 a.2.2 l/\N l/\l≠P/\l≠b
def qg(N:MS)(P T:z4)(H:Hp)(v:V)(c:be):Prop:= ∃a U,v=.r a/\H a=some (.l U)/\aC H U c/\N a/\a≠P/\a≠T
structure Kl(P Tl:z4)(H B:Hp):Prop where
 tt:dn H B
 ls:∀z U,H z=some (.l U)->z≠P->z≠Tl->B z=some (.l U)
variable{P v:z4}
theorem Kl.trans(a:Kl P v H B)(b:Kl P v B we):Kl P v H we:=⟨λz us h=>b.tt _ _<|a.tt _ _ h,λz U h n c=>b.ls _ _ (a.ls _ _ h n c) n c⟩
theorem Kl.same(s:aA H B):Kl P v H B:=⟨aQ s,λz U h Y Y=>s _ _ h⟩
theorem Kl.but{D:z4}(b:aB (· =q) H B)(h:H q=some (.i D s fs)):Kl P v H B:=⟨λz us e=>b _ _ e λy=>ba,λz U e Y Y=>b _ _ e λy=>ba⟩
theorem Kl.Dy{o a:HO}(h:H z=some a)(n:∀us,a≠ .t us)(b:(∀us,a≠ .l us)\/z=P\/z=v):Kl P v H (fy H z o):=⟨gZ h n,λy U e d c=>by
 rcases b with b|rfl|rfl
 exact j4 h b e;rw[aw d];exact e;rw[aw c];exact e⟩
theorem oH.kl{a:m4}(h:oH N P v T H v1 a)(k:Kl P v H B)(w:∀z,N z->S z):oH S P v T B v1 a:=by
 obtain⟨t,l,zq⟩:=ZL h;obtain⟨j,⟨i,U,g,f⟩,e,c,b⟩:=c3 zq;exact q8 t l j (tL (k.tt _ _ i) U (k.ls _ _ g c b) (f.mono k.tt)) (w _ e) c b
theorem qg.kl{c:be}(h:qg N P v H v1 c)(k:Kl P v H B)(w:∀z,N z->S z):qg S P v B v1 c:=by
 obtain⟨a,U,zq⟩:=ZL h;obtain⟨j,i,g,f,d,b⟩:=Gi zq;exact⟨a,U,j,k.ls _ _ i d b,g.mono k.tt,w _ f,d,b⟩
structure qh(M:MS)(C G:z4)(H0 H:Hp)(f m:aS)(p w q0:z4)(T:Nat)(q s e P v:z4)(N:MS)(zs ws:bi)(g0:Gs)(as:xz)(ts:List be):Prop where
 h:H p=some (.i C w<|f2 T q0)
 st:bQ (λz=>M z\/N z) G H q s e g0.x g0.kn g0.se g0.f g0.de (eV g0.kn m)
 sm:aA H0 H
 fN:∀z,N z->H0 z=none\/∃n u0,f n=some u0/\u0.2.1=z
 al:Al (λz=>M z\/N z) H
 hP:H P=some (.l zs)
 hT:H v=some (.l ws)
 nP:N P/\N v/\P≠v/\H0 P=none/\H0 v=none
 pz:Paired (oH N P v T H) zs as
 pw:Paired (qg N P v H) ws ts
 fq:H0 q=none
 fe:H0 e=none
 nl:∀z,N z->∃us,H z=some (.l us)
variable{b:z4}
theorem bx.uL{o:HO}{v:V}(h:H z=some (.l U))(m:M z):∀{w:Option be},bx M H v w->bx M (fy H z o) v w
 |none,h=>h
 |some _,⟨a,U,e,d,c,b⟩=>qM a U e (by have n:a≠z:=λy=>b (y ▸ m);rw[aw n];exact d) (c.mono (gZ h nofun)) b
theorem fU.uL{o:HO}{v:im}(h:H z=some (.l U))(m:M z):∀{w:Option (Nat×z4×be)},fU M H v w->fU M (fy H z o) v w:=by
 intro w q;cases w with
 |none=>exact q
 |some u=>
  obtain⟨t,U,e,d,c,b,a⟩:=q;exact q8 t U e (gZ h nofun _ _ d) (by have n:u.2.1≠z:=λy=>a (y ▸ m);rw[aw n];exact c) (b.mono (gZ h nofun)) a
theorem bQ.uL(S:bQ M G H q s e x A X g R f){o:HO}(h:H z=some (.l U))(m:M z):bQ M G (fy H z o) q s e x A X g R f:=by
 obtain⟨vf,v,i,d,c⟩:=S.ob;obtain⟨j,b,k,a⟩:=S.l;exact⟨⟨vf,v,by rw[aw (λy=>by lia)];exact i,d.uL h<|.inl m,c.uL h<|.inl m⟩,⟨j,by rw[aw (λy=>by lia)];exact b,k,λn=>(a n).uL h m⟩,S.nd⟩
theorem akP(h:af u a J H λx I=>∃e,x=.r e/\Bh I e/\af u b0 J I λy Z=>Pw e [y] Z Q):af u (.xm BY a [b0]) J H Q:=h
abbrev uM(K:Frag)(C G:z4)(E:XK):aW:=aJ K [("twin_of",IM G),("let_in",IU G)] [] [] [("need_took",C,IT C),("land",C,Dp C G)] (E:=E)
noncomputable abbrev U7:ga:=[.d<|.a .e (.v 3) [(.q 1 "land" (.v 0) [.v 2])]]
noncomputable abbrev U8:ga:=[.d<|.a .a (.v 4) [(.l 1 [.v 2,(.i (.v 5)<|.c<|.i 1)])]]
abbrev akQ:ga:=[.c (.v 2) "known" (.b .Add (.f (.v 2) "known") (.c (.i 1))),
  .a 5 (.xm BY (.f (.v 2) "early") [(.f (.v 2) "known")]),
  .i (.p .Eq (.i (.v 5) (.c (.i 0))) (.f (.v 0) "number")) U7 U8]
structure IY(M:MS)(C G:z4)(H0 H:Hp)(f m:aS)(p w b:z4)(T:Nat)(q s e P v:z4)(N:MS)(zs ws:bi)(x:Str)(A X:Nat)(g R:Option be)(as:xz)(ts:List be)(a:z4)(U:bi)(c:be):Prop where
 h:H p=some (.i C w<|f2 T b)
 st:bQ (MS.add (λz=>M z\/N z) a) G H q s e x (A+1) X g R (eV (A+1) m)
 sm:aA H0 H
 fN:∀z,N z->H0 z=none\/∃n u0,f n=some u0/\u0.2.1=z
 al:Al (λz=>M z\/N z) H
 d:H P=some (.l zs)
 i:H v=some (.l ws)
 nP:N P/\N v/\P≠v/\H0 P=none/\H0 v=none
 pz:Paired (oH N P v T H) zs as
 pw:Paired (qg N P v H) ws ts
 fq:H0 q=none
 fe:H0 e=none
 ha:H a=some (.l U)
 pv:aC H U c
 fa:H0 a=none\/∃n u0,f n=some u0/\u0.2.1=a
 na:¬(M a\/N a)
 la:as.length<=1000
 lt:ts.length<=1000
 nl:∀z,N z->∃us,H z=some (.l us)
variable{E:XK}{D:En}{k:Hp}{n h:bi}{as:xz}{ts:List be}{a lt:z4}{U:bi}{c:be}{u5:im}
theorem Dz(a:H p=some (.i C w fs))(h:H q=some (.i G s gs))(n:fs.length≠gs.length):p≠q:=by lia
theorem akR(I:IY M C G k H f m p w b T q s e P v N n h x A X (some f0) R as ts a U c)(k0:∀Y' B,qh M C G k B f m p w b T q s e P v N Y' h ⟨x,A+1,kH X R,R,none⟩ (as++qf X (A+1) R) ts\/(∃l,qh M C G k B f m p w b T q s e P v (N.add l) Y' h ⟨x,A+1,kH X R,R,none⟩ (as++qf X (A+1) R) ts)->D.nx [some<|.r p,some<|.r lt,some<|.r q,some<|.r P,some<|.r v,u5] B):az (uM K C G E) U7 D [some<|.r p,some<|.r lt,some<|.r q,some<|.r P,some<|.r v,u5] H:=by
 obtain⟨fs,hq⟩:=I.st.qs;obtain⟨vf,vd,d',_⟩:=I.st.ob;have fV:=Dz I.h d' (by simp);have lz:=FS I.pz;have la:=I.la;have b':p≠P:=λy=>by have:=I.d;rw[<-y,I.h] at this;cases this
 have zI:¬P=q:=λy=>by have:=I.d;rw[y,hq] at this;cases this
 have IZ:¬v=q:=λy=>by have:=I.i;rw[y,hq] at this;cases this
 have U9:∀{j:Hp}{I_:io},aB (· =q) H j->j q=some (.i G s I_)->Al (λz=>M z\/N z) j:=λb0 V=>I.al.but b0 V;have a':∀{j:Hp},aB (· =q) H j->aA k j:=λb0 z o ez=>b0 _ _ (I.sm _ _ ez) (aH ez I.fq);have J:∀(S:MS)(j:Hp)(zn:bi)(an:xz)(Q:Nat),aB (· =q) H j->(∀z,N z->S z)->bQ (λz=>M z\/S z) G j q s e x (A+1) Q R none (eV (A+1) m)->(∀z,S z->k z=none\/∃n0 u0,f n0=some u0/\u0.2.1=z)->Al (λz=>M z\/S z) j->Paired (oH S P v T j) zn an->(∀z,S z->∃us,j z=some (.l us))->qh M C G k (fy j P<|.l<|n++zn) f m p w b T q s e P v S (n++zn) h ⟨x,A+1,Q,R,none⟩ (as++an) ts:=by
  intro S j zn an Q u wN W e' lO pn c';have Z:=u _ _ I.d zI;have zJ:Kl P v H j:=Kl.but u hq;have rR:Kl P v j (fy j P<|.l<|n++zn):=Kl.Dy Z (λ_ z=>by lia) (.inr<|.inl O);refine⟨?_,W.uL Z<|.inr<|wN _ I.nP.1,λz o ez=>?_,e',λz g=>?_,av,?_,⟨wN _ I.nP.1,wN _ I.nP.2.1,I.nP.2.2⟩,?_,Paired.bX I.pw λ_ _ z=>z.kl (zJ.trans rR) wN,I.fq,I.fe,λz g=>?_⟩;rw[aw b'];exact u _ _ I.h fV;rw[aw<|aH ez I.nP.2.2.2.1];exact a' u _ _ ez;obtain⟨o,ho⟩:=lO z g;by_cases y:z=P;exact qX _ (by rw[y];exact av);exact qX o (by rw[aw y];exact ho);rw[aw<|GE I.nP.2.2.1];exact u _ _ I.i IZ;exact Paired.app (Paired.bX I.pz λ_ _ z=>z.kl (zJ.trans rR) wN) (Paired.bX pn λ_ _ z=>z.kl rR λ_ V=>V);by_cases y:z=P;exact qX _ (by rw[y];exact av);obtain⟨us,hu⟩:=c' z g;exact qX us (by rw[aw y];exact hu)
 have U_:∀{j:Hp},aB (· =q) H j->∀z,N z->∃us,j z=some (.l us):=λb0 z g=>let ⟨us,hu⟩:=I.nl z g;(qX us (b0 _ _ hu λy=>by lia));have vo:sO (uM K C G E).K "list" (.r P) H:=.inl (uJ O _ (ax.of I.d));cases R with
 |none=>
  refine cW<|eU<|aa O ⟨vo,pT C (Dp C G) O<|aa O ⟨p,w,_,O,I.h,jd,aa O ⟨_,p,w,q,s,e,b,T,x,A+1,X,f0,none,_,O,I.h,fV,I.st,λL j u fL W hL=>?_⟩⟩⟩;obtain⟨I_,iH⟩:=W.qs;refine qM n [] (u _ _ I.d zI) hL (cE (by show n.length+0<=_;lia)) ?_;refine k0 _ _<|.inl<|J N j [] [] X u (λ_ V=>V) (W.weak λz g=>.inl (.inr<|.inr g)) I.fN (U9 u iH) .nil<|U_ u
 |some d=>
  refine cW<|eU<|aa O ⟨vo,pT C (Dp C G) O<|aa O ⟨p,w,_,O,I.h,jd,aa O ⟨_,p,w,q,s,e,b,T,x,A+1,X,f0,some d,_,O,I.h,fV,I.st,λL t l j u fL ft F W hL hA=>?_⟩⟩⟩;obtain⟨I_,iH⟩:=W.qs;refine qM n [.r t] (u _ _ I.d zI) hL (cE (by show n.length+1<=_;lia)) ?_;have lO:=U9 u iH;refine k0 _ _<|.inr ⟨l,J (N.add l) j [.r t] [(X+1,A+1,d)] (X+1) u (λ_ V=>.inr V) (W.weak λz g=>?_) (λz g=>?_) (λz g=>?_) (.cons (q8 t l O hA (.inl O) (λy=>?_) (λy=>?_)) .nil)<|λz g=>?_⟩;rcases g with g|rfl|g
  exact .inl (.inr<|.inr<|.inr<|.inl g);exact .inl (.inl O);exact .inl (.inr<|.inr<|.inr<|.inr g);rcases g with rfl|g
  exact .inl (I.sm.free F);exact I.fN z g;rcases g with g|rfl|g
  exact lO z (.inl g);obtain⟨Y,hy,_⟩:=hA.2;exact qX _ hy;exact lO z (.inr g);rw[y,I.d] at F;cases F;rw[y,I.i] at F;cases F;rcases g with rfl|g
  obtain⟨Y,hy,_⟩:=hA.2;exact qX _ hy;exact U_ u z g
theorem akX{Y:bv}(I:IY M C G k H f m p w b T q s e P v N n h x A X g R as ts a U c)(ht:H t=some (.t [.i (aP:Nat),.r a]))(hc:bU c l l')(hf:OC g l Y)(hd:OC R Y x.cps.toList)(t1:ay c<=5000)(t2:cB g<=5000)(t3:cB R<=5000)(gx:good x)(lx:x.length<=100000)(k0:∀eW F B r,ZS x.cps.toList (pP (pP c g) R) r->qh M C G k B f m p w b T q s e P v (N.add F) n eW ⟨⟨r.toArray⟩,A+1,X,pF c g,pF (pP c g) R⟩ as (ts++[pP (pP c g) R])->D.nx [some<|.r p,some<|.r lt,some<|.r q,some<|.r P,some<|.r v,some<|.r t] B):az (uM K C G E) U8 D [some<|.r p,some<|.r lt,some<|.r q,some<|.r P,some<|.r v,some<|.r t] H:=by
 obtain⟨vf,vd,L,_⟩:=I.st.ob;have lw:=FS I.pw;have d':=I.lt;have W:p≠v:=λy=>by have:=I.i;rw[<-y,I.h] at this;cases this
 have zI:¬P=q:=λy=>by have:=I.d;rw[y,L] at this;cases this
 have IZ:¬v=q:=λy=>by have:=I.i;rw[y,L] at this;cases this
 refine cW<|eU<|aa O ⟨.inl ⟨O,_,ax.of I.i⟩,bA (IU G) O<|ao<|aa O<|ao<|bF<|aa O<|ai<|c9 ht O<|aD ⟨_,q,s,e,x,A+1,X,g,R,_,a,U,c,l,l',Y,O,I.st,I.al,I.ha,I.pv,hc,hf,hd,t1,t2,t3,gx,lx,λF bw r S hr J u S3 Z Dt=>?_⟩⟩;have Ja:=J _ _ I.i IZ;refine qH h Ja (bV ba) ?_;have zJ:Kl P v H S:=Kl.but J L;have Q:Kl P v S (fy S v<|.l<|h++[.r F]):=Kl.Dy Ja (λ_ z=>by lia) (.inr<|.inr O);obtain⟨b',c',iH,_⟩:=S3.ob;have lO:=I.al.but J iH;have wN:∀z,N z->(N.add F) z:=λ_ h0=>.inr h0;have V:F≠P/\F≠v:=by
  rcases u with rfl|u
  exact⟨λy=>I.na<|.inr<|y ▸ I.nP.1,λy=>I.na<|.inr<|y ▸ I.nP.2.1⟩;exact⟨λy=>(by rw[y,I.d] at u;cases u),λy=>(by rw[y,I.i] at u;cases u)⟩
 refine k0 _ F _ r hr ⟨?_,(S3.weak λz j=>.inl ?_).uL Ja<|.inr<|.inr I.nP.2.1,λz o ez=>?_,λz j=>?_,λz j=>?_,?_,av,⟨.inr I.nP.1,.inr I.nP.2.1,I.nP.2.2⟩,Paired.bX I.pz λ_ _ z=>z.kl (zJ.trans Q) wN,IO (Paired.bX I.pw λ_ _ z=>z.kl (zJ.trans Q) wN) (q8 F bw O (Q.ls _ _ Z V.1 V.2) (Dt.mono Q.tt) (.inl O) ⟨V.1,V.2⟩),I.fq,I.fe,λz j=>?_⟩;rw[aw W];exact J _ _ I.h (Dz I.h L (by simp));rcases j with j|rfl|j
 exact .inr (.inl j);exact .inl O;exact .inr (.inr j);rw[aw<|aH ez I.nP.2.2.2.2];exact J _ _ (I.sm _ _ ez) (aH ez I.fq);rcases j with rfl|j
 rcases u with rfl|u
 exact I.fa;exact .inl (I.sm.free u);exact I.fN z j;have:∃o,S z=some o:=by
  rcases j with j|rfl|j
  exact lO z (.inl j);exact qX _ Z;exact lO z (.inr j)
 obtain⟨o,ho⟩:=this;by_cases y:z=v;exact qX _ (by rw[y];exact av);exact qX o (by rw[aw y];exact ho);rw[aw I.nP.2.2.1];exact (J _ _ I.d zI);by_cases y:z=v;exact qX _ (by rw[y];exact av);rcases j with rfl|j
 exact qX _ (by rw[aw y];exact Z);obtain⟨us,hu⟩:=I.nl z j;exact qX us (by rw[aw y];exact J _ _ hu λy'=>by lia)
theorem ak0(T0:jx K C)(V:iW K G){u:Nat×z4×be}(a:qh M C G k H f m p w b T q s e P v N n h ⟨x,A,X,g,R⟩ as ts)(Vi:Iv T tx tk ⟨x,A,X,g,R⟩)(hu:m (A+1)=some u)(jl:tk[A]?=some (u.1,u.2.2))(hE:k u.2.1=none\/∃n0 v1,f n0=some v1/\v1.2.1=u.2.1)(la:as.length<=1000)(b':ts.length<=1000)(k0:∀S Y' eW u5 B,qh M C G k B f m p w b T q s e P v S Y' eW (gY T (u.1,u.2.2) ⟨x,A,X,g,R⟩) (as++jf T (u.1,u.2.2) ⟨x,A,X,g,R⟩) (ts++jg T (u.1,u.2.2) ⟨x,A,X,g,R⟩)->D.nx [some<|.r p,some<|.r lt,some<|.r q,some<|.r P,some<|.r v,u5] B):az (uM K C G E) akQ D [some<|.r p,some<|.r lt,some<|.r q,some<|.r P,some<|.r v,u5] H:=by
 have S0:=a.st;obtain⟨vf,vd,h1,h2,h3⟩:=S0.ob;obtain⟨ah,he,lk,ke⟩:=S0.l;have fV:p≠q:=Dz a.h h1 (by show 2≠6;decide);have kE:e≠q:=λy=>by lia
 have i8:eV A m (A+1)=some u:=by simp only[eV];rw[Fk (wX (Zf _))];exact hu
 have uN:=ke (A+1);rw[i8] at uN;obtain⟨t,U,zq⟩:=ZL uN;obtain⟨g1,g2,g3,g4,g5⟩:=c3 zq;refine eJ<|bg<|bK<|aa O ⟨q,G,s,_,_,O,h1,V.c,V.o,uG,ai<|dW<|aa O ⟨q,G,s,_,O,h1,V.c,V.o,(by show 6<1000;decide),?_⟩⟩;rw[show(A:Int)+1=((A+1:Nat):Int) by lia,UU];have S1:=S0.put (x':=x) (kn':=A+1) (se':=X) h2 h3;have b1:aB (· =q) H (fy H q<|.i G s<|f6 x (A+1) X vf vd<|.r e):=aB.upd;have dN:fy H q (.i G s<|f6 x (A+1) X vf vd<|.r e) q=some (.i G s<|f6 x (A+1) X vf vd<|.r e):=av;generalize fy H q (.i G s<|f6 x (A+1) X vf vd<|.r e)=I at S1 b1 dN⊢;have w6:=b1 _ _ he kE;have c':Kl P v H I:=Kl.but b1 h1;refine aO<|akP<|bK<|aa O ⟨q,G,s,_,_,O,dN,V.c,V.t,zr,e,O,.inl ⟨_,.inl w6⟩,bK<|aa O ⟨q,G,s,_,_,O,dN,V.c,V.o,uG,ah,.inl ((A+1:Nat):Int),_,w6,O,g1,?_⟩⟩;have S2:=S1.pop (m:=eV (A+1) m) w6 i8 (λj=>by
  simp only[eV];by_cases hj:j=A+1;rw[Fr hj,Fr (Y8 hj)];rw[Fk hj];by_cases hk:j<=A;rw[Fr hk,Fr (YS hk)];rw[Fk hk,Fk ba]) (Yw _)
 have Va:Kl P v I (fy I e<|.d<|gO ah<|.inl ((A+1:Nat):Int)):=Kl.Dy w6 (λ_ z=>by cases z) (.inl λ_ z=>by cases z);have Q:∀z o,H z=some o->z≠q->z≠e->fy I e (.d<|gO ah<|.inl ((A+1:Nat):Int)) z=some o:=λz o J n0 n'=>by rw[aw n'];exact b1 _ _ J n0
 have l7:fy I e (.d<|gO ah<|.inl ((A+1:Nat):Int)) e=some (.d<|gO ah<|.inl ((A+1:Nat):Int)):=av;have fJ:fy I e (.d<|gO ah<|.inl ((A+1:Nat):Int)) q=some (.i G s<|f6 x (A+1) X vf vd<|.r e):=by rw[aw kE.symm];exact dN
 generalize fy I e (.d<|gO ah<|.inl ((A+1:Nat):Int))=Z at S2 Va Q l7 fJ⊢;have kl:=c'.trans Va;have L:∀{z:z4}{Y:bi},H z=some (.l Y)->z≠q/\z≠e:=λJ=>⟨λy=>(by lia),λy=>(by lia)⟩;have fE:=Q _ _ a.h fV λy=>by have:=a.h;rw[y,he] at this;cases this
 have fO:=kl.tt _ _ g2;have J0:IY M C G k Z f m p w b T q s e P v N n h x A X g R as ts u.2.1 U u.2.2:=by
  refine⟨fE,S2,λz o J=>Q _ _ (a.sm _ _ J) (aH J a.fq)<|aH J a.fe,a.fN,λz hz=>?_,Q _ _ a.hP (L a.hP).1 (L a.hP).2,Q _ _ a.hT (L a.hT).1 (L a.hT).2,a.nP,Paired.bX a.pz λ_ _ z=>z.kl kl λ_ h0=>h0,Paired.bX a.pw λ_ _ z=>z.kl kl λ_ h0=>h0,a.fq,a.fe,Q _ _ g3 (L g3).1 (L g3).2,g4.mono kl.tt,hE,g5,la,b',λz hz=>let ⟨us,hu⟩:=a.nl z hz;⟨us,Q _ _ hu (L hu).1 (L hu).2⟩⟩;obtain⟨o,F⟩:=a.al z hz;by_cases y:z=q;exact⟨_,by rw[y];exact fJ⟩;by_cases y':z=e;exact⟨_,by rw[y'];exact l7⟩;exact⟨o,Q _ _ F y y'⟩
 refine aX<|aL<|bF<|aa O<|ai<|c9 fO O<|bK<|aa O ⟨p,C,w,_,_,O,fE,T0.c,T0.yA,Dl,jE ⟨_,O,du (λF=>?_)<|λF=>?_⟩⟩;have F:u.1=T:=by have:=IR F;lia
 have e1:gY T (u.1,u.2.2) ⟨x,A,X,g,R⟩=⟨x,A+1,kH X R,R,none⟩:=Fr F;have e2:jf T (u.1,u.2.2) ⟨x,A,X,g,R⟩=qf X (A+1) R:=Fr F;have e3:jg T (u.1,u.2.2) ⟨x,A,X,g,R⟩=[]:=Fr F;rw[e1,e2,e3,Yh] at k0;have tR:tk[A+0]?=some (T,u.2.2):=by rw[<-F];exact jl
 obtain⟨⟨f0,ef,_⟩,_⟩:=Vi.pend 0 _ tR;subst ef;refine akR J0 λY' B W=>?_;rcases W with W|⟨l,W⟩
 exact k0 N Y' h _ B W;exact k0 _ Y' h _ B W;have F:¬u.1=T:=λz=>by lia
 obtain⟨l,l',m0,zq⟩:=ZG (Vi.at' jl);obtain⟨_,_,c1,c2,o1,o2⟩:=Gi zq;have e1:gY T (u.1,u.2.2) ⟨x,A,X,g,R⟩=⟨⟨(pR x.cps.toList<|aq<|pP (pP u.2.2 g) R).toArray⟩,A+1,X,pF u.2.2 g,pF (pP u.2.2 g) R⟩:=Fk F;have e2:jf T (u.1,u.2.2) ⟨x,A,X,g,R⟩=[]:=Fk F;have e3:jg T (u.1,u.2.2) ⟨x,A,X,g,R⟩=[pP (pP u.2.2 g) R]:=Fk F;rw[e1,e2,e3,Yh] at k0;obtain⟨lx,gx⟩:=Vi.len;refine akX J0 fO c1 o1 o2 c2 Vi.t Vi.i gx (oT lx (Zs _ _)) λeW a' B r hr W=>k0 (N.add a') n eW _ B ?_;rw[hr.fits.2];exact W
end
section
variable{K:Frag}{M M' N v:MS}{C A:z4}{H B:Hp}{p R q X e m P w:z4}{s:Nat}{x:Str}{S se:Nat}{fl de:Option be}{G f:aS}
structure Vb(M:MS)(C A:z4)(H:Hp)(G:aS)(p R:z4)(s n0 aP:Nat)(c:be)(S:Nat)(g:Gs)(as:xz)(ts:List be)(N:MS)(P w t q X e a0:z4)(zs ws:bi)(f:aS)(B:Hp):Prop where
 ha:cq (λz=>M z\/N z) C A B p R q X e s g.x g.kn g.se g.f g.de (eV g.kn f)
 ins:IW S G n0 aP c a0 f
 fa:H a0=none
 b:aB (· =p) H B
 fN:∀z,N z->H z=none\/∃n u0,G n=some u0/\u0.2.1=z
 al:Al (λz=>M z\/N z) B
 ht:B t=some (.t [.r P,.r w])
 hP:B P=some (.l zs)
 hT:B w=some (.l ws)
 nP:N P/\N w/\P≠w/\H P=none/\H w=none
 pz:Paired (oH N P w s B) zs as
 pw:Paired (qg N P w B) ws ts
 fq:H q=none
 fe:H e=none
 ft:H t=none
 nl:∀z,N z->∃us,B z=some (.l us)
inductive zK(C A:z4)(W:bi)(H:Hp)(Q:VK)(E:XK):Prop|i(M:MS)(p R q X e h b:z4)(s:Nat)(g:Gs)(G:aS)(a d:Nat)(Y:bi)(c:be)(tx:List bv)(k:List (Nat×be))(j:Nat)(_:W=[.r p,.r h])(_:cq M C A H p R q X e s g.x g.kn g.se g.f g.de G)(_:Al M H)(_:H h=some (.t<|gC s a d b))(_:1<=a)(_:d<=7)(_:H b=some (.l Y))(_:aC H Y c)(_:(∀p∈c,a_ p))(_:Ze "" c=true)(_:Iv s tx k g)(_:G.n<=1000)(_:(∀n u,G n=some u->g.kn<n/\k[n - 1]?=some (u.1,u.2.2)))(_:(g.kn<a->G a=none->k[a - 1]?=some (d,c)))(_:j<=900)(_:(∀i,i<j->G (g.kn+i+1)≠none\/g.kn+i+1=a))(_:(G (g.kn+j+1)=none/\g.kn+j+1≠a))(_:∀N P w t o y v z zs m f B,Vb M C A H G p R s a d c g.kn (aK s k g j).1 (aK s k g j).2.1 (aK s k g j).2.2 N P w t o y v z zs m f B->Q (.r t) B)
theorem Vc(h:af u a J H λy I=>af u b J I λx Z=>∃d o,x=.r d/\f_ Z d y o/\∃k,V.b o.isSome=.b k/\QT k Z):bo u (.vC a b) J H QT:=h
theorem Jb{i j:Int}(q:Q (.b<|decide<|i>j) H):dc K .Gt (.i i) (.i j) H Q:=⟨trivial,q⟩
theorem Vd(h:∀n u,f n=some u->k<n):eV k f=f:=by
 obtain⟨f,b⟩:=f;unfold eV;congr 1;funext n;by_cases a:n<=k;rw[Fr a];cases e:f n with
 |none=>rfl
 |some u=>have:=h n u e;cases Zt _ (XG this a)
 rw[Fk a]
theorem ak2(T:jx K C)(TS:iW K A):cL (zK C A) (λE=>uM K C A E) B0 QU:=by
 intro W H Q E h;obtain⟨M,p,R,m,i',e0,lt,b,s,g,G,n0,aP,Y,c,tx,a,j,rfl,S0,al,hl,hn,hw,hb,pv,ok,cc,Vi,nb,lA,mx,lj,hj,⟨hJ,f'⟩,k⟩:=h;refine cW<|pT C (IT C) O<|aa O ⟨p,R,_,O,S0.ob,jd,aa O ⟨p,R,m,lt,b,s,n0,aP,Y,c,O,S0.ob,hl,hn,hw,hb,pv,ok,cc,λI s1=>?_⟩⟩;have S1:=S0.same s1;refine aO<|bA (IM A) O<|ao<|bK<|aa O ⟨p,C,R,_,_,O,S1.ob,T.c,T.m,p_,aD ⟨M,m,i',e0,g.x,g.kn,g.se,g.f,g.de,G,O,S1.st,λq X e Z s2 fq fe k' S2=>?_⟩⟩;have dF:=s1.trans s2;refine aO<|cQ<|aD ⟨nE _,λP fP=>?_⟩;generalize zz:fy _ P _=H3;have s3:=bC fP zz;have m_:=bu zz;refine aO<|cQ<|aD ⟨nE _,λw fT=>?_⟩;generalize zz:fy _ w _=H4;have s4:=bC fT zz;have Jc:=bu zz;have Dg:=s4 _ _ m_;have Jd:=s3.trans s4;have gX:=dF.trans Jd;have c':P≠w:=aH m_ fT;have Je:H P=none:=dF.free fP;have Ve:H w=none:=(dF.trans s3).free fT;have S4:=S2.same Jd;have j':Al M H4:=λz F=>let ⟨o,ho⟩:=al z F;(qX o (gX _ _ ho));have go:∀(a0:z4)(f:aS)(H5:Hp),IW g.kn G n0 aP c a0 f->H a0=none->aA H H5->bQ (λz=>M z\/(z=P\/z=w)) A H5 q X e g.x g.kn g.se g.f g.de f->H5 P=some (.l [])->H5 w=some (.l [])->az (uM K C A E) (B0.drop 5) (Dn Q) [some<|.r p,some<|.r lt,some<|.r q,some<|.r P,some<|.r w,none] H5:=by
  intro a0 f H5 hi fa s5 S5 Jf Jg;have Jh:∀n D,f n=some D->g.kn<n/\a[n - 1]?=some (D.1,D.2.2)/\(H D.2.1=none\/∃n v1,G n=some v1/\v1.2.1=D.2.1):=λn D S=>by
   rcases hi with⟨L,h2,rfl⟩|⟨_,rfl⟩
   simp only[kJ] at S;split at S;rename_i en;cases S;rw[en];exact⟨L,mx L h2,.inl fa⟩;exact⟨(lA n D S).1,(lA n D S).2,.inr (q9 n D S O)⟩;exact⟨(lA n D S).1,(lA n D S).2,.inr (q9 n D S O)⟩
  have a':∀n,g.kn<n->(G n≠none\/n=n0)->f n≠none:=λn hn h=>by
   rcases hi with⟨L,h2,rfl⟩|⟨L,rfl⟩
   simp only[kJ];split;exact λz=>by cases z
   rename_i ne;exact h.resolve_right ne;rcases h with h|rfl
   exact h;rcases L with L|⟨D,L⟩
   lia;rw[L];exact λz=>by cases z
  have EU:f (g.kn+j+1)=none:=by
   rcases hi with⟨L,h2,rfl⟩|⟨L,rfl⟩
   simp only[kJ];rw[Fk f'];exact hJ;exact hJ
  have Si:∀i,i<=j->Iv s tx a (aK s a g i).1:=λi hi=>Vi.run i (by
   cases i with
   |zero=>exact Vi.kn
   |succ i=>
    obtain⟨D,S⟩:=YM.mp (a' (g.kn+i+1) (Yd (lJ _ _))<|hj i (xO hi));have:=(ZT.mp (Jh _ _ S).2.1).1;lia)
  refine yY (λm0 J H6=>∃(i:Nat)(N:MS)(zs ws:bi)(u5:im),m0=j - i/\i<=j/\J=[some<|.r p,some<|.r lt,some<|.r q,some<|.r P,some<|.r w,u5]/\qh M C A H H6 G f p R m s q X e P w N zs ws (aK s a g i).1 (aK s a g i).2.1 (aK s a g i).2.2)
   (uA _ 0 ⟨λz=>z=P\/z=w,[],[],none,O,nE _,O, ⟨s5 _ _ S0.ob,?_,s5,λz F=>.inl ?_,λz F=>?_,Jf,Jg, ⟨.inl O,.inr O,c',Je,Ve⟩,.nil,.nil,s1.free fq,s1.free fe,λz F=>?_⟩⟩) ?_
  show bQ _ A H5 q X e g.x g.kn g.se g.f g.de (eV g.kn f);rw[Vd λn D S=>(Jh n D S).1];exact S5;rcases F with rfl|rfl
  exact Je;exact Ve;rcases F with F|rfl|rfl
  obtain⟨o,ho⟩:=al z F;exact qX o (s5 _ _ ho);exact qX _ Jf;exact qX _ Jg;rcases F with rfl|rfl
  exact qX _ Jf;exact⟨_,Jg⟩;rintro m0 J H6 ⟨i,N,zs,ws,u5,rfl,Vf,rfl,u⟩;have ng:=rQ s a g i;have zL:=Si i Vf;obtain⟨la,d'⟩:=IV s a g i;have bW:i<j->a.getD (aK s a g i).1.kn (0,[])=a.getD (g.kn+i) (0,[]):=λ_=>by rw[ng]
  have dO:aK s a g (i+1)=(gY s (a.getD (aK s a g i).1.kn (0,[])) (aK s a g i).1,(aK s a g i).2.1++jf s (a.getD (aK s a g i).1.kn (0,[])) (aK s a g i).1,(aK s a g i).2.2++jg s (a.getD (aK s a g i).1.kn (0,[])) (aK s a g i).1):=O;generalize M9:(aK s a g i).2.1=as at u la dO;generalize iI:(aK s a g i).2.2=ts at u d' dO;generalize Ji:(aK s a g i).1=gi at u zL ng dO bW;obtain⟨xi,ki,si,fi,di⟩:=gi;have ng:ki=g.kn+i:=ng;subst ng;obtain⟨vf,vd,L,h2,h3⟩:=u.st.ob;obtain⟨ah,he,lk,ke⟩:=u.st.l;have L:H6 q=some (.i A X<|f6 xi (g.kn+i) si vf vd<|.r e):=L;refine Vc<|bg<|bK<|aa O ⟨q,A,X,_,_,O,L,TS.c,TS.o,uG,ai<|dW<|bK<|aa O ⟨q,A,X,_,_,O,L,TS.c,TS.t,zr,e,_,O,f_.k (k:=.inl (((g.kn+i:Nat):Int)+1)) he,_,O,?_⟩⟩;have zM:=ke (g.kn+i+1);rw[show((g.kn+i+1:Nat):Int)=((g.kn+i:Nat):Int)+1 by lia,show eV (g.kn+i) f (g.kn+i+1)=f (g.kn+i+1) from Fk (wX (Zf _))] at zM;by_cases aR:i<j;obtain⟨D,S⟩:=YM.mp (a' (g.kn+i+1) (Yd (lJ _ _))<|hj i aR);obtain⟨_,jl,hE⟩:=Jh _ _ S;have jl:a[g.kn+i]?=some (D.1,D.2.2):=jl;rw[S] at zM;obtain⟨t,U,g1,_⟩:=zM;refine iT ⟨λV' B=>∃(N:MS)(zs ws:bi)(u5:im),V'=[some<|.r p,some<|.r lt,some<|.r q,some<|.r P,some<|.r w,u5]/\qh M C A H B G f p R m s q X e P w N zs ws (aK s a g<|i+1).1 (aK s a g<|i+1).2.1 (aK s a g<|i+1).2.2,by rintro V' B ⟨N,zs,ws,u5,h',I'⟩;exact pQ (j - (i+1)) ba ⟨i+1,N,zs,ws,u5,O,aR,h',I'⟩,?_⟩ (by rw[g1];rfl);refine ak0 T TS u zL S jl hE ba ba λv Y' eW u5 B I'=>uA v Y' ⟨eW,u5,O,?_⟩;have eg:a.getD (g.kn+i) (0,[])=(D.1,D.2.2):=by rw[X6,jl];rfl
  rw[dO];rw[eg];exact I';have e_:i=j:=Yk Vf (Zv aR);subst e_;rw[EU] at zM;refine iF ?_ (by rw[show cv ah (.inl<|((g.kn+i:Nat):Int)+1)=none from zM];rfl);have fV:p≠q:=Dz u.h L (by show 2≠6;decide);refine eJ<|aa O<|aa O ⟨p,C,R,_,O,u.h,T.c,T.m,(by show 2<1000;decide),?_⟩;rw[aki];have b7:aB (· =p) H6 (fy H6 p<|.i C R<|f2 s q):=aB.upd;have DB:fy H6 p (.i C R<|f2 s q) p=some (.i C R<|f2 s q):=av;have Vg:Kl P w H6 (fy H6 p<|.i C R<|f2 s q):=Kl.Dy u.h (λ_ z=>by cases z) (.inl λ_ z=>by cases z);have S7:bQ (λz=>M z\/N z) A (fy H6 p<|.i C R<|f2 s q) q X e xi (g.kn+i) si fi di (eV (g.kn+i) f):=by
   have nt:∀us:bi,(HO.i C R<|f2 s m)≠ .t us:=λ_ z=>by cases z
   have nl:∀us:bi,(HO.i C R<|f2 s m)≠ .l us:=λ_ z=>by cases z
   exact⟨p4 vf vd (b7 _ _ L<|GE fV) (bx.m9 u.h nt nl h2) (bx.m9 u.h nt nl h3),⟨ah,b7 _ _ he (λy=>by rw[y,u.h] at he;cases he),lk,λn=>(ke n).m9 u.h nt nl⟩,u.st.nd⟩
  generalize fy H6 p (.i C R<|f2 s q)=H7 at b7 DB Vg S7⊢;have Jj:∀{z:z4}{us:bi},H6 z=some (.l us)->H7 z=some (.l us):=λez=>b7 _ _ ez λy=>by rw[y,u.h] at ez;cases ez
  refine b_<|dt<|ao<|aa O<|ao<|aa O<|aD ⟨cI,λt ft=>?_⟩;have s8:=Yb (o:=.t [.r P,.r w]) ft;have Vh:aB (· =p) H6 (fy H7 t<|.t [.r P,.r w]):=b7.trans (aB.same s8);have Jk:fy H7 t (.t [.r P,.r w]) t=some (.t [.r P,.r w]):=av;have Vj:=Vg.trans (Kl.same s8);refine k N P w t q X e a0 zs ws f _ ?_;rw[Ji];refine⟨⟨s8 _ _ DB,S7.same s8⟩,hi,fa,λz o ez n=>Vh _ _ (u.sm _ _ ez) n,u.fN,λz F=>?_,Jk,s8 _ _<|Jj u.hP,s8 _ _<|Jj u.hT,u.nP,?_,?_,u.fq,u.fe,?_,λz F=>let ⟨us,S⟩:=u.nl z F;(qX us (s8 _ _<|Jj S))⟩;obtain⟨o,ho⟩:=u.al z F;by_cases y:z=p;exact qX _ (by rw[y];exact s8 _ _ DB);exact qX o (Vh _ _ ho y);rw[M9];exact Paired.bX u.pz λ_ _ z=>z.kl Vj λ_ h=>h;rw[iI];exact Paired.bX u.pw λ_ _ z=>z.kl Vj λ_ h=>h;cases et:H t with
  |none=>rfl
  |some o=>
   by_cases y:t=p;rw[y,DB] at ft;cases ft;rw[b7 _ _ (u.sm _ _ et) y] at ft;cases ft
 obtain⟨vf,vd,L,h2,h3⟩:=S4.ob;obtain⟨ah,he,lk,ke⟩:=S4.l;have mT:=gX _ _ hl;have w4:∀z,(λz=>M z\/(z=P\/z=w)) z->M z\/Z z=none:=λz F=>F.elim .inl λy=>.inr (y.elim (λy=>y ▸ fP) λy=>y ▸ s3.free fT);have Vk:bQ (λz=>M z\/(z=P\/z=w)) A H4 q X e g.x g.kn g.se g.f g.de G:=(S2.weak w4).same Jd;have Vl:=λh=>go P G H4 (.inr ⟨h,O⟩) Je gX Vk Dg Jc;refine aX<|Ib<|aL<|bF<|aa O<|ai<|c9 mT O<|bK<|aa O ⟨q,A,X,_,_,O,L,TS.c,TS.o,uG,Jb ⟨_,O,du (λiI=>?_)<|λiI=>iF (cb<|Vl<|.inl ?_) O⟩⟩
 rotate_left
 have:¬((n0:Nat):Int) >((g.kn:Nat):Int):=λz=>iI (Y4 z);lia;have iI:g.kn<n0:=by have:=IR iI;lia
 refine akd<|bF<|aa O<|ai<|c9 mT O<|bK<|aa O ⟨q,A,X,_,_,O,L,TS.c,TS.t,zr,e,_,O,f_.k (k:=.inl ((n0:Nat):Int)) he,_,O,?_⟩;have uN:=ke n0;cases zN:G n0 with
 |some D=>
  rw[zN] at uN;obtain⟨t,U,g1,_⟩:=uN;exact iF (cb<|Vl<|.inr ⟨D,zN⟩) (by rw[g1];rfl)
 |none=>
  rw[zN] at uN;refine iT ?_ (by rw[show cv ah (.inl ((n0:Nat):Int))=none from uN];rfl);refine gB<|dt<|ao<|bF<|aa O<|ai<|c9 mT O<|ao<|p9<|bF<|aa O<|ai<|c9 mT O ⟨_,.inl<|ax.of<|gX _ _ hb,λa0 fa=>?_⟩;generalize zz:fy _ a0 _=H5;have s5:=bC fa zz;have DC:=bu zz;refine aD ⟨cI,λt0 ft=>?_⟩;generalize zz:fy _ t0 _=H6;have s6:=bC ft zz;have e':=bu zz;have qj:=s5.trans s6;have rF:=gX.trans qj;refine bK<|aa O ⟨q,A,X,_,_,O,qj _ _ L,TS.c,TS.t,zr,bF<|aa O<|ai<|c9 (qj _ _ mT) O ⟨e,_,O,ip.k (k:=.inl ((n0:Nat):Int)) (qj _ _ he)<|bV ba,?_⟩⟩;have g':H a0=none:=gX.free fa;have S6:bQ (MS.add (λz=>M z\/(z=P\/z=w)) a0) A H6 q X e g.x g.kn g.se g.f g.de G:=(Vk.weak λz F=>F.elim (λy=>.inr<|y ▸ fa) .inl).same qj;have b':¬(λz=>M z\/(z=P\/z=w)) a0:=λF=>by
   rcases F with F|rfl|rfl
   exact j'.no fa F;rw[Dg] at fa;cases fa;rw[Jc] at fa;cases fa
  have S7:=S6.early (n:=n0) (qj _ _ he) e' (s6 _ _ DC) (pv.mono<|aQ rF) b' zN;have up:∀{z:z4}{us:bi},H6 z=some (.l us)->fy H6 e (.d<|ZR ah (.inl ((n0:Nat):Int))<|.r t0) z=some (.l us):=λez=>j4 (qj _ _ he) (λ_ z=>by cases z) ez;refine go a0 _ _ (.inl ⟨iI,zN,O⟩) g' (λz o ez=>?_) S7 (up<|qj _ _ Dg)<|up<|qj _ _ Jc;rw[aw<|aH ez<|s1.free fe];exact rF _ _ ez
end
theorem uO:∀(k:Nat)(U Y:gz)(l:bv),U.length+Y.length<=k->Zw l U->Zw (pR l U) Y->∃zs,cC U Y zs:=by
 intro k;induction k with
 |zero=>
  intro U Y l b;cases U with
  |nil=>
   cases Y with
   |nil=>exact λ_ _=>⟨[],.n⟩
   |cons=>simp at b
  |cons=>simp at b
 |succ k r=>
  intro U Y l b g f;rcases Y with _|⟨y,Y⟩
  rcases U with _|⟨u,U⟩
  exact⟨[],.n⟩;cases u with
  |P c=>cases f
  |_=>
   cases l with
   |nil=>exact g.elim
   |cons a l=>
    first|cases f;done|(obtain⟨zs,h⟩:=r U [] l (Nat.le_of_succ_le_succ b) g.2 f;exact⟨_,.c h⟩)
  cases y with
  |P c=>
   obtain⟨zs,h⟩:=r U Y l (Nat.le_of_succ_le_succ b) g f;exact⟨_,.p h⟩
  |K=>
   rcases U with _|⟨u,U⟩
   cases g;exact f.elim;cases u with
   |P c=>
    obtain⟨zs,h⟩:=r U Y l (by simp at b;lia) g f;exact⟨_,.pk h⟩
   |_=>
    cases l with
    |nil=>exact g.elim
    |cons a l=>
     first|(obtain⟨zs,h⟩:=r U Y l (by simp at b;lia) g f;exact⟨_,.kk h⟩)|(obtain⟨zs,h⟩:=r U (.K::Y) l (by simp at b⊢;lia) g.2 f;exact⟨_,.c h⟩)
  |C d=>
   rcases U with _|⟨u,U⟩
   cases g;exact f.elim;cases u with
   |P c=>
    obtain⟨e,f⟩:c=d/\Zw (pR l U) Y:=f;subst e;obtain⟨zs,h⟩:=r U Y l (by simp at b;lia) g f;exact⟨_,.pc h⟩
   |_=>
    cases l with
    |nil=>exact g.elim
    |cons a l=>
     first|(obtain⟨zs,h⟩:=r U Y l (by simp at b;lia) g f.2;exact⟨_,.kc h⟩)|(obtain⟨zs,h⟩:=r U (.C d::Y) l (by simp at b⊢;lia) g.2 f;exact⟨_,.c h⟩)
theorem jh:∀(U Y:gz)(i:Nat),res i (U++Y)=res i U++res (i+aG U) Y
 |[],Y,i=>O
 |.P c::U,Y,i=>FM (Sum.inr c:: ·) (jh U Y i)
 |.K::U,Y,i=>by
  show Sum.inl i::res (i+1) (U++Y)=Sum.inl i::(res (i+1) U++res (i+(aG U+1)) Y);rw[jh U Y<|i+1,show i+1+aG U=i+(aG U+1) by lia]
 |.C c::U,Y,i=>by
  show res (i+1) (U++Y)=res (i+1) U++res (i+(aG U+1)) Y;rw[jh U Y<|i+1,show i+1+aG U=i+(aG U+1) by lia]
theorem DD(i:Nat):∀s:bv,res i (s.map .P)=s.map .inr
 |[]=>O
 |c::s=>FM (Sum.inr c:: ·) (DD i s)
theorem DE:∀(s:bv)(i:Nat),res i (s.map .C)=[]
 |[],i=>O
 |c::s,i=>DE s (i+1)
theorem zO:∀s:bv,aG (s.map .P)=0
 |[]=>O
 |c::s=>zO s
def w9(l:bv):Sg->Nat
 |.inl j=>l.getD j 0
 |.inr c=>c
theorem DF:∀(U:gz)(i:Nat)(l:bv),Zw (l.drop i) U->pR (l.drop i) U=(res i U).map (w9 l)
 |[],i,l,h=>O
 |.P c::U,i,l,h=>FM (c:: ·) (DF U i l h)
 |.K::U,i,l,h=>by
  cases e:l.drop i with
  |nil=>rw[e] at h;cases h
  |cons a r=>
   have b:i<l.length:=by
    have:=FM List.length e;rw[Y0,Zc] at this;lia
   have d:=by
    have:=Zy b;rw[e] at this;exact(Za this).2
   have f:a=l.getD i 0:=by
    have:=Zy b;rw[e] at this;rw[X6,YO b];exact(Za this).1
   rw[e] at h;rw[d] at h;show a::pR r U=l.getD i 0::(res (i+1) U).map (w9 l);rw[d,DF U (i+1) l h,f]
 |.C c::U,i,l,h=>by
  cases e:l.drop i with
  |nil=>rw[e] at h;cases h
  |cons a r=>
   have b:i<l.length:=by
    have:=FM List.length e;rw[Y0,Zc] at this;lia
   have d:=by
    have:=Zy b;rw[e] at this;exact(Za this).2
   rw[e] at h;have h:=h.2;rw[d] at h;show pR r U=(res (i+1) U).map (w9 l);rw[d,DF U (i+1) l h]
noncomputable def cf(l:bv)(a b:Nat):bv:=(l.drop a).take (b - a)
def pa(l:bv):Nat->v6->be
 |_,[]=>[]
 |a,.inr c::r=>.p ⟨#[c]⟩::pa l a r
 |a,.inl j::r=>.c ⟨(cf l a j).toArray⟩:: .k (if j<l.length then 1 else 0)::pa l (j+1) r
noncomputable def bW:Nat->v6->Nat
 |a,[]=>a
 |a,.inr _::r=>bW a r
 |_,.inl j::r=>bW (j+1) r
def MG(l:bv)(a:Nat):Sg->be
 |.inr c=>[.p ⟨#[c]⟩]
 |.inl j=>[.c ⟨(cf l a j).toArray⟩,.k (if j<l.length then 1 else 0)]
theorem DG(l:bv)(s:Sg):∀(a:Nat)(A:v6),pa l a (A++[s])=pa l a A++MG l (bW a A) s
 |a,[]=>by cases s<;>rfl
 |a,.inr c::r=>FM (Pt.p ⟨#[c]⟩:: ·) (DG l s a r)
 |a,.inl j::r=>FM (λz=>Pt.c ⟨(cf l a j).toArray⟩::Pt.k (if j<l.length then 1 else 0)::z) (DG l s (j+1) r)
theorem DH(s:Sg):∀(a:Nat)(A:v6),bW a (A++[s])=bW (bW a A) [s]
 |a,[]=>O
 |a,.inr c::r=>DH s a r
 |a,.inl j::r=>DH s (j+1) r
theorem DI(l:bv):∀(a:Nat)(A:v6),(pa l a A).length<=2*A.length
 |_,[]=>Yw _
 |a,.inr c::r=>by have:=DI l a r;exact YS (j2 this _)
 |a,.inl j::r=>by have:=DI l (j+1) r;exact j2 (j2 this _) _
theorem alb(l:bv)(a b:Nat):(cf l a b).length<=l.length:=by unfold cf;rw[Y7,Y0];lia
theorem Vm{a:Nat}(h:l.length<=b):cf l a b=l.drop a:=by
 unfold cf;rw[RP (by rw[Y0];omega)]
theorem ald{a c:Nat}(h:a<=b)(e:l.drop b=c::r):cf l a (b+1)=cf l a b++[c]:=by
 have d:b<l.length:=by
  have:=FM List.length e;rw[Y0,Zc] at this;omega
 have f:=by
  have:=Zy d;rw[e] at this;exact(Za this).1.symm
 unfold cf;rw[show b+1 - a=b - a+1 by lia];have g:(l.drop a)[b - a]?=some c:=by rw[YV,show a+(b - a)=b by lia,YO d,f]
 exact rL g
theorem Vn(s:bv)(ps:be):aq (.c ⟨s.toArray⟩::ps)=s.map .C++aq ps:=O
theorem Jl:∀s:bv,cnt (s.map .C)=s.length
 |[]=>O
 |c::s=>FM (· +1) (Jl s)
theorem DJ(l:bv):∀(zs:gz)(f i:Nat),f<=i->i<=l.length->Zw (l.drop i) zs->nb (aq<|pa l f<|res i zs++[.inl l.length])=nb ((cf l f i).map .C++zs)/\cnt (aq<|pa l f<|res i zs++[.inl l.length])=(cf l f i).length+cnt zs
 |[],f,i,m,n,h=>by
  have h:l.drop i=[]:=h;have j:l.length<=i:=List.drop_eq_nil_iff.mp h;have e:aq (pa l f<|res i []++[.inl l.length])=(cf l f i).map .C++[]:=by
   show aq [.c ⟨(cf l f l.length).toArray⟩,.k (if l.length<l.length then 1 else 0)]=_;rw[Vn,Fk<|Zt _,Vm<|Yw _,Vm j];rfl
  rw[e];exact⟨O,by rw[rB,Jl]⟩
 |.P c::zs,f,i,m,n,h=>by
  obtain⟨a,b⟩:=DJ l zs f i m n h;have e:aq (pa l f<|res i (.P c::zs)++[.inl l.length])=[.P c]++aq (pa l f<|res i zs++[.inl l.length]):=O;rw[e];refine⟨?_,by rw[rB,b];show 0+1+_=_+(cnt zs+1);exact xW _ _⟩;rw[uc O a];have:nb ([.P c]++(cf l f i).map .C)=nb ((cf l f i).map .C++[.P c]):=(SJ [c]<|cf l f i).symm;rw[<-X7,uc this O,X7];rfl
 |.K::zs,f,i,m,n,h=>by
  cases g:l.drop i with
  |nil=>rw[g] at h;exact h.elim
  |cons d r=>
   have j:i<l.length:=by
    have:=FM List.length g;rw[Y0,Zc] at this;lia
   have o:r=l.drop (i+1):=by
    have:=Zy j;rw[g] at this;exact(Za this).2
   rw[g] at h;have h:Zw r zs:=h;rw[o] at h;obtain⟨a,b⟩:=DJ l zs (i+1) (i+1) (Yw _) j h;have s:cf l (i+1) (i+1)=[]:=by unfold cf;rw[Xy,zU]
   rw[s] at a b;have e:aq (pa l f<|res i (.K::zs)++[.inl l.length])=(cf l f i).map .C++([.K]++aq (pa l (i+1)<|res (i+1) zs++[.inl l.length])):=by
    show aq (.c ⟨(cf l f i).toArray⟩:: .k (if i<l.length then 1 else 0)::pa l (i+1) (res (i+1) zs++[.inl l.length]))=_;rw[Vn,Fr j];rfl
   rw[e];refine⟨uc O<|uc (U:=[.K]) O a,?_⟩;rw[rB,rB,b,Jl];show _+(0+(0+cnt zs))=_+cnt zs;lia
 |.C c::zs,f,i,m,n,h=>by
  cases g:l.drop i with
  |nil=>rw[g] at h;exact h.elim
  |cons d r=>
   have j:i<l.length:=by
    have:=FM List.length g;rw[Y0,Zc] at this;lia
   have o:r=l.drop (i+1):=by
    have:=Zy j;rw[g] at this;exact(Za this).2
   rw[g] at h;obtain⟨rfl,h⟩:d=c/\Zw r zs:=h;rw[o] at h;obtain⟨a,b⟩:=DJ l zs f (i+1) (YS m) j h;rw[ald m g] at a b;refine⟨by rw[show res i (.C d::zs)=res (i+1) zs from O,a,Z4,X7];rfl,?_⟩;rw[show res i (.C d::zs)=res (i+1) zs from O,b,Yy];show _+1+cnt zs=_+(cnt zs+1);lia
theorem ale{U Y:gz}(h:cC U Y zs)(a:At)(n:a≠ .K):a∈zs->a∈U\/a∈Y:=by
 induction h with
 |n=>exact λh=>.inl h
 |p Z i=>exact λh=>(Z5.mp h).elim (λz=>.inr<|z ▸ .head _) λz=>(i z).imp id λw=>.tail _ w
 |c Z i=>exact λh=>(Z5.mp h).elim (λz=>.inl<|z ▸ .head _) λz=>(i z).imp (λw=>.tail _ w) id
 |kk Z i=>exact λh=>(Z5.mp h).elim (λz=>absurd z n) λz=>(i z).imp (λw=>.tail _ w) λw=>.tail _ w
 |kc Z i=>exact λh=>(Z5.mp h).elim (λz=>.inr<|z ▸ .head _) λz=>(i z).imp (λw=>.tail _ w) λw=>.tail _ w
 |pk Z i=>exact λh=>(Z5.mp h).elim (λz=>.inl<|z ▸ .head _) λz=>(i z).imp (λw=>.tail _ w) λw=>.tail _ w
 |pc Z i=>exact λh=>(i h).imp (λw=>.tail _ w) λw=>.tail _ w
theorem DK:∀(U:gz)(i c:Nat),Sum.inr c∈res i U->.P c∈U
 |.P d::U,i,c,h=>(Z5.mp h).elim (λz=>by cases z;exact .head _) λz=>.tail _ (DK U i c z)
 |.K::U,i,c,h=>(Z5.mp h).elim nofun λz=>.tail _ (DK U (i+1) c z)
 |.C d::U,i,c,h=>.tail _ (DK U (i+1) c h)
theorem Jm(f:∀c∈l,SG.cps.contains c=true):∀(A:v6)(b:Nat),(∀c,Sum.inr c∈A->SG.cps.contains c=true)->∀p∈pa l b A,match p with|.k n=>0<=n|.p s=>∀c∈s.cps.toList,SG.cps.contains c=true|.c s=>∀c∈s.cps.toList,SG.cps.contains c=true:=by
 intro A;induction A with
 |nil=>intro b h p a;cases a
 |cons c r i=>
  intro b h p a;cases c with
  |inr d=>
   rcases Z5.mp a with rfl|a
   intro c e;have:=by simpa using e
   rw[this];exact h d (.head _);exact i b (λc e=>h c<|.tail _ e) p a
  |inl j=>
   rcases Z5.mp a with rfl|a
   intro c e;have:=by simpa using e
   exact f c<|ZH<|pI this;rcases Z5.mp a with rfl|a
   show(0:Int)<=if j<l.length then 1 else 0
   split<;>decide
   exact i (j+1) (λc e=>h c<|.tail _ e) p a
abbrev kN(o D':be):v6:=sub (res 0<|aq o) 0 (res 0<|aq D')
def w_(l:bv)(o D':be):be:=iY (pa l 0<|kN o D'++[.inl l.length])
theorem Vo(w:bU one l m)(v:bU D' m r)(C:∀c∈l,SG.cps.contains c=true)(K:ay one+ay D'<=100000):ay (pa l 0<|kN one D'++[.inl l.length])<=ay one+ay D'/\(∀ps,uq one D' ps l r->ps=w_ l one D')/\(kN one D').length=r.length/\∃zs,kN one D'=res 0 zs/\Zw l zs:=by
 obtain⟨u,q⟩:=w.run.fits;obtain⟨f,D⟩:=v.run.fits;obtain⟨zs,i⟩:=uO _ _ _ l (Yw _) u (q▸f);obtain⟨j,L,g⟩:=Hc i l 0 0 u (q▸f);obtain⟨e,a⟩:=DJ l zs 0 0 (Yw _) (nE _) j;rw[g] at e a;have x:ay (pa l 0<|kN one D'++[.inl l.length])<=ay one+ay D':=by
  have:=i.cnt;rw[kz] at a;rw[kz,kz] at this;have a:ay (pa l 0<|kN one D'++[.inl l.length])=0+cnt zs:=a;lia
 have d:∀p∈pa l 0 (kN one D'++[.inl l.length]),gT p:=λp b=>by
  have:=Jm C (kN one D'++[.inl l.length]) 0 (λc h=>by
   rcases R8.mp h with h|h
   have h:.inr c∈res 0 zs:=g▸h;rcases ale i (.P c) (by lia) (DK zs 0 c h) with z|z
   exact De w.ok (.inl z);exact De v.ok (.inl z);rw[ZF] at h;cases h) p b
  have t:=tX b;cases p with
  |k n=>exact this
  |p s=>have t:s.length<=_:=t;exact⟨⟨ba,this⟩,(oT t (oT x K))⟩
  |c s=>have t:s.length<=_:=t;exact⟨⟨ba,this⟩,(oT t (oT x K))⟩
 refine⟨x,λps J=>?_,?_,zs,g.symm,j⟩;obtain⟨Y,B,I⟩:=J.aI;obtain⟨A,y,Z⟩:=tW _ d (oT x K);refine Cz _ _ "" "" J.ch A J.ok y ?_;unfold w_;rw[<-yK _ d,uf _ λp b=>Cw (d p b),I];have F:=by
  obtain⟨H,Z,G⟩:=Hc B l 0 0 u (q▸f);exact ahD H j<|G.trans g.symm
 rw[F];exact e.symm;show(List.map _ _).length=_;rw[Y9,wI,<-uj _ _ f,D]
noncomputable def rS:Sg->bi
 |.inl j=>[.i (j:Nat),.s ""]
 |.inr c=>[.a,.s ⟨#[c]⟩]
def SgV(H:Hp)(v:V)(s:Sg):Prop:= ∃t,v=.r t/\H t=some (.t<|rS s)
abbrev jJ(H:Hp)(U:bi)(F:v6):Prop:=Paired (SgV H) U F
def zP(l:bv)(n:Nat)(P:Nat->Prop)(a:ii):Prop:= ∀k:Nat,k<n->P k\/∃c,l[k]?=some c/\cv a (.inl (k:Int))=some (.s ⟨#[c]⟩)
section
variable{K:Frag}{H B f:Hp}{E:XK}{D:En}{Q:VK}
theorem jJ.tt(h:jJ H U F)(t:dn H B):jJ B U F:=Paired.bX h λ_ _ ⟨z,a,b⟩=>⟨z,a,t _ _ b⟩
theorem alg(h:af u x J H λv I=>∃z,v=.s z/\∃W:Nat->Nat->bi->Hp->Prop,(∃m,W 0 m [] I)/\∀i m Y Z,W i m Y Z->
   ((yf z).stop i Z/\∀p,Z p=none->Q (.r p) (fy Z p<|.l Y))\/
   ((yf z).go i Z/\∀x c,(yf z).gh i Z x c->jR u.K none x c λzs=>k_ none (zs.map some++cN J fv) c λb d=>
    if b=true then af u.calm e (zs.map some++cN J fv) d λy f=>Y.length<sizeLine/\∃a,a<m/\W (i+1) a (Y++[y]) f else ∃a,a<m/\W (i+1) a Y d)):af u (.C none fv .t [x] none e) J H Q:=h
theorem Vp{z:Str}(e:J[i]?=some (some<|.s z))(A:z.length<=100000)(q:∀p B U,aA H B->H p=none->B p=some (.l U)->jJ B U (z.cps.toList.map .inr)->Q (.r p) B):af u (.C none [] .t [.v i] none<|.T [.c .a,.v 0]) J H Q:=by
 refine alg<|aa e ⟨z,O,λi m Y Z=>m=z.length - i/\i<=z.length/\aA H Z/\jJ Z Y ((z.cps.toList.take i).map .inr),⟨_,O,nE _,aA.refl _,.nil⟩,?_⟩;rintro i m Y Z ⟨rfl,D,d,b⟩;by_cases R:i<z.length;refine .inr ⟨R,?_⟩;rintro y x ⟨rfl,c,o,rfl⟩;have n:=FS b;rw[Y9,Y7] at n;have L:z.cps.toList[i]?=some c:=by rw[Array.getElem?_toList];exact o
 have k:af u.calm (.T [.c .a,.v 0]) [some<|.s ⟨#[c]⟩] x λy j=>Y.length<sizeLine/\∃g,g<z.length - i/\g=z.length - (i+1)/\i+1<=z.length/\aA H j/\jJ j (Y++[y]) ((z.cps.toList.take<|i+1).map .inr):=by
  refine dt<|ao<|ai<|ao<|aa O<|aD ⟨cI,λt h=>⟨bV ba,_,ba,O,R,d.trans<|Yb h,?_⟩⟩;rw[rL L,Z4];exact IO (b.tt<|aQ<|Yb h) ⟨t,O,av⟩
 exact k;have w:=Yk D (Zv R);subst w;refine .inl ⟨O,λp f=>q p _ Y (d.trans<|Yb f) (d.free f) av ?_⟩;rw[(YN z),o_] at b;exact b.tt<|aQ<|Yb f
theorem Vq{s:bv}{U Y:gz}(h:Zw l (U++(s.map .C++Y)))(k:Nat)(d:k<s.length):l[aG U+k]?=s[k]?:=by
 obtain⟨c,a,rfl,g,f,Z⟩:=wx U l h;obtain⟨b,rfl⟩:=wg s a Y f;have e:=i6 U c g;rw[YI (nS (Y8 e)),<-e,X5,X4 d]
structure T1(l:bv)(f:Hp)(U:gz)(G Cd:z4)(gs:bi)(ah:ii)(H:Hp):Prop where
 s:aA f H
 fG:f G=none
 fC:f Cd=none
 hG:H G=some (.l gs)
 pG:jJ H gs (res 0 U)
 hC:H Cd=some (.d ah)
 lk:ah.length<=aG U
 ci:zP l (aG U) (λk=>.inl k∈res 0 U) ah
abbrev kO(K:Frag)(E:XK):aW:=aJ K [("_law_neat",pK)] [] (E:=E)
noncomputable abbrev alF:ga:=[.i (.p .Eq (.v 5)<|.c<|.s "cut") [.t (.v 3) (.b .Add (.v 4)<|.v 8)<|.i (.v 6)<|.v 8] [.d<|.a .a (.v 2) [(.T [(.b .Add (.v 4)<|.v 8),(.c<|.s "")])]]]
abbrev Vr:ga:=[.i (.p .Eq (.v 5) (.c (.s "put"))) [.a 2 (.b .Add (.v 2) (.C none [] .t [.v 6] none (.T [.c .a,.v 0])))] [.a 7 (.H (.p .Eq (.v 5) (.c (.s "keep"))) (.v 6) (.t .l [.v 6])),
   .e 8 .e [.v 7] alF,
   .a 4 (.b .Add (.v 4) (.v 7))]]
variable{l:bv}{a b G g:z4}{v:bi}{x:ii}{U:gz}
abbrev rT(a b G g:z4)(n:Nat)(e d c u:im):St:=[some<|.r a,some<|.r b,some<|.r G,some<|.r g,some<|.i (n:Nat),e,d,c,u,none,none,none,none,none]
theorem Vs{c:Nat}{a:Nat->Prop}(h:zP l n P x)(d:l[k]?=some c)(w:∀j,P j->a j\/j=k):zP l n a (ZR x (.inl (k:Int))<|.s ⟨#[c]⟩):=λj b=>by
 rw[Be];by_cases e:j=k;subst e;rw[Fr O];exact .inr ⟨c,d,O⟩;rw[Fk<|λz=>e ba];rcases h j b with h|h
 exact .inl ((w j h).resolve_right e);exact .inr h
theorem Vt{c:Nat}(h:s.cps.toList[k]?=some c)(a:s.length<=1000000)(q:Q (.s ⟨#[c]⟩) H):o6 K sd (.s s) (.i (k:Nat)) H Q:=.inr (.inr<|.inl ⟨s,_,c,O,O,cE a,eM h,q⟩)
theorem alh{Y:gz}{u:im}(q:T1 l f U G g v x H)(ok:a_ p)(hf:Zw l (U++(aN p++Y)))(lg:v.length+bZ p<=500000)(ll:l.length<=100000)(lt:bZ p<=100000)(k:∀G' M X u7 u B,T1 l f (U++aN p) G' g M X B->D.nx (rT a b G' g (aG<|U++aN p) (some<|.s p.word) (some p.val) u7 u) B):az (kO K E) Vr D (rT a b G g (aG U) (some<|.s p.word) (some p.val) u7 u) H:=by
 have lG:=FS q.pG;have T:=i6 _ _ hf;rw[gf,gf] at T;cases p with
 |p z=>
  have R:aN (.p z)=z.cps.toList.map .P:=O;have lz:z.length<=100000:=lt;have xa:=YN z;rw[R] at k;rw[gf,zO,Nat.add_zero] at k;refine aX<|aL<|aa O<|ai<|dv ⟨_,O,iT ?_<|mX _⟩;refine aO<|bg<|aa O<|Vp O lz λw I ws s1 fw hw pw=>?_;have lw:=FS pw;rw[Y9] at lw;refine uD (s1 _ _ q.hG) hw ba λG' Vu=>?_;have A:=Yb (o:=.l (v++ws)) Vu;have dD:=s1.trans A;refine k G' (v++ws) x _ _ _ ⟨q.s.trans dD,q.s.free<|s1.free Vu,q.fC,av,?_,dD _ _ q.hC,?_,?_⟩;rw[jh,DD];exact Paired.app (q.pG.tt<|aQ dD)<|pw.tt<|aQ A;rw[gf,zO];exact q.lk;rw[gf,zO,jh];exact λj W=>(q.ci j W).imp (λz=>ZX _ z) id
 |k n=>
  have hn:1<=n:=ok;obtain⟨m,rfl⟩:∃m:Nat,n=(m:Int):=⟨n.toNat,ba⟩;have R:aN (.k (m:Int))=rK m:=rfl;rw[R] at k T;rw[ox] at T;rw[gf,ox] at k;refine aX<|aL<|aa O<|ai<|dv ⟨_,O,iF ?_ (show("keep"=="put")=false by decide+kernel)⟩;refine aO<|rJ<|aL<|aa O<|ai<|dv ⟨_,O,iT (aa O ?_)<|mX _⟩;refine wM<|aa O ⟨_,O,ba,ba,qz (lo:=0) (λi J Z=>YQ λ(M:bi)(u:im)=>xS (J=rT a b G g (aG U) (some<|.s "keep") (some<|.i (m:Int)) (some<|.i (m:Int)) u) (aA f Z) (Z G=some (.l M)) (jJ Z M (res 0 U++(List.range' (aG U) i).map .inl)) (Z g=some (.d x))) ⟨v,u,O,q.s,q.hG,by rw[show(List.range' (aG U) 0)=[] from O,zaV,Yh];exact q.pG,q.hC⟩ ?_ ?_⟩;rintro i J Z hi ⟨M,u,rfl,A,N,L,F⟩;rw[Yf] at hi;have a':=FS L;rw[Yy,Y9,List.length_range'] at a';refine aX<|aL<|aa O<|ai<|dv ⟨_,O,iF ?_ (show("keep"=="cut")=false by decide+kernel)⟩;refine cW<|eU<|aa O ⟨.inl ⟨O,_,ax.of N⟩,dt<|ao<|bg<|aa O<|aa O<|dW<|ao<|ai<|aD ⟨cI,λt ft=>?_⟩⟩;rw[show((aG U:Nat):Int)+(0+(i:Int))=((aG U+i:Nat):Int) by lia] at*;generalize zz:fy _ t _=H3;have S:=bC ft zz;have jB:=bu zz;have Jo:=S _ _ N;have t4:=gZ (o:=.l (M++[.r t])) Jo (λ_ z=>by cases z);refine⟨_,Jo,bV ba,M++[.r t],_,O,λz o ez=>?_,av,?_,?_⟩;rw[aw<|aH ez q.fG];exact S _ _ (A _ _ ez);rw[List.range'_concat,Z4,<-X7];exact IO ((L.tt<|aQ S).tt t4) ⟨t,O,by rw[Nat.one_mul];exact t4 _ _ jB⟩;have n:g≠G:=λy=>by lia
  rw[aw n];exact S _ _ F;rintro J Z ⟨M,u,rfl,A,N,L,F⟩;rw[Yf] at L;refine aO<|bg<|aa O<|aa O<|dW ?_;refine k G M x _ _ _ ⟨A,q.fG,q.fC,N,?_,F,?_,λj W=>?_⟩;rw[jh,Ym,C5];exact L;rw[gf];have:=q.lk;exact nS this;rw[gf,ox] at W;rw[jh,Ym,C5];by_cases bT:j<aG U;exact(q.ci j bT).imp (λz=>ZX _ z) id;exact .inl (Yc _<|m8 (by rw[List.mem_range'_1];lia))
 |c z=>
  have R:aN (.c z)=z.cps.toList.map .C:=O;have lz:z.length<=100000:=lt;have xa:=YN z;have ca:∀i c,z.cps.toList[i]?=some c->l[aG U+i]?=some c:=λi c Q=>by
   rw[R] at hf;rw[Vq hf i (ZT.mp Q).1,Q]
  rw[R] at k T;rw[jC] at T;rw[gf,jC,<-xa] at k;refine aX<|aL<|aa O<|ai<|dv ⟨_,O,iF ?_ (show("cut"=="put")=false by decide+kernel)⟩;refine aO<|rJ<|aL<|aa O<|ai<|dv ⟨_,O,iF (dE<|aa O ⟨cE (oT lz (Zs _ _)),?_⟩) (show("cut"=="keep")=false by decide+kernel)⟩;refine wM<|aa O ⟨_,O,ba,(by omega),qz (lo:=0) (λi J Z=>YQ λ(X:ii)(u:im)=>eT (J=rT a b G g (aG U) (some<|.s "cut") (some<|.s z) (some<|.i (z.length:Nat)) u) (aA f Z) (Z G=some (.l v)) (jJ Z v (res 0 U)) (Z g=some (.d X)) (X.length<=aG U+i) (zP l (aG U+i) (λk=>.inl k∈res 0 U) X)) ⟨x,u,O,q.s,q.hG,q.pG,q.hC,q.lk,q.ci⟩ ?_ ?_⟩;rintro i J Z hi ⟨X,u,rfl,A,N,L,F,Vv,DL⟩;rw[Yf] at hi;obtain⟨c,Q⟩:∃c,z.cps.toList[i]?=some c:=⟨_,YO (XG hi (Y8 xa))⟩;rw[ZD];refine aX<|aL<|aa O<|ai<|dv ⟨_,O,iT ?_<|mX _⟩;refine gB<|bF<|aa O<|aa O<|Vt Q (oT lz (Zs _ _))<|aa O<|bg<|aa O<|aa O<|dW ⟨g,_,O,ip.k (k:=.inl (((aG U:Nat):Int)+(i:Int))) F<|bV ba,?_⟩;rw[show((aG U:Nat):Int)+(i:Int)=((aG U+i:Nat):Int) by lia];have tC:=gZ (o:=.d (ZR X (.inl ((aG U+i:Nat):Int))<|.s ⟨#[c]⟩)) F (λ_ z=>by cases z);refine⟨_,_,O,λy o ey=>?_,j4 F (λ_ z=>by cases z) N,L.tt tC,av,?_,λj W=>?_⟩;rw[aw<|aH ey q.fC];exact A _ _ ey;have:=sR X (.inl ((aG U+i:Nat):Int)) (.s ⟨#[c]⟩);exact oT this (j2 Vv _);by_cases e:j=aG U+i;subst e;rw[Be,Fr O];exact .inr ⟨c,ca i c Q,O⟩;exact Vs DL (ca i c Q) (λ_ h=>.inl h) j (vW (XQ W) e);rintro J Z ⟨X,u,rfl,A,N,L,F,Vv,DL⟩;rw[Yf] at Vv DL;refine aO<|bg<|aa O<|aa O<|dW ?_;refine k G v X _ _ _ ⟨A,q.fG,q.fC,N,?_,F,?_,?_⟩;rw[jh,DE,Yh];exact L;rw[gf,jC];lia;rw[gf,jC,jh,DE,Yh,<-xa];exact DL
end
theorem Vw:∀{U:List α}{Y:List b},Paired R U Y->∀n,Paired R (U.take n) (Y.take n):=by
 intro U Y h;induction h with
 |nil=>intro n;rw[Yg,Yg];exact .nil
 |cons a _ i=>
  intro n;cases n with
  |zero=>exact .nil
  |succ n=>exact .cons a (i n)
theorem Vx:∀{U:List α}{Y:List b},Paired R U Y->∀n,Paired R (U.drop n) (Y.drop n):=by
 intro U Y h;induction h with
 |nil=>intro n;rw[List.drop_nil,List.drop_nil];exact .nil
 |cons a r i=>
  intro n;cases n with
  |zero=>exact .cons a r
  |succ n=>exact i n
theorem DM(r s t:v6):sub r 0 (s++t)=sub r 0 s++sub r 0 t:=by unfold sub;rw[Z4]
theorem Vy(r:v6)(s:bv):sub r 0 (s.map .inr)=s.map .inr:=by unfold sub;rw[Zq];rfl
theorem Bc(r:v6)(a n:Nat)(h:a+n<=r.length):sub r 0 ((List.range' a n).map .inl)=(r.drop a).take n:=by
 unfold sub;rw[Zq];refine List.ext_getElem? λi=>?_;by_cases b:i<n;rw[Yi,List.getElem?_range' b,dG b,YV];show some (r.getD (a+1*i - 0)<|.inr 0)=_;rw[Nat.one_mul,Nat.sub_zero,X6,YO ba];rfl;rw[zC (by rw[Y9,List.length_range'];exact Zv b),zC (by rw[Y7];lia)]
section
variable{K:Frag}{H B f:Hp}{E:XK}{D:En}{Q:VK}
def yF(r:v6)(Y:gz)(n:Nat)(k:Nat):Prop:=.inl k∈sub r 0 (res 0 Y)\/∃p,n<=p/\r[p]?=some (.inl k)
structure T2(l:bv)(f:Hp)(row:v6)(Y:gz)(n:Nat)(G Cd F:z4)(gs fs:bi)(ah:ii)(H:Hp):Prop where
 s:aA f H
 fC:f Cd=none
 a:H G=some (.l gs)
 pG:jJ H gs row
 h:H Cd=some (.d ah)
 hF:H F=some (.l fs)
 pF:jJ H fs (sub row 0<|res 0 Y)
 lk:ah.length<=l.length+n
 ci:zP l l.length (yF row Y n) ah
abbrev ql(a b G C:z4)(s:Nat)(F:z4)(n:Nat)(e d c u:im):St:=[some<|.r a,some<|.r b,some<|.r G,some<|.r C,some<|.i (s:Nat),e,d,c,u,some<|.r F,some<|.i (n:Nat),none,none,none]
noncomputable abbrev alW:ga:=[.i (.p .IsNot (.i (.i (.v 2)<|.b .Add (.v 10)<|.v 8)<|.c<|.i 0)<|.c .a) [.t (.v 3) (.i (.i (.v 2)<|.b .Add (.v 10)<|.v 8)<|.c<|.i 0)<|.i (.v 6)<|.v 8] []]
abbrev alj:ga:=[.i (.p .Eq (.v 5) (.c (.s "cut"))) [.e 8 .e [.v 7] alW] [],
  .a 10 (.b .Add (.v 10) (.b .Mult (.v 7) (.t .i [(.p .NotEq (.v 5) (.c (.s "put")))])))]
abbrev VA:ga:=.a 7 (.H (.p .Eq (.v 5)<|.c<|.s "keep") (.v 6)<|.t .l [.v 6])::
  .i (.p .Eq (.v 5)<|.c<|.s "put") [.a 9<|.b .Add (.v 9)<|.C none [] .t [.v 6] none<|.T [.c .a,.v 0]] []::
  .i (.p .Eq (.v 5)<|.c<|.s "keep") [.a 9<|.b .Add (.v 9)<|.s (.v 2) (some<|.v 10)<|some<|.b .Add (.v 10)<|.v 7] []::alj
variable{l:bv}{a b G A F:z4}{M N:bi}{R:ii}{Y:gz}{g:v6}{P:Nat}
theorem VB(h:af u x J H λv I=>lu u.K .i [v] I Q):af u (.t .i [x]) J H Q:=h
theorem VC(q:Q (.i (if k=true then 1 else 0)) H):lu K .i [.b k] H Q:=q
theorem VD:(("put":Str)==("keep":Str))=false:=O
theorem alk:(("put":Str)==("cut":Str))=false:=O
theorem alm:(("keep":Str)==("put":Str))=false:=O
theorem aln:(("keep":Str)==("cut":Str))=false:=O
theorem alo:(("cut":Str)==("put":Str))=false:=O
theorem VE:(("cut":Str)==("keep":Str))=false:=O
theorem alp:¬(("put":Str) !=("put":Str))=true:=nofun
theorem alq:(("keep":Str) !=("put":Str))=true:=O
theorem alr:(("cut":Str) !=("put":Str))=true:=O
theorem als{m:bv}{L:im}(u:T2 l f g Y (aG Y) G A F M N R H)(ok:a_ p)(hm:m=g.map (w9 l))(hr:∀j,.inl j∈g->j<l.length)(hf:Zw m (Y++(aN p++zs)))(lf:(sub g 0<|res 0<|Y++aN p).length<=500000)(ll:l.length<=100000)(lm:m.length<=100000)(lt:bZ p<=100000)(k:∀Q oN X S L B,T2 l f g (Y++aN p) (aG<|Y++aN p) G A Q M oN X B->D.nx (ql a b G A P Q (aG<|Y++aN p) (some<|.s p.word) (some p.val) S L) B):az (kO K E) VA D (ql a b G A P F (aG Y) (some<|.s p.word) (some p.val) S L) H:=by
 have lG:=FS u.pG;have lF:=FS u.pF;have fl:=i6 _ _ hf;have DN:g.length=m.length:=by rw[hm,Y9]
 rw[gf,gf] at fl;rw[jh,DM,Yy,<-lF] at lf;have XV:∀{w:Str}{Jp:V}{mn:Nat}{c:Int}{Q:z4}{Z:Hp}{L:im},(c=if (w !=("put":Str))=true then 1 else 0)->mn<=200000->(∀S L,D.nx (ql a b G A P Q (aG Y+(mn*c.toNat)) (some<|.s w) (some Jp) S L) Z)->az (kO K E) [.a 10<|.b .Add (.v 10)<|.b .Mult (.v 7)<|.t .i [(.p .NotEq (.v 5)<|.c<|.s "put")]] D (ql a b G A P Q (aG Y) (some<|.s w) (some Jp) (some<|.i (mn:Nat)) L) Z:=by
  intro w Jp mn c Q Z L hc c' kk;have b':c=0\/c=1:=by rw[hc];split<;>simp
  refine aO<|bg<|aa O<|bg<|aa O<|VB<|ky<|aa O<|ai<|yZ<|VC ?_;rw[<-hc];refine UK (.inl ⟨ba,ba⟩)<|dW ?_;have e:((aG Y:Nat):Int)+(mn:Int)*c=((aG Y+mn*c.toNat:Nat):Int):=by rcases b' with rfl|rfl<;>simp
  rw[e];exact kk _ _
 cases p with
 |p z=>
  have e1:aN (.p z)=z.cps.toList.map .P:=O;have lz:z.length<=100000:=lt;have xa:=YN z;rw[e1] at k lf;rw[gf,zO,Nat.add_zero] at k;rw[DD,Vy,Y9] at lf;refine aO<|rJ<|aL<|aa O<|ai<|dv ⟨_,O,iF (dE<|aa O ⟨cE (oT lz (Zs _ _)),?_⟩) VD⟩;refine aX<|aL<|aa O<|ai<|dv ⟨_,O,iT ?_<|mX _⟩;refine aO<|bg<|aa O<|Vp O lz λw I ws s1 fw hw pw=>?_;have lw:=FS pw;rw[Y9] at lw;refine uD (s1 _ _ u.hF) hw ba λQ Jq=>?_;generalize zz:fy _ Q _=Z;have s2:=bC Jq zz;have U:=s1.trans s2;have Jr:=bu zz;refine aX<|aL<|aa O<|ai<|dv ⟨_,O,iF (cb ?_) VD⟩;refine aX<|aL<|aa O<|ai<|dv ⟨_,O,iF (cb ?_) alk⟩;refine XV (c:=0) (mn:=z.length) (Fk alp).symm (oT lz (Zs _ _)) λS L=>?_;have Js:jJ Z (N++ws) (sub g 0<|res 0<|Y++z.cps.toList.map .P):=by
   rw[jh,DD,DM,Vy];exact Paired.app (u.pF.tt<|aQ U)<|pw.tt<|aQ s2
  refine k Q (N++ws) R S L Z ⟨u.s.trans U,u.fC,U _ _ u.a,u.pG.tt<|aQ U,U _ _ u.h,Jr,Js,u.lk,λj hj=>(u.ci j hj).imp (λh=>h.imp (λh=>?_) id) id⟩;rw[jh,DM];exact ZX _ h
 |k n=>
  have hn:1<=n:=ok;obtain⟨q,rfl⟩:∃q:Nat,n=(q:Int):=qX n.toNat ba;have e1:aN (.k (q:Int))=rK q:=by show rK (q:Int).toNat=_;rw[Yf]
  rw[e1] at k fl lf;rw[ox] at fl;rw[gf,ox] at k;rw[Ym,C5,Bc _ _ _ ba] at lf;refine aO<|rJ<|aL<|aa O<|ai<|dv ⟨_,O,iT (aa O ?_)<|mX _⟩;refine aX<|aL<|aa O<|ai<|dv ⟨_,O,iF (cb ?_) alm⟩;refine aX<|aL<|aa O<|ai<|dv ⟨_,O,iT ?_<|mX _⟩;refine aO<|bg<|aa O<|Uv<|aa O<|aa O ⟨_,O,bg<|aa O<|aa O<|dW ⟨_,O,.inl ⟨_,ax.of u.a,λw fw=>?_⟩⟩⟩;rw[show((aG Y:Nat):Int)+(q:Int)=((aG Y+q:Nat):Int) by lia,Uw,X5];generalize zz:fy _ w _=I;have s1:=bC fw zz;have hw:=bu zz;have pw:jJ I ((M.drop<|aG Y).take q) ((g.drop<|aG Y).take q):=Vw (Vx (u.pG.tt<|aQ s1) _) _;have lw:=FS pw;refine uD (s1 _ _ u.hF) hw ba λQ Jq=>?_;generalize zz:fy _ Q _=Z;have s2:=bC Jq zz;have U:=s1.trans s2;have Jr:=bu zz;refine aX<|aL<|aa O<|ai<|dv ⟨_,O,iF (cb ?_) aln⟩;refine XV (c:=1) (mn:=q) (Fr alq).symm ba λS L=>?_;have zQ:sub g 0 (res 0<|Y++rK q)=sub g 0 (res 0 Y)++(g.drop<|aG Y).take q:=by rw[jh,DM,Ym,C5,Bc _ _ _ ba]
  have Js:jJ Z (N++(M.drop<|aG Y).take q) (sub g 0<|res 0<|Y++rK q):=by
   rw[zQ];exact Paired.app (u.pF.tt<|aQ U)<|pw.tt<|aQ s2
  rw[show q* (1:Int).toNat=q from Nat.mul_one q];have T:T2 l f g (Y++rK q) (aG Y+q) G A Q M (N++(M.drop<|aG Y).take q) R Z:=by
   refine⟨u.s.trans U,u.fC,U _ _ u.a,u.pG.tt<|aQ U,U _ _ u.h,Jr,Js,by have:=u.lk;lia,λj hj=>(u.ci j hj).imp (λh=>?_) id⟩;unfold yF;rw[zQ];rcases h with h|⟨p,hp,h⟩
   exact .inl (ZX _ h);by_cases hq:aG Y+q<=p;exact .inr (pQ p hq h);refine .inl (Yc _<|X_ (i:=p - aG Y) ?_);rw[dG ba,YV,show aG Y+(p - aG Y)=p by lia];exact h
  exact k Q _ R S L Z T
 |c z=>
  have e1:aN (.c z)=z.cps.toList.map .C:=O;have lz:z.length<=100000:=lt;have xa:=YN z;have zQ:res 0 (Y++z.cps.toList.map .C)=res 0 Y:=by rw[jh,DE,Yh]
  have ca:∀i c,z.cps.toList[i]?=some c->∃s,g[aG Y+i]?=some s/\w9 l s=c:=λi c hc=>by
   rw[e1] at hf;have:=Vq hf i (ZT.mp hc).1;rw[hc,hm,Yi] at this;cases er:g[aG Y+i]? with
   |none=>rw[er] at this;cases this
   |some s=>rw[er] at this;exact pQ s O (X8 this)
  rw[e1] at k fl;rw[jC] at fl;rw[gf,jC,<-xa] at k;refine aO<|rJ<|aL<|aa O<|ai<|dv ⟨_,O,iF (dE<|aa O ⟨cE (oT lz (Zs _ _)),?_⟩) VE⟩;refine aX<|aL<|aa O<|ai<|dv ⟨_,O,iF (cb ?_) alo⟩;refine aX<|aL<|aa O<|ai<|dv ⟨_,O,iF (cb ?_) VE⟩;refine aX<|aL<|aa O<|ai<|dv ⟨_,O,iT ?_<|mX _⟩;refine wM<|aa O ⟨_,O,ba,ba,qz (lo:=0) (λi J Z=>∃(X:ii)(L:im),J=ql a b G A P F (aG Y) (some<|.s "cut") (some<|.s z) (some<|.i (z.length:Nat)) L/\T2 l f g Y (aG Y+i) G A F M N X Z) ⟨R,L,O,u⟩ ?_ ?_⟩;rintro i J Z hi ⟨X,L,rfl,r⟩;rw[Yf] at hi;obtain⟨c,hc⟩:∃c,z.cps.toList[i]?=some c:=qX _ (YO (XG hi (Y8 xa)));obtain⟨s,hs,W⟩:=ca i c hc;rw[ZD];have Ji:(aG Y+i) <M.length:=by rw[lG];exact(ZT.mp hs).1
  have eg:M[aG Y+i]?=some M[aG Y+i]:=YO Ji;obtain⟨s',bE,t,et,HF⟩:=mU r.pG eg;rw[hs] at bE;cases bE;rw[et] at eg;have Jt:∀{Q1:VK}{x:V},(rS s)[0]?=some x->Q1 x Z->af (kO K E) (.i (.i (.v 2)<|.b .Add (.v 10)<|.v 8)<|.c<|.i 0) (ql a b G A P F (aG Y) (some<|.s "cut") (some<|.s z) (some<|.i (z.length:Nat))<|some<|.i (i:Int)) Z Q1:=λhx q1=>by
   refine bF<|bF<|aa O<|bg<|aa O<|aa O<|dW ?_;rw[show((aG Y:Nat):Int)+(i:Int)=((aG Y+i:Nat):Int) by lia];exact iG r.a (eM eg)<|ai<|c9 HF (show e8 (rS s) ((0:Nat):Int)=_ from eM hx) q1
  cases s with
  |inr d=>
   refine aX<|aL<|Jt (x:=.a) O<|ai<|je ⟨_,O,iF (cb ?_) (by rw[Y4 O];rfl)⟩;refine q9 X _ O ⟨r.s,r.fC,r.a,r.pG,r.h,r.hF,r.pF,by have:=r.lk;exact YS this,λj hj=>(r.ci j hj).imp (λh=>h.imp id λ ⟨p,hp,h⟩=>pQ p ?_ h) id⟩;have:p≠aG Y+i:=λy=>by rw[y,hs] at h;cases h
   lia
  |inl j=>
   have q_:j<l.length:=hr j (X_ hs);have a':l[j]?=some c:=by
    have:l.getD j 0=c:=W;rw[X6,YO q_] at this;rw[YO q_];exact FM some this
   refine aX<|aL<|Jt (x:=.i (j:Nat)) O<|ai<|je ⟨_,O,iT ?_ (by rw[XH (by intro z;cases z)];rfl)⟩;refine gB<|bF<|aa O<|aa O<|Vt hc (oT lz (Zs _ _))<|aa O<|Jt (x:=.i (j:Nat)) O (p4 A _ O (ip.k (k:=.inl ((j:Nat):Int)) r.h<|bV (by have:=r.lk;lia)) ?_);have tC:=gZ (o:=.d (ZR X (.inl ((j:Nat):Int))<|.s ⟨#[c]⟩)) r.h (λ_ z=>by cases z);have ul:∀{z:z4}{us:bi},Z z=some (.l us)->fy Z A (.d<|ZR X (.inl ((j:Nat):Int))<|.s ⟨#[c]⟩) z=some (.l us):=λez=>j4 r.h (λ_ z=>by cases z) ez;refine q9 _ _ O ⟨λy o ey=>?_,r.fC,ul r.a,r.pG.tt tC,av,ul r.hF,r.pF.tt tC,?_,?_⟩;rw[aw<|aH ey u.fC];exact r.s _ _ ey;have:=sR X (.inl ((j:Nat):Int)) (.s ⟨#[c]⟩);have:=r.lk;lia;refine Vs r.ci a' λj' h=>?_;rcases h with h|⟨p,hp,h⟩
   exact .inl (.inl h);by_cases y:p=aG Y+i;rw[y,hs] at h;cases h;exact .inr O;exact .inl (.inr (pQ p ba h))
  rintro J Z ⟨X,L,rfl,r⟩;rw[Yf] at r;refine XV (c:=1) (mn:=z.length) (Fr alr).symm (oT lz (Zs _ _)) λS L=>?_;rw[show z.length* (1:Int).toNat=z.length from Nat.mul_one _];refine k F N X S L Z ?_;exact⟨r.s,r.fC,r.a,r.pG,r.h,r.hF,by rw[zQ];exact r.pF,r.lk,λj hj=>(r.ci j hj).imp (λh=>by unfold yF;rw[zQ];exact h) id⟩
end
def Up(F:v6):Prop:=F.Pairwise λa b=>∀i j,a=Sum.inl i->b=Sum.inl j->i<j
theorem DO:∀(U:gz)(i:Nat),Up (res i U)
 |[],i=>.nil
 |.P c::U,i=>.cons nofun (DO U i)
 |.K::U,i=>.cons (λb h d j e a=>by
   cases e;rw[a] at h;have:=pN U (i+1) j h;exact xO this) (DO U (i+1))
 |.C c::U,i=>DO U (i+1)
section
variable{K:Frag}{H B q:Hp}{E:XK}{D:En}{Q:VK}{l:bv}{a b G g F L:z4}{f:bi}{M:ii}{A:v6}{N P R S T X:im}
structure T3(l:bv)(q:Hp)(A:v6)(g L:z4)(M:ii)(f:bi)(H:Hp):Prop where
 s:aA q H
 fL:q L=none
 hC:H g=some (.d M)
 h:H L=some (.l f)
 pL:aC H f (pa l 0 A)
 lt:∀k,.inl k∈A->k<bW 0 A
 nb:bW 0 A<=l.length+1
abbrev sE(a b:z4)(N:im)(g:z4)(s:Nat)(P R S T X:im)(n:Nat)(L:z4)(j d:im):St:=[some<|.r a,some<|.r b,N,some<|.r g,some<|.i (s:Nat),P,R,S,T,X,some<|.i (n:Nat),some<|.r L,j,d]
noncomputable abbrev alw:ga:=[.d (.a .a (.v 11) [(.T [(.c (.s "keep")),(.t .i [(.p .Lt (.v 12) (.v 4))])])]),
   .a 10 (.b .Add (.v 12) (.c (.i 1)))]
abbrev VF:ga:=[.i (.p .Is (.v 12)<|.c .a) [.d<|.a .a (.v 11) [(.T [(.c<|.s "put"),.v 13])]] (.d (.a .a (.v 11) [(.T [(.c<|.s "cut"),(.a .j (.c<|.s "") [(.C none [("_law_cuts",3)] .s [.v 10,.v 12] none<|.B (.v 1)<|.v 0)])])])::alw)]
theorem aly{a b:RE}(h:af u a J H λn q=>af u b J q λv I=>∃i j:Int,[n,v]=[.i i,.i j]/\(-(2 ^ 62)<=i/\i<2 ^ 62/\ -(2 ^ 62)<=j/\j<2 ^ 62)/\∃W:Nat->Nat->bi->Hp->Prop,(∃m,W 0 m [] I)/\∀k m Y Z,W k m Y Z->
   ((fu i (j - i).toNat).stop k Z/\∀p,Z p=none->Q (.r p) (fy Z p<|.l Y))\/
   ((fu i (j - i).toNat).go k Z/\∀x d,(fu i (j - i).toNat).gh k Z x d->jR u.K none x d λf=>k_ none (f.map some++cN J fv) d λb g=>
    if b=true then af u.calm e (f.map some++cN J fv) g λy o=>Y.length<sizeLine/\∃c,c<m/\W (k+1) c (Y++[y]) o else ∃c,c<m/\W (k+1) c Y g)):af u (.C none fv .s [a,b] none e) J H Q:=h
theorem Ju(c:H L=some (.l f))(b:aC H f ps)(h:H t=some (.t [.s p.word,p.val])):aC (fy H L<|.l<|f++[.r t]) (f++[.r t]) (ps++[p]):=by
 have a:=gZ (o:=.l (f++[.r t])) c (λY z=>by lia);exact IO (b.mono a) ⟨t,O,a _ _ h⟩
theorem QQ(m:T3 l q A g L M f H)(up:Up (A++[s]))(i8:∀j,s=.inl j->∀k,bW 0 A<=k->k<j->∃c,l[k]?=some c/\cv M (.inl (k:Int))=some (.s ⟨#[c]⟩))(Q:∀j,s=.inl j->j<=l.length)(lz:f.length<=500000)(ll:l.length<=100000)(k:∀Y' B nj dY,T3 l q (A++[s]) g L M Y' B->D.nx (sE a b N g l.length P R S T X (bW 0<|A++[s]) L nj dY) B):
  az (kO K E) VF D (sE a b N g l.length P R S T X (bW 0 A) L ((rS s)[0]?)<|(rS s)[1]?) H:=by
 have Jv:∀{I:Hp}{us:bi},I g=some (.d M)->I L=some (.l us)->g≠L:=λh1 h2 y=>by rw[y,h2] at h1;cases h1
 have J:∀j,s=.inl j->∀k,.inl k∈A->k<j:=λj e k hk=>(XR.mp up).2.2 _ hk s (.head _) k j O e;cases s with
 |inr c=>
  refine aX<|aL<|aa O<|ai<|gA ⟨_,O,iT ?_<|Y4 O⟩;refine cW<|eU<|aa O ⟨.inl ⟨O,_,ax.of m.h⟩,dt<|ao<|ai<|ao<|aa O<|aD ⟨cI,λt W=>?_⟩⟩;have u:=Yb (o:=.t [V.s "put",V.s ⟨#[c]⟩]) W;have gU:fy H t (.t [V.s "put",V.s ⟨#[c]⟩]) t=some (.t [.s (Pt.p ⟨#[c]⟩).word,(Pt.p ⟨#[c]⟩).val]):=av;generalize fy H t (.t [V.s "put",V.s ⟨#[c]⟩])=I at u gU⊢;refine qH _ (u _ _ m.h) (bV (oT lz (Zs _ _))) ?_;have C:bW 0 (A++[.inr c])=bW 0 A:=DH _ _ _;rw[C] at k;have K':T3 l q (A++[.inr c]) g L M (f++[.r t]) (fy I L<|.l<|f++[.r t]):=by
   refine⟨λz o x=>by rw[aw<|aH x m.fL];exact u _ _ (m.s _ _ x),m.fL,by rw[aw<|Jv m.hC m.h];exact u _ _ m.hC,av,?_,λj Q=>?_,?_⟩;rw[DG];exact Ju (u _ _ m.h) (m.pL.mono<|aQ u) gU;rw[C];rcases R8.mp Q with h|h
   exact m.lt j h;rw[ZF] at h;cases h;rw[C];exact m.nb
  exact k _ _ _ _ K'
 |inl j=>
  have q_:=Q j O;have nl:=m.nb;have C:bW 0 (A++[.inl j])=j+1:=DH _ _ _;rw[C] at k;refine aX<|aL<|aa O<|ai<|gA ⟨_,O,iF ?_<|XH (by intro z;cases z)⟩;have ls:=alb l (bW 0 A) j;have b':(cf l (bW 0 A) j).length=j - bW 0 A:=by
   unfold cf;rw[Y7,Y0];lia
  refine cW<|eU<|aa O ⟨.inl ⟨O,_,ax.of m.h⟩,dt<|ao<|ai<|ao<|eU<|ai ⟨O,aly<|aa O<|aa O ⟨_,_,O,⟨ba,ba,ba,ba⟩,?_⟩⟩⟩;refine ajq ba (λi Y Z=>Z=H/\Y=((cf l (bW 0 A) j).take i).map λc=>V.s ⟨#[c]⟩) ⟨O,O⟩ ?_ ?_;rintro i Y Z hi _ ⟨rfl,rfl⟩ Q' kk;have e9:i<j - bW 0 A:=by lia
  obtain⟨c,hc,hv⟩:=i8 j O (bW 0 A+i) (lJ _ _) ba;show af (kO K E).calm (.B (.v 1)<|.v 0) [some<|.i<|((bW 0 A:Nat):Int)+(i:Int),some<|.r g] Z Q';rw[show((bW 0 A:Nat):Int)+(i:Int)=((bW 0 A+i:Nat):Int) by lia];have hg:=f_.k (k:=.inl ((bW 0 A+i:Nat):Int)) m.hC;rw[hv] at hg;refine bD<|aa O<|aa O ⟨g,_,O,hg,kk _ _ (aA.refl _) ⟨O,?_⟩⟩;have e:(cf l (bW 0 A) j)[i]?=some c:=by
   unfold cf;rw[dG e9,YV];exact hc
  rw[rL e,Z4];rfl;rintro Y Z w _ ⟨rfl,rfl⟩ fw;rw[show(((j:Nat):Int) - ((bW 0 A:Nat):Int)).toNat=(cf l (bW 0 A) j).length by rw[b'];lia,o_];have u:=Yb (o:=.l ((cf l (bW 0 A) j).map λc=>V.s ⟨#[c]⟩)) fw;have hw:fy Z w (.l<|(cf l (bW 0 A) j).map λc=>V.s ⟨#[c]⟩) w=some (.l<|((cf l (bW 0 A) j).map λc=>(⟨#[c]⟩:Str)).map V.s):=by rw[av,Zq];rfl
  generalize fy Z w (.l<|(cf l (bW 0 A) j).map λc=>V.s ⟨#[c]⟩)=I at u hw⊢;have ec:=ake (cf l (bW 0 A) j);have a':sz ((cf l (bW 0 A) j).map λc=>(⟨#[c]⟩:Str))<=1000000:=by rw[<-B_,ec,lZ];lia
  refine qH _ (ax.of hw) (Zm a') ?_;rw[show Txt.join "" ((cf l (bW 0 A) j).map λc=>(⟨#[c]⟩:Str))=⟨(cf l (bW 0 A) j).toArray⟩ from ec];refine aD ⟨cI,λt W=>?_⟩;have s2:=Yb (o:=.t [V.s "cut",V.s ⟨(cf l (bW 0 A) j).toArray⟩]) W;have fO:fy I t (.t [V.s "cut",V.s ⟨(cf l (bW 0 A) j).toArray⟩]) t=some (.t [.s (Pt.c ⟨(cf l (bW 0 A) j).toArray⟩).word,(Pt.c ⟨(cf l (bW 0 A) j).toArray⟩).val]):=av;generalize fy I t (.t [V.s "cut",V.s ⟨(cf l (bW 0 A) j).toArray⟩])=H3 at s2 fO⊢;have dF:=u.trans s2;have DP:=dF _ _ m.h;have p3:=Ju DP (m.pL.mono<|aQ dF) fO;refine qH _ DP (bV (oT lz (Zs _ _))) ?_;have b3:∀z o,Z z=some o->z≠L->fy H3 L (.l<|f++[.r t]) z=some o:=λz o x n=>by rw[aw n];exact dF _ _ x
  have Jw:fy H3 L (.l<|f++[.r t]) L=some (.l<|f++[.r t]):=av;generalize fy H3 L (.l<|f++[.r t])=H4 at b3 Jw p3⊢;have U:=b3 _ _ m.hC (Jv m.hC m.h);refine cW<|eU<|aa O ⟨.inl ⟨O,_,ax.of Jw⟩,dt<|ao<|ai<|ao<|VB<|ky<|aa O<|aa O ⟨trivial,VC<|aD ⟨cI,λF VG=>?_⟩⟩⟩;have ek:(if decide (((j:Nat):Int) < ((l.length:Nat):Int))=true then (1:Int) else 0)=if j<l.length then 1 else 0:=by
   by_cases h:j<l.length;rw[Fr h,Fr<|Y4 ba];rw[Fk h,Fk (by rw[XH ba];decide)]
  rw[ek];have G:=Yb (o:=.t [V.s "keep",V.i (if j<l.length then 1 else 0)]) VG;have rD:fy H4 F (.t [V.s "keep",V.i (if j<l.length then 1 else 0)]) F=some (.t [.s (Pt.k (if j<l.length then 1 else 0)).word,(Pt.k (if j<l.length then 1 else 0)).val]):=av;generalize fy H4 F (.t [V.s "keep",V.i (if j<l.length then 1 else 0)])=H5 at G rD⊢;have pX:=G _ _ Jw;have p6:=Ju pX (p3.mono<|aQ G) rD;refine qH _ pX (bV (by rw[Yy];show f.length+1<=_;lia)) ?_;refine aO<|bg<|aa O<|ai<|dW ?_;rw[show((j:Nat):Int)+1=((j+1:Nat):Int) by lia];have K':T3 l q (A++[.inl j]) g L M (f++[.r t]++[.r F]) (fy H5 L<|.l<|f++[.r t]++[.r F]):=by
   refine⟨λz o x=>?_,m.fL,?_,av,?_,λi hi=>?_,?_⟩;rw[aw<|aH x m.fL];exact G _ _ (b3 _ _ (m.s _ _ x)<|aH x m.fL);rw[aw<|Jv m.hC m.h];exact G _ _ U;rw[DG];show aC _ _ (pa l 0 A++([_]++[_]));rw[<-X7];exact p6;rw[C];rcases R8.mp hi with h|h
   have:=J j O i h;exact YF this;rw[ZF] at h;cases h;exact Zf _;rw[C];exact j2 q_ _
  exact k _ _ _ _ K'
end
inductive Jx(W:bi)(H:Hp)(Q:VK)(E:XK):Prop|i(a b:z4)(U Y:bi)(o D':be)(l m r:bv)(_:W=[.r a,.r b])(_:H a=some (.l U))(_:H b=some (.l Y))(_:aC H U o)(_:aC H Y D')(_:bU o l m)(_:bU D' m r)(_:(∀c∈l,SG.cps.contains c=true))(_:ay o+ay D'<=10000)(_:l.length<=20000)(_:m.length<=20000)(_:r.length<=20000)(_:∀c B zs,aA H B->H c=none->B c=some (.l zs)->aC B zs (w_ l o D')->Q (.r c) B)
theorem Ci(h:ps[i]?=some p):aq (ps.take<|i+1)=aq (ps.take i)++aN p/\aq ps=aq (ps.take i)++(aN p++aq (ps.drop<|i+1)):=by
 have e:aq (ps.take<|i+1)=aq (ps.take i)++aN p:=by rw[rL h,gc,gV]
 refine⟨e,?_⟩;rw[<-X7,<-e,<-gc,Yt]
section
variable{K:Frag}
theorem alD:cL (Jx) (λE=>kO K E) eG kr:=by
 intro W H Q E h;obtain⟨a,b,U,Y,d,D',l,m,r,rfl,ha,hb,mY,jc,c1,c2,gl,ht,ll,lm,lr,q⟩:=h;obtain⟨f1,f2⟩:=c1.run.fits;obtain⟨f3,f4⟩:=c2.run.fits;obtain⟨tp,_,DN,a',Jy,_⟩:=Vo c1 c2 gl ba;have lx:=FS mY;have ly:=FS jc;have n':(res 0<|aq d).length=m.length:=by rw[wI,<-uj _ _ f1,f2]
 have q':(res 0<|aq D').length=r.length:=by rw[wI,<-uj _ _ f3,f4]
 have f':∀{i:Nat}{p:Pt},d[i]?=some p->bZ p<=10000:=λhp=>by have:bZ _<=ay d:=tX (X_ hp);lia
 have e':∀{i:Nat}{p:Pt},D'[i]?=some p->bZ p<=10000:=λhp=>by have:bZ _<=ay D':=tX (X_ hp);lia
 refine aO<|cQ<|aD ⟨nE _,λG fG=>?_⟩;generalize zz:fy _ G _=I;have s1:=bC fG zz;have Jz:=bu zz;refine aO<|IJ λC fC=>?_;generalize zz:fy _ C _=Z;have s2:=bC fC zz;have j5:=bu zz;have ma:=s2 _ _ Jz;refine aO<|ai ?_;have T0:T1 l H (aq<|d.take 0) G C [] [] Z:=⟨s1.trans s2,fG,s1.free fC,ma,.nil,j5,nE _,λk S=>absurd S<|Nat.not_lt_zero _⟩;refine C9 (aa O (qH a O (qX _ (ax.of (T0.s _ _ ha))) (jk (K:=K) (a:=a) (xs:=U) (λi J H3=>∃(G:z4)(gs:bi)(A:ii)(N M f u:im),J=rT a b G C (aG (aq (d.take i))) N M f u/\T1 l H (aq (d.take i)) G C gs A H3)
  (uA G [] ⟨[],none,none,none,none,O,T0⟩) (by rintro i J H3 _ ⟨_,_,_,_,_,_,_,_,g⟩;exact ax.of (g.s _ _ ha)) ?_ ?_)))
 clear T0 ma j5 s2 fC Jz s1 fG;rintro i v J H3 hv zq;obtain⟨G,gs,A,N,M,f,u,rfl,g⟩:=Bo zq;obtain⟨p,X,t,rfl,jB⟩:=mU mY hv;obtain⟨et,ea⟩:=Ci X;have lg:=FS g.pG;have p':gs.length<=m.length:=by
  rw[lg,<-n',ea,jh,Yy];lia
 have tl:=f' X;refine uz (g.s _ _ jB) ?_;refine alh g (c1.ok p<|X_ X) (Y:=aq (d.drop<|i+1)) (by rw[<-ea];exact f1) ba ba ba λG' ni dX f u B I'=>?_;rw[<-et] at I'⊢;exact uA G' ni ⟨dX,_,_,f,u,O,I'⟩;clear T0 ma j5 Jz;rintro J H3 ⟨G,gs,A,N,M,f,u,rfl,g⟩;rw[lx,o_] at g⊢;have eo:aG (aq d)=l.length:=(i6 _ _ f1).symm;rw[eo];refine aO<|cQ<|aD ⟨nE _,λF fF=>?_⟩;generalize zz:fy _ F _=H4;have s4:=bC fF zz;have JA:=bu zz;refine aO<|ai ?_;have hm:m=(res 0<|aq d).map (w9 l):=by
  have:=DF (aq d) 0 l f1;rw[<-this];exact f2.symm
 have hr:∀j,.inl j∈res 0 (aq d)->j<l.length:=λj hj=>by have:=zg _ _ _ hj;lia
 have J0:T2 l H (res 0<|aq d) (aq<|D'.take 0) (aG<|aq<|D'.take 0) G C F gs [] A H4:=⟨g.s.trans s4,g.fC,s4 _ _ g.hG,g.pG.tt<|aQ s4,s4 _ _ g.hC,JA,.nil,by have:=g.lk;show _<=l.length+0;lia,λk S=>(g.ci k ba).imp (λh=>.inr (let ⟨p,hp⟩:=Zx h;(pQ p (nE _) hp))) id⟩;refine C9 (aa O (qH b O (qX _ (ax.of (J0.s _ _ hb))) (jk (K:=K) (a:=b) (xs:=Y) (λi J H5=>∃(F:z4)(fs:bi)(A:ii)(N M f u:im),J=ql a b G C l.length F (aG (aq (D'.take i))) N M f u/\T2 l H (res 0 (aq d)) (aq (D'.take i)) (aG (aq (D'.take i))) G C F gs fs A H5)
  (uA F [] ⟨A,N,M,f,u,O,J0⟩) (by rintro i J H5 _ ⟨_,_,_,_,_,_,_,_,g⟩;exact ax.of (g.s _ _ hb)) ?_ ?_)))
 clear J0 JA s4 fF;rintro i v J H5 hv zq;obtain⟨F,fs,A,N,M,f,u,rfl,D⟩:=Bo zq;obtain⟨p,X,t,rfl,rD⟩:=mU jc hv;obtain⟨et,ea⟩:=Ci X;have tl:=e' X;refine uz (D.s _ _ rD) ?_;refine als D (c2.ok p<|X_ X) hm hr (zs:=aq (D'.drop<|i+1)) (by rw[<-ea];exact f3) ?_ ba ba ba λF' oN dX f u B J'=>?_;show(List.map _ _).length<=_;rw[Y9];have:(res 0<|aq D').length=(res 0<|aq (D'.take i)++aN p).length+(res (0+aG (aq (D'.take i)++aN p))<|aq<|D'.drop<|i+1).length:=by rw[ea,<-X7,jh,Yy]
 lia;rw[<-et] at J'⊢;exact uA F' oN ⟨dX,_,_,f,u,O,J'⟩;clear J0 JA;rintro J H5 ⟨F,fs,A,N,M,f,u,rfl,D⟩;rw[ly,o_] at D⊢;refine aO<|cQ<|aD ⟨nE _,λL fL=>?_⟩;generalize zz:fy _ L _=H6;have s6:=bC fL zz;have DQ:=bu zz;refine aO<|ai ?_;have h':=FS D.pF;have m':fs.length=r.length:=by rw[h'];exact DN
 refine C9<|bg<|aa O<|cQ<|ao<|dt<|ao<|aa O<|ao<|ai<|aD ⟨cI,λt ft=>?_⟩;generalize zz:fy _ t _=H7;have s7:=bC ft zz;have j':=bu zz;refine aD ⟨jM,λw fw=>?_⟩;generalize zz:fy _ w _=H8;have s8:=bC fw zz;have i':=bu zz;have rV:=(s6.trans s7).trans s8;refine uD (rV _ _ D.hF) i' (by rw[m'];show _+1<=_;lia) λW1 fW=>?_;generalize zz:fy _ W1 _=H9;have s9:=bC fW zz;have VH:=bu zz;have JB:=rV.trans s9;have pW:jJ H9 (fs++[.r t]) (kN d D'++[.inl l.length]):=IO (D.pF.tt<|aQ JB) ⟨t,O,s9 _ _<|s8 _ _ j'⟩;have lW:=FS pW;have zo:=s9 _ _ (s8 _ _<|s7 _ _ DQ);have g':W1≠L:=λy=>by rw[y,s8 _ _<|s7 _ _ DQ] at fW;cases fW
 have zR:Up (kN d D'++[.inl l.length]):=by
  rw[Jy];refine XR.mpr ⟨DO a' 0,List.pairwise_singleton _ _,λx hx y hy i j ex ey=>?_⟩;rw[ZF] at hy;subst hy;cases ey;rw[ex,<-Jy] at hx;obtain⟨s,hs,es⟩:=gS.mp (show .inl i∈ (res 0<|aq D').map (sb (res 0<|aq d) 0) from hx);cases s with
  |inr c=>cases es
  |inl j=>
   have hj:j<m.length:=by have:=zg _ _ _ hs;rw[<-i6 _ _ f3] at this;lia
   have es:(res 0<|aq d).getD (j - 0) (.inr 0)=.inl i:=es;rw[X6,YO ba] at es;exact hr i (by rw[<-show(res 0<|aq d)[j - 0]'ba=.inl i from es];exact List.getElem_mem _)
 have cZ:∀k,k<l.length->.inl k∈kN d D'\/∃c,l[k]?=some c/\cv A (.inl (k:Int))=some (.s ⟨#[c]⟩):=λk S=>by
  rcases D.ci k S with(h|⟨p,hp,h⟩)|h
  exact .inl h;have:=(ZT.mp h).1;rw[<-i6 _ _ f3] at hp;lia;exact .inr h
 obtain⟨R,hR⟩:∃R,R=kN d D'++[.inl l.length]:=qX _ O;have lR:R.length=r.length+1:=by rw[hR,Yy,DN];rfl
 have d':ay (pa l 0 R)<=100000:=by rw[hR];lia
 have VI:∀j,.inl j∈R->j<=l.length:=λj hj=>by
  rw[hR] at hj;rcases R8.mp hj with h|h
  exact AP ((XR.mp zR).2.2 _ h _ (.head _) j l.length O O);rw[ZF] at h;cases h;exact Yw _
 have l':∀k,k<l.length->.inl k∈R\/∃c,l[k]?=some c/\cv A (.inl (k:Int))=some (.s ⟨#[c]⟩):=λk S=>(cZ k S).imp (λh=>by rw[hR];exact ZX _ h) id;have qR:∀c B zs,aA H B->H c=none->B c=some (.l zs)->aC B zs (iY<|pa l 0 R)->Q (.r c) B:=by rw[hR];exact q
 rw[<-hR] at pW lW zR;clear hR q cZ tp DN Jy;have K0:T3 l (λz=>if z=L then none else H9 z) (R.take 0) C L A [] H9:=⟨(λz o e=>by
  have e:(if z=L then none else H9 z)=some o:=e;by_cases y:z=L;rw[Fr y] at e;cases e;rw[Fk y] at e;exact e),Fr O,JB _ _ D.h,zo,.nil,(λk S=>by cases S),nE _⟩
 have bb:∀{B:Hp},aA (λz=>if z=L then none else H9 z) B->∀z o,H9 z=some o->z≠L->B z=some o:=λs z o e n=>s z o ((Fk n).trans e);refine qH W1 O (qX _ (ax.of VH)) (jk (K:=K) (a:=W1) (xs:=fs++[.r t]) (λi J jv=>∃(zs:bi)(nj dY:im),J=sE a b (some (.r G)) C l.length N M f u (some (.r F)) (bW 0 (R.take i)) L nj dY/\T3 l (λz=>if z=L then none else H9 z) (R.take i) C L A zs jv)
  (t_ [] none none O K0) (by rintro i J jv _ ⟨_,_,_,_,T⟩;exact ax.of (bb T.s _ _ VH g')) ?_ ?_)
 clear K0;rintro i v J jv hv ⟨zs,nj,dY,rfl,T⟩;obtain⟨P,DR,t',rfl,i_⟩:=mU pW hv;have um:R.take (i+1)=R.take i++[P]:=rL DR;have lT:=FS T.pL;have lp:=DI l 0 (R.take i);have o':(R.take i).length<=r.length+1:=by rw[Y7,lR];lia
 have VJ:=bb T.s _ _ i_ λy=>by rw[y,zo] at i_;cases i_
 have b':Up (R.take i++[P]):=by rw[<-um];exact List.Pairwise.sublist (Tm _ _) zR
 have i8:∀j,P=.inl j->∀k,bW 0 (R.take i)<=k->k<j->∃c,l[k]?=some c/\cv A (.inl (k:Int))=some (.s ⟨#[c]⟩):=λj ej k h1 h2=>by
  have hj:=VI j (by rw[<-ej];exact X_ DR);refine(l' k ba).resolve_left λhm=>?_;have k':R=R.take i++(P::R.drop (i+1)):=by
   obtain⟨Sh,he⟩:=ZT.mp DR;rw[<-he,<-Zy Sh,Yt]
  rw[k'] at hm zR;have u2:=(XR.mp zR).2.1;rcases R8.mp hm with h|h
  have:=T.lt k h;lia;rcases Z5.mp h with h|h
  rw[ej] at h;cases h;lia;have:=(List.pairwise_cons.mp u2).1 _ h j k ej O;lia
 have c':∃v w,rS P=[v,w]:=by cases P<;>exact uA _ _ O
 obtain⟨v1,v2,JC⟩:=c';have e1:some v1=(rS P)[0]?:=by rw[JC];rfl
 have e2:some v2=(rS P)[1]?:=by rw[JC];rfl
 rw[JC] at VJ;refine uz VJ ?_;rw[e1,e2];refine QQ T b' i8 (λj ej=>VI j (by rw[<-ej];exact X_ DR)) ba ba λY' B nj dY T'=>?_;rw[<-um] at T'⊢;exact t_ Y' nj dY O T';rintro J jv ⟨zs,nj,dY,rfl,T⟩;rw[lW,o_] at T⊢;have lp:=DI l 0 R;have qW:aA H jv:=λz o e=>bb T.s _ _ (JB _ _<|D.s _ _ e) (aH e<|D.s.free fL);exact b_<|bA pK O<|ao<|aa O<|aD ⟨L,zs,_,O,T.h,T.pL,ba,d',λc B ws s' fc hc pw=>qR c B ws (qW.trans s') (qW.free fc) hc pw⟩
end
abbrev Lg:=Str×bv×Option be
def kP(H:Hp)(v:V)(e:Lg):Prop:= ∃t,v=.r t/\match e.2.2 with
 |none=>H t=some (.t (.s e.1::(nV e.2.1++[])))
 |some ps=>∃l U,H t=some (.t (.s e.1::(nV e.2.1++[.r l])))/\H l=some (.l U)/\aC H U ps
section
variable{K:Frag}{H B:Hp}{E:XK}{Q:VK}
theorem kP.same(h:kP H v e)(s:aA H B):kP B v e:=by
 obtain⟨t,rfl,h⟩:=h;obtain⟨w,n,o⟩:=e;cases o with
 |none=>exact pQ t O (s _ _ h)
 |some ps=>
  obtain⟨l,U,c,b,a⟩:=h;exact pQ t O ⟨l,U,s _ _ c,s _ _ b,a.mono<|aQ s⟩
def zS(H:Hp)(t:bi):Prop:=t=[]\/∃l U,t=[.r l]/\H l=some (.l U)
theorem DS(n:bv):(nV n).length=n.length:=Y9 ..
theorem VL(w:V)(n:bv)(t:bi):iP (w::(nV n++t)) (some 1) (some<|1+((nV n).length:Nat))=nV n:=by
 have h:=Uw (w::(nV n++t)) 1 (1+(nV n).length);rw[show(((1:Nat):Int))=1 from O,show(((1+(nV n).length:Nat)):Int)=1+(((nV n).length:Nat):Int) by lia] at h;rw[h,X5];show(nV n++t).take _=_;rw[List.take_left]
theorem JD(b:mB):¬(HT.bh (n+1) 0 (some 1)=0/\HT.bh (n+1) (n+1) b=n+1):=nofun
abbrev kQ(K:Frag)(E:XK):aW:=aJ K [("_law_whole",mG),("_law_same",ux)] [] (E:=E)
theorem alQ{a:z4}{c:bi}{Q:bi->Hp->z4->Prop}(u:H a=some (.t<|nV s++c))(G:zS H c)(N:s.length<=100)(X:∀p,H p=none->Q (nV s) H p):∃W:Nat->Nat->bi->Hp->Prop,(∃m,W 0 m [] H)/\∀i m Y Z,W i m Y Z->
   ((mq K a).stop i Z/\∀p,Z p=none->Q Y Z p)\/
   ((mq K a).go i Z/\∀x A,(mq K a).gh i Z x A->jR K none x A λzs=>k_ (some (bo (kQ K E).calm (.n (.R .l (.v 0))))) (zs.map some++cN J []) A λb f=>
    if b=true then af (kQ K E).calm (.v 0) (zs.map some++cN J []) f λy g=>Y.length<sizeLine/\∃j,j<m/\W (i+1) j (Y++[y]) g else ∃j,j<m/\W (i+1) j Y f):=by
 have D:=DS s;refine pQ (λi m Y B=>m=(nV s++c).length - i/\i<= (nV s++c).length/\Y=(nV s).take i/\B=H) (tH _ O (nE _) O O) ?_;rintro i m Y B ⟨rfl,P,rfl,rfl⟩;by_cases o:i< (nV s++c).length;obtain⟨v,h⟩:∃v,(nV s++c)[i]?=some v:=qX _ (YO o);refine .inr ⟨q9 _ _ (aF.of u) h,?_⟩;rintro y f ⟨rfl,F⟩;have q:=F _ (aF.of u);rw[h] at q;by_cases C:i<s.length;have e:(nV s)[i]?=some (.i (s[i]:Nat)):=by rw[Yi,YO C];rfl
 rw[X4 ba,e] at h;cases h;cases q;have k:bo (kQ K E).calm (.n<|.R .l<|.v 0) [some<|.i (s[i]:Nat)] f λb g=>if b=true then af (kQ K E).calm (.v 0) [some<|.i (s[i]:Nat)] g λy z=>(((nV s).take i).length<sizeLine/\∃d,d< (nV s++c).length - i/\d=(nV s++c).length - (i+1)/\i+1<= (nV s++c).length/\(nV s).take i++[y]=(nV s).take (i+1)/\z=f) else ∃d,d< (nV s++c).length - i/\d=(nV s++c).length - (i+1)/\i+1<= (nV s++c).length/\(nV s).take i=(nV s).take (i+1)/\g=f:=
  fQ (oE<|aa O<|UC<|iT (aa O ⟨bV (by rw[Y7];lia),_,ba,O,o,(rL e).symm,O⟩) O)
 exact k;rcases G with rfl|⟨l,U,rfl,I⟩
 rw[Yh] at o;omega;have w:i=s.length:=by rw[Yy] at o;have:([V.r l]).length=1:=O;lia
 rw[YI ba,D,w,Xy] at h;cases h;cases q;have M:(nV s).take i=(nV s).take (i+1):=by rw[RP ba,RP ba]
 have k:bo (kQ K E).calm (.n<|.R .l<|.v 0) [some<|.r l] f λb g=>if b=true then af (kQ K E).calm (.v 0) [some<|.r l] g λy z=>(((nV s).take i).length<sizeLine/\∃d,d< (nV s++[V.r l]).length - i/\d=(nV s++[V.r l]).length - (i+1)/\i+1<= (nV s++[V.r l]).length/\(nV s).take i++[y]=(nV s).take (i+1)/\z=f) else ∃d,d< (nV s++[V.r l]).length - i/\d=(nV s++[V.r l]).length - (i+1)/\i+1<= (nV s++[V.r l]).length/\(nV s).take i=(nV s).take (i+1)/\g=f:=
  fQ (oE<|aa O<|v5 I<|iF ⟨_,ba,O,o,M,O⟩ O)
 exact k;refine .inl ⟨pQ _ (aF.of u) (Zv o),λp L=>?_⟩;rw[RP (by rw[(Yk P (Zv o)),Yy];exact lJ _ _)];exact X p L
theorem alR{a:z4}{Q:bi->Hp->z4->Prop}(h:H a=some (.t<|nV s))(z:s.length<=100)(X:∀p,H p=none->Q [] H p):∃W:Nat->Nat->bi->Hp->Prop,(∃m,W 0 m [] H)/\∀i m Y Z,W i m Y Z->
   ((mq K a).stop i Z/\∀p,Z p=none->Q Y Z p)\/
   ((mq K a).go i Z/\∀x f,(mq K a).gh i Z x f->jR K none x f λzs=>k_ (some (bo (kQ K E).calm (.n (.l 0 [.v 0])))) (zs.map some++cN J []) f λb c=>
    if b=true then af (kQ K E).calm (.v 0) (zs.map some++cN J []) c λy e=>Y.length<sizeLine/\∃d,d<m/\W (i+1) d (Y++[y]) e else ∃d,d<m/\W (i+1) d Y c):=by
 have w:=DS s;refine pQ (λi m Y o=>m=s.length - i/\i<=s.length/\Y=[]/\o=H) (tH _ O (nE _) O O) ?_;rintro i m Y o ⟨rfl,A,rfl,rfl⟩;by_cases R:i<s.length;have j:(nV s)[i]?=some (.i (s[i]:Nat)):=by rw[Yi,YO R];rfl
 refine .inr ⟨q9 _ _ (aF.of h) j,?_⟩;rintro y c ⟨rfl,q⟩;have g:=q _ (aF.of h);rw[j] at g;cases g;have k:bo (kQ K E).calm (.n<|.l 0 [.v 0]) [some<|.i (s[i]:Nat)] c λb e=>if b=true then af (kQ K E).calm (.v 0) [some<|.i (s[i]:Nat)] e λy u=>(([]:bi).length<sizeLine/\∃G,G<s.length - i/\G=s.length - (i+1)/\i+1<=s.length/\[]++[y]=([]:bi)/\u=c) else ∃G,G<s.length - i/\G=s.length - (i+1)/\i+1<=s.length/\([]:bi)=[]/\e=c:=
  fQ (kA mG O<|ao<|aa O<|aD ⟨_,O,j3<|iF ⟨_,ba,O,R,O,O⟩ O⟩)
 exact k;exact .inl ⟨pQ _ (aF.of h) ba,λp r=>X p r⟩
theorem VM{l:RE}(h:af u a J H λx I=>af u l J I λi Z=>∃b:Int,i=.i b/\vF u.K x (some b) none Z Q):af u (.s a (some l) none) J H Q:=h
theorem alS{r:ga}(h:af u e J H λv I=>az u r D (J.set i<|some v) I):az u (.Bw i e::r) D J H:=h
theorem VO{c:RE}(h:af u x J H λv I=>∃a,v=.r a/\(∃U,aF u.K I a U)/\∃W:Nat->Nat->bi->Hp->Prop,(∃m,W 0 m [] I)/\∀i m Y Z,W i m Y Z->
   ((mq u.K a).stop i Z/\∀p,Z p=none->Q (.r p) (fy Z p<|.l Y))\/
   ((mq u.K a).go i Z/\∀x f,(mq u.K a).gh i Z x f->jR u.K none x f λzs=>k_ (some (bo u.calm c)) (zs.map some++cN J fv) f λb g=>
    if b=true then af u.calm e (zs.map some++cN J fv) g λy j=>Y.length<sizeLine/\∃d,d<m/\W (i+1) d (Y++[y]) j else ∃d,d<m/\W (i+1) d Y g)):af u (.C none fv .p [x] (some c) e) J H Q:=h
inductive zT(W:bi)(H:Hp)(Q:VK)(E:XK):Prop|i(v a:V)(e:Lg)(_:W=[v,a])(_:kP H v e)(_:kP H a e)(_:e.2.1.length<=10)(_:∀B,aA H B->Q (.b true) B)
theorem VP{f z:bi}(g:H t=some (.t (.s w::(nV n++f))))(j:H q=some (.t (.s w::(nV n++z))))(h1:zS H f)(W:zS H z)(T:f.length=z.length)(ln:n.length<=10)(k:∀B N,aA H B->B N=some (.l<|nV n)->af (kQ K E) (.o [(.p .Eq (.b .Add (.t .l [.v 2])<|.c<|.i 1)<|.t .l [.v 1]),(.l 1 [(.i (.v 0)<|.N<|.c<|.i 1),(.i (.v 1)<|.N<|.c<|.i 1)])]) [some<|.r t,some<|.r q,some<|.r N] B Q):
  az (kQ K E) GA (Dn Q) (Y2 Gz [.r t,.r q]) H:=by
 have R:(.s w::(nV n++f)).length=(.s w::(nV n++z)).length:=by simp[T]
 refine aX<|jI<|fQ<|oE<|aa O<|v3 g<|iF (jI<|aL<|dE<|aa O<|wY g<|dE<|aa O<|wY j<|wJ ⟨_,O,iF ?_ (by lia)⟩) O;refine oF<|aL<|bF<|aa O<|ai<|c9 g (show e8 (.s w::(nV n++f)) ((0:Nat):Int)=_ from eM O)<|bF<|aa O<|ai<|c9 j (show e8 (.s w::(nV n++z)) ((0:Nat):Int)=_ from eM O)<|Us ⟨_,O,iF (cb (alS<|VO<|VM<|aa O<|ai ⟨_,O,.inr ⟨_,aF.of j,JD none,λa fa=>?_⟩⟩)) O⟩;rw[ajz];generalize zz:fy _ a _=I;have C:=bC fa zz;have L:=bu zz;have S:∀{f:bi}{B:Hp},zS H f->aA H B->zS B f:=λh s=>h.imp id λ⟨l,U,e,h⟩=>q9 l U e (s _ _ h);refine qH a O (qX _ (aF.of L)) (alQ L (S W C) (oT ln (Zs _ _)) λN fN=>?_);generalize zz:fy _ N _=Z;have D:=bu zz;have F:=C.trans (bC fN zz);refine aX<|aL<|p9<|Uv<|aa O<|ai ⟨_,O,bg<|ai<|dE<|aa O<|.inl ⟨_,ax.of D,dW ⟨_,O,.inr ⟨_,aF.of<|F _ _ g,JD _,λb fb=>?_⟩⟩⟩⟩;rw[VL];generalize zz:fy _ b _=H3;have A:=bC fb zz;refine pQ _ (.inr<|aF.of (bu zz)) (λc fc=>?_);generalize zz:fy _ c _=H4;have y:=bC fc zz;have J:=y _ _ (A _ _ D);have X:=(F.trans A).trans y;refine aa O<|akf (bu zz) J ⟨_,O,iF (cb (aX<|aL<|dE<|VO<|Uv<|aa O<|ai ⟨_,O,bg<|ai<|dE<|aa O<|.inl ⟨_,ax.of J,dW ⟨_,O,.inr ⟨_,aF.of<|X _ _ g,JD _,λd fd=>?_⟩⟩⟩⟩)) O⟩;rw[VL];generalize zz:fy _ d _=H5;have x:=bC fd zz;have G:=bu zz;refine qH d O (qX _ (aF.of G)) (alR G (oT ln (Zs _ _)) λe Y=>?_);have u:=Yb (o:=.l []) Y;exact .inl (pQ [] (ax.of av) (ai (tL trivial _ O (iF (cb (b_<|k _ N ((X.trans x).trans u)<|u _ _<|x _ _ J)) O))))
theorem alV(W:bi)(H:Hp)(Q:VK)(E:XK)(m:zT W H Q E):az (kQ K E) GA (Dn Q) (Y2 Gz W) H:=by
 obtain⟨v,u,⟨w,n,o⟩,rfl,⟨t,rfl,h⟩,⟨x,rfl,d⟩,e,q⟩:=m;cases o with
 |none=>
  refine VP h d (.inl O) (.inl O) O e λI N a b=>Uy<|ky<|bg<|dE<|aa O<|.inl ⟨_,ax.of b,ai<|dW<|dE<|aa O<|wY (a _ _ d)<|jE ⟨_,O,iT (q _ a)<|Y4 ?_⟩⟩;rw[Yh];show _=(((nV n).length+1:Nat):Int);lia
 |some ps=>
  obtain⟨l,U,zq⟩:=ZL h;obtain⟨i,f,p⟩:=Yo zq;obtain⟨l',j,zq⟩:=ZL d;obtain⟨g,y,c⟩:=Yo zq;refine VP i g (.inr ⟨l,U,O,f⟩) (.inr ⟨l',j,O,y⟩) O e λI N a b=>Uy<|ky<|bg<|dE<|aa O<|.inl ⟨_,ax.of b,ai<|dW<|dE<|aa O<|wY (a _ _ g)<|jE ⟨_,O,iF ?_<|XH ?_⟩⟩;refine bA ux O (ao<|bF<|aa O<|wL<|c9 (a _ _ i) (show e8 ((.s w::nV n)++[.r l]) (-1)=_ from vn _ _)<|ao<|bF<|aa O<|wL<|c9 (a _ _ g) (show e8 ((.s w::nV n)++[.r l']) (-1)=_ from vn _ _)<|aD ⟨l,l',U,j,ps,O,a _ _ f,a _ _ y,p.mono<|aQ a,c.mono<|aQ a,λB k=>q _<|a.trans k⟩);rw[Zc,Yy];show ¬_=(((nV n).length+1+1:Nat):Int);lia
inductive rW(W:bi)(H:Hp)(Q:VK)(E:XK):Prop|i(a b:z4)(zs w:bi)(s:List Lg)(_:W=[.r a,.r b])(_:H a=some (.l zs))(_:H b=some (.l w))(_:Paired (kP H) zs s)(_:Paired (kP H) w s)(_:(∀e∈s,e.2.1.length<=10))(_:s.length<=1000)(_:∀B,aA H B->Q (.b true) B)
theorem alX{c:RE}(h:af u x J H λv I=>∃j:Int,[v]=[.i j]/\ -(2 ^ 62)<=j/\j<2 ^ 62/\∃W:Nat->Nat->bi->Hp->Prop,(∃m,W 0 m [] I)/\∀i m Y Z,W i m Y Z->
   ((fu 0 j.toNat).stop i Z/\∀p,Z p=none->Q (.r p) (fy Z p<|.l Y))\/
   ((fu 0 j.toNat).go i Z/\∀x d,(fu 0 j.toNat).gh i Z x d->jR u.K none x d λzs=>k_ (some (bo u.calm c)) (zs.map some++cN J fv) d λb f=>
    if b=true then af u.calm elt (zs.map some++cN J fv) f λy g=>Y.length<sizeLine/\∃a,a<m/\W (i+1) a (Y++[y]) g else ∃a,a<m/\W (i+1) a Y f)):af u (.C none fv .e [x] (some c) elt) J H Q:=h
abbrev pE(K:Frag)(E:XK):aW:=aJ K [("_law_letter_same",zT)] [] (E:=E)
theorem alY(W:bi)(H:Hp)(Q:VK)(E:XK)(D:rW W H Q E):az (pE K E) Rl (Dn Q) (Y2 B7 W) H:=by
 obtain⟨a,b,zs,w,U,rfl,f,h,p,o,g,S,q⟩:=D;have N:=FS p;have P:=FS o;refine aX<|jI<|fQ<|oE<|aa O<|v5 f<|iF ?_ O;refine oF<|aL<|dE<|aa O<|.inl ⟨_,ax.of f,dE<|aa O<|.inl ⟨_,ax.of h,wJ ⟨_,O,iF (cb ?_) ba⟩⟩⟩;refine b_<|ky<|dE<|alX<|dE<|aa O<|.inl ⟨_,ax.of h,_,O,ba,ba,?_⟩;rw[Yf];refine pQ (λi m Y Z=>m=w.length - i/\i<=w.length/\Y=[]/\aA H Z) (tH _ O (nE _) O (aA.refl _)) ?_;rintro i m Y Z ⟨rfl,T,rfl,s⟩;by_cases R:i<w.length;refine .inr ⟨R,?_⟩;rintro y M ⟨rfl,rfl⟩;have z:=YO R;have x:zs[i]?=some (zs[i]'ba):=YO ba;obtain⟨e,u,B⟩:=mU o z;obtain⟨V,I,C⟩:=mU p x;rw[u] at I;cases I;have k:bo (pE K E).calm (.n<|.l 0 [(.i (.v 1)<|.v 0),(.i (.v 2)<|.v 0)]) [some<|.i ((i:Nat):Int),some<|.r a,some<|.r b] M λc j=>if c=true then af (pE K E).calm (.v 0) [some<|.i ((i:Nat):Int),some<|.r a,some<|.r b] j λy L=>(([]:bi).length<sizeLine/\∃G,G<w.length - i/\G=w.length - (i+1)/\i+1<=w.length/\[]++[y]=([]:bi)/\aA H L) else ∃G,G<w.length - i/\G=w.length - (i+1)/\i+1<=w.length/\([]:bi)=[]/\aA H j:=by
  refine fQ<|kA zT O<|ao<|bF<|aa O<|aa O<|iG (s _ _ f) (eM x)<|ao<|bF<|aa O<|aa O<|iG (s _ _ h) (eM z)<|aD ⟨_,_,e,O,C.same s,B.same s,g e<|X_ u,λj A=>j3<|iF ⟨_,(by omega),O,R,O,s.trans A⟩ O⟩
 have t:=k;rw[show((i:Nat):Int)=0+(i:Int) by lia] at t;exact t;have J:i=w.length:=by lia
 subst J;exact .inl ⟨Yw _,λd F=>.inl (pQ [] (ax.of av) (ai<|jE (q _<|s.trans<|Yb F)))⟩
def DT:Sp:=λW H Q E=>∃(v c:V)(o:Option be),W=[v,c]/\(match o with|none=>v=.a/\c=.a|some ps=>∃a b U Y,v=.r a/\c=.r b/\H a=some (.l U)/\H b=some (.l Y)/\aC H U ps/\aC H Y ps)/\∀B,aA H B->Q (.b true) B
abbrev apO(K:Frag)(E:XK):aW:=aJ K [("_law_same",ux)] [] (E:=E)
theorem Z6(W:bi)(H:Hp)(Q:VK)(E:XK)(d:DT W H Q E):az (apO K E) Rq (Dn Q) (Y2 B7 W) H:=by
 obtain⟨v,g,o,rfl,h,q⟩:=d;cases o with
 |none=>
  obtain⟨rfl,rfl⟩:=h;exact aX<|aL<|aa O<|ai<|gA ⟨_,O,iT (b_<|ky<|aa O<|ai<|gA<|q _<|aA.refl _)<|Y4 O⟩
 |some ps=>
  obtain⟨a,b,U,Y,rfl,rfl,f,e,p,c⟩:=h;exact aX<|aL<|aa O<|ai<|gA ⟨_,O,iF (cb<|b_<|bA ux O<|ao<|aa O<|ao<|aa O<|aD ⟨a,b,U,Y,ps,O,f,e,p,c,q⟩) jH⟩
end
theorem VQ:∀(ts:bn)(k:Nat)(X:Str),(textFrom k X ts).length<=X.length+piled ts
 |[],k,X=>lJ _ _
 |t::r,k,X=>by
  have h:=VQ r (k+1) (X++(if k>0 then ", " else "":Fa)++t);have e:(X++(if k>0 then ", " else "":Fa)++t).length=X.length+(if k>0 then 2 else 0)+t.length:=by
   rw[Rs,Rs];split<;>rfl
  rw[Ix];show(textFrom (k+1) _ r).length<=_;lia
theorem JF(ts:bn):(listText ts).length<=piled ts+2:=by
 unfold listText;rw[Rs];have h:=VQ ts 0 "[";have a:("[":Str).length=1:=O;have e:("]":Str).length=1:=O;lia
theorem JG(ts:bn):(tupleText ts).length<=piled ts+3:=by
 unfold tupleText;rw[Rs,Rs];have b:("(":Str).length=1:=O;have a:(Str.ofString (if ts.length==1 then ",)" else ")":Fa)).length<=2:=by split<;>decide
 have e:(Str.join ", " ts).length<=piled ts:=by
  by_cases h:ts=[];subst h;decide;have:=join_length_add ts h;lia
 lia
theorem JH{a:Type}(f:a->EQ)(B:Nat):∀U:List a,(∀x∈U,(f x).shown.length<=B)->piled (PyData.shownAll<|U.map f)<= (B+2)*U.length
 |[],_=>nE _
 |x::U,h=>by
  show piled ((f x).shown::PyData.shownAll (U.map f))<=_;rw[Ix,Zc];have d:=h x (.head _);have c:=JH f B U λy b=>h y (.tail _ b);lia
theorem DU{a:Type}(f:a->EQ):∀U:List a,(∀x∈U,(f x).showable=true)->PyData.showableAll (U.map f)=true
 |[],_=>O
 |x::U,h=>by
  show((f x).showable && PyData.showableAll (U.map f))=true;rw[h x<|.head _,DU f U λy b=>h y (.tail _ b)];rfl
theorem zV{a:Type}(f:a->EQ)(B:Nat):∀U:List a,(∀x∈U,(f x).depth<=B)->PyData.depthAll (U.map f)<=B
 |[],_=>nE _
 |x::U,h=>by
  exact Nat.max_le.mpr ⟨h x<|.head _,zV f B U λy b=>h y (.tail _ b)⟩
theorem Pv{c:Nat}(h:SG.cps.contains c=true):c<16 ^ 8:=by
 have a:SG.cps.toList.all (λc=>decide<|c<0x110000)=true:=O;have m:c∈SG.cps.toList:=by simpa using h
 have:=IR (YR.mp a c m);exact Zr this (Yd (Zs _ _))
theorem JI{i:Int}(a:0<=i)(h:i<1000000):(PyData.int i).shown.length<=6/\(PyData.int i).showable=true:=by
 refine⟨PyProof.Rows.toString_length_le a (X9 _) ba,Y4 ?_⟩;by_cases z:i.natAbs=0;rw[z];decide;have:i.natAbs.log2<20:=(Nat.log2_lt z).mpr ba;exact XG this (Zs _ _)
theorem VR(h:∀c∈s.cps.toList,SG.cps.contains c=true):(PyData.str s).shown.length<=10*s.length+2/\(PyData.str s).showable=true:=
 ⟨Tk s λc a=>Pv (h c a),O⟩
theorem al7(p:Pt):(PyData.str p.word).shown.length<=42/\(PyData.str p.word).showable=true:=by
 have k:∀w:Str,(w="keep"\/w="put"\/w="cut")->(PyData.str w).shown.length<=42/\(PyData.str w).showable=true:=λw h=>by
  have a:∀c∈w.cps.toList,c<16 ^ 8:=by
   rcases h with rfl|rfl|rfl<;>decide+kernel
  have b:w.length<=4:=by
   rcases h with rfl|rfl|rfl<;>decide+kernel
  have:=Tk w a;exact⟨oT this ba,O⟩
 cases p with
 |k n=>exact k _ (.inl O)
 |p s=>exact k _ (.inr<|.inl O)
 |c s=>exact k _ (.inr<|.inr O)
theorem al8(o:a_ p)(h:∀n,p=.k n->n<1000000):(zd p).shown.length<=60+10*bZ p/\(zd p).showable=true/\(zd p).depth<=1:=by
 have w:=al7 p;have v:(rm p).shown.length<=10*bZ p+6/\(rm p).showable=true/\(rm p).depth=0:=by
  cases p with
  |k n=>
   have:=JI (Int.le_trans (Vz _) o) (h n O);exact⟨this.1,this.2,O⟩
  |p s=>
   have:=VR o.1.2;exact⟨oT this.1 (by exact j2 (lJ _ _) _),this.2,O⟩
  |c s=>
   have:=VR o.1.2;exact⟨oT this.1 (by show 10*s.length+2<=10*s.length+6;exact j2 (lJ _ _) _),this.2,O⟩
 refine⟨?_,?_,?_⟩;show(tupleText [(PyData.str p.word).shown,(rm p).shown]).length<=_;have:=JG [(PyData.str p.word).shown,(rm p).shown];rw[Ix,Ix,piled_nil] at this;lia;show((PyData.str p.word).showable && ((rm p).showable && true))=true;rw[v.2.1];rfl;show max 0 (max (rm p).depth 0)+1<=1;rw[v.2.2];decide
abbrev dP(ps:be):EQ:=.list (ps.map zd)
theorem VS:∀ps:be,(∀p∈ps,(zd p).shown.length<=60+10*bZ p)->piled (PyData.shownAll<|ps.map zd)<=62*ps.length+10*ay ps
 |[],_=>nE _
 |p::ps,h=>by
  show piled ((zd p).shown::PyData.shownAll (ps.map zd))<=_;rw[Ix];have c:=h p (.head _);have b:=VS ps λq a=>h q (.tail _ a);have e:ay (p::ps)=bZ p+ay ps:=O;rw[Zc];lia
theorem VT:∀(ps:be)(n:Int),.k n∈ps->n.toNat<=cA ps
 |p::ps,n,h=>by
  rcases Z5.mp h with h|h
  rw[<-h];exact lJ _ _;have:=VT ps n h;cases p with
  |k m=>exact Z_ this
  |p s=>exact this
  |c s=>exact Z_ this
theorem DV(h:bU ps l r)(t:ay ps<=5000)(b:l.length<=20000):(dP ps).shown.length<=680000/\(dP ps).showable=true/\(dP ps).depth<=2:=by
 have c:=oG h t;have o:=zp h.run;have k:=λp a=>al8 (h.ok p a) λn e=>by
  subst e;have:=VT ps n a;lia
 refine⟨?_,DU zd ps λp a=>(k p a).2.1,?_⟩;show(listText<|PyData.shownAll<|ps.map zd).length<=_;have f:=JF (PyData.shownAll<|ps.map zd);have d:=VS ps λp a=>(k p a).1;lia;have:=zV zd 1 ps λp a=>(k p a).2.2;exact j2 this _
noncomputable def gE(e:Lg):EQ:=.tuple (.str e.1::(e.2.1.map (λk=>PyData.int (k:Nat))++match e.2.2 with|none=>[]|some ps=>[dP ps]))
abbrev nq(e:List Lg):EQ:=.list (e.map gE)
def xb(ps:be):Prop:=(dP ps).shown.length<=680000/\(dP ps).showable=true/\(dP ps).depth<=2
def qm(e:Lg):Prop:=(e.1="ask"\/e.1="again")/\e.2.1.length<=3/\(∀n∈e.2.1,n<1000000)/\∀ps,e.2.2=some ps->xb ps
theorem al_(a b:bn):piled (a++b)=piled a+piled b:=by
 induction a with
 |nil=>simp[piled]
 |cons x a i=>rw[Yn,Ix,Ix];lia
theorem VU(a b:List EQ):PyData.shownAll (a++b)=PyData.shownAll a++PyData.shownAll b:=by
 induction a with
 |nil=>rfl
 |cons x a i=>show x.shown::PyData.shownAll (a++b)=_;rw[i];rfl
theorem ama(a b:List EQ):PyData.showableAll (a++b)=(PyData.showableAll a && PyData.showableAll b):=by
 induction a with
 |nil=>rfl
 |cons x a i=>show(x.showable && PyData.showableAll (a++b))=((x.showable && PyData.showableAll a) && PyData.showableAll b);rw[i,Bool.and_assoc]
theorem amb(a b:List EQ)(n:Nat)(h:PyData.depthAll a<=n)(c:PyData.depthAll b<=n):PyData.depthAll (a++b)<=n:=by
 induction a with
 |nil=>exact c
 |cons x a i=>
  have h:max x.depth (PyData.depthAll a)<=n:=h;show max x.depth (PyData.depthAll<|a++b)<=n;lia
theorem JJ(h:qm e):(gE e).shown.length<=681000/\(gE e).showable=true/\(gE e).depth<=3:=by
 obtain⟨d,s,g,p⟩:=h;have w:(PyData.str e.1).shown.length<=100:=by
  rcases d with d|d
  rw[d];have:=Tk "ask" (by decide+kernel);exact oT this (by decide+kernel);rw[d];have:=Tk "again" (by decide+kernel);exact oT this (by decide+kernel)
 have r:=JH (λk:Nat=>PyData.int (k:Nat)) 6 e.2.1 λn f=>(JI (Vz _) (by have:=g n f;lia)).1;obtain⟨l,u⟩:∃l,l=(match e.2.2 with|none=>[]|some ps=>[dP ps]:List EQ):=⟨_,O⟩;have t:piled (PyData.shownAll l)<=680002/\PyData.showableAll l=true/\PyData.depthAll l<=2:=by
  cases o:e.2.2 with
  |none=>rw[o] at u;rw[u];exact⟨nE _,O,nE _⟩
  |some ps=>
   rw[o] at u;obtain⟨a,b,c⟩:=p ps o;rw[u];refine⟨?_,?_,?_⟩;exact j2 (j2 a _) _;show((dP ps).showable && true)=true;rw[b];rfl;show max (dP ps).depth 0<=2;lia
 have q:gE e=.tuple (.str e.1::(e.2.1.map (λk=>PyData.int (k:Nat))++l)):=u▸rfl;rw[q];refine⟨?_,?_,?_⟩;show(tupleText ((PyData.str e.1).shown::PyData.shownAll (e.2.1.map (λk=>PyData.int (k:Nat))++l))).length<=_;have:=JG ((PyData.str e.1).shown::PyData.shownAll (e.2.1.map (λk=>PyData.int (k:Nat))++l));rw[Ix,VU,al_] at this;rw[VU];lia;show(true && PyData.showableAll (e.2.1.map (λk=>PyData.int (k:Nat))++l))=true;rw[ama,(DU (λk:Nat=>PyData.int (k:Nat)) e.2.1 λn f=>(JI (Vz _) (by have:=g n f;lia)).2),t.2.1];rfl;show max 0 (PyData.depthAll<|e.2.1.map (λk=>PyData.int (k:Nat))++l)+1<=3;have:=amb _ _ 2 (oT (zV (λk:Nat=>PyData.int (k:Nat)) 0 e.2.1 λn f=>Yw _) ap) t.2.2;lia
theorem DW{b:Type}(f:b->EQ)(B k:Nat)(U:List b)(n:U.length<=20)(c:B<=700000)(h:∀x∈U,(f x).shown.length<=B/\(f x).showable=true/\(f x).depth<=k):(PyData.list<|U.map f).shown.length<= (B+2)*U.length+2/\(PyData.list<|U.map f).showable=true/\(PyData.list<|U.map f).depth<=k+1:=by
 refine⟨?_,DU f U λe a=>(h e a).2.1,?_⟩;exact oT (JF (PyData.shownAll<|U.map f)) (j2 (JH f B U λe a=>(h e a).1) _);have:=zV f k U λe a=>(h e a).2.2;exact j2 this _
noncomputable def zk:bn->bi->ii
 |n::s,v::W=>(.inr n,v)::zk s W
 |_,_=>[]
theorem DX:∀(s:bn)(W:bi)(i:Nat)(n:Str)(v:V),s.Nodup->s[i]?=some n->W[i]?=some v->cv (zk s W) (.inr n)=some v:=by
 intro s;induction s with
 |nil=>intro W i n v _ h;cases h
 |cons m s r=>
  intro W i n v d h a;cases W with
  |nil=>cases a
  |cons w W=>
   cases i with
   |zero=>
    cases h;cases a;exact jQ O
   |succ i=>
    obtain⟨e,c⟩:=aM.mp d;have f:n∈s:=X_ h;show cv ((Sum.inr m,w)::zk s W) (.inr n)=_;have b:¬(Sum.inr m:ZA)=Sum.inr n:=λz=>e ba;rw[iS b];exact r W i n v c h a
theorem VW(n:Str)(w:V):∀(s:bn)(W:bi),n∉s->(zk s W).map (λk=>if k.1=Sum.inr n then (k.1,w) else k)=zk s W
 |[],W,_=>O
 |m::s,[],_=>O
 |m::s,v::W,h=>by
  have a:¬(Sum.inr m:ZA)=.inr n:=λz=>h (by rw[Sum.inr.inj z];exact .head _);show(if (Sum.inr m:ZA)=Sum.inr n then (Sum.inr m,w) else (Sum.inr m,v))::_=_;rw[Fk a,VW n w s W λz=>h (.tail _ z)];rfl
theorem VX(w:V):∀(s:bn)(W:bi)(i:Nat)(n:Str),s.Nodup->s[i]?=some n->(zk s W).map (λk=>if k.1=Sum.inr n then (k.1,w) else k)=zk s (W.set i w):=by
 intro s;induction s with
 |nil=>intro W i n _ h;cases h
 |cons m s r=>
  intro W i n d h;cases W with
  |nil=>exact O
  |cons v W=>
   cases i with
   |zero=>
    cases h;show(if (Sum.inr m:ZA)=Sum.inr m then (Sum.inr m,w) else (Sum.inr m,v))::_=_;rw[Fr O,VW m w s W (aM.mp d).1];rfl
   |succ i=>
    obtain⟨c,b⟩:=aM.mp d;have e:n∈s:=X_ h;show(if (Sum.inr m:ZA)=Sum.inr n then (Sum.inr m,w) else (Sum.inr m,v))::_=_;have a:¬(Sum.inr m:ZA)=Sum.inr n:=λz=>c ba;rw[Fk a,r W i n b h];rfl
theorem amc(w:V)(d:s.Nodup)(h:s[i]?=some n)(a:i<W.length):ZR (zk s W) (.inr n) w=zk s (W.set i w):=by
 unfold ZR;rw[vq,DX s W i n _ d h<|YO a,Fr (show(some W[i]).isSome=true from O),VX w s W i n d h]
abbrev bB:bn:=["own","text","server","seen","serial","took","post","kept","flight","waiting","held"]
theorem DY:bB.Nodup:=by decide+kernel
theorem zW:(s:bn)->(W:bi)->(zk s W).length<=s.length
 |[],W=>by cases W<;>exact nE _
 |n::s,[]=>nE _
 |n::s,v::W=>Nat.succ_le_succ (zW s W)
structure Ad where
 p:z4
 d:z4
 q:z4
 D:z4
 e:z4
 R:z4
 o:z4
 k:z4
 r:z4
abbrev dQ(A:Ad)(n:Nat)(r:Gs)(v:Str)(a:Nat)(vf vw:V):bi:=[.i (n:Nat),.s r.x,.s v,.i (r.kn:Nat),.i (r.se:Nat),.i (a:Nat),.r A.o,.r A.k,vf,vw,.r A.r]
def DZ(N:MS)(H:Hp)(d:EQ)(v:V):Prop:= ∀B,aB N H B->Is B d v
def rX(N:MS)(H:Hp)(v:V):Prop:= ∃(t a:z4)(d:EQ),v=.r t/\H t=some (.t [.r a,.s d.shown])/\DZ N H d (.r a)/\d.showable=true/\d.depth<=30/\d.shown.length<=16000000
def PoV(N:MS)(o:Nat)(H:Hp)(G:bi)(i:Nat)(e:Nat×be):Prop:= ∃t c U,G[i]?=some (.r t)/\H t=some (.t<|gC o (i+1) e.1 c)/\H c=some (.l U)/\aC H U e.2/\ ¬N c
structure dR(N:MS)(H:Hp)(A:Ad)(own:Nat)(r:Gs)(sv:Str)(tk:List (Nat×be))(au:Nat)(kp:Nat->Prop)(nk:Nat)(hs:bi):Prop where
 a:∃vf vw,H A.R=some (.d<|zk bB<|dQ A own r sv au vf vw)/\bx N H vf r.f/\bx N H vw r.de
 C:∃cG,H A.o=some (.l cG)/\cG.length=tk.length/\∀i e,tk[i]?=some e->PoV N own H cG i e
 J:∃kk,H A.k=some (.d kk)/\kk.length<=nk/\∀n:Nat,cv kk (.inl (n:Int))≠none↔kp n
 Z:H A.r=some (.l hs)
 hh:∀v∈hs,rX N H v
 Q:A.R≠A.k
 q:A.o≠A.r
section
variable{K:Frag}{M M' N N' Bm:MS}{C k:z4}{H B:Hp}{A:Ad}{f:Nat}{g r:Gs}{m:Str}{G:List (Nat×be)}{E P:Nat}{R:Nat->Prop}{T:bi}{X:aS}{p dp q s e:z4}{x:Str}{w h:Nat}{v n:Option be}
theorem da.mono(n:da M H)(a:∀z,Bm z->M z):da Bm H:=λz h=>n z (a z h)
theorem da.al(n:da M H):Al M H:=λz h=>let ⟨o,e,_⟩:=n z h;⟨o,e⟩
theorem bx.but(t:dn H B)(b:aB Bm H B)(c:∀z,Bm z->N z):∀{o:Option be},bx N H v1 o->bx N B v1 o
 |none,g=>g
 |some _,⟨a,U,f,e,d,h⟩=>qM a U f (b _ _ e λz=>h (c a z)) (d.mono t) h
theorem fU.but(t:dn H B)(b:aB Bm H B)(a:∀z,Bm z->N z):∀{o:Option (Nat×z4×be)},fU N H v1 o->fU N B v1 o
 |none,g=>g
 |some _,⟨z,U,f,e,d,c,h⟩=>q8 z U f (t _ _ e) (b _ _ d λz=>h (a _ z)) (c.mono t) h
theorem bQ.but(S:bQ M k H q s e x w h v n X)(b:aB Bm H B)(c:∀z,Bm z->M z/\z≠q/\z≠e)(f:da Bm H):bQ M k B q s e x w h v n X:=by
 obtain⟨vf,d,r,p,o⟩:=S.ob;obtain⟨u,m,i,j⟩:=S.l;have t:=aB.tup f b;exact⟨p4 vf d (b _ _ r λz=>(c _ z).2.1 O) (p.but t b λz a=>.inl (c z a).1) (o.but t b λz a=>.inl (c z a).1),qH u (b _ _ m λz=>(c _ z).2.2 O) i (λg=>(j g).but t b λz a=>(c z a).1),S.nd⟩
theorem cq.but(S:cq M C k H p dp q s e f x w h v n X)(b:aB Bm H B)(a:∀z,Bm z->M z/\z≠p/\z≠q/\z≠e)(t:da Bm H):cq M C k B p dp q s e f x w h v n X:=
 ⟨b _ _ S.ob λz=>(a _ z).2.1 O,S.st.but b (λz c=>⟨(a z c).1,(a z c).2.2⟩) t⟩
theorem bx.me(w:∀z,N' z->N z\/∀U,H z≠some (.l U)):∀{o:Option be},bx N H v1 o->bx N' H v1 o
 |none,e=>e
 |some _,⟨a,U,d,h,c,b⟩=>qM a U d h c (λz=>(w a z).elim b λy=>y U h)
theorem fU.me{o:im}(w:∀z,N' z->N z\/∀U,H z≠some (.l U)):∀{u:Option (Nat×z4×be)},fU N H o u->fU N' H o u
 |none,e=>e
 |some _,⟨t,U,d,c,h,b,a⟩=>q8 t U d c h b (λz=>(w _ z).elim a λy=>y U h)
theorem cq.me(S:cq M C k H p dp q s e f x w h v n X)(b:∀z,M' z->M z\/∀U,H z≠some (.l U)):cq M' C k H p dp q s e f x w h v n X:=by
 obtain⟨vf,d,u,t,r⟩:=S.st.ob;obtain⟨A,m,i,j⟩:=S.st.l;have c:∀z,M'.ea X z->M.ea X z\/∀U,H z≠some (.l U):=λz o=>o.elim (λy=>(b z y).elim (λa=>.inl<|.inl a) .inr) λy=>.inl (.inr y);exact⟨S.ob,p4 vf d u (t.me c) (r.me c),qH A m i (λg=>(j g).me b),S.st.nd⟩
theorem rX.but(g:rX N H v1)(t:dn H B)(b:aB N H B):rX N B v1:=by
 obtain⟨z,a,d,zq⟩:=ZG g;obtain⟨e,f,c,h⟩:=Yq zq;exact⟨z,a,d,e,t _ _ f,λZ i=>c Z<|b.trans i,h⟩
theorem rX.weak(g:rX N H v1)(w:∀z,N' z->N z\/H z=none):rX N' H v1:=by
 obtain⟨z,a,d,zq⟩:=ZG g;obtain⟨e,f,c,b⟩:=Yq zq;exact⟨z,a,d,e,f,λZ j=>c Z λy o i h=>j _ _ i λm=>(w y m).elim h λn=>ba,b⟩
theorem dR.but(S:dR N H A f r m G E R P T)(b:aB Bm H B)(h:∀z,Bm z->N z/\z≠A.R/\z≠A.o/\z≠A.k/\z≠A.r)(n:da Bm H):dR N B A f r m G E R P T:=by
 obtain⟨vf,vw,L,K,I⟩:=S.a;obtain⟨Y,l,j,p⟩:=S.C;obtain⟨s,x,w,u⟩:=S.J;have t:=aB.tup n b;have bN:aB N H B:=λz o e d=>b _ _ e λy=>d (h z y).1;exact⟨p4 vf vw (b _ _ L λz=>(h _ z).2.1 O) (K.but t b λz d=>(h z d).1) (I.but t b λz d=>(h z d).1),qH Y (b _ _ l λz=>(h _ z).2.2.1 O) j (λi e F=>let ⟨z,c,U,X,W,V,M,g⟩:=p i e F;(sA z c U X (t _ _ W) (b _ _ V λy=>g (h _ y).1) (M.mono t) g)),qH s (b _ _ x λz=>(h _ z).2.2.2.1 O) w u,b _ _ S.Z λz=>(h _ z).2.2.2.2 O,λv D=>(S.hh v D).but t bN,S.Q,S.q⟩
theorem dR.weak(S:dR N H A f r m G E R P T)(w:∀z,N' z->N z\/H z=none):dR N' H A f r m G E R P T:=by
 obtain⟨vf,vw,l,k,j⟩:=S.a;obtain⟨x,d,b,p⟩:=S.C;exact⟨p4 vf vw l (k.weak w) (j.weak w),qH x d b (λi e g=>let ⟨z,c,U,u,t,s,o,n⟩:=p i e g;(sA z c U u t s o (λy=>(w c y).elim n λB=>ba))),S.J,S.Z,λv h=>(S.hh v h).weak w,S.Q,S.q⟩
theorem dR.same(S:dR N H A f r m G E R P T)(s:aA H B):dR N B A f r m G E R P T:=S.but (Bm:=λY=>False) (λY Y e Y=>s _ _ e) (λY h=>h.elim) (λY h=>h.elim)
theorem dR.ad(S:dR N H A f r m G E R P T){c:z4}:dR N H ⟨A.p,A.d,b,c,e,A.R,A.o,A.k,A.r⟩ f r m G E R P T:=⟨S.a,S.C,S.J,S.Z,S.hh,S.Q,S.q⟩
theorem dR.put(S:dR N H A f r m G E R P T)(u:N A.R)(V:bx N H vf r'.f)(M:bx N H vw r'.de):dR N (fy H A.R<|.d<|zk bB<|dQ A f r' sv' E' vf vw) A f r' sv' G E' R P T:=by
 obtain⟨w,X,h,O,O⟩:=S.a;obtain⟨cG,k,j,p⟩:=S.C;obtain⟨x,F,D,B⟩:=S.J;have g:∀us:bi,(HO.d<|zk bB<|dQ A f r m E w X)≠ .t us:=nofun;have n:∀us:bi,(HO.d<|zk bB<|dQ A f r m E w X)≠ .l us:=nofun;have t:=gZ (o:=.d (zk bB<|dQ A f r' sv' E' vf vw)) h g;have b:aB N H (fy H A.R<|.d<|zk bB<|dQ A f r' sv' E' vf vw):=λz o e I=>by
  have s:z≠A.R:=λy=>I (y ▸ u);rw[aw s];exact e
 exact⟨p4 vf vw av (V.m9 h g n) (M.m9 h g n),qH cG (j4 h n k) j (λi e L=>let ⟨z,c,U,g1,g2,g3,Y,W⟩:=p i e L;(sA z c U g1 (t _ _ g2) (j4 h n g3) (Y.mono t) W)),qH x (by rw[aw<|GE S.Q];exact F) D B,j4 h n S.Z,λv K=>(S.hh v K).but t b,S.Q,S.q⟩
theorem dg{v:V}{a:Str}(c:H A.R=some (.d<|zk bB<|dQ A f r a E' vf vw))(b:bB[i]?=some n0)(h:(dQ A f r a E' vf vw)[i]?=some v):f_ H A.R (.s n0) (some v):=by
 have:=f_.k (k:=.inr n0) c;rw[DX bB _ i n0 v DY b h] at this;exact this
theorem kR{a:V}(c:H A.R=some (.d<|zk bB W))(b:bB[i]?=some n0)(h:i<W.length):ip H A.R (.s n0) a (fy H A.R<|.d<|zk bB<|W.set i a):=by
 have:=ip.k (k:=.inr n0) (v:=a) c (bV (by have:=zW bB W;have:bB.length=11:=O;lia));rw[amc a DY b h] at this;exact this
end
structure cX(M:MS)(C CS:z4)(H:Hp)(A:Ad)(own:Nat)(g:Gs)(ea:aS)(sv:Str)(tk:List (Nat×be))(au:Nat)(kp:Nat->Prop)(nk:Nat)(hs:bi):Prop where
 ha:cq M C CS H A.p A.d A.q A.D A.e own g.x g.kn g.se g.f g.de ea
 ro:dR (M.ea ea) H A own g sv tk au kp nk hs
 mm:M A.p/\M A.q/\M A.R/\M A.o/\M A.k/\M A.r
 nt:da M H
 ne:A.e≠A.R/\A.e≠A.k
section
variable{K:Frag}{M M' N N' Bm:MS}{C n:z4}{H B:Hp}{A:Ad}{k:Nat}{g r:Gs}{m:Str}{R:List (Nat×be)}{G T:Nat}{X:Nat->Prop}{f:bi}{P:aS}{p w q dq e:z4}{x:Str}{kn se:Nat}{fl de:Option be}{E:XK}{Q:VK}{u:aW}{J:St}
theorem bQ.eY(S:bQ M n H q dq e x kn se fl de P)(a:da M H):da (M.ea P) H:=λz h=>by
 rcases h with h|⟨b,d,u,rfl⟩
 exact a z h;obtain⟨f,Y,Y,k⟩:=S.l;have:=k b;rw[u] at this;obtain⟨t,U,zq⟩:=ZL this;obtain⟨Y,Y,c,Y⟩:=Yq zq;exact⟨_,c,nofun⟩
theorem cX.same(S:cX M C n H A k g P m R G X T f)(s:aA H B):cX M C n B A k g P m R G X T f:=
 ⟨S.ha.same s,S.ro.same s,S.mm,λz a=>let ⟨o,e,h⟩:=S.nt z a;⟨o,s _ _ e,h⟩,S.ne⟩
theorem dR.ne(S:dR N H A k r m R G X T f){D:z4}(h:H z=some (.i D d s)):z≠A.R/\z≠A.o/\z≠A.k/\z≠A.r:=by
 obtain⟨Y,Y,c,Y⟩:=S.a;obtain⟨Y,p,Y⟩:=S.C;obtain⟨Y,b,Y⟩:=S.J;refine⟨λy=>?_,λy=>?_,λy=>?_,λy=>?_⟩;rw[y,c] at h;cases h;rw[y,p] at h;cases h;rw[y,b] at h;cases h;rw[y,S.Z] at h;cases h
theorem cX.VY(S:cX M C n H A k g P m R G X T f):(∀z,z=A.R\/z=A.o\/z=A.k\/z=A.r->M z/\z≠A.p/\z≠A.q/\z≠A.e):=λz h=>by
 obtain⟨Y,Y,i,Y⟩:=S.ha.st.ob;obtain⟨Y,j,Y⟩:=S.ha.st.l;obtain⟨B,x,w,v⟩:=S.ro.ne S.ha.ob;obtain⟨u,t,s,b4⟩:=S.ro.ne i;obtain⟨F,E,d,c,b,a⟩:=Gi S.mm;obtain⟨Y,D,Y⟩:=S.ro.C;rcases h with rfl|rfl|rfl|rfl
 exact⟨d,B.symm,u.symm,S.ne.1.symm⟩;exact⟨c,x.symm,t.symm,λy=>by lia⟩;exact⟨b,w.symm,s.symm,S.ne.2.symm⟩;exact⟨a,v.symm,b4.symm,λy=>by have:=S.ro.Z;rw[y,j] at this;cases this⟩
theorem cX.held(S:cX M C n H A k g P m R G X T f)(W:rX (M.ea P) H v):cX M C n (fy H A.r<|.l<|f++[v]) A k g P m R G X T (f++[v])/\aB M H (fy H A.r<|.l<|f++[v]):=by
 have b:aB (· =A.r) H (fy H A.r<|.l<|f++[v]):=aB.upd;have d:=S.mm.2.2.2.2.2;have bM:aB M H (fy H A.r<|.l<|f++[v]):=λz o e h=>b _ _ e λy=>h (y ▸ d);have N:aB (M.ea P) H (fy H A.r<|.l<|f++[v]):=λz o e h=>b _ _ e λy=>h (.inl<|y ▸ d);have j:da (· =A.r) H:=S.nt.mono λz h=>h ▸ d;have t:=aB.tup j b;obtain⟨vf,vw,s,h2,h3⟩:=S.ro.a;obtain⟨cG,F,E,D⟩:=S.ro.C;obtain⟨I,p,L,K⟩:=S.ro.J;have B:∀z,z=A.r->(M.ea P) z:=λz h=>.inl (h ▸ d);refine⟨⟨S.ha.but b (λz h=>S.VY z<|.inr<|.inr<|.inr h) j,⟨⟨vf,vw,b _ _ s λy=>(by have:=S.ro.Z;rw[<-y,s] at this;cases this),h2.but t b B,h3.but t b B⟩,qH cG (b _ _ F S.ro.q) E (λi e he=>let ⟨z,c,U,g1,g2,g3,g4,u⟩:=D i e he;(sA z c U g1 (t _ _ g2) (N _ _ g3 u) (g4.mono t) u)),qH I (b _ _ p λy=>(by have:=S.ro.Z;rw[<-y,p] at this;cases this)) L K,av,λx w=>?_,S.ro.Q,S.ro.q⟩,S.mm,λz h=>?_,S.ne⟩,bM⟩;rcases R8.mp w with w|w
 exact(S.ro.hh x w).but t N;rw[ZF.mp w];exact W.but t N;by_cases y:z=A.r;exact pQ _ (by rw[y];exact av) (λus z=>by lia);obtain⟨o,Y,hn⟩:=S.nt z h;exact pQ o (b _ _ Y y) hn
inductive xf(W:bi)(H:Hp)(Q:VK)(E:XK):Prop|i(N:MS)(A:Ad)(k:Nat)(r:Gs)(m:Str)(R:List (Nat×be))(G:Nat)(X:Nat->Prop)(T:Nat)(f:bi)(a:z4)(c:Int)(_:W=[.r A.R,.r a,.i c])(_:dR N H A k r m R G X T f)(_:f.length<=5000)(_:(c % 2=0->∃d:EQ,Is H d (.r a)/\d.showable=true/\d.depth<=30/\d.shown.length<=16000000/\∀t I,H t=none->aA H I->I t=some (.t [.r a,.s d.shown])->Q (.b true) (fy I A.r<|.l<|f++[.r t])))(_:(c % 2≠0->∃U,H a=some (.l U)/\Q (.b true) (fy H a<|.l [])))
theorem JK(h:af u a J H λx I=>BV u.K [x] I Q):af u (.x vU [a]) J H Q:=h
theorem zY(h:af u o J H λx I=>sO u.K "list" x I/\vD u.K .c x [] I Q):af u (.a .c o []) J H Q:=h
theorem ame(W:bi)(H:Hp)(Q:VK)(E:XK)(e:xf W H Q E):az (aV K E) RB (Dn Q) (Y2 RA W) H:=by
 obtain⟨N,A,k,r,m,R,G,X,T,f,a,c,rfl,S,o,n,j⟩:=e;obtain⟨vf,vw,g,Y⟩:=S.a;refine aX<|aL<|bg<|aa O<|ai<|jb ba<|ai<|jE ⟨_,O,du (λh=>?_)<|λh=>?_⟩;obtain⟨d,zq⟩:=mD (n (IR h));obtain⟨i,s,w,l,q⟩:=c3 zq;refine cW<|eU<|bD<|aa O<|ai ⟨A.R,_,O,dg (i:=10) g O O,⟨.inl ⟨O,_,ax.of S.Z⟩,dt<|ao<|aa O<|ao<|JK<|aa O ⟨a,d,O,i,s,w,l,aD ⟨cI,λt b=>⟨f,Yb b _ _ S.Z,bV (oT o (Zs _ _)),b_<|ai<|q t _ b (Yb b) av⟩⟩⟩⟩⟩;obtain⟨U,x,q⟩:=j (λz=>h<|Y4 z);exact cW<|zY<|aa O ⟨.inl ⟨O,_,ax.of x⟩,_,x,b_<|ai q⟩
inductive uQ(W:bi)(H:Hp)(Q:VK)(E:XK):Prop|i(A:Ad)(k:Nat)(r:Gs)(m:Str)(G:Nat)(vf vw:V)(_:W=[.r A.R])(_:H A.R=some (.d<|zk bB<|dQ A k r m G vf vw))(_:∀t,H t=none->Q (.r t) (fy H t<|.t [.s "ask",.i (k:Nat),.i (r.se:Nat),.i (r.kn:Nat),vf]))
theorem amf(W:bi)(H:Hp)(Q:VK)(E:XK)(a:uQ W H Q E):az (aV K E) Ro (Dn Q) (Y2 Rn W) H:=by
 obtain⟨A,k,r,m,G,vf,vw,rfl,h,q⟩:=a;exact b_<|dt<|ao<|ai<|ao<|bD<|aa O<|ai ⟨A.R,_,O,dg (i:=0) h O O,ao<|bD<|aa O<|ai ⟨A.R,_,O,dg (i:=4) h O O,ao<|bD<|aa O<|ai ⟨A.R,_,O,dg (i:=3) h O O,ao<|bD<|aa O<|ai ⟨A.R,_,O,dg (i:=8) h O O,aD ⟨xx,λt f=>q t f⟩⟩⟩⟩⟩
def fk(N:MS)(H:Hp)(v:V)(e:Lg):Prop:= ∃t,v=.r t/\match e.2.2 with
 |none=>H t=some (.t (.s e.1::(nV e.2.1++[])))
 |some ps=>∃l U,H t=some (.t (.s e.1::(nV e.2.1++[.r l])))/\H l=some (.l U)/\aC H U ps/\ ¬N l
theorem fk.v{v:V}{e:Lg}(h:fk N H v e):kP H v e:=by
 obtain⟨t,rfl,h⟩:=h;obtain⟨w,n,o⟩:=e;cases o with
 |none=>exact pQ t O h
 |some ps=>obtain⟨l,U,zq⟩:=ZL h;obtain⟨c,b,a,Y⟩:=Yq zq;exact pQ t O ⟨l,U,c,b,a⟩
theorem fk.same{v:V}{e:Lg}(h:fk N H v e)(s:aA H B):fk N B v e:=by
 obtain⟨t,rfl,h⟩:=h;obtain⟨w,n,o⟩:=e;cases o with
 |none=>exact pQ t O (s _ _ h)
 |some ps=>obtain⟨l,U,zq⟩:=ZL h;obtain⟨d,c,b,a⟩:=Yq zq;exact t9 t O l U (s _ _ d) (s _ _ c) (b.mono<|aQ s) a
theorem JL:∀{s z:List EQ}{W Y:bi},IsL H s W->IsL H z Y->IsL H (s++z) (W++Y)
 |[],z,W,Y,h,a=>by
  have:=by simpa only[IsL] using h
  subst this;exact a
 |d::s,z,W,Y,h,a=>by
  obtain⟨v,r,rfl,c,b⟩:=(show ∃v r,W=v::r/\Is H d v/\IsL H s r by simpa only[IsL] using h);have:=JL b a;exact p4 v _ O c this
theorem D0{l:z4}(h:H l=some (.l U))(p:aC H U ps):Is H (dP ps) (.r l):=⟨l,U,O,h,Cp p⟩
theorem amg{e:Lg}(h:kP H v e):Is H (gE e) v:=by
 obtain⟨t,rfl,h⟩:=h;obtain⟨w,n,o⟩:=e;cases o with
 |none=>exact p4 t _ O h (p4 _ _ O O (JL (zq n) O))
 |some ps=>
  obtain⟨l,U,c,b,a⟩:=h;exact p4 t _ O c (p4 _ _ O O (JL (zq n) (p4 _ _ O (D0 b a) O)))
theorem fk.but{v:V}{e:Lg}(h:fk N H v e)(n:da N H)(b:aB N H B):fk N B v e:=by
 have t:=aB.tup n b;obtain⟨z,rfl,h⟩:=h;obtain⟨w,s,o⟩:=e;cases o with
 |none=>exact pQ z O (t _ _ h)
 |some ps=>obtain⟨l,U,zq⟩:=ZL h;obtain⟨f,d,c,a⟩:=Yq zq;exact t9 z O l U (t _ _ f) (b _ _ d a) (c.mono t) a
theorem amh{zs:bi}{e:List Lg}(h:Paired (kP H) zs e):IsL H (e.map gE) zs:=by
 induction h with
 |nil=>rfl
 |cons a Y i=>exact⟨_,_,O,amg a,i⟩
theorem JM{zs:bi}{e:List Lg}(h:H L=some (.l zs))(a:¬N L)(p:Paired (fk N H) zs e)(n:da N H):DZ N H (nq e) (.r L):=λB b=>⟨L,zs,O,b _ _ h a,amh<|Paired.bX p λY Y z=>(z.but n b).v⟩
def oI(N:MS)(H0 H:Hp)(v:V):Option be->Prop
 |none=>v=.a
 |some ps=>∃l U,v=.r l/\H l=some (.l U)/\aC H U ps/\ ¬N l/\H0 l=none
theorem oI.same:∀{o:Option be},oI N H0 H v o->aA H B->oI N H0 B v o:=by
 intro o h s;cases o with
 |none=>exact h
 |some _=>
  obtain⟨l,U,e,d,c,b,a⟩:=h;exact q8 l U e (s _ _ d) (c.mono<|aQ s) b a
noncomputable def gF:Option be->EQ
 |none=>.none
 |some ps=>dP ps
theorem oI.is(n:da N H)(b:aB N H B):∀{o:Option be},oI N H0 H v o->Is B (gF o) v:=by
 intro o h;cases o with
 |none=>exact h
 |some _=>
  obtain⟨l,U,e,d,c,a,f⟩:=h;exact e▸D0 (b _ _ d a) (c.mono<|aB.tup n b)
end
noncomputable def ia(o:Nat)(g:Gs):List Lg:=("again",[o,g.kn],none)::match g.f with
 |none=>[]
 |some f=>[("ask",[o,g.se,g.kn],some f)]
section
variable{K:Frag}{M M' N N' Bm:MS}{C G:z4}{H B:Hp}{A:Ad}{p:Nat}{g r:Gs}{n:Str}{w:List bv}{X:List (Nat×be)}{T m:Nat}{x:Nat->Prop}{R:bi}{P:aS}{E:XK}{Q:VK}{u:aW}{J:St}
theorem JN(R:u.ms j=(C,Dq C G))(e:J[i]?=some (some<|.r A.p))(S:cq M C G H A.p A.d A.q A.D A.e p g.x g.kn g.se g.f g.de P)(W:Al N H)(k:∀L zs w B,aA H B->H L=none->B L=some (.l zs)->Paired (fk N B) zs (ia p g)->(∃o t us,zs=o++[.r t]/\B t=some (.t<|us++[w]))->(w=.i (g.kn:Nat)\/∃l U,w=.r l/\H l=none/\B l=some (.l U))->Q (.r L) B):af u (.q j "nudge" (.v i) []) J H Q:=by
 obtain⟨K,y,F,I,V⟩:=g;refine rC C (Dq C G) R<|aa e ⟨A.p,A.d,_,O,S.ob,jd,M,A.p,A.d,A.q,A.D,A.e,p,K,y,F,I,V,P,O,S,?_⟩;cases I with
 |none=>exact λL c B s E T n z=>k L [.r c] (.i (y:Nat)) B s E z (.cons (pQ c O n) .nil) (t_ [] c [.s "again",.i (p:Nat)] O n) (.inl O)
 |some f=>exact λL c t l B s E T X h n m z=>k L [.r c,.r t] (.r l) B s E z (.cons (pQ c O n)<|.cons ⟨t,O,let ⟨U,a,b⟩:=m.2;(qM l U m.1 a b (W.no h))⟩ .nil) (t_ [.r c] t [.s "ask",.i (p:Nat),.i (F:Nat),.i (y:Nat)] O m.1) (.inr (let ⟨U,a,_⟩:=m.2;(p4 l U O h a)))
theorem VZ{H0:Hp}(b:Al N H)(k:∀v B,aA H B->oI N H B v de->Q v B):Dm H Q de:=by
 cases de with
 |none=>exact k .a H (aA.refl _) O
 |some ps=>exact λl B U s f h p=>k _ _ s ⟨l,U,O,h,p,b.no f,f⟩
theorem JO(h:u.ms j=(C,zw C G))(e:J[i]?=some (some<|.r A.p))(S:cq M C G H A.p A.d A.q A.D A.e p g.x g.kn g.se g.f g.de P)(a:Al N H)(k:∀v B,aA H B->oI N H B v g.f->Q v B):af u (.q j "flight" (.v i) []) J H Q:=
 rC C (zw C G) h (aa e (tZ A.p A.d _ O S.ob jd ⟨M,A.p,A.d,A.q,A.D,A.e,p,_,_,_,_,_,P,O,S,VZ (H0:=H) a k⟩))
theorem JP(h:u.ms j=(C,zx C G))(e:J[i]?=some (some<|.r A.p))(S:cq M C G H A.p A.d A.q A.D A.e p g.x g.kn g.se g.f g.de P)(a:Al N H)(k:∀v B,aA H B->oI N H B v g.de->Q v B):af u (.q j "waiting" (.v i) []) J H Q:=
 rC C (zx C G) h (aa e (tZ A.p A.d _ O S.ob jd ⟨M,A.p,A.d,A.q,A.D,A.e,p,_,_,_,_,_,P,O,S,VZ (H0:=H) a k⟩))
theorem Iv.xg(I:Iv p w X g):(∀f,g.f=some f->xb f)/\∀d,g.de=some d->xb d:=by
 obtain⟨l,m,k,h,j⟩:=I.o;have a:=(I.gt l<|X_ k).1;have b:=h.len;have c:=I.t;have e:=I.i;constructor;intro f n;rw[n] at h c;exact DV (show bU f l m from h) c (oT a (Zs _ _));intro d q;rw[q] at j e;exact DV (show bU d m g.x.cps.toList from j) e ba
theorem V0(I:Iv p w X g)(m:p<=7)(j:g.kn<=1000)(E:g.se<=1000):(∀e∈ia p g,qm e)/\(ia p g).length<=2/\∀e∈ia p g,e.2.1.length<=10:=by
 have a:=I.xg.1;obtain⟨x,k,s,l,o⟩:=g;have c:qm (("again":Str),[p,k],none):=⟨.inr O,am,λd n=>by simp at n;rcases n with rfl|rfl<;>lia,nofun⟩;cases l with
 |none=>
  refine⟨λe b=>?_,(by show 1<=2;decide),λe b=>?_⟩;rw[ZF.mp b];exact c;rw[ZF.mp b];show 2<=10;decide
 |some f=>
  have i:qm (("ask":Str),[p,s,k],some f):=⟨.inl O,am,λd n=>by simp at n;rcases n with rfl|rfl|rfl<;>lia,λps h=>by lia⟩;refine⟨λe b=>?_,(by show 2<=2;decide),λe b=>?_⟩;rcases Z5.mp b with h|h
  rw[h];exact c;rw[ZF.mp h];exact i;rcases Z5.mp b with h|h
  rw[h];show 2<=10;decide;rw[ZF.mp h];show 3<=10;decide
theorem V1{o:Option be}(h:∀d,o=some d->xb d):(gF o).shown.length<=680000/\(gF o).showable=true/\(gF o).depth<=2:=by
 cases o with
 |none=>exact⟨by exact oT (show(PyData.none).shown.length<=4 by decide+kernel) (Zs _ _),O,nE _⟩
 |some d=>exact h d O
theorem ami(I:Iv p w X g)(b:p<=7)(h:g.kn<=1000)(E:g.se<=1000):(PyData.list [nq<|ia p g,gF g.f,gF g.de]).shown.length<=16000000/\(PyData.list [nq<|ia p g,gF g.f,gF g.de]).showable=true/\(PyData.list [nq<|ia p g,gF g.f,gF g.de]).depth<=30:=by
 obtain⟨c,k,Y⟩:=V0 I b h E;obtain⟨r,j,q⟩:=DW gE 681000 3 (ia p g) (oT k (Zs _ _)) (Zs _ _) λe a=>JJ (c e a);obtain⟨o,i,n⟩:=V1 I.xg.1;obtain⟨m,d,l⟩:=V1 I.xg.2;refine⟨?_,?_,?_⟩;show(listText [(nq<|ia p g).shown,(gF g.f).shown,(gF g.de).shown]).length<=_;have:=JF [(nq<|ia p g).shown,(gF g.f).shown,(gF g.de).shown];rw[Ix,Ix,Ix,piled_nil] at this;lia;show((nq<|ia p g).showable && ((gF g.f).showable && ((gF g.de).showable && true)))=true;rw[j,i,d];rfl;show max (nq<|ia p g).depth (max (gF g.f).depth<|max (gF g.de).depth 0)+1<=30;lia
inductive JQ(C G:z4)(W:bi)(H:Hp)(Q:VK)(E:XK):Prop|i(M:MS)(A:Ad)(p:Nat)(g:Gs)(P:aS)(n:Str)(w:List bv)(X:List (Nat×be))(T:Nat)(x:Nat->Prop)(m:Nat)(R:bi)(_:W=[.r A.p,.r A.R])(_:cX M C G H A p g P n X T x m R)(_:Iv p w X g)(_:p<=7)(_:g.kn<=1000)(_:g.se<=1000)(_:R.length<=5000)(_:∀a B,cX M C G B A p g P n X T x m a->a.length<=R.length+1->aB M H B->Q (.b true) B)
abbrev JR(K:Frag)(C G:z4)(E:XK):aW:=aJ K [("_law_ask",uQ),("_law_letters_same",rW)] [] [] [("nudge",C,Dq C G),("flight",C,zw C G),("waiting",C,zx C G)] (E:=E)
theorem amj{T:Ty}(q:k false):cj T .a H k:=q
theorem clr(e:J[3]?=some (some v))(h:v=.a\/(∃i,v=.i i)\/∃l U,v=.r l/\H l=some (.l U))(k:D.nx J H)(f:∀l U,v=.r l->H l=some (.l U)->D.nx J (fy H l<|.l [])):az (JR K C G E) [.i (.R .l<|.v 3) [.d<|.a .c (.v 3) []] []] D J H:=by
 rcases h with rfl|⟨i,rfl⟩|⟨l,U,rfl,b⟩
 exact aX (oE<|aa e<|amj<|iF (cb k) O);exact aX (oE<|aa e<|UC<|iF (cb k) O);exact aX (oE<|aa e<|v5 b<|iT (cW<|zY<|aa e ⟨.inl ⟨O,_,ax.of b⟩,_,b,f l U O b⟩) O)
theorem aml(W:bi)(H:Hp)(Q:VK)(E:XK)(hh:JQ C G W H Q E):az (JR K C G E) GC (Dn Q) (Y2 Ry W) H:=by
 obtain⟨M,A,p,g,P,n,w,X,T,x,m,R,rfl,S,I0,h7,hk,xh,lh,q⟩:=hh;obtain⟨D1,V2,xj⟩:=V0 I0 h7 hk xh;obtain⟨vf,vw,hR,of,ow⟩:=S.ro.a;refine aO<|cQ<|ao<|dt<|ao<|ai<|ao<|bD<|aa O<|ai ⟨A.R,_,O,dg (i:=0) hR O O,ao<|bD<|aa O<|ai ⟨A.R,_,O,dg (i:=3) hR O O,aD ⟨sq,λt0 f0=>?_⟩⟩⟩;generalize j:fy _ t0 _=I;have s1:=bC f0 j;have D2:=bu j;refine aD ⟨jM,λD fD=>?_⟩;generalize j:fy _ D _=Z;have s2:=bC fD j;have rY:=bu j;have dF:=s1.trans s2;have go:∀(ws:bi) (H3:Hp),aA H H3->H3 D=some (.l ws)->Paired (fk (M.ea P) H3) ws (ia p g)->az (JR K C G E) (GC.drop 2) (Dn Q) [some<|.r A.p,some<|.r A.R,some<|.r D,none,none] H3:=by
  intro ws H3 s3 rZ z0;have S3:=S.same s3;have D3:=S3.ha.st.eY S3.nt;have lO:=D3.al;have j6:H D=none:=s1.free fD;refine aO<|cQ<|ao<|JN O O S3.ha lO λL zs w0 H4 s4 fL hL pz _ _=>?_;have S4:=S3.same s4;have D4:=S4.ha.st.eY S4.nt;refine ao<|JO O O S4.ha D4.al λv1 H5 s5 o1=>?_;have S5:=S4.same s5;have D5:=S5.ha.st.eY S5.nt;refine ao<|JP O O S5.ha D5.al λv2 H6 s6 o2=>?_;refine aD ⟨sq,λT3 fT=>?_⟩;generalize j:fy _ T3 _=H7;have s7:=bC fT j;have h':=bu j;have rN:=(s5.trans s6).trans s7;have wU:=s4.trans rN;have S7:=S3.same wU;have JS:=S7.ha.st.eY S7.nt;obtain⟨r',q',D6,_,_⟩:=S7.ro.a;obtain⟨z5,z6,z7⟩:=ami I0 h7 hk xh;have nL:¬(M.ea P) L:=lO.no fL;have nT:¬(M.ea P) T3:=(S5.same s6).ha.st.eY (S5.same s6).nt|>.al.no fT;have V3:DZ (M.ea P) H7 (.list [nq<|ia p g,gF g.f,gF g.de]) (.r T3):=λs b8=>p4 T3 _ O (b8 _ _ h' nT) (p4 _ _ O (JM (rN _ _ hL) nL (Paired.bX pz λ_ _ z=>z.same rN) JS s b8) (p4 _ _ O ((o1.same<|s6.trans s7).is JS b8) ⟨_,_,O,(o2.same s7).is JS b8,O⟩));refine cW<|eU<|bD<|aa O<|ai ⟨A.R,_,O,dg (i:=10) D6 O O,⟨.inl (uJ O _ (ax.of S7.ro.Z)),dt<|ao<|aa O<|ao<|JK<|aa O ⟨T3,_,O,V3 H7<|λ_ _ e _=>e,z6,z7,z5,aD ⟨cI,λt ft=>?_⟩⟩⟩⟩;generalize j:fy _ t _=s;have s8:=bC ft j;have Jk:=bu j;have S8:=S7.same s8;obtain⟨Y,b9⟩:=S8.held (v:=.r t) (uS t T3 _ O Jk (λB b'=>V3 B<|(aB.same s8).trans b') z6 z7 z5);refine qH R S8.ro.Z (bV (oT lh (Zs _ _))) ?_
  have JT:=wU.trans s8;have JU:D≠A.r:=λy=>by rw[y,S.ro.Z] at j6;cases j6
  have JV:aB (· =A.r) s (fy s A.r<|.l<|R++[.r t]):=aB.upd;have V4:aB (M.ea P) s (fy s A.r<|.l<|R++[.r t]):=λz o e hz=>JV _ _ e λy=>hz (.inl<|y ▸ S8.mm.2.2.2.2.2);have JW:=JV _ _ (JT _ _ rZ) JU;have V_:=(aB.same<|s3.trans JT).trans b9;have JX:=Paired.bX z0 λ_ _ z=>(z.same JT).but (S8.ha.st.eY S8.nt) V4;generalize fy s A.r (.l<|R++[.r t])=H9 at Y b9 JV V4 JW V_ JX⊢;have o':=(Y.ha.st.eY Y.nt).al;refine aO<|JN O O Y.ha o' λL2 JY w2 jv qW Dh Wa uk uo hw=>?_;obtain⟨f',tl,us,N,uP⟩:=uo;refine aX<|fQ<|kA rW O<|ao<|aa O<|ao<|aa O<|aD ⟨L2,D,JY,ws,ia p g,O,Wa,qW _ _ JW,Paired.bX uk λ_ _ z=>z.v,Paired.bX JX λ_ _ z=>(z.same qW).v,xj,oT V2 (Zs _ _),λy' z9=>j3<|iF (cb ?_) O⟩
  have z_:=qW.trans z9;have D7:=Y.same z_;have n':=(D7.ha.st.eY D7.nt).al;refine C8<|cQ<|ao<|JO O O D7.ha n' λv1 x' dD o1=>?_;have JZ:=D7.same dD;have GS:=(JZ.ha.st.eY JZ.nt).al;refine ao<|JP O O JZ.ha GS λv2 Wb oA o2=>?_;have Aa:=dD.trans oA;have m':Wb L2=some (.l<|f'++[.r tl]):=by rw[<-N];exact Aa _ _ (z9 _ _ Wa)
  have k':=Aa _ _ (z9 _ _ uP);refine ao<|bF<|bF<|aa O<|wL<|iG m' (vn _ _)<|wL<|c9 k' (vn _ _)<|aD ⟨sq,λk fW=>?_⟩;generalize j:fy _ k _=Wc;have Wd:=bC fW j;have We:=bu j;have Wf:=Aa.trans Wd;have j':=z_.trans Wf;have a':∀v∈ [v1,v2,w2],v=.a\/(∃i,v=.i i)\/∃l U,v=.r l/\Wc l=some (.l U)/\l≠k/\H9 l=none:=by
   have op:∀{v:V}{o:Option be}{Ha Hb:Hp},oI (M.ea P) Ha Hb v o->aA H9 Ha->aA Hb Wb->v=.a\/(∃i,v=.i i)\/∃l U,v=.r l/\Wc l=some (.l U)/\l≠k/\H9 l=none:=λ{v o Ha Hb} h sa sb=>by
    cases o with
    |none=>exact .inl h
    |some ps=>
     obtain⟨l,U,rfl,h1,_,_,h5⟩:=h;exact .inr<|.inr ⟨l,U,O,Wd _ _<|sb _ _ h1,aH (sb _ _ h1) fW,sa.free h5⟩
   intro v hv
   simp only[Z5,Zb,KM] at hv
   rcases hv with rfl|rfl|rfl
   ·exact op o1 z_ oA
   ·exact op o2 (z_.trans dD) (aA.refl _)
   ·rcases hw with rfl|⟨l,U,rfl,fl,hl⟩
    ·exact .inr (.inl (qX _ O))
    ·exact .inr (.inr (qM l U O (Wf _ _<|z9 _ _ hl) (aH (Aa _ _<|z9 _ _ hl) fW) fl))
  refine qH k O (qX _ (ax.of We)) (jk (K:=K) (a:=k) (xs:=[v1,v2,w2]) (λi J F=>XY λ(u3:im)=>XB (J=[some (.r A.p),some (.r A.R),some (.r D),u3,some (.r L2)]) (aA H9 F) (F k=some (.l [v1,v2,w2])) (∀v∈ [v1,v2,w2],v=.a\/(∃i,v=.i i)\/∃l U,v=.r l/\F l=some (.l U)/\l≠k/\H9 l=none))
  ⟨_,O,j',We,a'⟩ (by rintro i J F _ ⟨_,_,_,h,_⟩;exact ax.of h) ?_ ?_)
  ·rintro i v J F hv ⟨u3,rfl,u,J3,kd⟩;have kv:=kd v (X_ hv);have g':=kv.imp id λh=>h.imp id λ⟨l,U,a,b,_⟩=>q9 l U a b;refine clr (v:=v) O g' ⟨some v,O,u,J3,kd⟩ λl U el hl=>⟨some v,O,λz o N=>?_,?_,λv' oR=>?_⟩
   all_goals
    have ll:l≠k/\H9 l=none:=by
     subst el;rcases kv with h|⟨i,h⟩|⟨l',bw,h,_,h1,h2⟩
     ·cases h
     ·cases h
     ·cases h;exact⟨h1,h2⟩
   ·rw[aw<|aH N ll.2];exact u _ _ N
   ·rw[aw<|GE ll.1];exact J3
   ·refine(kd v' oR).imp id λh=>h.imp id λ⟨l',bw,a,b,c,d⟩=>?_;by_cases y:l'=l
    ·exact qM l' [] a (by rw[y];exact av) c d
    ·exact qM l' bw a (by rw[aw y];exact b) c d
  ·rintro J F ⟨u3,rfl,u,J3,kd⟩;have J4:=Y.same u;have i':=(J4.ha.st.eY J4.nt).al;refine b_<|bA rW O<|ao<|JN O O J4.ha i' λL3 c' w3 w' J5 u' DP e' _ _=>ao (aa O<|aD ⟨L3,D,c',ws,ia p g,O,DP,J5 _ _<|u _ _ JW,Paired.bX e' λ_ _ z=>z.v,Paired.bX JX λ_ _ z=>(z.same<|u.trans J5).v,xj,oT V2 (Zs _ _),λp' d'=>?_⟩)
   have Wg:=(u.trans J5).trans d';exact q _ p' (Y.same Wg) (by rw[Yy];exact Yw _)<|V_.trans<|aB.same Wg
 obtain⟨x1,kn,se,fl,de⟩:=g;cases fl with
 |none=>
  cases (show vf=.a from of)
  refine aX<|aL<|bD<|aa O<|ai ⟨A.R,_,O,dg (i:=8) (dF _ _ hR) O O,ai<|je ⟨_,O,iF (cb ?_) (by rw[Y4 O];rfl)⟩⟩
  exact go [.r t0] Z dF rY<|.cons ⟨t0,O,s2 _ _ D2⟩ .nil
 |some f=>
  obtain⟨fa,qe,rfl,hZ,uT,Ab⟩:=(show eK (M.ea P) H vf f from of)
  refine aX<|aL<|bD<|aa O<|ai ⟨A.R,_,O,dg (i:=8) (dF _ _ hR) O O,ai<|je ⟨_,O,iT ?_ (by rw[jH];rfl)⟩⟩
  refine cW<|eU<|aa O ⟨.inl ⟨O,_,ax.of rY⟩,bA uQ O<|ao<|aa O<|aD ⟨A,p,_,n,T,_,vw,O,dF _ _ hR,λt ft=>?_⟩⟩;generalize j:fy _ t _=H3;have s3:=bC ft j;have jB:=bu j;have rZ:=s3 _ _ rY;have tt:=gZ (o:=.l ([.r t0]++[.r t])) rZ (λ_ z=>by cases z)
  have mS:=dF.trans s3;have j6:H D=none:=s1.free fD;refine qH _ rZ (bV (by show 1<=_;decide)) (go [.r t0,.r t] _ (λz o N=>?_) av<|.cons ⟨t0,O,tt _ _<|s3 _ _<|s2 _ _ D2⟩<|.cons ⟨t,O,fa,qe,tt _ _ jB,?_,(uT.mono<|aQ mS).mono tt,Ab⟩ .nil)
  ·rw[aw<|aH N j6];exact mS _ _ N
  ·rw[aw<|aH hZ j6];exact mS _ _ hZ
inductive J6(C G:z4)(W:bi)(H:Hp)(Q:VK)(E:XK):Prop|i(M:MS)(A:Ad)(p:Nat)(g:Gs)(P:aS)(n:Str)(w:List bv)(X:List (Nat×be))(T:Nat)(x:Nat->Prop)(m:Nat)(R:bi)(c:Int)(_:W=[.r A.p,.r A.R,.i c])(_:cX M C G H A p g P n X T x m R)(_:Iv p w X g)(_:p<=7)(_:g.kn<=1000)(_:g.se<=1000)(_:R.length<=5000)(_:∀a B,cX M C G B A p g P n X T x m a->a.length<=R.length+1->aB M H B->Q (.b true) B)
abbrev Wh(K:Frag)(C G:z4)(E:XK):aW:=aJ K [("_law_whole",mG),("_law_none_or",DT),("_law_nudged",JQ C G)] [] [] [("text",C,IH C G),("seen",C,zu C G),("flight",C,zw C G),("waiting",C,zx C G)] (E:=E)
theorem Wi:∀{o:Option be},oI N H0 I v o->bx N' I v' o->(match o with|none=>v=.a/\v'=.a|some ps=>∃a b U Y,v=.r a/\v'=.r b/\I a=some (.l U)/\I b=some (.l Y)/\aC I U ps/\aC I Y ps):=by
 intro o h g;cases o with
 |none=>exact⟨h,g⟩
 |some _=>
  obtain⟨l,U,f,e,d,_⟩:=h;obtain⟨a,Y,k,j,i,_⟩:=g;exact r4 l a U Y f k e j d i
theorem amz(W:bi)(H:Hp)(Q:VK)(E:XK)(U:J6 C G W H Q E):az (Wh K C G E) Rt (Dn Q) (Y2 GB W) H:=by
 obtain⟨M,A,p,g,P,n,w,X,T,x,m,R,c,rfl,S,Y,V,N,y,L,q⟩:=U;obtain⟨vf,vw,zq⟩:=ZL S.ro.a;obtain⟨j,J,F⟩:=Yo zq;have t:=(S.ha.st.eY S.nt).al;have h:=λB s=>q R B (S.same s) (Y5 _) (aB.same s);refine aX<|aL<|aa O<|ai<|jE ⟨_,O,du (λ_=>?_)<|λ_=>cb ?_⟩;refine b_ (ky<|rC C (IH C G) O<|aa O ⟨A.p,A.d,_,O,S.ha.ob,jd,M,A.p,A.d,A.q,A.D,A.e,p,_,_,_,_,_,P,O,S.ha,bD<|aa O<|ai ⟨A.R,_,O,dg (i:=1) j O O,dv ?_⟩⟩);rw[mX];exact h H (aA.refl _);refine aX<|aL<|aa O<|ai<|jE ⟨_,O,du (λ_=>?_)<|λ_=>cb ?_⟩;have l:∀{u:VK},u (.i (g.kn:Nat)) H->af (Wh K C G E) (.q 1 "seen" (.v 0) []) (Y2 GB [.r A.p,.r A.R,.i c]) H u:=λz=>rC C (zu C G) O (aa O (tZ A.p A.d _ O S.ha.ob jd ⟨M,A.p,A.d,A.q,A.D,A.e,p,_,_,_,_,_,P,O,S.ha,z⟩));refine b_<|C_<|bA mG O<|ao<|l<|aD ⟨_,O,_,O,iT (Ux<|ky<|l<|bD<|aa O<|ai ⟨A.R,_,O,dg (i:=3) j O O,jE ?_⟩) O⟩;rw[Y4 O];exact h H (aA.refl _);refine aX<|aL<|aa O<|ai<|jE ⟨_,O,du (λ_=>?_)<|λ_=>cb ?_⟩;exact b_ (bA DT O<|ao<|JO O O S.ha t λv I b o=>ao (bD<|aa O<|ai ⟨A.R,_,O,dg (i:=8) (b _ _ j) O O,aD (t_ v vf g.f O ⟨Wi o<|J.same b,λZ k=>h Z<|b.trans k⟩)⟩));refine aX<|aL<|aa O<|ai<|jE ⟨_,O,du (λ_=>?_)<|λ_=>cb ?_⟩;exact b_ (bA DT O<|ao<|JP O O S.ha t λv I b o=>ao (bD<|aa O<|ai ⟨A.R,_,O,dg (i:=9) (b _ _ j) O O,aD (t_ v vw g.de O ⟨Wi o<|F.same b,λZ k=>h Z<|b.trans k⟩)⟩));exact b_<|bA (JQ C G) O<|ao<|aa O<|ao<|aa O<|aD ⟨M,A,p,g,P,n,w,X,T,x,m,R,O,S,Y,V,N,y,L,q⟩
inductive J7(C G:z4)(W:bi)(H:Hp)(Q:VK)(E:XK):Prop|i(M:MS)(A:Ad)(p:Nat)(g:Gs)(P:aS)(n:Str)(w:List bv)(X:List (Nat×be))(T:Nat)(x:Nat->Prop)(m:Nat)(R:bi)(c:Int)(_:W=[.r A.p,.r A.R,.i c])(_:cX M C G H A p g P n X T x m R)(_:Iv p w X g)(_:p<=7)(_:g.kn<=1000)(_:g.se<=1000)(_:R.length<=4000)(_:∀a B,cX M C G B A p g P n X T x m a->a.length<=R.length+5->aB M H B->Q (.b true) B)
abbrev aoK(K:Frag)(C G:z4)(E:XK):aW:=aJ K [("_law_asked",J6 C G)] [] (E:=E)
theorem amA(W:bi)(H:Hp)(Q:VK)(E:XK)(f:J7 C G W H Q E):az (aoK K C G E) Rw (Dn Q) (Y2 Rv W) H:=by
 obtain⟨M,A,p,g,P,n,w,X,T,x,m,R,c,rfl,S,t,j,k,h,y,q⟩:=f;refine wM<|ai ⟨5,O,ba,ba,qz (λi J Z=>YQ λ(u:im)(d:bi)=>XB (J=[some<|.r A.p,some<|.r A.R,some<|.i c,u]) (cX M C G Z A p g P n X T x m d) (d.length<=R.length+i) (aB M H Z)) ⟨none,R,O,S,Yw _,λY Y e Y=>e⟩ ?_ ?_⟩;rintro i J Z B ⟨u,I,rfl,a,l,b⟩;exact aX<|fQ<|kA (J6 C G) O<|ao<|aa O<|ao<|aa O<|ao<|bg<|bg<|bg<|aa O<|ai<|mW ⟨ba,ba⟩<|bg<|aa O<|bg<|ai<|bg<|aa O<|ai<|jb ba<|dW<|UK (.inl ⟨ba,ba⟩)<|dW<|ai<|jb ba<|aD ⟨M,A,p,g,P,n,w,X,T,x,m,I,_,O,a,t,j,k,h,ba,λv D s z o=>j3<|iF (cb (⟨_,v,O,s,(oT z (j2 l _)),b.trans o⟩)) O⟩;rintro J Z ⟨u,I,rfl,a,l,b⟩;exact b_<|ai<|q I Z a ba b
end
def D8(N:MS)(H:Hp)(v:V)(e:Lg):Prop:= ∃t,v=.r t/\match e.2.2 with
 |none=>H t=some (.t (.s e.1::(nV e.2.1++[])))
 |some ps=>∃l U,H t=some (.t (.s e.1::(nV e.2.1++[.r l])))/\H l=some (.l U)/\aC H U ps/\N l
section
variable{K:Frag}{M M' N N' k Bm:MS}{C x:z4}{H B I Z s:Hp}{A:Ad}{G:Nat}{g f r:Gs}{R:Str}{tx:List bv}{S:List (Nat×be)}{T w:Nat}{v:Nat->Prop}{p:bi}{m:aS}{E:XK}{Q:VK}{u:aW}{J:St}
theorem D8.n(h:D8 k H v1 e)(w:∀z,k z-> ¬N z):fk N H v1 e:=by
 obtain⟨t,rfl,h⟩:=h;obtain⟨f,s,o⟩:=e;cases o with
 |none=>exact pQ t O h
 |some ps=>obtain⟨l,U,d,c,b,a⟩:=h;exact t9 t O l U d c b (w l a)
theorem da.but(n:da M H)(b:aB Bm H B)(h:∀z,M z->Bm z->∃o,B z=some o/\∀us,o≠ .t us):da M B:=λz a=>by
 by_cases y:Bm z;exact h z a y;obtain⟨o,c,d⟩:=n z a;exact⟨o,b _ _ c y,d⟩
theorem kS{y:z4}{o:HO}(h:H z=some o)(n:∀us,o≠ .t us)(a:y=z):∃o,H y=some o/\∀us,o≠ .t us:=⟨o,a ▸ h,n⟩
theorem uU(h:H z=some (.l us)):da (· =z) H:=λy a=>kS h nofun a
structure Wk(M:MS)(C x:z4)(A:Ad)(G:Nat)(f:Gs)(m:aS)(es:List Lg)(k:MS)(L:z4)(zs:bi)(Z s:Hp):Prop where
 ha:cq (λz=>M z\/k z) C x s A.p A.d A.q A.D A.e G f.x f.kn f.se f.f f.de m
 b:aB (· =A.q) Z s
 nN:∀z,k z->Z z=none/\∃us,s z=some (.l us)
 n:k L
 hL:s L=some (.l zs)
 pz:Paired (D8 k s) zs es
abbrev J8(K:Frag)(C x:z4)(E:XK):aW:=aJ K [("_law_change",zi),("_law_ask",uQ),("_law_then",Jx),("_law_done",ui),("_law_letters_same",rW),("_law_kept",xf)] [] [] [("do",C,zH C x)] (E:=E)
noncomputable abbrev Wl:ga:=[.a 5 (.t .t [.v 3]),
 .a 6 (.q 0 "do" (.v 0) [.v 5]),
 .i (.o [(.p .NotEq (.v 5)<|.v 3),(.n<|.l 4 [.v 6,.v 4])]) [.r<|.c<|.b false] [],
 .d (.a .c (.v 5) []),
 .r (.l 5 [.v 1,.v 6,.v 2])]
structure OwI(M:MS)(C x:z4)(I:Hp)(A:Ad)(G:Nat)(g f:Gs)(m:aS)(R:Str)(S:List (Nat×be))(T:Nat)(v:Nat->Prop)(w:Nat)(p:bi)(b0 Du:z4)(U ws:bi)(c:be)(es:List Lg):Prop where
 ha:cq M C x I A.p A.d A.q A.D A.e G g.x g.kn g.se g.f g.de m
 ro:dR (M.ea m) I A G f R S T v w p
 mm:M A.p/\M A.q/\M A.R/\M A.o/\M A.k/\M A.r
 nt:da M I
 ne:A.e≠A.R/\A.e≠A.k
 hb:I b0=some (.l U)
 pv:aC I U c
 ok:∀p0∈c,a_ p0
 hD:I Du=some (.l ws)
 pD:Paired (fk (M.ea m) I) ws es
 D1:∀e∈es,qm e
 el:es.length<=2
 xj:∀e∈es,e.2.1.length<=10
 lh:p.length<=4000
 J9:Du≠A.q
 J_:b0≠A.q
theorem amC{X:Prop}{c:be}{W:List Lg}{Y:Int}(u:OwI M C x I A G g f m R S T v w p b0 Du U ws c W)(Ka:∀F Z (Q2:VK),I F=none->aA I Z->Z F=some (.l U)->(∀L k zs s,Wk (M.add F) C x A G f m W k L zs Z s->X->Q2 (.r L) s)->zH C x [.r A.p,.r F] Z Q2 E)(q:X->∀bE B,cX M C x B A G f m R S T v w bE->bE.length<=p.length+1->aB M I B->Q (.b true) B):
  az (J8 K C x E) Wl (Dn Q) [some<|.r A.p,some<|.r A.R,some<|.i Y,some<|.r b0,some<|.r Du,u5,u6] I:=by
 refine aO<|p9<|aa O ⟨_,.inl<|ax.of u.hb,λF kT=>?_⟩;generalize zz:fy _ F _=Z;have H:=bC kT zz;have qq:=bu zz;refine aO<|pT C (zH C x) O<|aa O ⟨A.p,A.d,_,O,H _ _ u.ha.ob,jd,aa O<|Ka F Z _ kT H qq λL k zs s P hX=>?_⟩;replace q:=q hX;obtain⟨h',i',dN,_⟩:=u.ha.st.ob;obtain⟨k',j',iH,_⟩:=P.ha.st.ob;have Ac:=u.ha.st.eY u.nt;have w5:=Ac.al;have Kb:=λz j=>H.free (P.nN z j).1;have V:∀z,(z=F\/k z)->∀{o:HO},I z=some o->False:=λz j o ho=>by
  rcases j with rfl|j
  rw[kT] at ho;cases ho;rw[Kb z j] at ho;cases ho
 have c':¬F=A.q:=λy=>V F (.inl O) (y ▸ dN);have Wm:=P.b _ _ qq c';have Kc:=by
  refine((u.ro.weak (N':=MS.ea (λz=>M.add F z\/k z) m) λz j=>?_).same H).but P.b (λz j=>?_) λz j=>kS (H _ _ dN) (λus z=>by cases z) j;rcases j with((rfl|j)|j)|j
  exact .inr kT;exact .inl (.inl j);exact .inr (Kb z j);exact .inl (.inr j);subst j;exact⟨.inl<|.inl<|.inr u.mm.2.1,u.ro.ne dN⟩
 have rP:=P.b _ _ (H _ _ u.hb) u.J_;have g':dn Z s:=λz us e=>P.b _ _ e λy=>by rw[y,H _ _ dN] at e;cases e
 have xk:aC s U c:=(u.pv.mono<|aQ H).mono g';have e':aB (M.ea m) I s:=(aB.same H).trans λz o e j=>P.b _ _ e λy=>j (.inl<|y ▸ u.mm.2.1);have z0:=Paired.bX u.pD λ_ _ z=>z.but Ac e';have rZ:=P.b _ _ (H _ _ u.hD) u.J9;have nW:=λz j=>w5.no (Kb z j);have el:=u.el;refine aX<|jI<|aL<|aa O<|aa O<|SA Wm rP xk xk (λp0 hp=>G5<|u.ok p0 hp) ⟨_,O,iF ?_ O⟩;refine oF<|fQ<|kA rW O<|ao<|aa O<|ao<|aa O<|aD ⟨L,Du,zs,ws,W,O,P.hL,rZ,Paired.bX P.pz λ_ _ z=>(z.n nW).v,Paired.bX z0 λ_ _ z=>z.v,u.xj,(oT el (Zs _ _)),λH4 N=>j3<|iF (cb ?_) O⟩;have r6:=N _ _ Wm;refine cW<|zY<|aa O ⟨.inl ⟨O,_,ax.of r6⟩,_,r6,?_⟩;have b5:aB (· =F) H4 (fy H4 F<|.l []):=aB.upd;have Wn:fy H4 F (.l []) F=some (.l []):=av;generalize fy H4 F (.l [])=H5 at b5 Wn⊢;have n5:da (· =F) H4:=uU r6;have hB:∀z,(z=F\/k z)->(z≠A.p/\z≠A.q/\z≠A.e)/\(z≠A.R/\z≠A.o/\z≠A.k/\z≠A.r):=λz j=>by
  obtain⟨_,w6,_⟩:=u.ha.st.l;obtain⟨_,_,r1,_⟩:=u.ro.a;obtain⟨_,p1,_⟩:=u.ro.C;obtain⟨_,k1,_⟩:=u.ro.J;exact⟨⟨λy=>V z j<|y ▸ u.ha.ob,λy=>V z j<|y ▸ dN,λy=>V z j<|y ▸ w6⟩,λy=>V z j<|y ▸ r1,λy=>V z j<|y ▸ p1,λy=>V z j<|y ▸ k1,λy=>V z j<|y ▸ u.ro.Z⟩
 have DC:=(P.ha.same N).but b5 (λz j=>⟨.inl<|.inl j,(hB z<|.inl j).1⟩) n5;have Wo:=(Kc.same N).but b5 (λz j=>⟨.inl<|.inl<|.inl j,(hB z<|.inl j).2⟩) n5;have Wq:aB M I H5:=λz o e j=>b5 _ _ (N _ _<|P.b _ _ (H _ _ e) λy=>j (y ▸ u.mm.2.1)) (aH e kT);have D5:da M H5:=by
  refine((u.nt.but (aB.same H:aB (λ_=>False) I Z) λ_ _ h=>h.elim).but P.b λz _ j=>kS iH (λus z=>by cases z) j).but ((aB.same N:aB (· =F) s H4).trans b5) λz _ j=>kS Wn (λus z=>by cases z) j
 have d':L≠F:=λy=>by rw[<-y,(P.nN L P.n).1] at qq;cases qq
 have pX:=b5 _ _ (N _ _ P.hL) d';have Kd:=aB.tup n5 b5;have a':Paired (D8 k H5) zs W:=Paired.bX P.pz (by rintro v1 e ⟨t,et,h⟩;exact pQ t et (by
  obtain ⟨w',ns,o⟩:=e;cases o with
  |none=>exact Kd _ _ (N _ _ h)
  |some ps=>
   obtain ⟨l,us,zq⟩:=ZL h;obtain ⟨g1,g2,g3,g4⟩:=Yq zq;have nl:¬l=F:=λy=>by rw[<-y,(P.nN l g4).1] at qq;cases qq
   exact qM l us (Kd _ _ (N _ _ g1)) (b5 _ _ (N _ _ g2) nl) ((g3.mono (aQ N)).mono Kd) g4))
 have wk:∀{B:Hp}{bE:bi},cq (λz=>M.add F z\/k z) C x B A.p A.d A.q A.D A.e G f.x f.kn f.se f.f f.de m->dR (MS.ea (λz=>M.add F z\/k z) m) B A G f R S T v w bE->da M B->cX M C x B A G f m R S T v w bE:=λh1 h2 h3=>⟨h1.me λz j=>.inl (.inl<|.inr j),h2.weak λz j=>.inl (j.elim (λy=>.inl<|.inl<|.inr y) .inr),u.mm,h3,u.ne⟩;have S5:=wk DC Wo D5;have f':=S5.ha.st.eY S5.nt;have lh:=u.lh;refine b_<|bA xf O<|ao<|aa O<|ao<|aa O<|ao<|aa O<|aD ⟨_,A,G,f,R,S,T,v,w,p,L,Y,O,S5.ro,(oT lh (Zs _ _)),λhc=>?_,λhc=>?_⟩;obtain⟨a1,a2,a3⟩:=DW gE 681000 3 W (oT el (Zs _ _)) ap λe he=>JJ (u.D1 e he);have nL:¬(M.ea m) L:=nW L P.n;have st:=JM pX nL (Paired.bX a' λ_ _ z=>z.n nW) f';refine tH (nq W) (st H5<|λ_ _ e _=>e) a2 (oT a3 (Zs _ _)) ⟨ba,λt H6 ft s6 ht=>?_⟩;obtain⟨S7,b7⟩:=(S5.same s6).held (v:=.r t) (uS t L _ O ht (λB b'=>st B<|(aB.same s6).trans b') a2 (oT a3 (Zs _ _)) ba);exact q _ _ S7 (by simp)<|(Wq.trans<|aB.same s6).trans b7;refine pQ zs pX ?_;have b6:aB (· =L) H5 (fy H5 L<|.l []):=aB.upd;have n6:da (· =L) H5:=uU pX;have DQ:fy H5 L (.l []) L=some (.l []):=av;refine q p _ (wk (DC.but b6 (λz j=>⟨.inr<|j ▸ P.n,(hB z<|.inr<|j ▸ P.n).1⟩) n6) (Wo.but b6 (λz j=>⟨.inl<|.inr<|j ▸ P.n,(hB z<|.inr<|j ▸ P.n).2⟩) n6)<|D5.but b6 λz _ j=>kS DQ (λus z=>by cases z) j) (Y5 _)<|λz o e j=>b6 _ _ (Wq z o e j) λy=>V z (.inr<|y ▸ P.n) e
end
def iJ(t:List (Nat×be)):Nat:=(t.map λe=>ay e.2).sum
structure Pu(i:Nat)(own:Nat)(g:Gs)(ea:aS)(sv:Str)(tx:List bv)(tk:List (Nat×be))(au:Nat)(kp:Nat->Prop):Prop where
 I:Iv own tx tk g
 H:own<=7
 t:tx[tk.length]?=some sv.cps.toList
 aP:∀e∈tk,e.1<=7
 oJ:∀n u0,ea n=some u0->g.kn<n/\tk[n - 1]?=some (u0.1,u0.2.2)
 j7:∀n,g.kn<n->(kp n↔ea n≠none)
 stop:¬kp (g.kn+1)
 iK:au<=g.se
 j8:au<g.se->∀j e,tk[g.kn+j]?=some e->e.1≠own
 b1:iJ tk+(if au<g.se then cB g.f else 0)+cB g.de<=320*i
 b2:cB g.f<=320*i
 lt:∀l∈tx,l.length<=400+iJ tk
 nb:ea.n<=2*i
 L:tk.length<=i
 ls:g.se<=i+g.kn
section
variable{K:Frag}{M M' N N' Nn Bm:MS}{C q:z4}{H B I Z k:Hp}{A:Ad}{R:Nat}{g g' r:Gs}{X sv':Str}{x:List bv}{w:List (Nat×be)}{T E' n i:Nat}{v:Nat->Prop}{p:bi}{G:aS}{E:XK}{Q:VK}{u:aW}{J:St}
theorem Pu.dos{r:bv}(P:Pu i R g G X x w T v)(hi:i<14){c:be}(u:bU c g.x.cps.toList r)(ht:ay c<=320):
  (g.f=none->Pu (i+1) R ⟨⟨r.toArray⟩,g.kn,g.se+1,some c,none⟩ G X x w T v)/\
  (∀f,g.f=some f->g.de=none->Pu (i+1) R ⟨⟨r.toArray⟩,g.kn,g.se,some f,some c⟩ G X x w T v)/\
  (∀f d m ps,g.f=some f->g.de=some d->OC g.de m g.x.cps.toList->uq d c ps m r->Pu (i+1) R ⟨⟨r.toArray⟩,g.kn,g.se,some f,some ps⟩ G X x w T v):=by
 obtain⟨l,m,zq⟩:=ZL P.I.o;obtain⟨E,y,k⟩:=Yo zq;have p:=P.b1;have N:=P.b2;have lk:=P.L;have ls:=P.ls;have nb:=P.nb;have iK:=P.iK;have A:(⟨r.toArray⟩:Str).cps.toList=r:=by simp
 have F:=A▸u.run.good P.I.gx λV W=>Ic (u.ok V W);refine⟨λM=>?_,λf h B=>?_,λf d C ps h B D S=>?_⟩;rw[M] at y p N;rw[(P.I.fd M)] at k p;have el:l=m:=y;have s:=k;have Q:∀j ps,w[g.kn+j]?=some (R,ps)->False:=λj ps n=>by
  obtain⟨⟨f,h,_⟩,_⟩:=P.I.pend j ps n;rw[M] at h;cases h
 refine⟨⟨P.I.T,P.I.gt,P.I.kn,(λz=>rfl),p4 l r E ?_ A.symm,?_,nE _,F,λj ps n=>(Q j ps n).elim⟩,P.H,P.t,P.aP,P.oJ,P.j7,P.stop,by lia,λ_ j e Y z=>Q j e.2 (z▸Y),?_,?_,P.lt,(nS nb),(YS lk),by lia⟩;rw[el,s];exact u;exact oT ht (Zs _ _);have U:(if T<g.se then cB none else 0:Nat)=0:=by split<;>rfl
 show iJ w+(if T<g.se+1 then ay c else 0)+0<=_;lia;exact Z_ ht;rw[B] at k p;have s:=k;refine⟨⟨P.I.T,P.I.gt,P.I.kn,(λz=>by cases z),p4 l m E (h▸y) ?_,ba,?_,F,λj ps n=>by
  obtain⟨⟨Z,q,K⟩,J⟩:=P.I.pend j ps n;rw[h] at q;cases q;exact⟨pQ f O K,J⟩⟩,P.H,P.t,P.aP,P.oJ,P.j7,P.stop,P.iK,P.j8,?_,?_,P.lt,(nS nb),(YS lk),by lia⟩
 rw[s,A];exact u;exact oT ht (Zs _ _);show iJ w+(if T<g.se then cB (some f) else 0)+ay c<=_;lia;rw[h] at N;exact nS N;rw[B] at D k;have s:C=m:=by
  have a:=yQ _ _ D.run.fits.1;have b:=yQ _ _ k.run.fits.1;rw[D.run.fits.2] at a;rw[k.run.fits.2] at b;exact a.2.symm.trans b.2
 subst s;have jt:=S.ay;have a':cB g.de=ay d:=by rw[B];rfl
 refine⟨⟨P.I.T,P.I.gt,P.I.kn,(λz=>by cases z),p4 l C E (h▸y) (A▸S.chg),ba,?_,F,λj ps n=>by
  obtain⟨⟨Z,q,K⟩,J⟩:=P.I.pend j ps n;rw[h] at q;cases q;exact⟨pQ f O K,J⟩⟩,P.H,P.t,P.aP,P.oJ,P.j7,P.stop,P.iK,P.j8,?_,?_,P.lt,(nS nb),(YS lk),by lia⟩
 show ay ps<=5000;lia;show iJ w+(if T<g.se then cB (some f) else 0)+ay ps<=_;lia;rw[h] at N;exact nS N
structure cH(M:MS)(C q:z4)(H:Hp)(A:Ad)(R:Nat)(g r:Gs)(G:aS)(X:Str)(w:List (Nat×be))(T:Nat)(v:Nat->Prop)(n:Nat)(p:bi):Prop where
 ha:cq M C q H A.p A.d A.q A.D A.e R g.x g.kn g.se g.f g.de G
 ro:dR (M.ea G) H A R r X w T v n p
 mm:M A.p/\M A.q/\M A.R/\M A.o/\M A.k/\M A.r
 nt:da M H
 ne:A.e≠A.R/\A.e≠A.k
theorem cX.b(S:cX M C q H A R g G X w T v n p):cH M C q H A R g g G X w T v n p:=⟨S.ha,S.ro,S.mm,S.nt,S.ne⟩
theorem cH.s(S:cH M C q H A R g g G X w T v n p):cX M C q H A R g G X w T v n p:=⟨S.ha,S.ro,S.mm,S.nt,S.ne⟩
theorem cH.same(S:cH M C q H A R g r G X w T v n p)(s:aA H B):cH M C q B A R g r G X w T v n p:=
 ⟨S.ha.same s,S.ro.same s,S.mm,λz a=>let ⟨o,e,h⟩:=S.nt z a;⟨o,s _ _ e,h⟩,S.ne⟩
structure Kp(H B:Hp):Prop where
 tt:dn H B
 ls:∀z us,H z=some (.l us)->B z=some (.l us)
theorem Kp.trans(a:Kp H B)(b:Kp B we):Kp H we:=⟨λz us h=>b.tt _ _<|a.tt _ _ h,λz us h=>b.ls _ _<|a.ls _ _ h⟩
theorem Kp.same(s:aA H B):Kp H B:=⟨aQ s,λz us h=>s _ _ h⟩
theorem bx.keep(k:Kp H B):∀{o:Option be},bx N H v1 o->bx N B v1 o
 |none,h=>h
 |some _,⟨a,U,e,d,c,b⟩=>qM a U e (k.ls _ _ d) (c.mono k.tt) b
theorem fk.keep{v:V}(h:fk N H v e)(k:Kp H B):fk N B v e:=by
 obtain⟨t,rfl,h⟩:=h;obtain⟨w,n,o⟩:=e;cases o with
 |none=>exact pQ t O (k.tt _ _ h)
 |some ps=>obtain⟨l,U,zq⟩:=ZL h;obtain⟨d,c,b,a⟩:=Yq zq;exact t9 t O l U (k.tt _ _ d) (k.ls _ _ c) (b.mono k.tt) a
theorem cH.put(S:cH M C q H A R g r G X w T v n p)(B:bx (M.ea G) H vf r'.f)(x:bx (M.ea G) H vw r'.de):cH M C q (fy H A.R<|.d<|zk bB<|dQ A R r' sv' E' vf vw) A R g r' G sv' w E' v n p/\aB M H (fy H A.R<|.d<|zk bB<|dQ A R r' sv' E' vf vw)/\Kp H (fy H A.R<|.d<|zk bB<|dQ A R r' sv' E' vf vw):=by
 obtain⟨k,j,c,Y,Y⟩:=S.ro.a;have m:∀us:bi,(HO.d<|zk bB<|dQ A R r X T k j)≠ .t us:=nofun;have b:∀us:bi,(HO.d<|zk bB<|dQ A R r X T k j)≠ .l us:=nofun;have i:aB (· =A.R) H (fy H A.R<|.d<|zk bB<|dQ A R r' sv' E' vf vw):=aB.upd;have s:da (· =A.R) H:=λz h=>kS c m h;obtain⟨Y,Y,u,Y⟩:=S.ha.st.ob;refine⟨⟨S.ha.but i (λz h=>?_) s,S.ro.put (.inl S.mm.2.2.1) B x,S.mm,S.nt.but i λz Y h=>kS av nofun h,S.ne⟩,λz o e h=>i _ _ e λy=>h (y ▸ S.mm.2.2.1),gZ c m,λz us e=>j4 c b e⟩;subst h;exact⟨S.mm.2.2.1,((S.ro.ne S.ha.ob).1).symm,((S.ro.ne u).1).symm,S.ne.1.symm⟩
theorem cH.oK(S:cH M C q H A R g r G X w T v n p)(z:fy H A.R (.d<|zk bB<|dQ A R r' sv' E' vf vw)=B)(b:bx (M.ea G) H vf r'.f)(a:bx (M.ea G) H vw r'.de):cH M C q B A R g r' G sv' w E' v n p/\aB M H B/\Kp H B/\B A.R=some (.d<|zk bB<|dQ A R r' sv' E' vf vw):=by
 have h:=S.put (sv':=sv') (E':=E') b a;rw[z] at h;exact⟨h.1,h.2.1,h.2.2,bu z⟩
theorem Pu.amL(P:Pu i R g G X x w T v)(n:i<=14):g.x.length<=9400/\∀l m,x[g.kn]?=some l->OC g.f l m->l.length<=4900/\m.length<=9400:=by
 obtain⟨l,m,h,b,a⟩:=P.I.o;have q:=P.b1;have p:=P.b2;have j:=YN g.x;have r:=a.len;have k:=P.lt l (X_ h);have s:=b.len;refine⟨ba,λl' d e c=>?_⟩;rw[h] at e;cases e;have:=c.len;exact⟨ba,ba⟩
theorem cH.ext(S:cH M C q H A R g r G X w T v n p)(f:H d=none)(s:aA H B)(b:B d=some (.l us)):cH (M.add d) C q B A R g r G X w T v n p:=
 ⟨(⟨S.ha.ob,S.ha.st.weak λz a=>a.elim (λy=>.inr (y ▸ f)) .inl⟩:cq (M.add d) C q H A.p A.d A.q A.D A.e R g.x g.kn g.se g.f g.de G).same s,(S.ro.weak λz a=>by
  rcases a with(rfl|a)|a
  exact .inr f;exact .inl (.inl a);exact .inl (.inr a)).same s,⟨.inr S.mm.1,.inr S.mm.2.1,.inr S.mm.2.2.1,.inr S.mm.2.2.2.1,.inr S.mm.2.2.2.2.1,.inr S.mm.2.2.2.2.2⟩,λz a=>by
  rcases a with rfl|a
  exact⟨_,b,nofun⟩;obtain⟨o,e,h⟩:=S.nt z a;exact⟨o,s _ _ e,h⟩,S.ne⟩
theorem cH.un(S:cH (M.add d) C q H A R g r G X w T v n p)(m:M A.p/\M A.q/\M A.R/\M A.o/\M A.k/\M A.r):cH M C q H A R g r G X w T v n p:=
 ⟨S.ha.me λz h=>.inl (.inr h),S.ro.weak λz h=>.inl (h.elim (λy=>.inl<|.inr y) .inr),m,S.nt.mono λz h=>.inr h,S.ne⟩
theorem cH.grow(S:cH M C q H A R g r G X w T v n p)(t:M d)(f:H d=some (.l us))(s:d≠A.o)(m:d≠A.r):cH M C q (fy H d<|.l us') A R g r G X w T v n p:=by
 have i:aB (· =d) H (fy H d<|.l us'):=aB.upd;have j:=uU f;obtain⟨Y,Y,u,Y⟩:=S.ha.st.ob;obtain⟨Y,B,Y⟩:=S.ha.st.l;obtain⟨Y,Y,D,Y⟩:=S.ro.a;obtain⟨Y,x,Y⟩:=S.ro.J;have b:∀{z:z4}{o:HO},H z=some o->(∀us,o≠ .l us)->d≠z:=λF E y=>by rw[y,F] at f;cases f;exact E _ O
 have c:∀z,z=d->(M z/\z≠A.p/\z≠A.q/\z≠A.e)/\(z≠A.R/\z≠A.o/\z≠A.k/\z≠A.r):=λz c=>by
  subst c;exact⟨⟨t,b S.ha.ob nofun,b u nofun,b B nofun⟩,b D nofun,s,b x nofun,m⟩
 exact⟨S.ha.but i (λz h=>(c z h).1) j,S.ro.but i (λz h=>⟨.inl (c z h).1.1,(c z h).2⟩) j,S.mm,S.nt.but i λz Y h=>kS av nofun h,S.ne⟩
inductive Ke(C q:z4)(W:bi)(H:Hp)(Q:VK)(E:XK):Prop|i(M:MS)(A:Ad)(R:Nat)(g:Gs)(G:aS)(X:Str)(x:List bv)(w:List (Nat×be))(T:Nat)(v:Nat->Prop)(n:Nat)(p:bi)(i:Nat)(c:Int)(_:W=[.r A.p,.r A.R,.i c])(_:cX M C q H A R g G X w T v n p)(_:Pu i R g G X x w T v)(_:i<14)(_:p.length<=3000)(_:∀g' a B,cX M C q B A R g' G X w T v n a->Pu (i+1) R g' G X x w T v->a.length<=p.length+1->aB M H B->Q (.b true) B)
theorem cq.wk(S:cq M C q H A.p A.d A.q A.D A.e R g.x g.kn g.se g.f g.de G)(f:H h=none):cq (M.add h) C q H A.p A.d A.q A.D A.e R g.x g.kn g.se g.f g.de G:=⟨S.ob,S.st.weak λz a=>a.elim (λy=>.inr<|y ▸ f) .inl⟩
theorem amM(W:bi)(H:Hp)(Q:VK)(E:XK)(hh:Ke C q W H Q E):az (J8 K C q E) RF (Dn Q) (Y2 RD W) H:=by
 obtain⟨M,A,R,g,G,X,x,w,T,v,n,p,i,a',rfl,S,P,hi,lh,q0⟩:=hh;obtain⟨lx,lm⟩:=P.amL (AP hi);obtain⟨_,gx⟩:=P.I.len;obtain⟨vf,vw,hR,of,ow⟩:=S.ro.a;obtain⟨l,m,o1,o2,o3⟩:=P.I.o;obtain⟨ll,s'⟩:=lm l m o1 o2;have k0:=Zu a' (show(9:Int)≠0 by decide);have k9:=ZK a' (show(0:Int) <9 by decide);refine aO<|bA zi O<|ao<|bg<|aa O<|ai<|mW ⟨ap,ap⟩<|ao<|bD<|aa O<|ai ⟨A.R,_,O,dg (i:=1) hR O O,ao<|bg<|aa O<|ai<|jb ap<|aD ⟨_,_,_,O,gx,(oT lx (Zs _ _)),k0,ba,λb0 I Y c rr s1 fb hb pv ok ch lc tc c'=>?_⟩⟩;have cg:bU c g.x.cps.toList rr:=⟨ok,ch,c'⟩;have e':ay c<=320:=by lia
 obtain⟨pA,pB,pC⟩:=P.dos hi cg e';have D9:=S.ha.st.eY S.nt;have Ae:¬(M.ea G) b0:=D9.al.no fb;refine aO<|cQ<|aD ⟨nE _,λF fD=>?_⟩;generalize zz:fy _ F _=Z;have s2:=bC fD zz;have rY:=bu zz;have dF:=s1.trans s2;have B2:=(S.same dF).b;have jK:=dF _ _ hR;have d':=of.same dF;have Af:=ow.same dF;have iZ:=s2 _ _ hb;have jc:=pv.mono (aQ s2);have j6:H F=none:=s1.free fD;obtain⟨_,_,Wr,_⟩:=S.ha.st.ob;have J9:F≠A.q:=λy=>by rw[y,Wr] at j6;cases j6
 have J_:b0≠A.q:=λy=>by rw[y,Wr] at fb;cases fb
 have q':=c'.len;have u':=YN g.x;have h':=DV cg (oT e' (Zs _ _)) ba;have XV:∀(j:Gs)(rO Kf:V)(ws:bi)(es:List Lg)(k:Hp),cH M C q k A R g j G X w T v n p->k A.R=some (.d<|zk bB<|dQ A R j X T rO Kf)->bx (M.ea G) k rO j.f->bx (M.ea G) k Kf j.de->j.x=g.x->k b0=some (.l Y)->aC k Y c->k F=some (.l ws)->Paired (fk (M.ea G) k) ws es->(∀e∈es,qm e)->es.length<=2->(∀e∈es,e.2.1.length<=10)->aB M H k->
   (∀(H4:Hp),cq M C q H4 A.p A.d A.q A.D A.e R g.x g.kn g.se g.f g.de G->Al M H4->∀U H5 (Q2:VK),H4 U=none->aA H4 H5->H5 U=some (.l Y)->aC H5 Y c->(∀L Nn zs H6,Wk (M.add U) C q A R ⟨⟨rr.toArray⟩,j.kn,j.se,j.f,j.de⟩ G es Nn L zs H5 H6->Pu (i+1) R ⟨⟨rr.toArray⟩,j.kn,j.se,j.f,j.de⟩ G X x w T v->Q2 (.r L) H6)->zH C q [.r A.p,.r U] H5 Q2 E)->
   az (J8 K C q E) (.t (.v 1) (.c<|.s "text") (.l 3 [(.B (.v 1)<|.c<|.s "text"),.v 3])::Wl) (Dn Q) [some<|.r A.p,some<|.r A.R,some<|.i a',some<|.r b0,some<|.r F,none,none] k:=by
  intro j rO Kf ws es k B3 iL D_ g' ex rP xk rZ z0 D1 el xj m' Ka;refine gB<|bA ui O<|ao<|bD<|aa O<|ai ⟨A.R,_,O,dg (i:=1) iL O O,ao<|aa O<|aD ⟨j.x,b0,Y,c,rr,O,by rw[ex];exact gx,rP,xk,λp0 hp=>tO<|ok p0 hp,by rw[ex];exact c',ba,?_⟩⟩;refine aa O<|ai ⟨A.R,_,O,kR (i:=1) iL O (by show 1<11;decide),?_⟩;obtain⟨B4,b4,k4⟩:=B3.put (r':=⟨⟨rr.toArray⟩,j.kn,j.se,j.f,j.de⟩) (sv':=X) (E':=T) D_ g';refine amC (f:=⟨⟨rr.toArray⟩,j.kn,j.se,j.f,j.de⟩) ⟨B4.ha,B4.ro,B4.mm,B4.nt,B4.ne,k4.ls _ _ rP,xk.mono k4.tt,ok,k4.ls _ _ rZ,Paired.bX z0 λ_ _ z=>z.keep k4,D1,el,xj,(oT lh (Zs _ _)),J9,J_⟩ (λU H5 Q2 f5 s5 h5 kk=>Ka _ B4.ha B4.nt.al U H5 Q2 f5 s5 h5 ((xk.mono k4.tt).mono<|aQ s5) kk) λpu bE B S' l' b'=>q0 _ bE B S' pu l' ((m'.trans b4).trans b')
 have Kg:∀{U:z4}{Hx:Hp},Al M Hx->(∃o,Hx U=some o)->Al (M.add U) Hx:=λa h z u=>u.elim (λy=>y ▸ h) (a z);obtain⟨_,n',_⟩:=S.ro.C;have j':F≠A.o:=λy=>by rw[y,n'] at j6;cases j6
 have JU:F≠A.r:=λy=>by rw[y,S.ro.Z] at j6;cases j6
 have Ws:b0≠F:=aH hb fD;have p':¬(M.ea G) F:=D9.al.no j6;obtain⟨x1,J,N,fl,de⟩:=g;have v':J<=1000:=by have:=P.I.kn;have:=P.L;have:J<=w.length:=P.I.kn;lia
 have Ag:N<=1000:=by have:N<=i+J:=P.ls;have:J<=w.length:=P.I.kn;have:=P.L;lia
 cases fl with
 |none=>
  have ed:de=none:=P.I.fd O;subst ed;cases (show vf=.a from of);refine aX<|aL<|bD<|aa O<|ai ⟨A.R,_,O,dg (i:=8) jK O O,ai<|gA ⟨_,O,iT ?_<|Y4 O⟩⟩;refine gB<|aa O<|aa O<|ai ⟨A.R,_,O,kR (i:=8) jK O (by show 8<11;decide),?_⟩;have o':=(S.same s1).b.ext fD s2 rY;have ob:bx ((M.add F).ea G) Z (.r b0) (some c):=qM b0 Y O iZ jc (λu=>by
   rcases u with(h|h)|h
   exact Ws h;exact Ae (.inl h);exact Ae (.inr h))
  have Wt:bx ((M.add F).ea G) Z vw none:=Af;generalize zz:fy _ A.R _=k;obtain⟨B3,b3,k3,iL⟩:=Yq (o'.oK (r':=⟨x1,J,N,some c,none⟩) zz ob Wt);refine gB<|bg<|bD<|aa O<|ai ⟨A.R,_,O,dg (i:=4) iL O O,ai<|dW<|aa O<|ai ⟨A.R,_,O,kR (i:=4) iL O (by show 4<11;decide),?_⟩⟩;generalize zz:fy _ A.R _=H4;obtain⟨B4,b4,k4,Ah⟩:=Yq (B3.oK (r':=⟨x1,J,N+1,some c,none⟩) zz (ob.keep k3) (Wt.keep k3));have Wu:=k3.trans k4;have Wv:=Wu.ls _ _ rY;refine cW<|eU<|aa O ⟨.inl ⟨O,_,ax.of Wv⟩,bA uQ O<|ao<|aa O<|aD ⟨A,R,_,X,T,_,vw,O,Ah,λt ft=>?_⟩⟩;generalize zz:fy _ t _=H5;have s5:=bC ft zz;have rD:=bu zz;have Ea:=s5 _ _ Wv;have Ww:=Wu.trans (Kp.same s5);refine qH _ Ea (bV ap) ?_;have B6:=((B4.same s5).grow (us':=[]++[.r t]) (.inl O) Ea j' JU).un S.mm;have b6:aB (· =F) H5 (fy H5 F<|.l<|[]++[.r t]):=aB.upd;have t6:=aB.tup (uU Ea) b6;have Wx:fy H5 F (.l<|[]++[.r t]) F=some (.l [.r t]):=av;have Eb:fy H5 F (.l<|[]++[.r t]) b0=some (.l Y):=by rw[aw Ws];exact Ww.ls _ _ iZ
  have Ec:=(jc.mono Ww.tt).mono t6;have i':¬A.R=F:=λy=>by have:=s5 _ _ Ah;rw[y,Ea] at this;cases this
  have Ai:=b6 _ _ (s5 _ _ Ah) i';have Wy:aB M H (fy H5 F<|.l<|[]++[.r t]):=λz o e u=>by
   have nz:¬z=F:=aH e j6;have Wz:¬(M.add F) z:=λh=>h.elim nz u;exact b6 _ _ (s5 _ _<|b4 _ _ (b3 _ _ (dF _ _ e) Wz) Wz) nz
  generalize fy H5 F (.l<|[]++[.r t])=H6 at B6 b6 t6 Wx Eb Ec Ai Wy⊢;have ak:qm (("ask":Str),[R,N+1,J],some c):=⟨.inl O,(by show 3<=3;decide),λn0 hn=>by simp only[Z5,Zb,KM] at hn;have:=P.H;rcases hn with rfl|rfl|rfl<;>lia,λps h=>by cases h;exact h'⟩;refine XV ⟨x1,J,N+1,some c,none⟩ (.r b0) vw [.r t] [("ask",[R,N+1,J],some c)] H6 B6 Ai (qM b0 Y O Eb Ec Ae) Af O Eb Ec Wx (.cons (t9 t O b0 Y (t6 _ _ rD) Eb Ec Ae) .nil) (λe he=>by rw[ZF.mp he];exact ak) (by show 1<=2;decide) (λe he=>by rw[ZF.mp he];show 3<=10;decide) Wy ?_;intro Ha ha al U Hb Q2 fh sh hh Aj kk;refine⟨M.add U,A.p,A.d,A.q,A.D,A.e,R,x1,J,N,none,none,G,U,Y,c,m,rr,O,(cq.wk (g:=⟨x1,J,N,none,none⟩) ha fh).same sh,Kg (λz u=>let ⟨o,ho⟩:=al z u;(qX o (sh _ _ ho))) (qX _ hh),(λ_=>O),hh,Aj,cg,o3,(oT e' (Zs _ _)),nE _,gx,(oT lx (Zs _ _)),?_⟩;intro L t' l' H7 b7 fL VG k' S7 hL hA;obtain⟨us,WA,f'⟩:=hA.2;refine kk L (λz=>z=L\/z=l') [.r t'] H7 ⟨S7.me λz u=>.inl ?_,b7,λz u=>?_,.inl O,hL,.cons (t9 t' O l' us hA.1 WA f' (.inr O)) .nil⟩<|pA O;rcases u with h|h|h
  exact .inr (.inr h);exact .inr (.inl h);exact .inl h;rcases u with rfl|rfl
  exact uJ fL _ hL;exact uJ k' _ WA
 |some f=>
  obtain⟨fa,qe,zq⟩:=ZL ((show eK (M.ea G) H vf f from of));obtain⟨rfl,hZ,uT,Ab⟩:=Yq zq;refine aX<|aL<|bD<|aa O<|ai ⟨A.R,_,O,dg (i:=8) jK O O,ai<|gA ⟨_,O,iF ?_ jH⟩⟩;cases de with
  |none=>
   cases (show vw=.a from ow);refine aX<|aL<|bD<|aa O<|ai ⟨A.R,_,O,dg (i:=9) jK O O,ai<|gA ⟨_,O,iT ?_<|Y4 O⟩⟩;refine gB<|aa O<|aa O<|ai ⟨A.R,_,O,kR (i:=9) jK O (by show 9<11;decide),?_⟩;have ob:bx (M.ea G) Z (.r b0) (some c):=qM b0 Y O iZ jc Ae;generalize zz:fy _ A.R _=k;obtain⟨B3,b3,k3,iL⟩:=B2.oK (r':=⟨x1,J,N,some f,some c⟩) zz d' ob;refine XV ⟨x1,J,N,some f,some c⟩ (.r fa) (.r b0) [] [] k B3 iL (d'.keep k3) (ob.keep k3) O (k3.ls _ _ iZ) (jc.mono k3.tt) (k3.ls _ _ rY) .nil (λe he=>by cases he) (nE _) (λe he=>by cases he) ((aB.same dF).trans b3) ?_;intro Ha ha al U Hb Q2 fh sh hh Aj kk;refine⟨M.add U,A.p,A.d,A.q,A.D,A.e,R,x1,J,N,some f,none,G,U,Y,c,m,rr,O,(cq.wk (g:=⟨x1,J,N,some f,none⟩) ha fh).same sh,Kg (λz u=>let ⟨o,ho⟩:=al z u;(qX o (sh _ _ ho))) (qX _ hh),(λz=>by cases z),hh,Aj,cg,o3,(oT e' (Zs _ _)),nE _,gx,(oT lx (Zs _ _)),?_⟩;intro L H7 b7 fL S7 hL;refine kk L (· =L) [] H7 ⟨S7.me λz u=>.inl (u.elim .inr .inl),b7,λz u=>?_,O,hL,.nil⟩<|pB f O O;have u:z=L:=u;subst u;exact uJ fL _ hL
  |some d=>
   obtain⟨wa,Kh,zq⟩:=ZL ((show eK (M.ea G) H vw d from ow));obtain⟨rfl,Ki,Kj,yW⟩:=Yq zq;have FR:bU d m x1.cps.toList:=o3;have td:ay d<=5000:=P.I.i;have Ed:cB (some f)<=5000:=P.I.t;refine aX<|aL<|bD<|aa O<|ai ⟨A.R,_,O,dg (i:=9) jK O O,ai<|gA ⟨_,O,iF ?_ jH⟩⟩;have gm:∀c∈m,SG.cps.contains c=true:=o2.good (P.I.gt l<|X_ o1).2;obtain⟨_,tl,_⟩:=Vo FR cg gm ba;refine gB<|bA Jx O<|ao<|bD<|aa O<|ai ⟨A.R,_,O,dg (i:=9) jK O O,ao<|aa O<|aD ⟨wa,b0,Kh,Y,d,c,m,x1.cps.toList,rr,O,dF _ _ Ki,iZ,Kj.mono<|aQ dF,jc,FR,cg,gm,ba,(oT s' (Zs _ _)),ba,ba,λz k zs s3 fz u pz=>?_⟩⟩;have B3:=B2.same s3;have iL:=s3 _ _ jK;have nz:¬(M.ea G) z:=(B2.ha.st.eY B2.nt).al.no fz;refine aa O<|ai ⟨A.R,_,O,kR (i:=9) iL O (by show 9<11;decide),?_⟩;have ob:bx (M.ea G) k (.r z) (some<|w_ m d c):=qM z zs O u pz nz;have D_:=d'.same s3;generalize zz:fy _ A.R _=H4;obtain⟨B4,b4,k4,Ah⟩:=Yq (B3.oK (r':=⟨x1,J,N,some f,some<|w_ m d c⟩) zz D_ ob);refine XV ⟨x1,J,N,some f,some<|w_ m d c⟩ (.r fa) (.r z) [] [] H4 B4 Ah (D_.keep k4) (ob.keep k4) O (k4.ls _ _<|s3 _ _ iZ) ((jc.mono<|aQ s3).mono k4.tt) (k4.ls _ _<|s3 _ _ rY) .nil (λe he=>by cases he) (nE _) (λe he=>by cases he) ((aB.same<|dF.trans s3).trans b4) ?_;intro Ha ha al U Hb Q2 fh sh hh Aj kk;refine⟨M.add U,A.p,A.d,A.q,A.D,A.e,R,x1,J,N,some f,some d,G,U,Y,c,m,rr,O,(cq.wk (g:=⟨x1,J,N,some f,some d⟩) ha fh).same sh,Kg (λz u=>let ⟨o,ho⟩:=al z u;(qX o (sh _ _ ho))) (qX _ hh),(λz=>by cases z),hh,Aj,cg,o3,(oT e' (Zs _ _)),td,gx,(oT lx (Zs _ _)),?_⟩;intro L ps H7 b7 fL J0 S7 hL;have ep:=tl ps J0;subst ep;refine kk L (· =L) [] H7 ⟨S7.me λz u=>.inl (u.elim .inr .inl),b7,λz u=>?_,O,hL,.nil⟩<|pC f d m _ O O o3 J0;have u:z=L:=u;subst u;exact uJ fL _ hL
end
theorem WB{a:Nat}{c:be}(h:a+j<=tk.length):pj (tk++e) a j c=pj tk a j c:=by
 unfold pj;rw[List.drop_append_of_le_length (oT (lJ _ _) h),List.take_append_of_le_length (by rw[Y0];lia)]
theorem Ee{t:List (Nat×be)}(T:d3 tx t){a:Nat}{c:be}(h:tx[a]?=some l)(b:bU c l n)(g:ay c<=5000):∀j,a+j<=t.length->∃m r,tx[a+j]?=some m/\bU (pj t a j c) m r/\ay (pj t a j c)<=ay c
 | 0,_=>p4 l n h (Dw▸b) (Dw▸Yw _)
 |j+1,v=>by
  obtain⟨m,r,o,i,w⟩:=Ee T h b g j (YA v);have e:=YO (xO v);have f:a+j+1<tx.length:=T.len▸Yd v;have x:=YO f;obtain⟨p,u⟩:=T.chg _ _ _ _ _ e o x;obtain⟨⟨d,q,Y⟩,s,Y⟩:=Df p i (oT u (Zs _ _)) ba;refine p4 _ d x ?_ ?_;rw[ID e];exact q;rw[ID e];exact oT s w
section
variable{K:Frag}{M M' N N' Nn Bm:MS}{C v:z4}{H B I Z H3:Hp}{A:Ad}{w:Nat}{g g' r:Gs}{G p:Str}{x:List bv}{s:List (Nat×be)}{X k n i:Nat}{T:Nat->Prop}{b:bi}{R:aS}{E:XK}{Q:VK}{u:aW}{J:St}
theorem WC(s:List (Nat×be))(e:Nat×be):iJ (s++[e])=iJ s+ay e.2:=by unfold iJ;simp
theorem Pu.WD(P:Pu i w g R G x s X T)(h:i<=14):G.length<=400+iJ s/\iJ s<=4480/\good G:=by
 have b:=P.b1;have l:=P.lt _ (X_ P.t);have:=YN G;exact⟨(oT (Y8 this) l),ba,ba,(P.I.gt _<|X_ P.t).2⟩
theorem Pu.more{r:bv}(P:Pu i w g R G x s X T)(hi:i<14){c:be}{b:Nat}(D:bU c G.cps.toList r)(hw:b<=7):
  (b≠w->ay c<=320->Pu (i+1) w g R ⟨r.toArray⟩ (x++[r]) (s++[(b,c)]) X T)/\
  (b=w->X<g.se->∀f,g.f=some f->c=pj s g.kn (s.length - g.kn) f->Pu (i+1) w g R ⟨r.toArray⟩ (x++[r]) (s++[(b,c)]) g.se T):=by
 have er:(⟨r.toArray⟩:Str).cps.toList=r:=by simp
 have M:=P.b1;have b2:=P.b2;obtain⟨sl,st,gs⟩:=P.WD (AP hi);have rl:=D.run.len;have a':=YN G;have Z:=P.I.T.len;have WE:=P.I.kn;have lk:=P.L;have gl:(s++[(b,c)]).length=s.length+1:=by rw[Yy];rfl
 have d:∀{j:Nat}{e:Nat×be},j<s.length->((s++[(b,c)])[j]?=some e↔s[j]?=some e):=λh=>by rw[X4 h]
 have q:∀{j:Nat}{e:Nat×be},¬j<s.length->(s++[(b,c)])[j]?=some e->j=s.length/\e=(b,c):=λ{j e} h n=>by
  have:=(ZT.mp n).1;have u:j=s.length:=by lia
  subst u;rw[YI<|Yw _,Xy] at n;cases n;exact⟨O,O⟩
 have gr:=D.run.good gs.2 λp0 hp=>Ic (D.ok p0 hp);have W:ay c<=5000->400+iJ s+ay c<=5000->(∀j ps,(s++[(b,c)])[g.kn+j]?=some (w,ps)->(∃f,g.f=some f/\ps=pj (s++[(b,c)]) g.kn j f)/\∀A,A<j->∀e,(s++[(b,c)])[g.kn+A]?=some e->e.1≠w)->∀k,k<=g.se->(k<g.se->∀j e,(s++[(b,c)])[g.kn+j]?=some e->e.1≠w)->iJ s+ay c+(if k<g.se then cB g.f else 0)+cB g.de<=320* (i+1)->Pu (i+1) w g R ⟨r.toArray⟩ (x++[r]) (s++[(b,c)]) k T:=by
  intro t5 l5 pe k k1 k2 bb;obtain⟨l,m,F,y,N⟩:=P.I.o;have nb:=P.nb;have ls:=P.ls;refine⟨⟨d3.snoc P.I.T P.t D t5,λz K=>?_,ba,P.I.fd,p4 l m (by rw[X4 ba];exact F) y N,P.I.t,P.I.i,P.I.gx,pe⟩,P.H,?_,λe n=>?_,λn0 Y hu=>?_,P.j7,P.stop,k1,k2,?_,(nS b2),λz K=>?_,(nS nb),ba,ba⟩;rcases R8.mp K with h|h
  exact P.I.gt z h;rw[ZF.mp h];exact⟨ba,gr⟩;rw[gl,YI (Y8 Z),Z,Xy,er];rfl;rcases R8.mp n with h|h
  exact P.aP e h;rw[ZF.mp h];exact hw;obtain⟨a,U⟩:=P.oJ n0 Y hu;exact⟨a,(d (ZT.mp U).1).mpr U⟩;rw[WC];exact bb;rw[WC];rcases R8.mp K with h|h
  have:=P.lt z h;lia;rw[ZF.mp h];lia
 refine⟨λV ht=>?_,λb' J f B Q=>?_⟩;refine W (oT ht (Zs _ _)) ba (λj ps u=>?_) X P.iK (λh j e n=>?_) ba;by_cases p:g.kn+j<s.length;obtain⟨⟨f,B,v⟩,e2⟩:=P.I.pend j ps ((d p).mp u);exact⟨pQ f B (by rw[WB (AP p)];exact v),λA S e n=>e2 A S e<|(d ba).mp n⟩;obtain⟨_,v⟩:=q p u;cases v;exact absurd O V;by_cases p:g.kn+j<s.length;exact P.j8 h j e ((d p).mp n);obtain⟨_,v⟩:=q p n;rw[v];exact V;obtain⟨l,m,F,y,N⟩:=P.I.o;rw[B] at y;have C:=P.I.t;rw[B] at C;obtain⟨_,_,_,_,E⟩:=Ee P.I.T F y C (s.length - g.kn) ba;rw[<-Q] at E;rw[Fr J,B] at M;have M:iJ s+ay f+cB g.de<=320*i:=M;refine W (oT E C) ba (λj ps u=>?_) g.se (Yw _) (λh=>absurd h<|Zt _) (by rw[Fk<|Zt _];lia);by_cases p:g.kn+j<s.length;exact absurd O (P.j8 J j (w,ps)<|(d p).mp u);obtain⟨ej,v⟩:=q p u;cases v;refine⟨pQ f B ?_,λA S e n=>P.j8 J A e<|(d ba).mp n⟩;rw[WB (Y8 ej),Q,show j=s.length - g.kn by lia]
theorem dR.post(S:dR N H A w r G s X T n b)(V:N A.o){i:bi}(p:H A.o=some (.l i))(ht:H t=some (.t<|gC w (s.length+1) P c))(hc:H c=some (.l U))(L:aC H U ps)(E:¬N c):dR N (fy H A.o<|.l<|i++[.r t]) A w r G (s++[(P,ps)]) X T n b:=by
 obtain⟨vf,vw,g,m,h3⟩:=S.a;obtain⟨a',D,x,M⟩:=S.C;rw[p] at D;cases D;obtain⟨W,F,k2,Y⟩:=S.J;have f:aB (· =A.o) H (fy H A.o<|.l<|i++[.r t]):=aB.upd;have d:=aB.tup (uU p) f;have B:∀z,z=A.o->N z:=λz k=>k ▸ V;have u:aB N H (fy H A.o<|.l<|i++[.r t]):=λz o e k=>f _ _ e λy=>k (B z y);have v:∀{z:z4}{o:HO},H z=some o->(∀us,o≠ .l us)-> ¬z=A.o:=λg m y=>by rw[y,p] at g;cases g;exact m _ O
 refine⟨p4 vf vw (f _ _ g (v g λR z=>by lia)) (m.but d f B) (h3.but d f B),qH _ av (by rw[Yy,Yy,x];rfl) (λj e h=>?_),qH W (f _ _ F (v F λR z=>by lia)) k2 Y,f _ _ S.Z<|GE S.q,λK hv=>(S.hh K hv).but d u,S.Q,S.q⟩;by_cases aR:j<s.length;rw[X4 aR] at h;obtain⟨z,c',bw,zq⟩:=ZG (M j e h);obtain⟨g1,g2,g3,g4,I⟩:=c3 zq;exact sA z c' bw (by rw[X4 ba];exact g1) (d _ _ g2) (u _ _ g3 I) (g4.mono d) I;have hl:=(ZT.mp h).1;rw[Yy] at hl;have hj:j=s.length:=by have:([(P,ps)]:List (Nat×be)).length=1:=O;lia
 subst hj;rw[YI<|Yw _,Xy] at h;cases h;exact sA t c U (by rw[YI (Y8 x),x,Xy];rfl) (d _ _ ht) (u _ _ hc E) (L.mono d) E
inductive Kk(C v:z4)(W:bi)(H:Hp)(Q:VK)(E:XK):Prop|i(M:MS)(A:Ad)(w:Nat)(g:Gs)(R:aS)(G:Str)(x:List bv)(s:List (Nat×be))(X:Nat)(T:Nat->Prop)(n:Nat)(b:bi)(i:Nat)(c:Int)(_:W=[.r A.R,.i c])(_:cX M C v H A w g R G s X T n b)(_:Pu i w g R G x s X T)(_:i<14)(_:∀p u d k B,cX M C v B A w g R p d k T n b->Pu (i+1) w g R p u d k T->aB M H B->Q .a B)
abbrev Eg(K:Frag)(E:XK):aW:=aJ K [("_law_passed_on",zm),("_law_change",zi),("_law_done",ui)] [] (E:=E)
theorem am0{r:ga}(h:af u a J H λg H0=>af u f J H0 λv I=>∃i j:Int,[g,v]=[.i i,.i j]/\(-(2 ^ 62)<=i/\i<2 ^ 62/\ -(2 ^ 62)<=j/\j<2 ^ 62)/\∃W:Nat->Nat->St->Hp->Prop,(∃m,W 0 m J I)/\∀l m J H,W l m J H->
  ((fu i (j - i).toNat).stop l H/\({D with nx:=az u r D}:En).nx J H)\/((fu i (j - i).toNat).go l H/\∃N:St->Hp->Prop,(∀V B,N V B->∃d,d<m/\W (l+1) d V B)/\∀x B,(fu i (j - i).toNat).gh l H x B->gH k x J B λb Z=>az u body {({D with nx:=az u r D}:En) with nx:=N,c:=N,bk:=({D with nx:=az u r D}:En).nx} b Z)):
  az u (.e k .s [a,f] body::r) D J H:=h
theorem Km{Q:sK}(h:J[i]?=some (some<|.b b0))(q:Q b0 H):bo u (.v i) J H Q:=⟨_,h,q⟩
noncomputable abbrev am1:ga:=[.t (.v 0) (.c (.s "server")) (.l 2 [(.B (.v 0) (.c (.s "server"))),.v 4]),
 .d (.a .a (.B (.v 0) (.c (.s "post"))) [(.T [(.c (.s "took")),(.B (.v 0) (.c (.s "own"))),(.b .Add (.t .l [(.B (.v 0) (.c (.s "post")))]) (.c (.i 1))),.v 3,.v 4])])]
theorem WH{c:be}{k:bv}{j:Int}(S:cX M C v H A w g R G s X T n b)(J:H b4=some (.l Y))(x:aC H Y c)(nb:¬(M.ea R) b4)(gs:good G)(F:bU c G.cps.toList k)(lr:k.length<=100000)(lk:s.length<=1000)(q:∀B,cX M C v B A w g R ⟨k.toArray⟩ (s++[(P,c)]) X T n b->aB M H B->Q .a B):
  az (Eg K E) am1 (Dn Q) [some<|.r A.R,some<|.i j,u2,some<|.i (P:Nat),some<|.r b4,u5] H:=by
 obtain⟨vf,vw,zq⟩:=ZL S.ro.a;obtain⟨L,of,ow⟩:=Yo zq;refine gB<|bA ui O<|ao<|bD<|aa O<|ai ⟨A.R,_,O,dg (i:=2) L O O,ao<|aa O<|aD ⟨G,b4,Y,c,k,O,gs,J,x,λp0 hp=>tO<|F.ok p0 hp,F.run,(oT lr (Zs _ _)),aa O<|ai ⟨A.R,_,O,kR (i:=2) L O am,?_⟩⟩⟩;generalize zz:fy _ A.R _=I;obtain⟨W,b1,D,U⟩:=Yq (S.b.oK zz of ow);obtain⟨V,m,lp,_⟩:=W.ro.C;refine cW<|eU<|bD<|aa O<|ai ⟨A.R,_,O,dg (i:=6) U O O,⟨.inl ⟨O,_,ax.of m⟩,dt<|ao<|ai<|ao<|bD<|aa O<|ai ⟨A.R,_,O,dg (i:=0) U O O,ao<|bg<|dE<|bD<|aa O<|ai ⟨A.R,_,O,dg (i:=6) U O O,.inl ⟨_,ax.of m,ai<|dW<|ao<|aa O<|ao<|aa O<|aD ⟨xx,λt ft=>?_⟩⟩⟩⟩⟩⟩;rw[show((V.length:Nat):Int)+1=((s.length+1:Nat):Int) by lia];have d:=Yb (o:=.t (gC w (s.length+1) P b4)) ft;have N:fy I t (.t<|gC w (s.length+1) P b4) t=some (.t<|gC w (s.length+1) P b4):=av;generalize fy I t (.t<|gC w (s.length+1) P b4)=Z at d N⊢;have f:=W.same d;have p:=d _ _ m;refine⟨_,p,bV ba,?_⟩;have u:aB (· =A.o) Z (fy Z A.o<|.l<|V++[.r t]):=aB.upd;refine q _ ⟨f.ha.but u (λz h=>f.s.VY z<|.inr<|.inl h) (uU p),(f.ro.post (.inl S.mm.2.2.2.1) p N (d _ _<|D.ls _ _ J) ((x.mono D.tt).mono<|aQ d) nb),f.mm,f.nt.but u λz _ h=>kS av nofun h,f.ne⟩<|λz o e h=>u _ _ (d _ _<|b1 _ _ e h) λy=>h (y ▸ S.mm.2.2.2.1)
theorem am2(W:bi)(H:Hp)(Q:VK)(E:XK)(hh:Kk C v W H Q E):az (Eg K E) GD (Dn Q) (Y2 RH W) H:=by
 obtain⟨M,A,w,g,R,G,x,s,X,T,n,b,i,d,rfl,S,P,hi,q⟩:=hh;obtain⟨vf,vw,p,N,ow⟩:=S.ro.a;obtain⟨sl,st,gs⟩:=P.WD (AP hi);have lk:=P.L;have e':=YN G;have WE:=P.I.kn;have D9:=S.ha.st.eY S.nt;have h7:=P.H;have no:∀{u2:im},u2=some (.b false)->az (Eg K E) (GD.drop 1) (Dn Q) [some<|.r A.R,some<|.i d,u2,none,none,none] H:=by
  intro u2 e2;subst e2;refine aO<|bD<|aa O<|ai ⟨A.R,_,O,dg (i:=0) p O O,?_⟩;refine aX<|Km O<|iF ?_ O;refine aO<|bg<|bg<|bg<|aa O<|ai<|dW<|bg<|bg<|aa O<|ai<|mW ⟨ap,ap⟩<|ai<|jb ap<|dW<|ai<|jb ap ?_;have m0:=Zu (d / 2) (show(7:Int)≠0 by decide);have m7:=ZK (d / 2) (show(0:Int) <7 by decide);generalize d / 2 % 7=d7 at m0 m7⊢;obtain⟨aP,ew⟩:∃aP:Nat,(((w:Nat):Int)+1+d7) % 8=((aP:Nat):Int):=Y3 (Zu _ ap);have Eh:aP<=7:=by lia
  have Ef:aP≠w:=by lia
  rw[ew];have k0:=Zu (d / 14) (show(9:Int)≠0 by decide);refine aO<|bA zi O<|ao<|bg<|aa O<|ai<|mW ⟨ap,ap⟩<|ao<|bD<|aa O<|ai ⟨A.R,_,O,dg (i:=2) p O O,ao<|bg<|bg<|aa O<|ai<|mW ⟨ap,ap⟩<|ai<|jb ap<|aD ⟨_,_,_,O,gs,ba,k0,ba,λb4 I Y c rr s1 fb hb pv ok ch lc tc F=>?_⟩⟩;have cg:bU c G.cps.toList rr:=⟨ok,ch,F⟩;have rl:=F.len;refine WH (S.same s1) hb pv (D9.al.no fb) gs cg ba ba λB S' b'=>q _ _ _ _ B S' ((P.more hi cg Eh).1 Ef ba) ((aB.same s1).trans b')
 cases y:g.f with
 |none=>
  rw[y] at N;cases (show vf=.a from N);exact aO<|C_<|ky<|bD<|aa O<|ai ⟨A.R,_,O,dg (i:=8) p O O,ai<|je ⟨_,O,iF (no O) (by rw[Y4 O];rfl)⟩⟩
 |some f=>
  rw[y] at N;obtain⟨fa,qe,rfl,hZ,uT,Ab⟩:=(show eK (M.ea R) H vf f from N);refine aO<|C_<|ky<|bD<|aa O<|ai ⟨A.R,_,O,dg (i:=8) p O O,ai<|je ⟨_,O,iT ?_ (by rw[jH];rfl)⟩⟩;refine C_<|ky<|bD<|aa O<|ai ⟨A.R,_,O,dg (i:=4) p O O,bD<|aa O<|ai ⟨A.R,_,O,dg (i:=5) p O O,Jb (pQ _ O (du (λiI=>?_)<|λ_=>no O))⟩⟩;have iI:X<g.se:=by have:=IR iI;lia
  refine Ux<|ky<|bg<|aa O<|ai<|jb ap<|ai<|jE ?_;by_cases bO:d % 2=0;rw[Y4 bO];obtain⟨l,m,o1,U,o3⟩:=P.I.o;rw[y] at U;have U:bU f l m:=U;have D:=P.I.t;rw[y] at D;have D:ay f<=5000:=D;obtain⟨cG,c8,f',Kn⟩:=S.ro.C;refine aO<|bD<|aa O<|ai ⟨A.R,_,O,dg (i:=0) p O O,?_⟩;refine aX<|Km O<|iT ?_ O;refine aO<|bD<|aa O<|ai ⟨A.R,_,O,dg (i:=8) p O O,?_⟩;refine am0<|bD<|aa O<|ai ⟨A.R,_,O,dg (i:=3) p O O,dE<|bD<|aa O<|ai ⟨A.R,_,O,dg (i:=6) p O O,.inl (pQ _ (ax.of c8) ?_)⟩⟩;refine p4 _ _ O ⟨ba,ba,ba,ba⟩ ?_;rw[show(((cG.length:Nat):Int) - ((g.kn:Nat):Int)).toNat=s.length - g.kn by lia];refine qz (λj J Z=>∃(b4:z4)(Y:bi)(u5:im),J=[some<|.r A.R,some<|.i d,some<|.b true,some<|.i (w:Nat),some<|.r b4,u5]/\aA H Z/\Z b4=some (.l Y)/\aC Z Y (pj s g.kn j f)/\ ¬(M.ea R) b4) (sA fa qe none O (aA.refl _) hZ (by rw[Dw];exact uT) Ab) ?_ ?_;rintro j J Z hj ⟨b4,Y,u5,rfl,k,Ko,Kq,WI⟩;obtain⟨lm,r0,V,u,t1⟩:=Ee P.I.T o1 U D j ba;have d':g.kn+j<s.length:=by lia
  obtain⟨e,he⟩:∃e,s[g.kn+j]?=some e:=qX _ (YO d');obtain⟨rr,ex⟩:∃rr,x[g.kn+j+1]?=some rr:=qX _ (YO (by rw[P.I.T.len];exact Yr d' _));obtain⟨c2,t2⟩:=P.I.T.chg _ e.1 e.2 _ _ he V ex;have ll:=(P.I.gt lm<|X_ V).1;obtain⟨t,c',bw,g1,g2,g3,g4,g5⟩:=Kn _ e he;have v1:cA e.2=lm.length:=zp c2.run;have v2:cA (pj s g.kn j f)=lm.length:=zp u.run;have w1:=oG u (oT t1 D);have w2:=oG c2 t2;obtain⟨_,_,_,tp,_⟩:=Df c2 u (oT t2 (Zs _ _)) ba;refine aO<|bA zm O<|ao<|bF<|bF<|bD<|aa O<|ai ⟨A.R,_,O,dg (i:=6) (k _ _ p) O O,aa O<|iG (k _ _ c8) (eM g1)<|ai<|c9 (k _ _ g2) O<|ao<|aa O<|aD ⟨c',b4,bw,Y,e.2,_,O,k _ _ g3,Ko,g4.mono<|aQ k,Kq,c2.ok,u.ok,ba,ba,(oT t2 (Zs _ _)),ba,(oT w2 (Zs _ _)),(oT w1 (Zs _ _)),ba,λz H3 zs s3 fz hz pz=>?_⟩⟩;refine sA z zs _ O (k.trans s3) hz ?_ ((S.same k).ha.st.eY (S.same k).nt|>.al.no fz);rw[ID (h:=e.1) he];exact pz;rintro J Z ⟨b4,Y,u5,rfl,k,Ko,Kq,WI⟩;have S2:=S.same k;refine gB<|bD<|aa O<|ai ⟨A.R,_,O,dg (i:=4) (k _ _ p) O O,aa O<|ai ⟨A.R,_,O,kR (i:=5) (k _ _ p) O (by show 5<11;decide),?_⟩⟩;have a':bx (M.ea R) Z (.r fa) g.f:=by rw[y];exact N.same k
  obtain⟨B3,b3,k3⟩:=S2.b.put (r':=g) (sv':=G) (E':=g.se) a' (ow.same k);obtain⟨lm,r0,V,u,t1⟩:=Ee P.I.T o1 U D (s.length - g.kn) ba;rw[show g.kn+(s.length - g.kn)=s.length by lia,P.t] at V;cases V;have rl:=u.run.len;refine WH B3.s (k3.ls _ _ Ko) (Kq.mono k3.tt) WI gs u ba ba λB S' b'=>q _ _ _ _ B S' ((P.more hi u h7).2 O iI f y O) (((aB.same k).trans b3).trans b');rw[XH bO];exact no O
end
def Ak(N:MS)(H:Hp)(v:V)(c:be):Prop:= ∃l U,v=.r l/\H l=some (.l U)/\aC H U c/\ ¬N l
abbrev fX(o:Nat)(a:m4):Lg:=("ask",[o,a.1,a.2.1],some a.2.2)
section
variable{K:Frag}{M M' N N' Nn Bm:MS}{C f:z4}{H B I Z x:Hp}{A:Ad}{G:Nat}{g g' r:Gs}{n sv':Str}{tx:List bv}{P:List (Nat×be)}{S E' w i:Nat}{v:Nat->Prop}{h:bi}{X:aS}{E:XK}{Q:VK}{u:aW}{J:St}{D:En}{R T:z4}{p q:bi}{as:xz}{ts:List be}
theorem Ak.keep{c:be}(h:Ak N H v1 c)(k:Kp H B):Ak N B v1 c:=let ⟨l,U,a,b,c,d⟩:=h;(qM l U a (k.ls _ _ b) (c.mono k.tt) d)
abbrev sf(K:Frag)(E:XK):aW:=aJ K [("_law_ask",uQ),("_law_passed_on",zm),("_law_passed",IA),("_law_done",ui)] [] (E:=E)
noncomputable abbrev Am:ga:=[.i (.p .IsNot (.B (.v 0)<|.v 5)<|.c .a) [.a 6<|.B (.v 0)<|.v 5,.t (.v 0) (.v 5)<|.l 1 [.v 4,.v 6],.a 4<|.l 2 [.v 4,.v 6]] []]
abbrev WJ:ga:=[.e 5 .l [(.L [(.c (.s "flight")),(.c (.s "waiting"))])] Am,
   .t (.v 0) (.c<|.s "text") (.l 3 [(.B (.v 0)<|.c<|.s "text"),.v 4]),
   .d (.a .a (.v 2) [.v 4])]
noncomputable abbrev WK:ga:=[.t (.v 0) (.c (.s "flight")) (.B (.v 0) (.c (.s "waiting"))),
   .t (.v 0) (.c<|.s "waiting") (.c .a),
   .i (.p .IsNot (.B (.v 0) (.c (.s "flight"))) (.c .a)) [.t (.v 0) (.c (.s "serial")) (.b .Add (.B (.v 0) (.c (.s "serial"))) (.c (.i 1))),
    .d (.a .a (.v 1) [(.l 0 [.v 0])])] []]
abbrev Sv:ga:=[.l [3,4] (.s (.i (.B (.v 0) (.c (.s "post"))) (.B (.v 0) (.c (.s "seen")))) (some (.c (.i 3))) none),
  .t (.v 0) (.c<|.s "seen") (.b .Add (.B (.v 0)<|.c<|.s "seen")<|.c<|.i 1),
  .i (.p .Eq (.v 3) (.B (.v 0) (.c (.s "own")))) WK WJ]
theorem WL{v:V}{o:Option be}{c:be}{j i g u:im}(L:bB[ix]?=some n)(P:H A.R=some (.d<|zk bB W))(hi:ix<W.length)(hv:W[ix]?=some v)(J:bx N H v o)(M:H b4=some (.l Y))(F:aC H Y c)(e:bU c l l')(h:OC o l m)(S:ay c<=5000)(t:cB o<=5000)(ll:l.length<=10000)(k0:o=none->∀u,D.nx [some<|.r A.R,j,i,g,some<|.r b4,some<|.s n,u] H)(k1:∀f,o=some f->∀z p I,aA H I->H z=none->I z=some (.l p)->aC I p (jG c f)->∀w q x u,aA (fy I A.R<|.d<|zk bB<|W.set ix<|.r z) x->fy I A.R (.d<|zk bB<|W.set ix<|.r z) w=none->x w=some (.l q)->aC x q (wQ c f)->D.nx [some<|.r A.R,j,i,g,some<|.r w,some<|.s n,u] x):
  az (sf K E) Am D [some<|.r A.R,j,i,g,some<|.r b4,some<|.s n,u] H:=by
 have y:=by
  have:=f_.k (k:=.inr n) P;rw[DX bB _ ix n v DY L hv] at this;exact this
 cases o with
 |none=>
  cases (show v=.a from J);exact aX<|aL<|bD<|aa O<|aa O ⟨A.R,_,O,y,ai<|je ⟨_,O,iF (cb<|k0 O _) (rfl)⟩⟩
 |some f=>
  obtain⟨Q,C,rfl,Z,T,Ab⟩:=(show eK N H v f from J);have t:ay f<=5000:=t;have v1:=zp e.run;have v2:=zp h.run;have w1:=oG e S;have w2:=oG h t;obtain⟨_,_,_,tp,tq⟩:=Df e h (oT S (Zs _ _)) (oT t (Zs _ _));refine aX<|aL<|bD<|aa O<|aa O ⟨A.R,_,O,y,ai<|je ⟨_,O,iT (aO<|bD<|aa O<|aa O ⟨A.R,_,O,y,gB<|bA zm O<|ao<|aa O<|ao<|aa O<|aD ⟨b4,Q,Y,C,c,f,O,M,Z,F,T,e.ok,h.ok,ba,(oT (Y8 v1) ll),(oT S (Zs _ _)),(oT t (Zs _ _)),(oT w1 (Zs _ _)),(oT w2 (Zs _ _)),ba,λz I p b fz hz pz=>?_⟩⟩) (rfl)⟩⟩;have U:=b _ _ P;refine aa O<|aa O ⟨A.R,_,O,kR U L hi,?_⟩;have G:∀us:bi,(HO.d<|zk bB W)≠ .l us:=λ_ z=>by lia
  have B:=gZ (o:=.d (zk bB<|W.set ix<|.r z)) U (λ_ z=>by lia);exact aO<|bA IA O<|ao<|aa O<|ao<|aa O<|aD ⟨b4,Q,Y,C,c,f,O,j4 U G<|b _ _ M,j4 U G<|b _ _ Z,(F.mono<|aQ b).mono B,(T.mono<|aQ b).mono B,e.ok,h.ok,ba,(oT (Y8 v1) ll),(oT S (Zs _ _)),(oT t (Zs _ _)),(oT w1 (Zs _ _)),(oT w2 (Zs _ _)),ba,λw x q X fw hw pw=>k1 f O z p I b fz hz pz w q x _ X fw hw pw⟩
structure kW(M:MS)(C f:z4)(H0 H:Hp)(A:Ad)(G:Nat)(g:Gs)(X:aS)(n:Str)(P:List (Nat×be))(S:Nat)(v:Nat->Prop)(w:Nat)(h:bi)(R T:z4)(p q:bi)(r:Gs)(as:xz)(ts:List be):Prop where
 s:cH M C f H A G g r X n P S v w h
 hr:H R=some (.l p)
 hc:H T=some (.l q)
 c:Paired (fk (M.ea X) H) p (as.map<|fX G)
 d:Paired (Ak (M.ea X) H) q ts
 m:M R/\M T/\R≠T/\R≠A.o/\R≠A.r/\T≠A.o/\T≠A.r
 b:aB M H0 H
 la:as.length<=1000
 lt:ts.length<=1000
theorem kW.len(I:kW M C f H0 H A G g X n P S v w h R T p q r as ts):p.length<=1000/\q.length<=1000:=by
 have a:=FS I.c;rw[Y9] at a;have:=I.la;have:=I.lt;exact⟨ba,(oT (Y8 (FS I.d)) this)⟩
theorem am5{u:Nat}{L:Option be}(j:kW M C f H0 H A G g X n P S v w h R T p q ⟨x1,F,u,fl,L⟩ as ts)(lb:as.length<=999)(k:∀Y' B,kW M C f H0 B A G g X n P S v w h R T Y' q ⟨x1,F,kH u L,L,none⟩ (as++qf u F L) ts->D.nx [some<|.r A.R,some<|.r R,some<|.r T,u3,u4,u5,u6] B):az (sf K E) WK D [some<|.r A.R,some<|.r R,some<|.r T,u3,u4,u5,u6] H:=by
 obtain⟨lz,lw⟩:=j.len;obtain⟨vf,vw,hR,of,ow⟩:=j.s.ro.a;refine gB<|bD<|aa O<|ai ⟨A.R,_,O,dg (i:=9) hR O O,aa O<|ai ⟨A.R,_,O,kR (i:=8) hR O (by simp),?_⟩⟩;generalize N:fy _ A.R _=I;obtain⟨B1,b1,k1,kU⟩:=Yq (j.s.oK (r':=⟨x1,F,u,L,L⟩) N ow ow);refine gB<|ai<|aa O<|ai ⟨A.R,_,O,kR (i:=9) kU O (by simp),?_⟩;have WM:=ow.keep k1;generalize N:fy _ A.R _=Z;obtain⟨B2,b2,k2,jK⟩:=Yq (B1.oK (r':=⟨x1,F,u,L,none⟩) N WM O);have V:=k1.trans k2;have Af:=WM.keep k2;have kD:=(j.b.trans b1).trans b2;cases L with
 |none=>
  cases (show vw=.a from ow);refine aX<|aL<|bD<|aa O<|ai ⟨A.R,_,O,dg (i:=8) jK O O,ai<|je ⟨_,O,iF (cb<|k p Z ?_) (rfl)⟩⟩;rw[show as++qf u F none=as from Yh _];exact⟨B2,V.ls _ _ j.hr,V.ls _ _ j.hc,Paired.bX j.c λW W z=>z.keep V,Paired.bX j.d λW W z=>z.keep V,j.m,kD,j.la,j.lt⟩
 |some d=>
  obtain⟨Q,Kh,zq⟩:=ZL ((show eK (M.ea X) Z vw d from Af));obtain⟨rfl,Ki,Kj,yW⟩:=Yq zq;refine aX<|aL<|bD<|aa O<|ai ⟨A.R,_,O,dg (i:=8) jK O O,ai<|je ⟨_,O,iT ?_ (rfl)⟩⟩;refine gB<|bg<|bD<|aa O<|ai ⟨A.R,_,O,dg (i:=4) jK O O,ai<|dW<|aa O<|ai ⟨A.R,_,O,kR (i:=4) jK O (by simp),?_⟩⟩;generalize N:fy _ A.R _=x;obtain⟨B3,b3,k3,iL⟩:=Yq (B2.oK (r':=⟨x1,F,u+1,some d,none⟩) N Af O);have uW:=V.trans k3;have WN:=uW.ls _ _ j.hr;refine cW<|eU<|aa O ⟨.inl ⟨O,_,ax.of WN⟩,bA uQ O<|ao<|aa O<|aD ⟨A,G,_,n,S,_,.a,O,iL,λt ft=>?_⟩⟩;have J:=Yb (o:=.t [.s "ask",.i (G:Nat),.i ((u+1:Nat):Int),.i (F:Nat),.r Q]) ft;have WO:fy x t (.t [.s "ask",.i (G:Nat),.i ((u+1:Nat):Int),.i (F:Nat),.r Q]) t=some (.t (.s "ask"::(nV [G,u+1,F]++[.r Q]))):=av;generalize fy x t (.t [.s "ask",.i (G:Nat),.i ((u+1:Nat):Int),.i (F:Nat),.r Q])=H4 at J WO⊢;have WQ:=J _ _ WN;have Kr:=uW.trans (Kp.same J);refine qH _ WQ (bV (oT lz (Zs _ _))) ?_;have b5:aB (· =R) H4 (fy H4 R<|.l<|p++[.r t]):=aB.upd;have Y:aB (M.ea X) H4 (fy H4 R<|.l<|p++[.r t]):=λz o e U=>b5 _ _ e λy=>U (.inl<|y ▸ j.m.1);have D4:=(B3.same J).ha.st.eY (B3.same J).nt;have xn:=aB.tup D4 Y;refine k (p++[.r t]) _ ⟨((B3.same J).grow (us':=p++[.r t]) j.m.1 WQ j.m.2.2.2.1 j.m.2.2.2.2.1),av,b5 _ _ (Kr.ls _ _ j.hc)<|GE j.m.2.2.1,?_,Paired.bX j.d λv1 c z=>?_,j.m,?_,?_,j.lt⟩;rw[Z4];exact IO (Paired.bX j.c λW W z=>(z.keep Kr).but D4 Y) (t9 t O Q Kh (xn _ _ WO) (Y _ _ (J _ _<|k3.ls _ _ Ki) yW) (((Kj.mono k3.tt).mono<|aQ J).mono xn) yW);obtain⟨l,us,zq⟩:=ZL (z.keep Kr);obtain⟨a1,a2,a3,a4⟩:=Yq zq;exact qM l us a1 (Y _ _ a2 a4) (a3.mono xn) a4;exact λz o e U=>b5 _ _ (J _ _<|b3 _ _ (kD _ _ e U) U) λy=>U (y ▸ j.m.1);rw[Yy];exact j2 lb _
structure xo(M:MS)(C f:z4)(H0 H:Hp)(A:Ad)(G:Nat)(g:Gs)(X:aS)(n:Str)(P:List (Nat×be))(S:Nat)(v:Nat->Prop)(w:Nat)(h:bi)(r:Gs)(b4:z4)(Y:bi)(c:be):Prop where
 s:cH M C f H A G g r X n P S v w h
 hb:H b4=some (.l Y)
 pv:aC H Y c
 nb:¬(M.ea X) b4
 k:Kp H0 H
 b:aB M H0 H
theorem xo.put{a z:z4}{Y':bi}{c m:be}(j:xo M C f H0 H A G g X n P S v w h r b4 Y c)(i:aA H I)(q:bx (M.ea X) I vf r'.f)(o:bx (M.ea X) I vw r'.de)(e:aA (fy I A.R<|.d<|zk bB<|dQ A G r' n S vf vw) x)(y:fy I A.R (.d<|zk bB<|dQ A G r' n S vf vw) a=none)(u:x a=some (.l W))(p:aC x W m):xo M C f H0 x A G g X n P S v w h r' a W m:=by
 obtain⟨B,D,t⟩:=(j.s.same i).put q o;exact⟨(B.same e),u,p,((B.ha.st.eY B.nt).al.no y),((j.k.trans<|Kp.same i).trans t).trans<|Kp.same e,((j.b.trans<|aB.same i).trans D).trans<|aB.same e⟩
theorem am6{t L:Option be}{c:be}{u:im}(N:kW M C f H0 H A G g X n P S v w h R T p q ⟨x1,kn,se,t,L⟩ as ts)(lb:ts.length<=999)(hb:H b4=some (.l Y))(pv:aC H Y c)(nb:¬(M.ea X) b4)(hc:bU c l l')(hf:OC t l m)(hd:OC L m x1.cps.toList)(t1:ay c<=5000)(t2:cB t<=5000)(t3:cB L<=5000)(ll:l.length<=10000)(lm:m.length<=10000)(gx:good x1)(lx:x1.length<=100000)(k:∀eW B u4 u5 u,kW M C f H0 B A G g X n P S v w h R T p eW ⟨⟨(pR x1.cps.toList<|aq<|pP (pP c t) L).toArray⟩,kn,se,pF c t,pF (pP c t) L⟩ as (ts++[pP (pP c t) L])->D.nx [some<|.r A.R,some<|.r R,some<|.r T,u3,u4,u5,u] B):az (sf K E) WJ D [some<|.r A.R,some<|.r R,some<|.r T,u3,some<|.r b4,u5,u] H:=by
 obtain⟨m',Bi,eL,tf,tc⟩:=hf.pass hc t1 t2;obtain⟨rr,oP,bO,td,a'⟩:=hd.pass eL (oT tc t1) t3;refine C8 (body:=Am)<|cQ<|ao<|ai<|ao<|ai<|aD ⟨cI,λW1 fW=>?_⟩;have s1:=Yb (o:=.l [.s "flight",.s "waiting"]) fW;have Ks:fy H W1 (.l [.s "flight",.s "waiting"]) W1=some (.l [.s "flight",.s "waiting"]):=av;generalize fy H W1 (.l [.s "flight",.s "waiting"])=I at s1 Ks⊢;refine qH W1 O (qX _ (ax.of Ks)) (jk (K:=K) (a:=W1) (xs:=[.s "flight",.s "waiting"]) (λi J Z=>∃(b4:z4)(Y:bi)(u5 u:im),J=[some (.r A.R),some (.r R),some (.r T),u3,some (.r b4),u5,u]/\((i=0/\xo M C f I Z A G g X n P S v w h ⟨x1,kn,se,t,L⟩ b4 Y c)\/(i=1/\xo M C f I Z A G g X n P S v w h ⟨x1,kn,se,pF c t,L⟩ b4 Y (pP c t))\/(i=2/\xo M C f I Z A G g X n P S v w h ⟨x1,kn,se,pF c t,pF (pP c t) L⟩ b4 Y (pP (pP c t) L))))
  (uA b4 Y ⟨u5,u,O,.inl ⟨O,N.s.same s1,s1 _ _ hb,pv.mono (aQ s1),nb, ⟨aQ (aA.refl _),λQ Q F=>F⟩,λQ Q e Q=>e⟩⟩) (λi J Z _ h=>?_) ?_ ?_)
 obtain⟨_,_,_,_,_,F⟩:=h;rcases F with⟨Q,F⟩|⟨Q,F⟩|⟨Q,F⟩ <;>exact ax.of (F.k.ls _ _ Ks)
 rintro i v1 J Z hv ⟨b4,Y,u5,u,rfl,F⟩;rcases F with⟨rfl,j⟩|⟨rfl,j⟩|⟨rfl,j⟩
 cases hv;obtain⟨vf,vw,hR,of,W⟩:=j.s.ro.a;refine WL (ix:=8) O hR (by show 8<11;decide) O of j.hb j.pv hc hf t1 t2 ll (λe0 u=>uA b4 Y ⟨_,u,O,.inr<|.inl ⟨O,?_⟩⟩) λf0 ef z Y' Ha sa fz U pz w0 eW Hb u sb fw hw pw=>uA w0 eW ⟨_,u,O,.inr<|.inl ⟨O,?_⟩⟩;subst e0;exact j;subst ef;have nz:=(j.s.ha.st.eY j.s.nt).al.no fz;exact j.put (z:=z) (Y':=Y') sa (qM z Y' O U pz nz) (W.same sa) sb fw hw pw;cases hv;obtain⟨vf,vw,hR,of,W⟩:=j.s.ro.a;have W:=W;refine WL (ix:=9) O hR (by show 9<11;decide) O W j.hb j.pv eL hd (oT tc t1) t3 lm (λe0 u=>uA b4 Y ⟨_,u,O,.inr<|.inr ⟨O,?_⟩⟩) λf0 ef z Y' Ha sa fz U pz w0 eW Hb u sb fw hw pw=>uA w0 eW ⟨_,u,O,.inr<|.inr ⟨O,?_⟩⟩;subst e0;exact j;subst ef;have nz:=(j.s.ha.st.eY j.s.nt).al.no fz;exact j.put (z:=z) (Y':=Y') sa (of.same sa) (qM z Y' O U pz nz) sb fw hw pw;cases hv;rintro J Z ⟨b4,Y,u5,u,rfl,F⟩;rcases F with⟨F,Q⟩|⟨F,Q⟩|⟨Q,j⟩
 cases F;cases F;obtain⟨lz,lw⟩:=N.len;obtain⟨vf,vw,hR,of,W⟩:=j.s.ro.a;have rl:=bO.run.len;have b':=YN x1;refine gB<|bA ui O<|ao<|bD<|aa O<|ai ⟨A.R,_,O,dg (i:=1) hR O O,ao<|aa O<|aD ⟨x1,b4,Y,_,rr,O,gx,j.hb,j.pv,λp0 hp=>tO<|bO.ok p0 hp,bO.run,ba,?_⟩⟩;refine aa O<|ai ⟨A.R,_,O,kR (i:=1) hR O (by show 1<11;decide),?_⟩;generalize zz:fy _ A.R _=x;obtain⟨B3,b3,k3,Q⟩:=j.s.oK (r':=⟨⟨rr.toArray⟩,kn,se,pF c t,pF (pP c t) L⟩) zz of W;have uW:=((Kp.same s1).trans j.k).trans k3;have jy:=uW.ls _ _ N.hc;refine cW<|eU<|aa O ⟨.inl ⟨O,_,ax.of jy⟩,aa O ⟨_,jy,bV (oT lw (Zs _ _)),?_⟩⟩;have B5:=B3.grow (us':=q++[.r b4]) N.m.2.1 jy N.m.2.2.2.2.2.1 N.m.2.2.2.2.2.2;have b5:aB (· =T) x (fy x T<|.l<|q++[.r b4]):=aB.upd;have qt:aB (M.ea X) x (fy x T<|.l<|q++[.r b4]):=λz o e U=>b5 _ _ e λy=>U (.inl<|y ▸ N.m.2.1);have D3:=B3.ha.st.eY B3.nt;have xn:=aB.tup D3 qt;have er:=bO.run.fits.2;rw[er] at k;refine k (q++[.r b4]) _ _ _ _ ⟨B5,b5 _ _ (uW.ls _ _ N.hr) N.m.2.2.1,av,Paired.bX N.c λQ Q z=>(z.keep uW).but D3 qt,IO (Paired.bX N.d λv1 c z=>?_) (qM b4 Y O (qt _ _ (k3.ls _ _ j.hb) j.nb) ((j.pv.mono k3.tt).mono xn) j.nb),N.m,λz o e U=>b5 _ _ (b3 _ _ (j.b _ _ (s1 _ _<|N.b _ _ e U) U) U) λy=>U (y ▸ N.m.2.1),N.la,by rw[Yy];exact j2 lb _⟩;obtain⟨l,us,a1,a2,a3,a4⟩:=z.keep uW;exact qM l us a1 (qt _ _ a2 a4) (a3.mono xn) a4
theorem am8{x:Nat}{u o:Option be}{Y V U Q:im}(J:kW M C f H0 H A G g X n P S v w h R T p q ⟨x1,j,x,u,o⟩ as ts)(W:Iv G tx P ⟨x1,j,x,u,o⟩)(he:P[j]?=some e)(la:as.length<=999)(a':ts.length<=999)(Ei:j<=1000)(k:∀Y' eW Y V U Q B,kW M C f H0 B A G g X n P S v w h R T Y' eW (gY G e ⟨x1,j,x,u,o⟩) (as++jf G e ⟨x1,j,x,u,o⟩) (ts++jg G e ⟨x1,j,x,u,o⟩)->D.nx [some<|.r A.R,some<|.r R,some<|.r T,Y,V,U,Q] B):az (sf K E) Sv D [some<|.r A.R,some<|.r R,some<|.r T,Y,V,U,Q] H:=by
 obtain⟨vf,vw,zq⟩:=ZL J.s.ro.a;obtain⟨hR,of,ow⟩:=Yo zq;obtain⟨cG,hp,lp,pp⟩:=J.s.ro.C;obtain⟨t,c',bw,zq⟩:=ZG (pp j e he);obtain⟨g1,g2,g3,g4,g5⟩:=c3 zq;refine C6<|VM<|bF<|bD<|aa O<|ai ⟨A.R,_,O,dg (i:=6) hR O O,bD<|aa O<|ai ⟨A.R,_,O,dg (i:=3) hR O O,iG hp (eM g1)<|ai ⟨_,O,.inr ⟨_,aF.of g2,(by show ¬(HT.bh 5 0 (some 3)=0/\HT.bh 5 5 none=5);decide),λw0 fw=>?_⟩⟩⟩⟩;generalize zz:fy _ w0 _=I;have N:=bC fw zz;refine uz (bu zz) ?_;have kU:=N _ _ hR;refine gB<|bg<|bD<|aa O<|ai ⟨A.R,_,O,dg (i:=3) kU O O,ai<|dW<|aa O<|ai ⟨A.R,_,O,kR (i:=3) kU O (by simp),?_⟩⟩;generalize zz:fy _ A.R _=Z;obtain⟨B2,b2,k2,jK⟩:=Yq ((J.s.same N).oK (r':=⟨x1,j+1,x,u,o⟩) zz (of.same N) (ow.same N));have L:=(Kp.same N).trans k2;have I2:kW M C f H0 Z A G g X n P S v w h R T p q ⟨x1,j+1,x,u,o⟩ as ts:=⟨B2,L.ls _ _ J.hr,L.ls _ _ J.hc,Paired.bX J.c λy y z=>z.keep L,Paired.bX J.d λy y z=>z.keep L,J.m,(J.b.trans<|aB.same N).trans b2,J.la,J.lt⟩;refine aX<|aL<|aa O<|bD<|aa O<|ai ⟨A.R,_,O,dg (i:=0) jK O O,jE ⟨_,O,du (λF=>?_)<|λF=>?_⟩⟩;have F:e.1=G:=by lia
 have e1:gY G e ⟨x1,j,x,u,o⟩=⟨x1,j+1,kH x o,o,none⟩:=Fr F;have e2:jf G e ⟨x1,j,x,u,o⟩=qf x (j+1) o:=Fr F;have e3:jg G e ⟨x1,j,x,u,o⟩=[]:=Fr F;rw[e1,e2,e3,Yh] at k;exact am5 I2 la λY' B I'=>k Y' q _ _ _ _ B I';have F:¬e.1=G:=λz=>by lia
 obtain⟨l,l',m,zq⟩:=ZG (W.at' he);obtain⟨q1,y,c1,c2,o1,o2⟩:=Gi zq;have e1:gY G e ⟨x1,j,x,u,o⟩=⟨⟨(pR x1.cps.toList<|aq<|pP (pP e.2 u) o).toArray⟩,j+1,x,pF e.2 u,pF (pP e.2 u) o⟩:=Fk F;have e2:jf G e ⟨x1,j,x,u,o⟩=[]:=Fk F;have e3:jg G e ⟨x1,j,x,u,o⟩=[pP (pP e.2 u) o]:=Fk F;rw[e1,e2,e3,Yh] at k;obtain⟨lx,gx⟩:=W.len;have ll:=(W.gt l<|X_ q1).1;have lm:=o1.len;have tf:=W.t;refine am6 I2 a' (L.ls _ _ g3) (g4.mono L.tt) g5 c1 o1 o2 c2 tf W.i (oT ll (Zs _ _)) ba gx (oT lx (Zs _ _)) λeW B V U Q I'=>k p eW _ V U Q B I'
inductive Kt(C f:z4)(W:bi)(H:Hp)(Q:VK)(E:XK):Prop|i(M:MS)(A:Ad)(G:Nat)(g r:Gs)(X:aS)(n:Str)(tx:List bv)(P:List (Nat×be))(S:Nat)(v:Nat->Prop)(w:Nat)(h:bi)(j:Nat)(_:W=[.r A.R])(_:cH M C f H A G g r X n P S v w h)(_:Iv G tx P r)(_:P.length<=900)(_:r.kn+j<=P.length)(_:(∀i,i<j->v (r.kn+i+1)))(_:¬v (r.kn+j+1))(_:∀t R T p q H0 B,aA H H0->H R=none->H T=none->kW ((M.add R).add T) C f H0 B A G g X n P S v w h R T p q (aK G P r j).1 (aK G P r j).2.1 (aK G P r j).2.2->B t=some (.t [.r R,.r T])->Q (.r t) B)
theorem Iq(W:bi)(H:Hp)(Q:VK)(E:XK)(hh:Kt C f W H Q E):az (sf K E) RL (Dn Q) (Y2 RK W) H:=by
 obtain⟨M,A,G,g,r,X,n,tx,P,S,v,w,h,j,rfl,S0,Vi,lk,e',hj,hJ,q0⟩:=hh;refine aO<|cQ<|aD ⟨nE _,λR Y=>?_⟩;generalize zz:fy _ R _=I;have s1:=bC Y zz;have mQ:=bu zz;have B1:=S0.ext Y s1 mQ;refine aO<|cQ<|aD ⟨nE _,λT fc=>?_⟩;generalize zz:fy _ T _=Z;have s2:=bC fc zz;have bO:=bu zz;have B2:=B1.ext fc s2 bO;have a':R≠T:=aH mQ fc;have Ku:=s1.free fc;obtain⟨_,c8,_⟩:=S0.ro.C;have np:∀{z:z4},H z=none->z≠A.o/\z≠A.r:=λhz=>⟨λy=>(by lia),λy=>(by rw[y,S0.ro.Z] at hz;cases hz)⟩;have I0:kW ((M.add R).add T) C f Z Z A G g X n P S v w h R T [] [] (aK G P r 0).1 (aK G P r 0).2.1 (aK G P r 0).2.2:=⟨B2,s2 _ _ mQ,bO,.nil,.nil,⟨.inr<|.inl O,.inl O,a',(np Y).1,(np Y).2,(np Ku).1,(np Ku).2⟩,λ_ _ e _=>e,nE _,nE _⟩;refine yY (λm J x=>y0 λ(i:Nat)(p q:bi)(L F D u:im)=>XB (m=j - i) (i<=j) (J=[some<|.r A.R,some<|.r R,some<|.r T,L,F,D,u]) (kW ((M.add R).add T) C f Z x A G g X n P S v w h R T p q (aK G P r i).1 (aK G P r i).2.1 (aK G P r i).2.2))
  ⟨_,0,[],[],none,none,none,none,O,nE _,O,I0⟩ ?_
 rintro m J x ⟨i,p,q,L,F,D,u,rfl,Vf,rfl,l⟩;have U:=rQ G P r i;have zL:=Vi.run i (oT (Nat.add_le_add_left Vf _) e');obtain⟨la,b'⟩:=IV G P r i;obtain⟨vf,vw,zq⟩:=ZL l.s.ro.a;obtain⟨hR,of,ow⟩:=Yo zq;obtain⟨kk,hk,d',WR⟩:=l.s.ro.J;have Kv:=WR ((aK G P r i).1.kn+1);refine Vc<|bg<|bD<|aa O<|ai ⟨A.R,_,O,dg (i:=3) hR O O,ai<|dW<|bD<|aa O<|ai ⟨A.R,_,O,dg (i:=7) hR O O,A.k,_,O,f_.k (k:=.inl ((((aK G P r i).1.kn:Nat):Int)+1)) hk,_,O,?_⟩⟩;rw[show(((aK G P r i).1.kn+1:Nat):Int)=(((aK G P r i).1.kn:Nat):Int)+1 by lia] at Kv;by_cases aR:i<j;have Ao:v ((aK G P r i).1.kn+1):=by rw[U];exact hj i aR
 obtain⟨v1,hv⟩:=YM.mp (Kv.mpr Ao);obtain⟨e,he⟩:∃e,P[r.kn+i]?=some e:=⟨_,YO ba⟩;refine iT ⟨λV' B=>∃(p q:bi)(L F D u:im),V'=[some<|.r A.R,some<|.r R,some<|.r T,L,F,D,u]/\kW ((M.add R).add T) C f Z B A G g X n P S v w h R T p q (aK G P r<|i+1).1 (aK G P r<|i+1).2.1 (aK G P r<|i+1).2.2,by rintro V' B ⟨p,q,L,F,D,u,c',I'⟩;exact pQ (j - (i+1)) ba ⟨i+1,p,q,L,F,D,u,O,aR,c',I'⟩,?_⟩ (by rw[hv];rfl);have eg:P.getD (aK G P r i).1.kn (0,[])=e:=by rw[U,X6,he];rfl
 have dO:aK G P r (i+1)=(gY G e (aK G P r i).1,(aK G P r i).2.1++jf G e (aK G P r i).1,(aK G P r i).2.2++jg G e (aK G P r i).1):=by rw[<-eg];rfl
 rw[dO];have kI:P[(aK G P r i).1.kn]?=some e:=by rw[U];exact he
 have Ei:(aK G P r i).1.kn<=1000:=by rw[U];lia
 generalize (aK G P r i).1=gi at l zL kI Ei⊢;obtain⟨xi,ki,si,fi,di⟩:=gi;exact am8 l zL kI ba ba Ei λY' eW L F D u B I'=>uA Y' eW ⟨L,F,D,u,O,I'⟩;have e_:i=j:=Yk Vf (Zv aR);subst e_;have hn:cv kk (.inl<|(((aK G P r i).1.kn:Nat):Int)+1)=none:=by
  cases hv:cv kk (.inl<|(((aK G P r i).1.kn:Nat):Int)+1) with
  |none=>rfl
  |some v1=>exact absurd (Kv.mp (by lia)) (by rw[U];exact hJ)
 refine iF ?_ (by rw[hn];rfl);refine b_<|dt<|ao<|aa O<|ao<|aa O<|aD ⟨cI,λt ft=>?_⟩;have N:=Yb (o:=.t [V.r R,V.r T]) ft;have k4:=Kp.same N;exact q0 t R T p q Z _ (s1.trans s2) Y Ku ⟨l.s.same N,N _ _ l.hr,N _ _ l.hc,Paired.bX l.c λ_ _ z=>z.keep k4,Paired.bX l.d λ_ _ z=>z.keep k4,l.m,l.b.trans<|aB.same N,l.la,l.lt⟩ av
end
theorem least{P:Nat->Prop}(n:Nat)(h:¬P n):∃j,j<=n/\(∀i,i<j->P i)/\ ¬P j:=by
 have g:∀k,∀m,m<=k-> ¬P m->∃j,j<=m/\(∀i,i<j->P i)/\ ¬P j:=by
  intro k;induction k with
  |zero=>intro m d p;exact⟨m,Yw _,λi a=>(zF _ (XG a d)).elim,p⟩
  |succ k c=>
   intro m d p;by_cases b:∀i,i<m->P i;exact⟨m,Yw _,b,p⟩;obtain⟨i,a⟩:=Classical.not_forall.mp b;obtain⟨a,p⟩:=Classical.not_imp.mp a;obtain⟨j,l,f,e⟩:=c i (XQ (XG a d)) p;exact⟨j,(AP (Nat.lt_of_le_of_lt l a)),f,e⟩
 exact g n n (Yw _) h
section
variable{f:Nat}{g:Gs}{v:Str}{p:List bv}{b:List (Nat×be)}{k i:Nat}{s:Nat->Prop}{q:aS}
structure Bu(i f:Nat)(g:Gs)(b:List (Nat×be))(k:Nat):Prop where
 iK:k<=g.se
 j8:k<g.se->∀j e,b[g.kn+j]?=some e->e.1≠f
 b1:iJ b+(if k<g.se then cB g.f else 0)+cB g.de<=320*i
 b2:cB g.f<=320*i
 ls:g.se<=i+g.kn
theorem Bu.next(B:Bu i f g b k)(I:Iv f p b g)(c:b[g.kn]?=some e):Bu i f (gY f e g) b k:=by
 obtain⟨K,q,E,D,z⟩:=B;unfold gY;by_cases o:e.1=f;rw[Fr o];have n:∀j a,b[g.kn+1+j]?=some a->a.1≠f:=λj a d A=>by
  have T:b[g.kn+(j+1)]?=some (f,a.2):=by lia
  exact(I.pend (j+1) _ T).2 0 (Nat.succ_pos _) e c o
 refine⟨?_,λY=>n,?_,?_,?_⟩;cases g.de<;>simp only[kH] <;>lia
 show iJ b+(if k<kH g.se g.de then cB g.de else 0)+0<=_;split<;>lia
 exact oT (Zs _ _) E;cases g.de<;>simp only[kH] <;>lia
 rw[Fk o];obtain⟨l,l',m,zq⟩:=ZG (I.at' c);obtain⟨Y,Y,w,v,u,s⟩:=Gi zq;obtain⟨y,Y,x,G,F⟩:=u.pass w v I.t;obtain⟨r,Y,Y,C,Y⟩:=s.pass x (oT F v) I.i;refine⟨K,λh j a d=>q h (j+1) a ba,?_,?_,?_⟩;lia;exact oT G D;exact YS z
theorem Bu.run(B:Bu i f g b k)(I:Iv f p b g):∀j,g.kn+j<=b.length->Bu i f (aK f b g j).1 b k
 | 0,_=>B
 |j+1,h=>by
  refine(Bu.run B I j (YA h)).next (I.run j (YA h)) ?_
  rw[X6,rQ,YO ba];rfl
theorem Pu.anb(P:Pu i f g q v p b k s){a y:Nat}{c:be}{D:z4}(x:IW g.kn q a y c D X)(B:g.kn<a->q a=none->b[a - 1]?=some (y,c))(r:g.kn+j<=b.length)(J:¬(s (g.kn+j+1)\/g.kn+j+1=a)):Pu (i+1) f (aK f b g j).1 (eV (aK f b g j).1.kn X) v p b k (λn=>s n\/n=a):=by
 have o:=rQ f b g j;obtain⟨K,A,Q,N,F⟩:=Bu.run ⟨P.iK,P.j8,P.b1,P.b2,P.ls⟩ P.I j r;have E:=P.nb;refine⟨P.I.run j r,P.H,P.t,P.aP,λn m u=>?_,λn M=>?_,?_,K,A,(nS Q),(nS N),P.lt,?_,(YS P.L),ba⟩;simp only[eV] at u;split at u;cases u;rename_i d;refine⟨(x8 d),?_⟩;rcases x with⟨l,w,rfl⟩|⟨Y,rfl⟩
 simp only[kJ] at u;split at u;rename_i e;cases u;rw[e];exact B l w;exact(P.oJ n m u).2;exact(P.oJ n m u).2;have d:g.kn<n:=by lia
 have C:eV (aK f b g j).1.kn X n=X n:=Fk (wX M);rw[C];rcases x with⟨l,w,rfl⟩|⟨l,rfl⟩
 simp only[kJ];by_cases e:n=a;exact⟨λY z=>ba,λY=>.inr e⟩;rw[Fk e];exact⟨λh=>(P.j7 n d).mp<|h.resolve_right e,λh=>.inl<|(P.j7 n d).mpr h⟩;constructor;intro h;rcases h with h|rfl
 exact(P.j7 n d).mp h;rcases l with l|⟨m,u⟩
 cases Zt _ (XG d l);rw[u];exact nofun;exact λh=>.inl ((P.j7 n d).mpr h);rw[o];exact J;rcases x with⟨Y,Y,rfl⟩|⟨Y,rfl⟩
 exact YS (j2 E _);exact nS E
end
abbrev Ad.to(A:Ad)(q a e:z4):Ad:=⟨A.p,A.d,q,a,e,A.R,A.o,A.k,A.r⟩
section
variable{K:Frag}{M M' N N' Nn Bm M3 p:MS}{C R:z4}{H B I Z H3:Hp}{A:Ad}{G:Nat}{g g' r:Gs}{x sv':Str}{tx:List bv}{T:List (Nat×be)}{k E' nk i:Nat}{b:Nat->Prop}{f:bi}{m X':aS}{E:XK}{Q:VK}{u:aW}{J:St}{D:En}{P v t q dq e a0:z4}{zs ws:bi}{w:xz}{n:List be}{X aP:Nat}{c:be}
theorem cH.WS(S:cH M C R H A G g r m x T k b nk f)(j:Vb M C R H m A.p A.d G X aP c g.kn g' w n N P v t q dq e a0 zs ws X' B):cH (λz=>(M z\/N z)\/z=q) C R B (A.to q dq e) G g' r (eV g'.kn X') x T k b nk f:=by
 obtain⟨vf,vw,K,Y,Y⟩:=S.ro.a;obtain⟨Y,I,Y⟩:=S.ro.J;obtain⟨L,Q,D,Y⟩:=j.ha.st.ob;refine⟨j.ha.me λz i=>i.elim .inl λy=>.inr λus h=>?_,(((S.ro.weak λz i=>?_).but j.b (λz i=>?_) λz i=>kS S.ha.ob nofun i).ad:dR _ B (A.to q dq e) G r x T k b nk f),⟨.inl<|.inl S.mm.1,.inr O,.inl<|.inl S.mm.2.2.1,.inl<|.inl S.mm.2.2.2.1,.inl<|.inl S.mm.2.2.2.2.1,.inl<|.inl S.mm.2.2.2.2.2⟩,λz i=>?_,?_⟩;rw[y,D] at h;cases h;rcases i with((i|i)|rfl)|⟨s,l,u,rfl⟩
 exact .inl (.inl i);exact(j.fN z i).elim .inr λh=>.inl (.inr h);exact .inr j.fq;simp only[eV] at u;split at u;cases u;rcases j.ins with⟨Y,Y,rfl⟩|⟨Y,rfl⟩
 simp only[kJ] at u;split at u;cases u;exact .inr j.fa;exact .inl (.inr ⟨s,l,u,O⟩);exact .inl (.inr ⟨s,l,u,O⟩);subst i;exact⟨.inl<|.inl<|.inl S.mm.1,S.ro.ne S.ha.ob⟩;rcases i with(i|i)|rfl
 by_cases y:z=A.p;exact kS j.ha.ob nofun y;obtain⟨o,E,F⟩:=S.nt z i;exact⟨o,j.b _ _ E y,F⟩;obtain⟨us,u⟩:=j.nl z i;exact⟨_,u,nofun⟩;exact⟨_,D,nofun⟩;exact⟨λy=>(by have:=j.fe;rw[show e=A.R from y,K] at this;cases this),λy=>(by have:=j.fe;rw[show e=A.k from y,I] at this;cases this)⟩
abbrev sj(K:Frag)(C R:z4)(E:XK):aW:=aJ K [("_law_known",Kt C R),("_law_letters_same",rW),("_law_same",ux),("_law_kept",xf)] [] [] [("came",C,zK C R)] (E:=E)
noncomputable abbrev WT:ga:=[.i (.p .Eq (.b .Mod (.v 2) (.c (.i 2))) (.c (.i 0))) [.r (.l 3 [.v 1,.v 12,.v 2])] [],
 .e 15 .l [(.i (.v 12)<|.c<|.i 1)] [.d<|.a .c (.v 15) []],
 .r (.l 3 [.v 1,(.i (.v 12) (.c (.i 0))),.v 2])]
structure uX(M3 p Nn:MS)(C R:z4)(H:Hp)(A:Ad)(G:Nat)(g:Gs)(m:aS)(x:Str)(T:List (Nat×be))(k:Nat)(b:Nat->Prop)(nk:Nat)(f:bi)(t P v:z4)(zs ws:bi)(w:xz)(n:List be):Prop where
 s:cH M3 C R H A G g g m x T k b nk f
 ht:H t=some (.t [.r P,.r v])
 hP:H P=some (.l zs)
 hT:H v=some (.l ws)
 nP:Nn P/\Nn v/\P≠v
 pz:Paired (oH Nn P v G H) zs w
 pw:Paired (qg Nn P v H) ws n
 nM:∀z,Nn z->M3 z/\z≠A.o/\z≠A.r
 nF:∀z,Nn z-> ¬(p.ea m) z
 S:∀z,p z->M3 z
 mm:p A.p/\p A.q/\p A.R/\p A.o/\p A.k/\p A.r
 Ap:∀a∈w,qm (fX G a)
 Aq:∀c∈n,xb c
 xq:w.length+n.length<=20
 lh:f.length<=4000
theorem cH.down(S:cH M3 C R H A G g r m x T k b nk f)(s:∀z,p z->M3 z)(a:p A.p/\p A.q/\p A.R/\p A.o/\p A.k/\p A.r):cH p C R H A G g r m x T k b nk f:=
 ⟨S.ha.me λz h=>.inl (s z h),S.ro.weak λz h=>.inl (h.elim (λy=>.inl<|s z y) .inr),a,S.nt.mono s,S.ne⟩
theorem oH.WU{a:m4}(h:oH Nn P v G H v1 a)(w:∀z,Nn z-> ¬N z):fk N H v1 (fX G a):=by
 obtain⟨t,l,zq⟩:=ZL h;obtain⟨e,⟨g,U,f,d⟩,c,Y⟩:=Yq zq;exact t9 t e l U g f d (w l c)
theorem Kw{c b d:Type}{R:c->b->Prop}{S:c->d->Prop}(f:b->d):∀{U:List c}{Y:List b},Paired R U Y->(∀x y,R x y->S x (f y))->Paired S U (Y.map f):=by
 intro U Y p h;induction p with
 |nil=>exact .nil
 |cons a _ i=>exact .cons (h _ _ a) i
theorem WV(t:da N H)(b:aB N H B)(w:∀z,Nn z-> ¬N z):∀{ws:bi}{n:List be},Paired (qg Nn P v H) ws n->IsL B (n.map dP) ws:=by
 intro ws n h;induction h with
 |nil=>exact O
 |cons h r i=>
  obtain⟨a,U,e,d,c,h,_⟩:=h;exact p4 _ _ O (e▸D0 (b _ _ d<|w a h) (c.mono<|aB.tup t b)) i
theorem WW{D:Int}{W:im}(u:uX M3 p Nn C R H A G g m x T k b nk f t P v zs ws w n)(q:∀bE B,cX p C R B A G g m x T k b nk bE->bE.length<=f.length+1->aB M3 H B->Q (.b true) B):
  az (sj K C R E) WT (Dn Q) [some<|.r A.p,some<|.r A.R,some<|.i D,u3,u4,u5,u6,u7,u8,u9,xr,xu,some<|.r t,dY,nr,W] H:=by
 have S:=(u.s.down u.S u.mm).s;have Kx:=S.ha.st.eY S.nt;have xq:=u.xq;have lh:=u.lh;refine aX<|aL<|bg<|aa O<|ai<|jb ap<|ai<|jE ⟨_,O,du (λL=>?_)<|λL=>cb ?_⟩;have L:=IR L;obtain⟨a1,a2,a3⟩:=DW (λa=>gE<|fX G a) 681000 3 w (oT (lJ _ _) xq) ap λa X=>JJ (u.Ap a X);obtain⟨b1,F,b3⟩:=DW dP 680000 2 n (oT (Zs _ _) xq) ap λc L=>u.Aq c L;have z5:(PyData.tuple [.list<|w.map λa=>gE (fX G a),.list<|n.map dP]).shown.length<=16000000:=by
  show(tupleText [(PyData.list<|w.map λa=>gE (fX G a)).shown,(PyData.list<|n.map dP).shown]).length<=_;have:=JG [(PyData.list<|w.map λa=>gE (fX G a)).shown,(PyData.list<|n.map dP).shown];rw[Ix,Ix,piled_nil] at this;lia
 have z6:=by
  show((PyData.list<|w.map λa=>gE (fX G a)).showable && ((PyData.list<|n.map dP).showable && true))=true;rw[a2,F];rfl
 have z7:=by
  show max (PyData.list<|w.map λa=>gE (fX G a)).depth (max (PyData.list<|n.map dP).depth 0)+1<=30;lia
 have st:DZ (p.ea m) H (PyData.tuple [.list<|w.map λa=>gE (fX G a),.list<|n.map dP]) (.r t):=λZ F=>by
  have i1:=JM u.hP (u.nF _ u.nP.1) (Kw (fX G) u.pz λd d z=>z.WU u.nF) Kx Z F;have e1:nq (w.map<|fX G)=.list (w.map λa=>gE (fX G a)):=by simp
  rw[e1] at i1;exact p4 t _ O ((aB.tup Kx F) _ _ u.ht) (p4 _ _ O i1 (p4 _ _ O (p4 v ws O (F _ _ u.hT<|u.nF _ u.nP.2.1) (WV Kx F u.nF u.pw)) O))
 refine b_<|bA xf O<|ao<|aa O<|ao<|aa O<|ao<|aa O<|aD ⟨_,A,G,g,x,T,k,b,nk,f,t,D,O,S.ro,(oT lh (Zs _ _)),λd=>tH _ (st H<|λd d e d=>e) z6 z7 ⟨z5,λw0 I fw s1 hw=>?_⟩,λh=>absurd L h⟩;obtain⟨Y,F⟩:=(S.same s1).held (uS w0 t _ O hw (λB b'=>st B<|(aB.same s1).trans b') z6 z7 z5);exact q _ _ Y (by simp)<|(aB.same s1).trans λz o e M=>F _ _ e λy=>M (u.S z y);have L:=λz=>L (Y4 z);refine C8<|bF<|aa O<|ai<|c9 u.ht O ?_;have d':∀N∈ws,∃a us,N=.r a/\H a=some (.l us)/\Nn a/\a≠P/\a≠v:=λN hv=>by
  obtain⟨j,hj⟩:=Zx hv;obtain⟨c,d,a,U,e,h1,d,h3,h4,h5⟩:=mU u.pw hj;exact q8 a U e h1 h3 h4 h5
 refine qH v O (qX _ (ax.of u.hT)) (jk (K:=K) (a:=v) (xs:=ws) (λi J Z=>XY λ(W:im)=>eT (J=[some<|.r A.p,some<|.r A.R,some<|.i D,u3,u4,u5,u6,u7,u8,u9,xr,xu,some<|.r t,dY,nr,W]) (cH M3 C R Z A G g g m x T k b nk f) (Z t=some (.t [.r P,.r v])) (Z P=some (.l zs)) (Z v=some (.l ws)) (∀N∈ws,∃a us,N=.r a/\Z a=some (.l us)/\Nn a/\a≠P/\a≠v) (aB M3 H Z)) ⟨W,O,u.s,u.ht,u.hP,u.hT,d',λd d e d=>e⟩ (by rintro i J Z _ ⟨_,_,_,_,_,h,_,_⟩;exact ax.of h) ?_ ?_);rintro i N J Z hv ⟨W,rfl,Y,fO,uF,WX,Ed,F⟩;obtain⟨a,us,rfl,X,na,nP,nT⟩:=Ed N (X_ hv);refine cW<|zY<|aa O ⟨.inl ⟨O,_,ax.of X⟩,_,X,?_⟩;obtain⟨V,m2,m3⟩:=u.nM a na;refine⟨_,O,Y.grow V X m2 m3,?_,?_,?_,λv' oR=>?_,?_⟩;rw[aw (λy=>by lia)];exact fO;rw[aw<|GE nP];exact uF;rw[aw<|GE nT];exact WX;obtain⟨a',c',e',iC,r'⟩:=Ed v' oR;by_cases y:a'=a;exact p4 a' [] e' (y▸av) r';exact p4 a' c' e' (by rw[aw y];exact iC) r';exact λz o e M=>by
  have n0:z≠a:=λy=>M (y ▸ V);rw[aw n0];exact F _ _ e M
 rintro J Z ⟨W,rfl,Y,fO,uF,WX,Ed,F⟩;obtain⟨V,m2,m3⟩:=u.nM P u.nP.1;refine b_<|bA xf O<|ao<|aa O<|ao<|bF<|aa O<|ai<|c9 fO O<|ao<|aa O<|aD ⟨_,A,G,g,x,T,k,b,nk,f,P,D,O,Y.ro,(oT lh (Zs _ _)),λh=>absurd h L,λd=>pQ zs uF ?_⟩;exact q f _ (((Y.grow V uF m2 m3).down u.S u.mm).s) (Y5 _) λz o e M=>by
  have n0:z≠P:=λy=>M (y ▸ V);rw[aw n0];exact F _ _ e M
def Ar:be:=[.p "q",.k 1]
theorem WY:(∀p∈Ar,a_ p)/\Ze "" Ar=true:=by
 refine⟨λp h=>?_,O⟩;simp only[Ar,Z5,Zb,KM] at h;rcases h with rfl|rfl
 refine⟨⟨by decide+kernel,λc a=>?_⟩,by decide+kernel⟩;have:(("q":Str).cps.toList.all λc=>SG.cps.contains c)=true:=by decide+kernel
 exact YR.mp this c a;show(1:Int)<=1;decide
theorem ane{a g f p d c:z4}(j:H a=some (.t [.r f,.r p]))(i:H g=some (.t [.r d,.r c]))(o:H f=some (.l []))(n:H p=some (.l []))(m:H d=some (.l []))(k:H c=some (.l []))(q:Q (.b false) H):dc K .NotEq (.r a) (.r g) H Q:=by
 have e:∀z:z4,H z=some (.l [])->Is H (.list []) (.r z):=λz h=>p4 z [] O h O;have s:SeqAt.shaped (.tuple [.list [],.list []])=true:=O;exact q8 (.tuple [.list [],.list []]) (.tuple [.list [],.list []]) (p4 a _ O j (p4 _ _ O (e f o) (p4 _ _ O (e p n) O))) (p4 g _ O i (p4 _ _ O (e d m) (p4 _ _ O (e c k) O))) s s q
theorem uX.keep(I:uX M3 p Nn C R H A G g m x T k b nk f t P v zs ws w n)(s:aA H B):uX M3 p Nn C R B A G g m x T k b nk f t P v zs ws w n:=
 ⟨I.s.same s,s _ _ I.ht,s _ _ I.hP,s _ _ I.hT,I.nP,Paired.bX I.pz λY Y z=>z.kl (Kl.same s) λY h=>h,Paired.bX I.pw λY Y z=>z.kl (Kl.same s) λY h=>h,I.nM,I.nF,I.S,I.mm,I.Ap,I.Aq,I.xq,I.lh⟩
abbrev Ky:ga:=.a 14 (.T [.v 6,.v 7,.v 8,(.b .Mod (.b .Add (.v 9)<|.c<|.i 1)<|.c<|.i 8),(.L [(.T [(.c<|.s "put"),(.c<|.s "q")]),(.T [(.c<|.s "keep"),(.c<|.i 1)])])])::
 .i (.d [(.p .Eq (.b .Mod (.b .FloorDiv (.v 2)<|.c<|.i 7)<|.c<|.i 3)<|.c<|.i 1),(.p .NotEq (.q 0 "came" (.v 0) [.v 14])<|.T [(.L []),(.L [])])]) [.r<|.c<|.b false] []::WT
theorem anf(c:uX M3 p Nn C R H A G g m x T k b nk f t P v zs ws w n)(F:Pu i G g m x tx T k b)(hi:i<=14)(Ao:b X)(h1:1<=X)(hw:aP<=7)(q:∀Ej A' U B,A'.p=A.p->A'.R=A.R->cX Ej C R B A' G g m x T k b nk U->(∀z,Ej z->p z\/H z=none)->U.length<=f.length+1->aB (M3.ea m) H B->Q (.b true) B):
  az (sj K C R E) Ky (Dn Q) [some<|.r A.p,some<|.r A.R,some<|.i a',u3,u4,u5,some<|.s "took",some<|.i (G:Nat),some<|.i (X:Nat),some<|.i (aP:Nat),xr,xu,some<|.r t,dY,nr,jL] H:=by
 refine aO<|dt<|ao<|aa O<|ao<|aa O<|ao<|aa O<|ao<|bg<|bg<|aa O<|ai<|dW<|ai<|jb ap<|ao<|cQ<|ao<|dt<|ao<|ai<|ao<|ai<|aD ⟨cI,λta fa=>?_⟩;generalize zz:fy _ ta _=I;have s1:=bC fa zz;have dC:=bu zz;refine ao<|dt<|ao<|ai<|ao<|ai<|aD ⟨cI,λtb fb=>?_⟩;generalize zz:fy _ tb _=Z;have s2:=bC fb zz;have iZ:=bu zz;refine aD ⟨cI,λM ff=>?_⟩;generalize zz:fy _ M _=H3;have s3:=bC ff zz;have i':=bu zz;have d':aC H3 [.r ta,.r tb] Ar:=.cons ⟨ta,O,s3 _ _<|s2 _ _ dC⟩ (.cons ⟨tb,O,s3 _ _ iZ⟩ .nil);obtain⟨u,ew⟩:∃u:Nat,(((aP:Nat):Int)+1) % 8=((u:Nat):Int):=Y3 (Zu _ ap);have h':u<=7:=by lia
 rw[ew];refine aD ⟨xx,λY fl=>?_⟩;have s4:=Yb (o:=.t (gC G X u M)) fl;have mT:fy H3 Y (.t<|gC G X u M) Y=some (.t<|gC G X u M):=av;generalize fy H3 Y (.t<|gC G X u M)=H4 at s4 mT⊢;have N:=((s1.trans s2).trans s3).trans s4;have j:=c.keep N;refine aX<|Ib<|aL<|bg<|bg<|aa O<|ai<|mW ⟨ap,ap⟩<|ai<|jb ap<|ai<|jE ⟨_,O,du (λ_=>?_)<|λ_=>iF (cb ?_) O⟩
 rotate_left
 exact WW j λU B S' l' b'=>q p A U B O O S' (λz a=>.inl a) l' λz o ez a=>b' _ _ (N _ _ ez) λy=>a (.inl y);have nb:=F.nb;have m':m (g.kn+1)=none:=by
  cases en:m (g.kn+1) with
  |none=>rfl
  |some u0=>exact absurd ((F.j7 _ (Zf _)).mpr (by lia)) F.stop
 refine aL<|pT C (zK C R) O<|aa O ⟨A.p,A.d,_,O,j.s.ha.ob,jd,aa O ⟨M3,A.p,A.d,A.q,A.D,A.e,Y,M,G,g,m,X,u,_,Ar,tx,T,0,O,j.s.ha,j.s.nt.al,mT,h1,h',s4 _ _ i',d'.mono<|aQ s4,WY.1,WY.2,F.I,ba,F.oJ,λhg he=>absurd he<|(F.j7 X hg).mp Ao,ap,λi hi=>absurd hi<|Nat.not_lt_zero _,⟨m',λy=>F.stop (by lia)⟩,λN2 P2 T2 t2 L Ek e2 a2 JY c' Kz H5 J=>?_⟩⟩;have j':JY=[]:=by have:=J.pz;cases this;rfl
 have k':c'=[]:=by have:=J.pw;cases this;rfl
 subst j';subst k';have n':eV g.kn Kz=m:=by
  rcases J.ins with⟨h2,h3,_⟩|⟨_,rfl⟩
  exact absurd h3 ((F.j7 X h2).mp Ao);exact Vd λn0 u0 hu=>(F.oJ n0 u0 hu).1
 have B5:=j.s.WS J;have B5:=by
  have:(aK G T g 0).1=g:=O;rw[this,n'] at B5;exact B5
 have KA:Kl P v H4 H5:=Kl.but J.b j.s.ha.ob;have El:∀{z:z4}{us:bi},H4 z=some (.l us)-> ¬z=A.p:=λa y=>by rw[y,j.s.ha.ob] at a;cases a
 have I5:uX (λz=>(M3 z\/N2 z)\/z=L) (λz=>p z\/z=L) Nn C R H5 (A.to L Ek e2) G g m x T k b nk f t P v zs ws w n:=by
  refine⟨B5,KA.tt _ _ j.ht,J.b _ _ j.hP<|El j.hP,J.b _ _ j.hT<|El j.hT,c.nP,Paired.bX j.pz λ_ _ z=>z.kl KA λ_ h=>h,Paired.bX j.pw λ_ _ z=>z.kl KA λ_ h=>h,λz a=>⟨.inl<|.inl (c.nM z a).1,(c.nM z a).2⟩,λz a hm=>?_,λz a=>a.elim (λy=>.inl<|.inl<|c.S z y) .inr,⟨.inl c.mm.1,.inr O,.inl c.mm.2.2.1,.inl c.mm.2.2.2.1,.inl c.mm.2.2.2.2.1,.inl c.mm.2.2.2.2.2⟩,c.Ap,c.Aq,c.xq,c.lh⟩;rcases hm with(h|rfl)|h
  exact c.nF z a (.inl h);obtain⟨o,ho,_⟩:=j.s.nt z (c.nM z a).1;rw[J.fq] at ho;cases ho;exact c.nF z a (.inr h)
 refine dt<|ao<|cQ<|aD ⟨nE _,λx1 f1=>?_⟩;generalize zz:fy _ x1 _=H6;have s6:=bC f1 zz;have g':=bu zz;refine ao<|cQ<|aD ⟨nE _,λx2 f2=>?_⟩;generalize zz:fy _ x2 _=H7;have s7:=bC f2 zz;have f':=bu zz;refine aD ⟨cI,λx3 f3=>?_⟩;generalize zz:fy _ x3 _=H8;have s8:=bC f3 zz;have e':=bu zz;have W:=(s6.trans s7).trans s8;refine ane (W _ _ J.ht) e' (W _ _ J.hP) (W _ _ J.hT) (s8 _ _<|s7 _ _ g') (s8 _ _ f') ⟨_,O,iF (cb ?_) O⟩;refine WW (A:=A.to L Ek e2) (I5.keep W) λU B S' l' b'=>q (λz=>p z\/z=L) (A.to L Ek e2) U B O O S' (λz a=>a.elim .inl λy=>.inr (by rw[y];exact N.free J.fq)) l' λz o ez a=>?_;have hp:¬z=A.p:=λy=>a (.inl<|y ▸ c.s.mm.1);refine b' _ _ (W _ _<|J.b _ _ (N _ _ ez) hp) λhm=>?_;rcases hm with(h|h)|rfl
 exact a (.inl h);rcases J.fN z h with h|h
 rw[N _ _ ez] at h;cases h;exact a (.inr h);have:=J.fq;rw[N _ _ ez] at this;cases this
theorem cH.kept(S:cH M C R H A G g r m x T k b nk f){p:ii}(I:H A.k=some (.d p))(X:Nat):cH M C R (fy H A.k<|.d<|ZR p (.inl (X:Int))<|.b true) A G g r m x T k (λs=>b s\/s=X) (nk+1) f/\aB M H (fy H A.k<|.d<|ZR p (.inl (X:Int))<|.b true):=by
 have n:aB (· =A.k) H (fy H A.k<|.d<|ZR p (.inl (X:Int))<|.b true):=aB.upd;have E:da (· =A.k) H:=λz j=>kS I nofun j;obtain⟨O,O,hq,O⟩:=S.ha.st.ob;obtain⟨vf,vw,zq⟩:=ZL S.ro.a;obtain⟨h1,h2,h3⟩:=Yo zq;obtain⟨cG,w,W,P⟩:=S.ro.C;obtain⟨Y,F,k2,k3⟩:=S.ro.J;rw[I] at F;cases F;have t:=aB.tup E n;have u:=S.mm.2.2.2.2.1;have B:∀z,z=A.k->(M.ea m) z:=λz j=>.inl (j ▸ u);have N:aB (M.ea m) H (fy H A.k<|.d<|ZR p (.inl (X:Int))<|.b true):=λz o e j=>n _ _ e λy=>j (B z y);have D:∀{z:z4}{us:bi},H z=some (.l us)-> ¬z=A.k:=λh y=>by lia
 refine⟨⟨S.ha.but n (λz j=>?_) E,⟨p4 vf vw (n _ _ h1 S.ro.Q) (h2.but t n B) (h3.but t n B),qH cG (n _ _ w<|D w) W (λi e he=>let ⟨z,c,U,g1,g2,g3,g4,K⟩:=P i e he;(sA z c U g1 (t _ _ g2) (N _ _ g3 K) (g4.mono t) K)),qH _ av (by have:=sR p (.inl (X:Int)) (.b true);exact oT this (j2 k2 _)) (λs=>?_),n _ _ S.ro.Z<|D S.ro.Z,λL hv=>(S.ro.hh L hv).but t N,S.ro.Q,S.ro.q⟩,S.mm,S.nt.but n λz O j=>kS av nofun j,S.ne⟩,λz o e j=>n _ _ e λy=>j (y ▸ u)⟩;subst j;exact⟨u,((S.ro.ne S.ha.ob).2.2.1).symm,((S.ro.ne hq).2.2.1).symm,S.ne.2.symm⟩;rw[Be];by_cases v:s=X;rw[Fr ba];exact⟨λO=>.inr v,nofun⟩;rw[Fk<|λz=>v ba,k3 s];exact⟨.inl,λh=>h.resolve_right v⟩
theorem ant{a j c d:V}{Q:x0}(k:H t=some (.t [a,j,c,d,h]))(q:Q (((((J.set i1<|some a).set i2<|some j).set i3<|some c).set i4<|some d).set i5<|some h) H):o9 K [i1,i2,i3,i4,i5].length (nY [i1,i2,i3,i4,i5]) (.r t) J H Q:=
 qM t _ O (.inl<|aF.of k) O ⟨_,_,O,_,_,O,_,_,O,_,_,O,_,_,O,O,q⟩
inductive KC(C R:z4)(W:bi)(H:Hp)(Q:VK)(E:XK):Prop|i(M:MS)(A:Ad)(G:Nat)(g:Gs)(m:aS)(x:Str)(tx:List bv)(T:List (Nat×be))(k:Nat)(b:Nat->Prop)(nk:Nat)(f:bi)(i:Nat)(c:Int)(_:W=[.r A.p,.r A.R,.i c])(_:cX M C R H A G g m x T k b nk f)(_:Pu i G g m x tx T k b)(_:i<14)(_:1<=T.length)(_:nk<=1000)(_:f.length<=3000)(_:∀M' a g' q s d B,a.p=A.p->a.R=A.R->cX M' C R B a G g' q x T k s (nk+1) d->Pu (i+1) G g' q x tx T k s->(∀z,(M'.ea q) z->(M.ea m) z\/H z=none)->aB (M.ea m) H B->d.length<=f.length+1->Q (.b true) B)
noncomputable abbrev anu:RE:=.H (.p .Gt (.b .Mod (.v 2)<|.c<|.i 3)<|.c<|.i 0) (.t .m [.v 3,(.b .Add (.B (.v 1)<|.c<|.s "seen")<|.c<|.i 1)]) (.b .Add (.c<|.i 1)<|.b .Mod (.b .FloorDiv (.v 2)<|.c<|.i 3)<|.v 3)
theorem anv(h:af u a J H λx I=>af u b0 J I λy Z=>lu u.K .m [x,y] Z Q):af u (.t .m [a,b0]) J H Q:=h
theorem anw{i j:Int}(q:Q (.i (if j<i then j else i)) H):lu K .m [.i i,.i j] H Q:=q
theorem anx{c:Int}{m l j f e b a u Y o L:im}(t:H A.R=some (.d<|zk bB<|dQ A G g x k vf vw))(y:1<=T.length)(q:∀X:Nat,1<=X->X<=T.length->Q (.i (X:Nat)) H):af (sj K C R E) anu [some<|.r A.p,some<|.r A.R,some<|.i c,some<|.i (T.length:Nat),m,l,j,f,e,b,a,u,s,Y,o,L] H Q:=by
 refine qd<|aL<|bg<|aa O<|ai<|jb ba<|ai<|Jb ⟨_,O,du (λZ=>?_)<|λZ=>?_⟩;refine anv (aa O<|bg<|bD<|aa O<|ai ⟨A.R,_,O,dg (i:=3) t O O,ai<|dW<|anw ?_⟩);obtain⟨n,h⟩:∃n:Nat,(if ((g.kn:Nat):Int)+1< ((T.length:Nat):Int) then ((g.kn:Nat):Int)+1 else ((T.length:Nat):Int))=((n:Nat):Int):=Y3 ba;rw[h];exact q n ba ba;refine bg (ai<|bg<|bg<|aa O<|ai<|mW ⟨ba,ba⟩<|aa O<|jb ba<|dW ?_);have w:=Zu (c / 3) (show((T.length:Nat):Int)≠0 by lia);have v:=ZK (c / 3) (show(0:Int) < ((T.length:Nat):Int) by lia);obtain⟨n,h⟩:∃n:Nat,1+c / 3 % ((T.length:Nat):Int)=((n:Nat):Int):=Y3 ba;rw[h];exact q n ba ba
theorem WZ(G:Nat)(T:List (Nat×be))(g:Gs):∀j,(aK G T g j).2.1.length+(aK G T g j).2.2.length<=j
 | 0=>Yw _
 |j+1=>by
  have i:=WZ G T g j;have h:∀(e:Nat×be)(g:Gs),(jf G e g).length+(jg G e g).length<=1:=λe g=>by
   unfold jf jg;split;cases g.de<;>simp[qf]
   simp
  have:=h (T.getD (aK G T g j).1.kn (0,[])) (aK G T g j).1;show(_++_:xz).length+(_++_:List be).length<=_;rw[Yy,Yy];lia
theorem W0(p:Iv G tx T g)(z:G<=7)(v:T.length<=100)(u:g.se<=1000):∀j,g.kn+j<=T.length->(∀a∈ (aK G T g j).2.1,qm<|fX G a)/\(∀c∈ (aK G T g j).2.2,xb c)/\(aK G T g j).1.se<=g.se+j
 | 0,_=>⟨λa b=>(by cases b),λc k=>(by cases k),Yw _⟩
 |j+1,h=>by
  obtain⟨H,F,X⟩:=W0 p z v u j (YA h);have I:=p.run j (YA h);have w:=rQ G T g j;obtain⟨e,o⟩:∃e,T[(aK G T g j).1.kn]?=some e:=⟨_,YO ba⟩;have A:T.getD (aK G T g j).1.kn (0,[])=e:=by rw[X6,o];rfl
  obtain⟨l,l',N,L,K,D,C,r,q⟩:=I.at' o;obtain⟨P,W,E,V,b4⟩:=r.pass D C I.t;obtain⟨J,U,B,S,R⟩:=q.pass E (oT b4 C) I.i;have Q:=I.len.1;have s:=YN (aK G T g j).1.x;have f:(aK G T g<|j+1).1.se<= (aK G T g j).1.se+1:=by
   show(gY G (T.getD (aK G T g j).1.kn (0,[])) (aK G T g j).1).se<=_;unfold gY;split;cases (aK G T g j).1.de<;>simp only[kH] <;>lia
   exact Nat.le_succ _
  refine⟨λa b=>?_,λc k=>?_,(oT f (j2 X _))⟩;rcases R8.mp (show a∈ (aK G T g j).2.1++jf G (T.getD (aK G T g j).1.kn (0,[])) (aK G T g j).1 from b) with b|b
  exact H a b;unfold jf at b;split at b;cases m:(aK G T g j).1.de with
  |none=>rw[m] at b;cases b
  |some d=>
   rw[m] at b;rw[ZF.mp b];refine⟨.inl O,(by simp),λM n=>?_,λps y=>by cases y;exact I.xg.2 d m⟩;simp at n;rcases n with rfl|rfl|rfl<;>lia
  cases b;rcases R8.mp (show c∈ (aK G T g j).2.2++jg G (T.getD (aK G T g j).1.kn (0,[])) (aK G T g j).1 from k) with k|k
  exact F c k;rw[A] at k;unfold jg at k;split at k;cases k;rw[ZF.mp k];exact DV B (oT R (oT b4 C)) ba
abbrev anA:ga:=.i (.o [(.p .NotEq (.v 11)<|.v 10),(.n<|.R .t<|.v 12),(.p .NotEq (.t .l [.v 12])<|.c<|.i 2),(.n<|.R .l<|.i (.v 12)<|.c<|.i 1)]) [.r<|.c<|.b false] []::
 .i (.o [(.n<|.l 1 [(.i (.v 12)<|.c<|.i 0),(.i (.v 5)<|.c<|.i 0)]),(.p .NotEq (.t .l [(.i (.v 12)<|.c<|.i 1)])<|.t .l [(.i (.v 5)<|.c<|.i 1)])]) [.r<|.c<|.b false] []::
 .e 13 .e [(.t .l [(.i (.v 5)<|.c<|.i 1)])] [.i (.n<|.l 2 [(.i (.i (.v 12)<|.c<|.i 1)<|.v 13),(.i (.i (.v 5)<|.c<|.i 1)<|.v 13)]) [.r<|.c<|.b false] []]::
 .d (.a .c (.v 11) [])::Ky
theorem anB{b:Int}{L F z y x u d Q S:im}{k Lr Lc g q:z4}{X o:bi}(ok:∀M∈c,a_ M)(hh:H g=some (.l Y))(hc:H q=some (.l Y))(pv:aC H Y c)(m:H k=some (.t [.r Lr,.r Lc]))(hr:H Lr=some (.l X))(KD:H Lc=some (.l o))(pr:Paired (kP H) X (w.map<|fX G))(pc:Paired (Ak N H) o n)(h:H t=some (.t [.r P,.r v]))(hP:H P=some (.l zs))(T:H v=some (.l ws))(pz:Paired (kP H) zs (w.map<|fX G))(pw:Paired (qg Nn P v H) ws n)(xq:w.length+n.length<=1000)(k0:∀B d,aA H B->az (sj K C R E) Ky D [some<|.r A.p,some<|.r A.R,some<|.i b,L,F,some<|.r k,z,y,x,u,some<|.r q,some<|.r g,some<|.r t,d,Q,S] (fy B g<|.l [])):
  az (sj K C R E) anA D [some<|.r A.p,some<|.r A.R,some<|.i b,L,F,some<|.r k,z,y,x,u,some<|.r q,some<|.r g,some<|.r t,d,Q,S] H:=by
 have lw:=FS pw;have a':=FS pc;refine aX<|jI<|aL<|aa O<|aa O<|SA hh hc pv pv (λM hp=>G5<|ok M hp) ⟨_,O,iF ?_ O⟩;refine jI<|fQ<|oE<|aa O<|v3 h<|iF ?_ O;refine jI<|aL<|dE<|aa O<|wY h<|ai<|wJ ⟨_,O,iF ?_ O⟩;refine oF<|fQ<|oE<|bF<|aa O<|ai<|c9 h O<|v5 T<|iF (cb ?_) O;refine aX<|jI<|fQ<|kA rW O<|ao<|bF<|aa O<|ai<|c9 h O<|ao<|bF<|aa O<|ai<|c9 m O<|aD ⟨P,Lr,zs,X,w.map<|fX G,O,hP,hr,pz,pr,λe he=>?_,by rw[Y9];lia,λI f=>j3<|iF ?_ O⟩;obtain⟨a,_,rfl⟩:=gS.mp he;show 3<=10;decide;refine oF<|aL<|dE<|bF<|aa O<|ai<|c9 (f _ _ h) O<|.inl ⟨_,ax.of<|f _ _ T,dE<|bF<|aa O<|ai<|c9 (f _ _ m) O<|.inl ⟨_,ax.of<|f _ _ KD,wJ ⟨_,O,iF (cb ?_) ba⟩⟩⟩;refine wM<|dE<|bF<|aa O<|ai<|c9 (f _ _ m) O<|.inl ⟨_,ax.of<|f _ _ KD,_,O,ba,ba,qz (lo:=0) (λj J Z=>∃(d:im),J=[some<|.r A.p,some<|.r A.R,some<|.i b,L,F,some<|.r k,z,y,x,u,some<|.r q,some<|.r g,some<|.r t,d,Q,S]/\aA H Z) ⟨d,O,f⟩ ?_ ?_⟩;rintro j J Z hj ⟨d,rfl,s⟩;rw[Yf] at hj;have W:o[j]?=some o[j]:=YO hj;have V:ws[j]?=some (ws[j]'ba):=YO ba;obtain⟨c1,dB,l1,gk,U,g1,p1,_⟩:=mU pc W;obtain⟨c2,bO,l2,gR,V2,g2,p2,_⟩:=mU pw V;rw[dB] at bO;cases bO;rw[U] at W;rw[V2] at V;rw[ZD];refine aX<|fQ<|kA ux O<|ao<|bF<|bF<|aa O<|ai<|c9 (s _ _ h) O<|aa O<|iG (s _ _ T) (eM V)<|ao<|bF<|bF<|aa O<|ai<|c9 (s _ _ m) O<|aa O<|iG (s _ _ KD) (eM W)<|aD ⟨l2,l1,gR,gk,c1,O,s _ _ g2,s _ _ g1,p2.mono<|aQ s,p1.mono<|aQ s,λH3 s3=>j3<|iF (cb ⟨_,O,s.trans s3⟩) O⟩;rintro J Z ⟨d,rfl,s⟩;have qq:=s _ _ hh;exact cW<|zY<|aa O ⟨.inl ⟨O,_,ax.of qq⟩,_,qq,k0 Z d s⟩
theorem anE(W:bi)(H:Hp)(Q:VK)(E:XK)(hh0:KC C R W H Q E):az (sj K C R E) cT (Dn Q) (Y2 hV W) H:=by
 obtain⟨M,A,G,g,m,x,tx,T,k,b,nk,f,i,cell,rfl,S,ib,hi,vI,W_,lh,q⟩:=hh0;obtain⟨vf,vw,hR,of,ow⟩:=S.ro.a;obtain⟨cG,c8,lpo,Kn⟩:=S.ro.C;obtain⟨kk,hk,lkk,WR⟩:=S.ro.J;have lk:=ib.L;have lse:=ib.ls;have WE:=ib.I.kn;have nb:=ib.nb;refine aO<|dE<|bD<|aa rfl<|ai ⟨A.R,_,rfl,dg (i:=6) hR rfl rfl,.inl (pQ _ (ax.of c8) ?_)⟩;rw[lpo];refine aO<|anx hR vI λX n1 n2=>?_;refine gB<|ai<|bD<|aa rfl<|ai ⟨A.R,_,rfl,dg (i:=7) hR rfl rfl,aa rfl (p4 A.k _ rfl (ip.k (k:=.inl ((X:Nat):Int)) hk<|bV ba) ?_)⟩;obtain⟨B1,b1⟩:=S.b.kept hk X;generalize fy H A.k (.d<|ZR kk (.inl (X:Int))<|.b true)=I at B1 b1⊢;have top:¬((λj=>b (g.kn+j+1)\/g.kn+j+1=X)<|T.length - g.kn):=λh=>by
  rcases h with h|h
  obtain⟨u0,hu⟩:=YM.mp ((ib.j7 _ (Yd (lJ _ _))).mp h);have:=(ZT.mp (ib.oJ _ _ hu).2).1;lia;lia
 obtain⟨j,q_,hj,hJ⟩:=least (P:=λj=>b (g.kn+j+1)\/g.kn+j+1=X) (T.length - g.kn) top;refine aO<|bA (Kt C R) rfl<|ao<|aa rfl<|aD ⟨M,A,G,g,g,m,x,tx,T,k,_,_,f,j,rfl,B1,ib.I,ba,ba,hj,hJ,λtd Lr Lc dz dw Z H3 dD fLr fLc I3 pZ=>?_⟩;obtain⟨ew,As⟩:∃e,T[X - 1]?=some e:=qX _ (YO ba);obtain⟨aP,c⟩:=ew;obtain⟨l0,h0⟩:∃l,tx[X - 1]?=some l:=qX _ (YO (by rw[ib.I.T.len];lia));obtain⟨l1,gW⟩:∃l,tx[X - 1+1]?=some l:=qX _ (YO (by rw[ib.I.T.len];lia));obtain⟨cg,aqU⟩:=ib.I.T.chg _ _ _ _ _ As h0 gW;have Eh:aP<=7:=ib.aP _ (X_ As);obtain⟨vf3,vw3,iL,V,V⟩:=I3.s.ro.a;obtain⟨aqW,Xa,aqX,anJ⟩:=I3.s.ro.C;obtain⟨tl,cc,Y,g1,g2,g3,g4,g5⟩:=anJ _ _ As;rw[show X - 1+1=X by lia] at g2;refine C6<|bF<|bD<|aa rfl<|ai ⟨A.R,_,rfl,dg (i:=6) iL rfl rfl,bg<|aa rfl<|ai<|Ie ?_⟩;rw[show((X:Nat):Int) - 1=((X - 1:Nat):Int) by lia];refine iG Xa (eM g1)<|ant g2 ?_;refine aO<|p9<|aa rfl ⟨_,.inl<|ax.of g3,λhd kT=>?_⟩;generalize zz:fy _ hd _=H4;have s4:=bC kT zz;have r6:=bu zz;have B4:=I3.s.ext kT s4 r6;refine aO<|pT C (zK C R) rfl<|aa rfl ⟨A.p,A.d,_,rfl,B4.ha.ob,jd,dt<|ao<|aa rfl<|ao<|aa rfl<|ao<|aa rfl<|ao<|aa rfl<|ao<|aa rfl<|aD ⟨xx,λlt fl=>?_⟩⟩;have s5:=Yb (o:=.t (gC G X aP hd)) fl;have uu:fy H4 lt (.t<|gC G X aP hd) lt=some (.t<|gC G X aP hd):=av;show zK C R _ (fy H4 lt<|.t<|gC G X aP hd) _ _;generalize fy H4 lt (.t<|gC G X aP hd)=H5 at s5 uu⊢;have B5:=B4.same s5;have pV:=s4.trans s5;have g45:=g4.mono (aQ pV);have my:m (g.kn+j+1)=none/\g.kn+j+1≠X:=by
  refine⟨?_,λy=>hJ<|.inr y⟩;cases en:m (g.kn+j+1) with
  |none=>rfl
  |some u0=>exact absurd (.inl<|(ib.j7 _ (Yd (lJ _ _))).mpr (by rw[en];exact λz=>by cases z)) hJ
 refine⟨_,A.p,A.d,A.q,A.D,A.e,lt,hd,G,g,m,X,aP,Y,c,tx,T,j,rfl,B5.ha,B5.nt.al,uu,n1,Eh,s5 _ _ r6,g45,cg.ok,cg.c,ib.I,ba,ib.oJ,λV V=>As,ba,λi' e9=>(hj i' e9).imp (λh=>(ib.j7 _ (Yd (lJ _ _))).mp h) id,my,λNw P v t q' c_ e' a0 zs ws X' H6 J0=>?_⟩;have B6:=B5.WS J0;have nL:∀{z:z4}{o:HO},H z=some o-> ¬M z->I z=some o/\z≠Lr/\z≠Lc:=λ{z o} ez hz=>by
  have e1:=b1 _ _ ez hz;exact⟨e1,aH e1 fLr,aH e1 fLc⟩
 have to3:∀{z:z4}{o:HO},H z=some o-> ¬M z->H3 z=some o:=λez hz=>by
  obtain⟨e1,n1,n2⟩:=nL ez hz;exact I3.b _ _ (dD _ _ e1) λh=>h.elim n2 λh=>h.elim n1 hz
 have KG:∀{z:z4},H5 z=none->H z=none:=λ{z} hz=>by
  cases ez:H z with
  |none=>rfl
  |some o=>
   by_cases hm:M z;obtain⟨o',dj,V⟩:=B5.nt z (.inr<|.inr<|.inr hm);rw[hz] at dj;cases dj;rw[pV _ _<|to3 ez hm] at hz;cases hz
 have Xb:∀z,Nw z-> ¬(M.add Lr|>.add Lc|>.add hd) z:=λz hz hm=>by
  rcases J0.fN z hz with h|⟨n0,u0,hu,rfl⟩
  obtain⟨o,ho,V⟩:=B5.nt z hm;rw[h] at ho;cases ho;obtain⟨ah,V,V,k2⟩:=B5.ha.st.l;have:=k2 n0;rw[hu] at this;obtain⟨V,V,V,V,V,V,h5⟩:=this;exact h5 hm
 have KH:∀z,Nw z-> ¬M z:=λz hz hm=>Xb z hz (.inr<|.inr<|.inr hm);have nNh:∀z,Nw z->z≠hd:=λz hz y=>Xb z hz (.inl y);have El:∀{z:z4}{us:bi},H5 z=some (.l us)-> ¬z=A.p:=λhz y=>by rw[y,B5.ha.ob] at hz;cases hz
 have KI:Kp H5 H6:=⟨λz us ez=>J0.b _ _ ez λy=>(by rw[y,B5.ha.ob] at ez;cases ez),λz us ez=>J0.b _ _ ez<|El ez⟩;have uY:=(Kp.same pV).trans KI;have kn':=rQ G T g j;have aqY:=WZ G T g j;obtain⟨Ap,Aq,V⟩:=W0 ib.I ib.H ba ba j ba;have Xd:=ib.anb J0.ins (λV V=>As) ba hJ;refine anB (A:=A) (N:=(M.add Lr|>.add Lc).ea m) (Nn:=Nw) cg.ok (KI.ls _ _<|s5 _ _ r6) (uY.ls _ _ g3) (g4.mono uY.tt) (uY.tt _ _ pZ) (uY.ls _ _ I3.hr) (uY.ls _ _ I3.hc) (Paired.bX I3.c λV V z=>(z.keep uY).v) (Paired.bX I3.d λV V z=>z.keep uY) J0.ht J0.hP J0.hT (Kw (S:=kP H6) (fX G) J0.pz λV V z=>(z.WU (N:=λV=>False) λV V h=>h).v) J0.pw ba λH7 dY s7=>?_;have Xe:H7 hd=some (.l Y):=s7 _ _ (KI.ls _ _<|s5 _ _ r6);have nhp:hd≠A.o:=λy=>by rw[y,Xa] at kT;cases kT
 have nhr:hd≠A.r:=λy=>by rw[y,I3.s.ro.Z] at kT;cases kT
 have B8:=(B6.same s7).grow (us':=[]) (.inl<|.inl<|.inl rfl) Xe nhp nhr;have b8:aB (· =hd) H7 (fy H7 hd<|.l []):=aB.upd;have t8:=aB.tup (uU Xe) b8;have Xf:fy H7 hd (.l []) hd=some (.l []):=av;generalize fy H7 hd (.l [])=H8 at B8 b8 t8 Xf⊢;have n8:∀{z:z4}{us:bi},Nw z->H6 z=some (.l us)->H8 z=some (.l us):=λhz ez=>b8 _ _ (s7 _ _ ez) (nNh _ hz);have I8:uX (λz=>((M.add Lr|>.add Lc|>.add hd) z\/Nw z)\/z=q') (λz=>M z\/z=q') Nw C R H8 (A.to q' c_ e') G (aK G T g j).1 (eV (aK G T g j).1.kn X') x T k (λn0=>b n0\/n0=X) (nk+1) f t P v zs ws (aK G T g j).2.1 (aK G T g j).2.2:=by
  refine⟨B8,t8 _ _<|s7 _ _ J0.ht,n8 J0.nP.1 J0.hP,n8 J0.nP.2.1 J0.hT,⟨J0.nP.1,J0.nP.2.1,J0.nP.2.2.1⟩,Paired.bX J0.pz (by rintro v1 a ⟨z,l,ez,⟨y1,U,y2,y3⟩,y4,y5⟩;exact qM z l ez (tL (t8 _ _<|s7 _ _ y1) U (n8 y4 y2) ((y3.mono<|aQ s7).mono t8)) y4 y5),Paired.bX J0.pw (by rintro v1 a ⟨l,U,ez,y2,y3,y4,y5⟩;exact q8 l U ez (n8 y4 y2) ((y3.mono<|aQ s7).mono t8) y4 y5),λz hz=>⟨.inl<|.inr hz,λy=>KH z hz<|y ▸ S.mm.2.2.2.1,λy=>KH z hz<|y ▸ S.mm.2.2.2.2.2⟩,λz hz hm=>?_,λz hz=>hz.elim (λy=>.inl<|.inl<|.inr<|.inr<|.inr y) .inr,⟨.inl S.mm.1,.inr rfl,.inl S.mm.2.2.1,.inl S.mm.2.2.2.1,.inl S.mm.2.2.2.2.1,.inl S.mm.2.2.2.2.2⟩,Ap,Aq,ba,(oT lh (Zs _ _))⟩;rcases hm with(h|rfl)|⟨n0,u0,hu,rfl⟩
  exact KH z hz h;obtain⟨us,hu⟩:=J0.nl z hz;obtain⟨V,V,iO,V⟩:=J0.ha.st.ob;rw[iO] at hu;cases hu;obtain⟨ah,V,V,k2⟩:=J0.ha.st.l;have:=k2 n0;rw[hu] at this;obtain⟨V,V,V,V,V,V,h5⟩:=this;exact h5<|.inr hz
 have Xg:∀{z:z4}{n0:Nat}{u0:Nat×z4×be},eV (aK G T g j).1.kn X' n0=some u0->u0.2.1=z->(M.ea m) z\/H z=none:=λ{z n0 u0} hu ez=>by
  simp only[eV] at hu;split at hu;cases hu;rcases J0.ins with⟨V,V,rfl⟩|⟨V,rfl⟩
  simp only[kJ] at hu;split at hu;cases hu;exact .inr (ez ▸ KG J0.fa);exact .inl (.inr (q9 n0 u0 hu ez));exact .inl (.inr (q9 n0 u0 hu ez))
 have anO:∀{z:z4},H8 z=none->H z=none:=λ{z} hz=>by
  refine KG ?_;cases ez:H5 z with
  |none=>rfl
  |some o=>
   by_cases y:z=A.p;obtain⟨o',dj,V⟩:=B8.nt z (.inl<|.inl<|.inr<|.inr<|.inr<|y ▸ S.mm.1);rw[hz] at dj;cases dj;by_cases y':z=hd;rw[y',Xf] at hz;cases hz;rw[b8 _ _ (s7 _ _<|J0.b _ _ ez y) y'] at hz;cases hz
 refine anf (A:=A.to q' c_ e') (tx:=tx) (i:=i+1) I8 Xd (ZV hi) (.inr rfl) n1 Eh λEj A' bE B ep eR S' hMf l' b'=>q Ej A' _ _ _ bE B ep eR S' Xd (λz hz=>?_) (λz o ez hz=>?_) l';rcases hz with hz|⟨n0,u0,hu,ez⟩
 rcases hMf z hz with(h|rfl)|h
 exact .inl (.inl h);exact .inr (KG J0.fq);exact .inr (anO h);exact Xg hu ez;have hM:¬M z:=λh=>hz (.inl h);have e3:=to3 ez hM;have nh:¬z=hd:=aH e3 kT;have np:¬z=A.p:=λy=>hM (y ▸ S.mm.1);refine b' _ _ (b8 _ _ (s7 _ _<|J0.b _ _ (pV _ _ e3) np) nh) λhm=>?_;rcases hm with((h|h)|rfl)|⟨n0,u0,hu,ezz⟩
 obtain⟨V,n1,n2⟩:=nL ez hM;exact h.elim nh λh=>h.elim n2 λh=>h.elim n1 hM;rcases J0.fN z h with h|h
 rw[pV _ _ e3] at h;cases h;exact hz (.inr h);have:=J0.fq;rw[pV _ _ e3] at this;cases this;rcases Xg hu ezz with h|h
 exact hz h;rw[h] at ez;cases ez
end
noncomputable def tkD(o k:Nat)(e:Nat×be):EQ:=.tuple [.str "took",.int (o:Nat),.int ((k+1:Nat):Int),.int (e.1:Nat),dP e.2]
def nu(o:Nat):Nat->List (Nat×be)->List EQ
 |_,[]=>[]
 |k,e::r=>tkD o k e::nu o (k+1) r
section
variable{K:Frag}{M M' N N' Nn Bm M3 Mf:MS}{C G:z4}{H B I Z R:Hp}{A:Ad}{n:Nat}{g b r:Gs}{X sv':Str}{m:List bv}{f:List (Nat×be)}{v E' T i:Nat}{x:Nat->Prop}{w:bi}{q X':aS}{E:XK}{Q:VK}{u:aW}{J:St}{D:En}
theorem Xh:∀(f:List (Nat×be))(G:bi)(k:Nat),G.length=f.length->(∀i e,f[i]?=some e->∃t c U,G[i]?=some (.r t)/\H t=some (.t<|gC n (k+i+1) e.1 c)/\H c=some (.l U)/\aC H U e.2)->IsL H (nu n k f) G
 |[],[],k,_,_=>O
 |[],_::_,k,h,_=>by cases h
 |_::_,[],k,h,_=>by cases h
 |e::f,v::G,k,a,h=>by
  obtain⟨t,c,U,m,j,g,d⟩:=h 0 e O;cases m;refine p4 _ _ O (p4 t _ O j (p4 _ _ O O (p4 _ _ O O (p4 _ _ O O (p4 _ _ O O (p4 _ _ O (D0 g d) O)))))) (Xh f G (k+1) (SZ a) λi o b=>?_);have:=h (i+1) o b;rw[show k+(i+1)+1=k+1+i+1 by lia] at this;exact this
theorem Xi:∀(f:List (Nat×be))(k:Nat),(∀e∈f,∀p∈e.2,oo p)->PyData.canLayAll0 (nu n k f)=true/\PyData.depthAll (nu n k f)<=3
 |[],k,_=>⟨O,nE _⟩
 |e::f,k,h=>by
  obtain⟨a,i⟩:=Xi f (k+1) λc b=>h c (.tail _ b);have g:=zV zd 1 e.2 λp Y=>by cases p<;>exact Yw _
  have d:(dP e.2).depth<=2:=by exact j2 g _
  refine⟨?_,?_⟩;show((PyData.strOk "took" && (true && (true && (true && ((dP e.2).canLay0 && true))))) && PyData.canLayAll0 (nu n (k+1) f))=true;rw[(Wp (Co<|h e<|.head _)),a];decide+kernel;show max (max 0 (max 0<|max 0<|max 0<|max (dP e.2).depth 0)+1) (PyData.depthAll<|nu n (k+1) f)<=3;lia
theorem anS(S:dR N H A n r X f v x T w)(ok:∀e∈f,∀p∈e.2,oo p)(hp:H A.o=some (.l cG))(hb:H b0=some (.l []))(q0:Q (.b<|decide<|f.length=0) H):dc K .Eq (.r A.o) (.r b0) H Q:=by
 obtain⟨amZ,p1,p2,p3⟩:=S.C;rw[hp] at p1;cases p1;have is:=Xh f cG 0 p2 λi e he=>by
  obtain⟨t,c,U,zq⟩:=ZG (p3 i e he);obtain⟨h1,h2,h3,h4,Y⟩:=c3 zq;rw[show 0+i+1=i+1 by lia];exact tZ t c U h1 h2 h3 h4
 obtain⟨c1,d1⟩:=Xi f 0 ok;have sh:SeqAt.shaped (.list<|nu n 0 f)=true:=by
  unfold SeqAt.shaped;have e1:(PyData.list<|nu n 0 f).canLay0=true:=c1;have e2:(PyData.list<|nu n 0 f).depth<=64:=by show PyData.depthAll (nu n 0 f)+1<=64;lia
  rw[e1,Y4 e2];rfl
 refine q8 (.list<|nu n 0 f) (.list []) ⟨A.o,cG,rfl,hp,is⟩ ⟨b0,[],rfl,hb,rfl⟩ sh rfl ?_;cases f with
 |nil=>exact q0
 |cons e f=>exact q0
abbrev nA(K:Frag)(C G:z4)(E:XK):aW:=aJ K [("_law_text",Ce),("_law_cell_at",yC K),("_law_size",G8),("_law_own",Ke C G),("_law_taken",Kk C G),("_law_letter",KC C G),("_law_stands",J7 C G)] [] [] [] [("Hand",C,IS C G)] (E:=E)
theorem anT{a c:z4}(d:H a=some (.l []))(h:H c=some (.l []))(q:Q (.b true) H):dc K .Eq (.r a) (.r c) H Q:=by
 exact⟨.list [],.list [],⟨a,[],O,d,O⟩,⟨c,[],O,h,O⟩,O,O,q⟩
theorem anU{c:RE}(h:af u x1 J H λv I=>∃a,v=.r a/\(∃U,ax u.K I a U)/\∃W:Nat->Nat->bi->Hp->Prop,(∃m,W 0 m [] I)/\∀i m Y Z,W i m Y Z->
   ((jN u.K a).stop i Z/\∀p,Z p=none->Q (.r p) (fy Z p<|.l Y))\/
   ((jN u.K a).go i Z/\∀x1 R,(jN u.K a).gh i Z x1 R->jR u.K (some 2) x1 R λzs=>k_ (some (bo u.calm c)) (zs.map some++cN J fv) R λf d=>
    if f=true then af u.calm e (zs.map some++cN J fv) d λy g=>Y.length<sizeLine/\∃b,b<m/\W (i+1) b (Y++[y]) g else ∃b,b<m/\W (i+1) b Y d)):af u (.C (some 2) fv .l [x1] (some c) e) J H Q:=C7 _ _ (λV V=>Iff.rfl) h
theorem anV{L J I D z:im}(S:cX M C G H A n g q X f v x T w)(U:∀B,Q (.b true) B):az (nA K C G E) (eQ.drop 8) (Dn Q) [L,J,I,F,some<|.r A.R,D,z] H:=by
 obtain⟨vf,vw,hR,_,_⟩:=S.ro.a;refine b_<|ky<|anU<|bD<|aa O<|ai ⟨A.R,_,O,dg (i:=10) hR O O,A.r,O,qX _ (ax.of S.ro.Z),λi m Y Z=>m=w.length - i/\i<=w.length/\Y=[]/\Z=H,tH _ O (nE _) O O,?_⟩;rintro i m Y Z ⟨rfl,hi,rfl,rfl⟩;by_cases o:i<w.length;have j:=YO o;refine .inr ⟨q9 _ _ (ax.of S.ro.Z) j,?_⟩;rintro y h ⟨rfl,W⟩;have l:=W _ (ax.of S.ro.Z);rw[j] at l;obtain⟨t,a,d,e,ht,N,P,dp,V⟩:=S.ro.hh _ (X_ j);cases l;refine qM t _ e (aF.of ht) O ?_;have k:bo (nA K C G E).calm (.p .NotEq (.x vU [.v 0])<|.v 1) [some<|.r a,some<|.s d.shown] h λb0 u=>if b0=true then af (nA K C G E).calm (.v 0) [some<|.r a,some<|.s d.shown] u λy H7=>(([]:bi).length<sizeLine/\∃c,c<w.length - i/\c=w.length - (i+1)/\i+1<=w.length/\[]++[y]=([]:bi)/\H7=h) else ∃c,c<w.length - i/\c=w.length - (i+1)/\i+1<=w.length/\([]:bi)=[]/\u=h:=
  aL (JK<|aa O ⟨a,d,O,N h<|λ_ _ e _=>e,P,dp,V,aa O<|Us ⟨_,O,iF ⟨_,ba,O,o,O,O⟩ O⟩⟩)
 exact k;have e_:=Yk hi (Zv o);subst e_;exact .inl ⟨pQ _ (ax.of S.ro.Z) (Yw _),λd fd=>cQ<|aD ⟨nE _,λe fe=>anT (by rw[aw<|aH av fe];exact av) av<|U _⟩⟩
noncomputable abbrev KJ:ga:=[.i (.o [(.n<|.v 6),(.n<|.l 6 [.v 3,.v 4,(.b .FloorDiv (.v 5)<|.c<|.i 3)])]) [.r<|.c<|.b false] []]
abbrev KL:ga:=.a 6 (.c<|.b true)::
  .i (.p .Lt (.b .Mod (.v 5)<|.c<|.i 5)<|.c<|.i 2) [.a 6<|.l 3 [.v 3,.v 4,(.b .FloorDiv (.v 5)<|.c<|.i 5)]] [.i (.o [(.p .Eq (.b .Mod (.v 5)<|.c<|.i 5)<|.c<|.i 2),(.p .Eq (.B (.v 4)<|.c<|.s "post")<|.L [])]) [.d<|.l 4 [.v 4,(.b .FloorDiv (.v 5)<|.c<|.i 5)]] [.a 6<|.l 5 [.v 3,.v 4,(.b .FloorDiv (.v 5)<|.c<|.i 5)]]]::KJ
structure LI(L p R4:z4)(ls:bi)(C G:z4)(H:Hp)(i:Nat)(M:MS)(A:Ad)(n:Nat)(g:Gs)(q:aS)(X:Str)(m:List bv)(f:List (Nat×be))(v:Nat)(x:Nat->Prop)(T:Nat)(w:bi):Prop where
 s:cX M C G H A n g q X f v x T w
 pu:Pu i n g q X m f v x
 r9:T<=i
 lh:w.length<=10*i
 ep:A.p=p
 eR:A.R=R4
 nL:¬(M.ea q) L
 hL:H L=some (.l ls)
theorem anW{c:Int}(I0:LI L p R4 ls C G H i M A n g q X m f v x T w)(hi:i<14)(k:∀B M A g q X m f v x T w u6,LI L p R4 ls C G B (i+1) M A n g q X m f v x T w->D.nx [u0,u1,u2,some<|.r p,some<|.r R4,some<|.i c,u6] B):
  az (nA K C G E) KL D [u0,u1,u2,some<|.r p,some<|.r R4,some<|.i c,u6] H:=by
 obtain⟨S,P,r9,lh,rfl,rfl,nL,hL⟩:=I0;have st:∀(I:Hp)(M1:MS)(A1:Ad)(g1:Gs)(xv:aS)(Au:Str)(Em:List bv)(iK:List (Nat×be))(Av:Nat)(Aw:Nat->Prop)(Ax:Nat)(Ag:bi),cX M1 C G I A1 n g1 xv Au iK Av Aw Ax Ag->Pu (i+1) n g1 xv Au Em iK Av Aw->Ax<=i+1->Ag.length<=10*i+1->A1.p=A.p->A1.R=A.R-> ¬(M1.ea xv) L->I L=some (.l ls)->az (nA K C G E) KJ D [u0,u1,u2,some<|.r A.p,some<|.r A.R,some<|.i c,some<|.b true] I:=by
  intro I M1 A1 g1 xv Au Em iK Av Aw Ax Ag S1 P1 l1 l2 ep eR Xj hL1;refine aX<|jI<|fQ<|Km rfl<|iF ?_ rfl;have lk:=P1.L;have Ei:=P1.I.kn;have lse:=P1.ls;rw[<-ep,<-eR] at k⊢;exact oF<|fQ<|kA (J7 C G) rfl<|ao<|aa rfl<|ao<|aa rfl<|ao<|bg<|aa rfl<|ai<|mW ⟨ap,ap⟩<|aD ⟨M1,A1,n,g1,xv,Au,Em,iK,Av,Aw,Ax,Ag,_,rfl,S1,P1.I,P1.H,ba,ba,ba,λgI Z S2 l4 b2=>j3<|iF (cb<|k Z M1 A1 g1 xv Au Em iK Av Aw Ax gI _ ⟨S2,P1,l1,ba,rfl,rfl,Xj,b2 _ _ hL1 λh=>Xj (.inl h)⟩) rfl⟩
 refine aO<|ai (aX<|aL<|bg<|aa rfl<|ai<|jb ap<|ai ⟨trivial,_,rfl,du (λY=>?_)<|λY=>?_⟩);exact aO (bA (Ke C G) rfl<|ao<|aa rfl<|ao<|aa rfl<|ao<|bg<|aa rfl<|ai<|mW ⟨ap,ap⟩<|aD ⟨M,A,n,g,q,X,m,f,v,x,T,w,i,_,rfl,S,P,hi,ba,λb bE B S' P' l' b'=>st B M A b q X m f v x T bE S' P' (YS r9) (oT l' (j2 lh _)) rfl rfl nL<|b' _ _ hL λh=>nL (.inl h)⟩);have take:∀{H0:Hp},aA H H0->az (nA K C G E) (.d (.l 4 [.v 4,(.b .FloorDiv (.v 5)<|.c<|.i 5)])::[]) {D with nx:=az (nA K C G E) KJ D} [u0,u1,u2,some<|.r A.p,some<|.r A.R,some<|.i c,some<|.b true] H0:=λ{H0} s0=>
  cW (bA (Kk C G) rfl<|ao<|aa rfl<|ao<|bg<|aa rfl<|ai<|mW ⟨ap,ap⟩<|aD ⟨M,A,n,g,q,X,m,f,v,x,T,w,i,_,rfl,S.same s0,P,hi,λsv' uV r_ E' B S' P' b'=>st B M A g q sv' uV r_ E' x T w S' P' (YS r9) (YS lh) rfl rfl nL<|b' _ _ (s0 _ _ hL) λh=>nL (.inl h)⟩)
 refine aX<|jI<|aL<|bg<|aa rfl<|ai<|jb ap<|ai<|jE ⟨_,rfl,du (λY=>iT ?_ rfl)<|λY=>?_⟩;exact take (aA.refl _);obtain⟨vf,vw,hR,Y,Y⟩:=S.ro.a;obtain⟨cG,c8,lpo,Kn⟩:=S.ro.C;refine oF<|aL<|bD<|aa rfl<|ai ⟨A.R,_,rfl,dg (i:=6) hR rfl rfl,cQ<|aD ⟨nE _,λe0 f0=>?_⟩⟩;generalize zz:fy _ e0 _=I;have s1:=bC f0 zz;have xg:∀e∈f,∀p∈e.2,oo p:=λe he p hp=>by
  obtain⟨j,hj⟩:=Zx he;have q_:=(ZT.mp hj).1;obtain⟨l0,h0⟩:∃l,m[j]?=some l:=⟨_,YO (P.I.T.len▸YF q_)⟩;obtain⟨l1,gW⟩:∃l,m[j+1]?=some l:=⟨_,YO (P.I.T.len▸Yr q_ _)⟩;exact G5<|(P.I.T.chg _ e.1 e.2 _ _ hj h0 gW).1.ok p hp
 refine anS (S.ro.same s1) xg (s1 _ _ c8) (bu zz) ⟨_,rfl,du (λY=>take s1)<|λju=>?_⟩;have vI:1<=f.length:=by
  lia
 exact aO<|bA (KC C G) rfl<|ao<|aa rfl<|ao<|aa rfl<|ao<|bg<|aa rfl<|ai<|mW ⟨ap,ap⟩<|aD ⟨M,A,n,g,q,X,m,f,v,x,T,w,i,_,rfl,S.same s1,P,hi,vI,ba,ba,λM' A' b qv so bE B ep eR S' P' hM b' l'=>st B M' A' b qv X m f v so (T+1) bE S' P' (j2 r9 _) (oT l' (j2 lh _)) ep eR (λh=>(hM L h).elim nL λh=>(by rw[s1 _ _ hL] at h;cases h))<|b' _ _ (s1 _ _ hL) nL⟩
end
theorem Xk:∀(s:bn)(W:bi)(n:Str),n∉s->cv (zk s W) (.inr n)=none
 |[],W,n,_=>O
 |m::s,[],n,_=>O
 |m::s,v::W,n,h=>by
  have a:¬(Sum.inr m:ZA)=Sum.inr n:=λz=>h (by rw[Sum.inr.inj z];exact .head _);show cv ((.inr m,v)::zk s W) (.inr n)=none;rw[iS a];exact Xk s W n λz=>h (.tail _ z)
theorem Xl(n:Str)(v:V):∀(s:bn)(W:bi),s.length=W.length->zk (s++[n]) (W++[v])=zk s W++[(.inr n,v)]
 |[],[],_=>O
 |[],_::_,h=>by cases h
 |_::_,[],h=>by cases h
 |m::s,w::W,h=>FM ((Sum.inr m,w):: ·) (Xl n v s W<|SZ h)
theorem acN(v:V)(h:n∉s)(l:s.length=W.length):ZR (zk s W) (.inr n) v=zk (s++[n]) (W++[v]):=by
 rw[aaf v<|Xk s W n h,Xl n v s W l]
theorem Xm:∀(s:bn)(W:bi)(p:bn)(a:bi),(p++s).Nodup->p.length=a.length->s.length=W.length->jV (zk p a) (zk s W)=zk (p++s) (a++W)
 |[],[],p,a,_,_,_=>by rw[Yh,Yh];rfl
 |[],_::_,_,_,_,_,h=>by cases h
 |_::_,[],_,_,_,_,h=>by cases h
 |n::s,v::W,p,a,d,l,h=>by
  show jV (ZR (zk p a) (.inr n) v) (zk s W)=_;rw[acN v (λm=>(List.nodup_append.mp d).2.2 n m n (.head _) O) l,Xm s W (p++[n]) (a++[v]) (by rw[X7];exact d) (by rw[Yy,Yy,l];rfl)<|SZ h,X7,X7];rfl
section
variable{K:Frag}{M:MS}{C m:z4}{H B I Z H3:Hp}{A:Ad}{f:Nat}{g:Gs}{w:Str}{k:List bv}{G:List (Nat×be)}{N T i:Nat}{X:Nat->Prop}{b:bi}{s:aS}{E:XK}{Q:VK}{u:aW}{J:St}{D:En}{x:Str}
theorem anZ(h:∀p,H p=none->br u as J (fy H p<|.d []) λW Z=>Z p=some (.d [])/\∃ah:ii,W=tJ ah/\ah.length<=15/\Q (.r p) (fy Z p<|.d<|jV [] ah)):af u (.x vT as) J H Q:=h
theorem an0(n:ww)(o a:Int):∃m:ww,iP (n.map V.i) (some o) (some a)=m.map V.i/\(0<=o->o<=a->m.length<= (a - o).toNat):=by
 refine⟨(n.drop<|HT.bh n.length 0<|some o).take<|HT.bh n.length n.length (some a) - HT.bh n.length 0 (some o),?_,λb c=>?_⟩;unfold iP;rw[Y9,<-List.map_drop,<-List.map_take];obtain⟨l,rfl⟩:=Y3 b;obtain⟨h,rfl⟩:=Y3 (Int.le_trans b c);rw[Y7,HT.nQ,HT.nQ];exact Nat.le_trans (Nat.min_le_left _ _) (by omega)
theorem G7(g:good x)(k:x.length<=400)(d:f<=7):Pu 0 f ⟨x,0,0,none,none⟩ ⟨λY=>none,0⟩ x [x.cps.toList] [] 0 (λY=>False):=by
 have b:=YN x;refine⟨⟨⟨O,λi h ps l r e=>by simp⟩,λl a=>?_,Yw _,λY=>O,p4 _ _ O O O,nE _,nE _,g.2,λj ps c=>by simp at c⟩,d,O,nofun,nofun,λn Y=>⟨λh=>h.elim,λh=>h O⟩,λh=>h,Yw _,λh=>absurd h<|Zt _,Yw _,Yw _,λl a=>?_,Yw _,Yw _,Yw _⟩;rw[ZF.mp a];exact⟨ba,g.2⟩;rw[ZF.mp a];lia
abbrev amP(A:Ad):MS:=λz=>z=A.p\/z=A.q\/z=A.R\/z=A.o\/z=A.k\/z=A.r
theorem an2(b:cq (λY=>False) C m H A.p A.d A.q A.D A.e f x 0 0 none none ⟨λY=>none,0⟩)(c:H A.R=some (.d<|zk bB<|dQ A f ⟨x,0,0,none,none⟩ x 0 .a .a))(s:H A.o=some (.l []))(j:H A.k=some (.d []))(Z:H A.r=some (.l []))(y:A.R≠A.k)(w:A.o≠A.r)(u:A.e≠A.R/\A.e≠A.k):cX (amP A) C m H A f ⟨x,0,0,none,none⟩ ⟨λY=>none,0⟩ x [] 0 (λY=>False) 0 []:=by
 obtain⟨vf,t,g,L,K⟩:=b.st.ob;obtain⟨M,F,E,B⟩:=b.st.l;refine⟨⟨b.ob,p4 vf t g L K,qH M F E B,b.st.nd⟩,⟨p4 .a .a c O O,qH [] s O (λi e J=>by simp at J),qH [] j (Yw _) (λn=> ⟨λh=>absurd O h,λh=>h.elim⟩),Z,(λv I=>by cases I),y,w⟩,⟨.inl O,.inr<|.inl O,.inr<|.inr<|.inl O,.inr<|.inr<|.inr<|.inl O,.inr<|.inr<|.inr<|.inr<|.inl O,.inr<|.inr<|.inr<|.inr<|.inr O⟩,λz G=>?_,u⟩;rcases G with h|h|h|h|h|h<;>rw[h]
 exact pQ _ b.ob (λus z=>by lia);exact pQ _ g (λus z=>by lia);exact pQ _ c (λus z=>by lia);exact pQ _ s (λus z=>by lia);exact pQ _ j (λus z=>by lia);exact pQ _ Z (λus z=>by lia)
inductive Eo(K:Frag)(W:bi)(H:Hp)(Q:VK)(E:XK):Prop|i(a:z4)(n:ww)(_:W=[.r a])(_:ax K H a (n.map V.i))(_:∀B,Q (.b true) B)
theorem an3{U:ww}{d u:im}(ha:ax K H0 sc (U.map V.i))(s0:aA H0 H)(S:cX M C m H A f g s w G N X T b)(P:Pu 0 f g s w k G N X)(W_:T<=0)(lh:b.length<=0)(q:∀B,Q (.b true) B):
  az (nA K C m E) (eQ.drop 7) (Dn Q) [some<|.r sc,u1,u2,some<|.r A.p,some<|.r A.R,d,u] H:=by
 obtain⟨e,a',Xn⟩:=an0 U 3 17;refine C8<|Uv<|aa O<|ai ⟨_,O,ai ⟨_,O,.inl ⟨_,s0.seq ha,λL fL=>?_⟩⟩⟩;have y:=Yb (o:=.l (iP (U.map .i) (some 3)<|some 17)) fL;rw[a'] at y⊢;have hL:fy H L (.l<|e.map .i) L=some (.l<|e.map .i):=av;generalize fy H L (.l<|e.map .i)=H6 at y hL⊢;have I0:LI L A.p A.R (e.map .i) C m H6 0 M A f g s w k G N X T b:=⟨S.same y,P,W_,lh,O,O,((S.ha.st.eY S.nt).al.no fL),hL⟩;refine qH L O (qX _ (ax.of hL)) (jk (λi J h=>i<=14/\∃(d u:im)(M':MS)(A':Ad)(g':Gs)(F:aS)(c:Str)(j:List bv)(z:List (Nat×be))(E':Nat)(x:Nat->Prop)(D:Nat)(bE:bi),J=[some (.r sc),u1,u2,some (.r A.p),some (.r A.R),d,u]/\LI L A.p A.R (e.map .i) C m h i M' A' f g' F c j z E' x D bE)
  (uJ (nE _) d ⟨u,M,A,g,s,w,k,G,N,X,T,b,O,I0⟩) (by rintro i J h _ ⟨_,_,_,_,_,_,_,_,_,_,_,_,_,_,_,I⟩;exact ax.of I.hL) ?_ ?_)
 rintro i v J h hv ⟨Y,d,u,M',A',g',F,c,j,z,E',x,D,bE,rfl,I⟩;have hi:=by
  have:=(ZT.mp hv).1;rw[Y9] at this;exact this
 have Xo:i<14:=by
  lia
 rw[Yi,YO hi] at hv;cases hv;exact anW I Xo λH8 M2 A2 g2 Kz n t j8 b' Z W gI u I2=>uJ Xo _ ⟨u,M2,A2,g2,Kz,n,t,j8,b',Z,W,gI,O,I2⟩;rintro J h ⟨c',d,u,M',A',g',F,c,j,z,E',x,D,bE,rfl,I⟩;rw[<-I.eR];exact anV I.s q
theorem aoa(W:bi)(H:Hp)(Q:VK)(E:XK)(hh:Eo K W H Q E):az (nA K C m E) eQ (Dn Q) (Y2 mF W) H:=by
 obtain⟨N,B,rfl,G,q⟩:=hh;refine aO<|bA Ce O<|ao<|bA (yC K) O<|ao<|aa O<|ao<|ai<|aD ⟨N,B,_,O,G,ap,?_⟩;refine ao<|bA G8 O<|ao<|bA (yC K) O<|ao<|aa O<|ao<|ai<|aD ⟨N,B,_,O,G,ap,aD ⟨_,O,λn0 n1 n2=>aD ⟨_,_,O,n1,ba,λx I gx lx s1=>?_⟩⟩⟩;have S:x.length<=400:=by lia
 refine aO<|bg<|bA (yC K) O<|ao<|aa O<|ao<|ai<|aD ⟨N,B,_,O,s1.seq G,ap,ai<|jb ap ?_⟩;have m0:=Zu (cell B (2:Int).toNat) (show(8:Int)≠0 by decide);obtain⟨f,eo⟩:∃f:Nat,cell B (2:Int).toNat % 8=((f:Nat):Int):=Y3 m0;have h7:f<=7:=by lia
 rw[eo];refine aO<|ajw C (IS C m) O<|aa O<|aa O λp t fp fx ju=>⟨p,t,f,x,O,av,h7,gx,λu w e Z fq fe d' b0 S2=>⟨O,?_⟩⟩;have s2:aA I Z:=λz o j=>b0 _ _ (by rw[aw<|aH j fp,aw<|aH j fx];exact j) (aH j fp);obtain⟨f',l7,_⟩:=S2.st.l;refine aO<|anZ λR J=>?_;generalize zz:fy _ R _=H3;have s3:=bC J zz;have T:=bu zz;refine ao<|ai<|ao<|aa O<|ao<|ai<|ao<|aa O<|ao<|ai<|ao<|aa O<|ao<|ai<|ao<|ai<|ao<|ai<|ao<|ai<|ao<|ai<|ao<|ai<|ao<|ai<|ao<|cQ<|aD ⟨nE _,λb Xp=>?_⟩;generalize zz:fy _ b _=H4;have F:=bC Xp zz;have Xq:=bu zz;refine ao<|ai<|ao<|IJ λc KN=>?_;generalize zz:fy _ c _=H5;have D:=bC KN zz;have b':=bu zz;have V:=D _ _ (F _ _ T);refine aD ⟨V,zk (bB.take 8) [.i (f:Nat),.s x,.s x,.i 0,.i 0,.i 0,.r b,.r c],O,(by show 8<=15;decide),?_⟩;rw[show jV [] (zk (bB.take 8) [.i (f:Nat),.s x,.s x,.i 0,.i 0,.i 0,.r b,.r c])=zk (bB.take 8) [.i (f:Nat),.s x,.s x,.i 0,.i 0,.i 0,.r b,.r c] from Xm (bB.take 8) _ [] [] (List.Nodup.sublist (Tm _ _) DY) O O];have e':=J;have b6:bp R H5 (fy H5 R<|.d<|zk (bB.take 8) [.i (f:Nat),.s x,.s x,.i 0,.i 0,.i 0,.r b,.r c]):=bp.upd;have Ai:fy H5 R (.d<|zk (bB.take 8) [.i (f:Nat),.s x,.s x,.i 0,.i 0,.i 0,.r b,.r c]) R=some (.d<|zk (bB.take 8) [.i (f:Nat),.s x,.s x,.i 0,.i 0,.i 0,.r b,.r c]):=av;generalize fy H5 R (.d<|zk (bB.take 8) [.i (f:Nat),.s x,.s x,.i 0,.i 0,.i 0,.r b,.r c])=H6 at b6 Ai⊢;have p7:ip H6 R (.s "flight") .a (fy H6 R<|.d<|zk (bB.take 9) [.i (f:Nat),.s x,.s x,.i 0,.i 0,.i 0,.r b,.r c,.a]):=by
  have h:=ip.k (k:=.inr "flight") (v:=.a) Ai (bV<|oT (zW _ _) ap);exact h
 refine gB<|ai<|aa O<|ai ⟨R,_,O,p7,?_⟩;have Y:bp R H6 (fy H6 R<|.d<|zk (bB.take 9) [.i (f:Nat),.s x,.s x,.i 0,.i 0,.i 0,.r b,.r c,.a]):=bp.upd;have D6:fy H6 R (.d<|zk (bB.take 9) [.i (f:Nat),.s x,.s x,.i 0,.i 0,.i 0,.r b,.r c,.a]) R=some (.d<|zk (bB.take 9) [.i (f:Nat),.s x,.s x,.i 0,.i 0,.i 0,.r b,.r c,.a]):=av;clear p7;generalize fy H6 R (.d<|zk (bB.take 9) [.i (f:Nat),.s x,.s x,.i 0,.i 0,.i 0,.r b,.r c,.a])=H7 at Y D6⊢;have p8:ip H7 R (.s "waiting") .a (fy H7 R<|.d<|zk (bB.take 10) [.i (f:Nat),.s x,.s x,.i 0,.i 0,.i 0,.r b,.r c,.a,.a]):=by
  have h:=ip.k (k:=.inr "waiting") (v:=.a) D6 (bV<|oT (zW _ _) ap);exact h
 refine gB<|ai<|aa O<|ai ⟨R,_,O,p8,?_⟩;have X:bp R H7 (fy H7 R<|.d<|zk (bB.take 10) [.i (f:Nat),.s x,.s x,.i 0,.i 0,.i 0,.r b,.r c,.a,.a]):=bp.upd;have KO:fy H7 R (.d<|zk (bB.take 10) [.i (f:Nat),.s x,.s x,.i 0,.i 0,.i 0,.r b,.r c,.a,.a]) R=some (.d<|zk (bB.take 10) [.i (f:Nat),.s x,.s x,.i 0,.i 0,.i 0,.r b,.r c,.a,.a]):=av;clear p8;generalize fy H7 R (.d<|zk (bB.take 10) [.i (f:Nat),.s x,.s x,.i 0,.i 0,.i 0,.r b,.r c,.a,.a])=H8 at X KO⊢;refine gB<|cQ<|aD ⟨nE _,λg KP=>?_⟩;generalize zz:fy _ g _=H9;have s9:=bC KP zz;have a':=bu zz;have U:=s9 _ _ KO;have Xr:ip H9 R (.s "held") (.r g) (fy H9 R<|.d<|zk bB<|dQ ⟨p,t,u,w,e,R,b,c,g⟩ f ⟨x,0,0,none,none⟩ x 0 .a .a):=by
  have h:=ip.k (k:=.inr "held") (v:=.r g) U (bV<|oT (zW _ _) ap);exact h
 refine aa O<|ai ⟨R,_,O,Xr,?_⟩;clear Xr;have KQ:bp R H9 (fy H9 R<|.d<|zk bB<|dQ ⟨p,t,u,w,e,R,b,c,g⟩ f ⟨x,0,0,none,none⟩ x 0 .a .a):=bp.upd;have Xs:fy H9 R (.d<|zk bB<|dQ ⟨p,t,u,w,e,R,b,c,g⟩ f ⟨x,0,0,none,none⟩ x 0 .a .a) R=some (.d<|zk bB<|dQ ⟨p,t,u,w,e,R,b,c,g⟩ f ⟨x,0,0,none,none⟩ x 0 .a .a):=av;generalize fy H9 R (.d<|zk bB<|dQ ⟨p,t,u,w,e,R,b,c,g⟩ f ⟨x,0,0,none,none⟩ x 0 .a .a)=jv at KQ Xs⊢;have M:∀{z:z4}{o:HO},H5 z=some o->z≠R->jv z=some o:=λj n=>KQ _ _ (s9 _ _<|X _ _ (Y _ _ (b6 _ _ j n) n) n) n;have Xt:aA Z jv:=λz o j=>M (D _ _<|F _ _<|s3 _ _ j) (aH j J);have L:b≠R:=(aH T Xp).symm;have Xu:c≠R:=(aH (F _ _ T) KN).symm;have P:g≠R:=(aH KO KP).symm;have c':=an2 (A:=⟨p,t,u,w,e,R,b,c,g⟩) (S2.same Xt) Xs (M (D _ _ Xq) L) (M b' Xu) (KQ _ _ a' P) Xu.symm (λy=>by
  have:H8 b=some (.l []):=X _ _ (Y _ _ (b6 _ _ (D _ _ Xq) L) L) L;rw[show b=g from y,KP] at this;cases this) ⟨aH l7 J,aH l7 ((s3.trans F).free KN)⟩
 exact an3 (A:=⟨p,t,u,w,e,R,b,c,g⟩) G ((s1.trans s2).trans Xt) c' (G7 gx S h7) (Yw _) (Yw _) q
end
section
open PySem.W (Frag nsIn findIn isFn keepIn codeIn fnOf mg_of mg_none_of)
def j9(s:Ch):bn:=(kg s).args.map (·.arg)
structure Yj(P:BT)(w:A9)(K:Frag)(mg:db)(base:Do):Prop where
 X:K.In base
 G:base.Ns mainGlobals mg
def bI(K:Frag)(x:Str)(s:Ch):Prop:= ∃f d,nsIn K mainGlobals x=some (some<|.ref f)/\sQ K x x s f d
def gG(K:Frag)(C:z4)(x q:Str)(s:Ch):Prop:= ∃f d,findIn K (.ref C) x=some (some<|.ref f)/\isFn K (.ref f)=true/\sQ K x q s f d
structure Ay(K:Frag)(x:Str)(C:z4):Prop where
 g:nsIn K mainGlobals x=some (some<|.ref C)
 m:makesIn K C=true
 k:keepIn K (.ref C)=true
structure nB(K:Frag)(p:Str×V):Prop where
 ex:∃u0,nsIn K mainGlobals p.1=some (some u0)/\YD p.2 u0
structure uZ(K:Frag)(p:Str×z4):Prop where
 g:nsIn K mainGlobals p.1=some (some<|.ref p.2)
 x:PySem.W.excIn K p.2 [.type "ValueError",.type "Exception",.type "BaseException",.type "object"] "ValueError.__new__"=true
section
variable{P:BT}{w:A9}{K:Frag}{n:db}{A:Do}{x q:Str}{m:Ch}{f C:z4}{T:Ev}{k:Nat}{g:Sp}
theorem dfk{o n:v4}{d:Array wT}{V Z p b t:AT}(a:nsIn K mainGlobals x=some (some<|.ref f))(l:K.lookup f=some ⟨e,o,.func<|fnOf x x (kg m) (gM m) (g6 m) .none V Z p n b t,d⟩)(c:codeIn K b x=true)(k:keepIn K (.ref f)=true):bI K x m:=⟨f,_,a,Ms l c k⟩
theorem dmk{o n:v4}{d:Array wT}{V Z p b t:AT}(a:findIn K (.ref C) x=some (some<|.ref f))(i:isFn K (.ref f)=true)(l:K.lookup f=some ⟨e,o,.func<|fnOf x q (kg m) (gM m) (g6 m) .none V Z p n b t,d⟩)(c:codeIn K b q=true)(k:keepIn K (.ref f)=true):gG K C x q m:=⟨f,_,a,i,Ms l c k⟩
theorem aok{t:Tok}(h:nsIn K mainGlobals x=some (some<|.str y t)):nB K (x,.s y):=⟨_,h,⟨_,O⟩⟩
theorem aol{y:Int}{t:Tok}(h:nsIn K mainGlobals x=some (some<|.int y t)):nB K (x,.i y):=⟨_,h,⟨_,O⟩⟩
theorem aom{y:z4}(h:nsIn K mainGlobals x=some (some<|.ref y)):nB K (x,.r y):=⟨_,h,rfl⟩
theorem aon(h:findIn K (.ref C) y=some none):fZ K C y:=h
theorem Yj.gv(Z:Yj P w K n A)(h:nB K p):F4 n p:=by
 obtain⟨u,a,b⟩:=h.ex;exact⟨u,mg_of Z.X Z.G a,b⟩
theorem Yj.no(Z:Yj P w K n A)(h:nsIn K mainGlobals x=some none):n x=none:=mg_none_of Z.X Z.G h
theorem Yj.exc(Z:Yj P w K n A)(h:uZ K p):BQ n A p:=ajr Z.X Z.G h.g h.x
structure Az(P:BT)(w:A9)(K:Frag)(n:db)(A:Do)(k:Nat)(m:Ch)(g:Sp):Prop where
 ok:∀{x q:Str}{f:z4}{T:Ev},sQ K x q m f T->dH P w K n A (g_ P w) k f T (j9 m) g
theorem aoo{N P:bn}{s:Scope}(a:autoParam (s.kind=.function) cm)(b:autoParam (s.isCoroutine=false) cm)(c:autoParam (s.isGenerator=false) cm)(d:autoParam (N.Nodup) cs)(e:autoParam (N.take P.length=P) cm)(f:autoParam (∀x∈P,s.names.lookup x=some .local\/s.names.lookup x=some .cell) cs)(g:autoParam (∀y∈s.names,y.2≠ .free) cs):xI N P s:=⟨a,b,c,d,e,f,g⟩
theorem dL{o:bn}{t:ol}{j:List (z4×ii)}{c:List (Str×z4×Sp)}{f:jp}{d:ol}(Z:Yj P w K n A)(G:∀W H Q E,g W H Q E->az (aJ K t e j b c f d E) body {nx:=λY B=>Q .a B,r:=Q} (Y2 s W) H)(v:∀{R:c5}{u:aW}{X:Cx},eF R (BP N (g6 m) (t.map (·.1)) (e.map (·.1)) o (b.map (·.1)) (c.map (·.1)) (f.map (·.1)) (d.map (·.1))) u X->e7 X (gM m) (az u body))(k:Nat)(l:∀W H Q E,g W H Q E->W.length=(j9 m).length:=by intro Y Y Y Y h;first|(cases h;subst_eqs;show List.length (_::_)=_;kernel_rfl)|repeat (first|(cases h.1;kernel_rfl)|(cases h;rename_i h)))(M:autoParam (∀p∈t,n4 P w K n A k p.1 p.2) eh)(L:autoParam (∀p∈e,F4 n p) eh)(J:autoParam (∀y∈o,n y=none) eh)(I:autoParam (∀q∈j,N9 P w K q) eh)(D:autoParam (∀p∈b,og P w K n A k p) eh)(C:autoParam (∀p∈c,tG P w K n A k p) eh)(i:autoParam (∀p∈f,BQ n A p) eh)(z:autoParam (∀p∈d,F5 P w K n A k p.1 p.2) eh)(S:xI N (j9 m) (g6 m):=by exact aoo)(x:autoParam (s.length=N.length) cm):Az P w K n A (k+1) m g:=
 ⟨λF=>adt F S t e o b c f d body v M L J j I D C i z l λW H Q E h=>by
  have r:=G W H Q E h;unfold Y2 at r⊢;rw[x] at r;exact r⟩
def Bd(x q:Str)(m:Ch):Prop:= ∀(kV ZB pm:AT)(an:v4)(bS ct:AT)(us:ge),us.length=(j9 m).length->bindArgs (fnOf x q (kg m) (gM m) (g6 m) .none kV ZB pm an bS ct) ⟨us,[]⟩=pure ((j9 m).zip us)
theorem aop(e:autoParam ((j9 m).length=1) cm)(h:autoParam (∀(k Z p:AT)(a:v4)(b c d:AT),bindArgs (fnOf x q (kg m) (gM m) (g6 m) .none k Z p a b c) ⟨[d],[]⟩=pure ((j9 m).zip [d])) bq):Bd x q m:=λk Z p a b c us l=>by
 rcases us with Y|⟨d,Y|⟨Y,Y⟩⟩ <;>first|exact h k Z p a b c _|exact absurd (l.trans e) am
theorem aoq(f:autoParam ((j9 m).length=2) cm)(h:autoParam (∀(k Z p:AT)(a:v4)(b c e d:AT),bindArgs (fnOf x q (kg m) (gM m) (g6 m) .none k Z p a b c) ⟨[e,d],[]⟩=pure ((j9 m).zip [e,d])) bq):Bd x q m:=λk Z p a b c us l=>by
 rcases us with Y|⟨e,Y|⟨d,Y|⟨Y,Y⟩⟩⟩ <;>first|exact h k Z p a b c _ _|exact absurd (l.trans f) am
theorem aor(i:autoParam ((j9 m).length=3) cm)(h:autoParam (∀(k Z p:AT)(a:v4)(b c g f d:AT),bindArgs (fnOf x q (kg m) (gM m) (g6 m) .none k Z p a b c) ⟨[g,f,d],[]⟩=pure ((j9 m).zip [g,f,d])) bq):Bd x q m:=λk Z p a b c us l=>by
 rcases us with Y|⟨g,Y|⟨f,Y|⟨d,Y|⟨Y,Y⟩⟩⟩⟩ <;>first|exact h k Z p a b c _ _ _|exact absurd (l.trans i) am
theorem aos(i:autoParam ((j9 m).length=4) cm)(h:autoParam (∀(k Z p:AT)(a:v4)(b c g f e d:AT),bindArgs (fnOf x q (kg m) (gM m) (g6 m) .none k Z p a b c) ⟨[g,f,e,d],[]⟩=pure ((j9 m).zip [g,f,e,d])) bq):Bd x q m:=λk Z p a b c us l=>by
 rcases us with Y|⟨g,Y|⟨f,Y|⟨e,Y|⟨d,Y|⟨Y,Y⟩⟩⟩⟩⟩ <;>first|exact h k Z p a b c _ _ _ _|exact absurd (l.trans i) am
theorem KR(h:Bd x q m:=by first|exact aop|exact aoq|exact aor|exact aos):Bd x q m:=h
theorem dT(Z:Yj P w K n A)(D:bI K x m)(R:Az P w K n A k m g)(h:autoParam (Bd x x m) cu):n4 P w K n A k x g:=by
 obtain⟨f,T,a,F⟩:=D;exact tZ f T _ (R.ok F) (mg_of Z.X Z.G a) F.kp (F.binds h)
theorem dM(D:gG K C x q m)(c:gj K C)(R:Az P w K n A k m g)(h:autoParam (Bd x q m) cu):og P w K n A k (x,C,g):=by
 obtain⟨f,T,a,i,F⟩:=D;exact⟨c,f,T,_,⟨a,i,F.kp⟩,R.ok F,F.binds h⟩
theorem dI(Z1:Yj P w K n A)(D:gG K C "__init__" q m)(M:Ay K cNm C)(R:Az P w K n A k m g)(hb:autoParam (Bd "__init__" q m) cu):tG P w K n A (k+1) (cNm,C,g):=by
 obtain⟨f,T,a,i,F⟩:=D;exact r3 k f T _ (Yw _) ⟨M.m,a,i,M.k⟩ (R.ok F) (mg_of Z1.X Z1.G M.g) (F.binds hb)
theorem aot{d:z4}(X:K.In h)(G:h.Ns mainGlobals n)(o:n x=some (.ref d))(D:bI K x m)(R:∀A,Yj P w K n A->Az P w K n A k m g)(j:autoParam (j9 m=[y]) cm)(l:∀(V Z p:AT)(a:v4)(b c i:AT),bindArgs (fnOf x x (kg m) (gM m) (g6 m) .none V Z p a b c) ⟨[i],[]⟩=pure [(y,i)]:=by exact λY Y Y Y Y Y Y=>O):
  ∃T:Ev,(∀(s:AC)(v:AT),BindsTo s T ⟨[v],[]⟩ [(y,v)])/\∀A:Do,K.In A->A.Ns mainGlobals n->dH P w K n A xT k d T [y] (λW H Q Y=>g W H Q E0):=by
 obtain⟨f,T,e,F⟩:=D;cases o.symm.trans (mg_of X G e);obtain⟨z,u,V,Z,p,a,b,c,C,zq⟩:=xN ((F).ex);obtain⟨rfl,B,I⟩:=Yo zq;refine⟨_,λs v=>.of_eq<|l V Z p a b c v,λA q t=>?_⟩;have r:=(R A ⟨q,t⟩).ok F;rw[j] at r;exact dH.top r
end
end
section
open PyProof.Rows
theorem apQ{K:Frag}{h:Do}{mg:db}{fa:z4}(X:K.In h)(G:h.Ns mainGlobals mg)(hZ:mg "law"=some (.ref fa))(aq6:nB K ("BadText",.r Xv))(aq7:nB K ("BadChange",.r Er))(aq8:nB K ("BadFit",.r va))(aq9:nB K ("BadLetter",.r Es))(aq_:nB K ("NoHand",.r KS))(aou:Ay K "Walk" u_)(aov:Ay K "Stand" nC)(aow:Ay K "Hand" fY)(qw:qQ K u_)(kY:iW K nC)(fm:jx K fY)(ara:uZ K ("BadText",Xv))(arb:uZ K ("BadChange",Er))(arc:uZ K ("BadFit",va))(ard:uZ K ("BadLetter",Es))(arf:uZ K ("NoHand",KS))(a0:bI K "is_whole" Px)(a1:bI K "is_between" Py)(a2:bI K "is_word" Pz)(a3:bI K "is_text" PB)(a4:bI K "need_text" PD)(a5:bI K "is_part" PF)(a6:bI K "may_follow" PH)(a7:bI K "need_change" PJ)(a8:bI K "is_change" PL)(a9:bI K "part_size" PM)(a10:bI K "sizes" PN)(a11:gG K u_ "__init__" "Walk.__init__" PQ)(a12:gG K u_ "word" "Walk.word" PR)(a13:gG K u_ "left" "Walk.left" PU)(a14:gG K u_ "take" "Walk.take" PV)(a15:bI K "add_keep" PX)(a16:bI K "add_texts" PY)(a17:bI K "neat" PZ)(a18:bI K "done" P0)(a19:bI K "cut_behind" P4)(a20:bI K "parts_behind" P5)(a21:bI K "then" P6)(a22:bI K "put_first" P7)(a23:bI K "share" P8)(a24:bI K "passed" P9)(a25:gG K nC "__init__" "Stand.__init__" Qc)(a26:bI K "twin_of" Qg)(a27:bI K "copied" Qj)(a28:bI K "let_in" Qm)(a29:gG K fY "__init__" "Hand.__init__" Qq)(a30:gG K fY "text" "Hand.text" Qs)(a31:gG K fY "seen" "Hand.seen" Qu)(a32:gG K fY "flight" "Hand.flight" Qy)(a33:gG K fY "waiting" "Hand.waiting" QC)(a34:gG K fY "ask" "Hand.ask" QF)(a35:gG K fY "take_off" "Hand.take_off" QH)(a36:gG K fY "do" "Hand.do" QL)(a37:gG K fY "need_took" "Hand.need_took" QP)(a38:gG K fY "land" "Hand.land" QS)(a39:gG K fY "came" "Hand.came" QV)(a40:gG K fY "nudge" "Hand.nudge" QY)(a41:bI K "_law_cell_at" QZ)(a42:bI K "_law_whole" Q0)(a43:bI K "_law_mixed" Q3)(a44:bI K "_law_text" Q4)(a45:bI K "_law_size" Q5)(a46:bI K "_law_parts" Q6)(a47:bI K "_law_neat" Q7)(a48:bI K "_law_change" Q8)(a49:bI K "_law_done" Q9)(a50:bI K "_law_same" Q_)(a51:bI K "_law_gaps" Rc)(a52:bI K "_law_passed" Rh)(a53:bI K "_law_passed_on" Rj)(a54:bI K "_law_then" eI)(a55:bI K "_law_letter_same" Rk)(a56:bI K "_law_letters_same" Rm)(a57:bI K "_law_ask" Rp)(a58:bI K "_law_none_or" Rr)(a59:bI K "_law_asked" Ru)(a60:bI K "_law_stands" Rx)(a61:bI K "_law_nudged" Rz)(a62:bI K "_law_kept" RC)(a63:bI K "_law_own" RG)(a64:bI K "_law_taken" RJ)(a65:bI K "_law_known" RM)(a66:bI K "_law_letter" cU)(a67:bI K "law" gb)(arh:nB K ("SIGNS",.s SG))(ari:nB K ("MOST_HANDS",.i 8))(arj:nsIn K mainGlobals "bool"=some none)(ark:nsIn K mainGlobals "dict"=some none)(arl:nsIn K mainGlobals "int"=some none)(arn:nsIn K mainGlobals "isinstance"=some none)(aro:nsIn K mainGlobals "len"=some none)(arp:nsIn K mainGlobals "list"=some none)(arq:nsIn K mainGlobals "min"=some none)(ars:nsIn K mainGlobals "range"=some none)(art:nsIn K mainGlobals "repr"=some none)(aru:nsIn K mainGlobals "str"=some none)(arv:nsIn K mainGlobals "sum"=some none)(arw:nsIn K mainGlobals "tuple"=some none)(arx:nsIn K mainGlobals "zip"=some none)
  :∃fd:Ev,(∀(s:AC)(v:AT),BindsTo s fd ⟨[v],[]⟩ [("_law_script",v)])/\∀base:Do,K.In base->base.Ns mainGlobals mg->dH P w K mg base xT 9 fa fd ["_law_script"] (λW H Q Y=>(Eo K) W H Q E0):=by
 refine aot X G hZ a67 λbase Z1=>?_;have T0:=dT Z1 a0 (dL Z1 ahS @aeu 0);have ary:=T0.weak (a:=mG) λY Y Y Y h=>ahT h;have T1:=dT Z1 a1 (dL Z1 ajt @aev 1);have arz:=T1.weak (a:=wK) λY Y Y Y h=>aju h;have T2:=dT Z1 a2 (dL Z1 ahY @aew 0);have arA:=T2.weak (a:=v7 K) λY Y Y Y h=>ahZ h;have T3:=dT Z1 a3 (dL Z1 ahU @aex 0);have T4:=dT Z1 a4 (dL Z1 ahW @aey 1);have arB:=T4.weak (a:=yM) λY Y Y Y h=>ahX h;have T5:=dT Z1 a5 (dL Z1 Qb @aez 1);have arC:=T5.weak (a:=GI) λY Y Y Y h=>ah3 h;have T6:=dT Z1 a6 (dL Z1 agA @aeA 0);have T7:=dT Z1 a7 (dL Z1 (agK (et:=[("BadChange",Er)])) @aeB 2);have T8:=dT Z1 a8 (dL Z1 (akx (CB:=Er)) @aeD 3);have T9:=dT Z1 a9 (dL Z1 agB @aeE 0);have T10:=dT Z1 a10 (dL Z1 agM @aeF 3);have T11:=dI Z1 a11 aou (dL Z1 (ah9 qw) @aeG 0);have T12:=dM a12 qw.c (dL Z1 (ah_ qw) @aeH 0);have T13:=dM a13 qw.c (dL Z1 (II qw) @aeI 1);have arG:=T13.weak (a:=ou u_) λY Y Y Y h=>aib h;have T14:=dM a14 qw.c (dL Z1 (JE qw) @aeJ 2);have T15:=dT Z1 a15 (dL Z1 agP @FQ 0);have T16:=dT Z1 a16 (dL Z1 agN @aeL 0);have T17:=dT Z1 a17 (dL Z1 K_ @aeM 1);have T18:=dT Z1 a18 (dL Z1 (YP (et:=[("BadFit",va)])) @aeN 4);have T19:=dT Z1 a19 (dL Z1 (aij (et:=[("BadFit",va)])) @aeO 0);have T20:=dT Z1 a20 (dL Z1 ail @aeP 3);have T21:=dT Z1 a21 (dL Z1 (aiz (et:=[("BadFit",va)]) qw) @aeQ 4);have T22:=dT Z1 a22 (dL Z1 aiM @aeR 3);have T23:=dT Z1 a23 (dL Z1 (aiO (et:=[("BadFit",va)])) @aeS 0);have T24:=dT Z1 a24 (dL Z1 (ai2 (et:=[("BadFit",va)]) qw) @aeT 4);have T25:=dI Z1 a25 aov (dL Z1 (akt kY) @aeU 0);have T26:=dT Z1 a26 (dL Z1 (akv kY) @aeW 2);have T27:=dT Z1 a27 (dL Z1 akl @aeX 0);have T28:=dT Z1 a28 (dL Z1 (akD kY) @aeZ 5);have T29:=dI Z1 a29 aow (dL Z1 (aky (CN:=KS) fm) @ae2 2);have T30:=dM a30 fm.c (dL Z1 (akj fm kY) @ae3 0);have T31:=dM a31 fm.c (dL Z1 (akk fm kY) @ae4 0);have T32:=dM a32 fm.c (dL Z1 (TY fm kY) @K3 1);have T33:=dM a33 fm.c (dL Z1 (akn fm kY) @ae6 1);have T34:=dM a34 fm.c (dL Z1 (ako fm kY) @ae7 0);have T35:=dM a35 fm.c (dL Z1 (Tv fm kY) @ae9 1);have T36:=dM a36 fm.c (dL Z1 (akK fm kY) @afa 5);have T37:=dM a37 fm.c (dL Z1 (akC (CB:=Es) fm) @afc 4);have T38:=dM a38 fm.c (dL Z1 (akq (CB:=Es) fm kY) @afd 2);have T39:=dM a39 fm.c (dL Z1 (ak2 fm kY) @Xc 6);have T40:=dM a40 fm.c (dL Z1 (aks fm kY) @N0 1);have T41:=dT Z1 a41 (dL Z1 agC @afj 0);have T42:=dT Z1 a42 (dL Z1 ajp @afk 0);have T43:=dT Z1 a43 (dL Z1 agD @afl 0);have T44:=dT Z1 a44 (dL Z1 agY @afm 1);have T45:=dT Z1 a45 (dL Z1 ahx @afn 0);have T46:=dT Z1 a46 (dL Z1 N5 @afo 2);have T47:=dT Z1 a47 (dL Z1 Ia @afp 0);have T48:=dT Z1 a48 (dL Z1 KY @afq 3);have T49:=dT Z1 a49 (dL Z1 ah5 @afr 0);have T50:=dT Z1 a50 (dL Z1 ajo @YX 1);have T51:=dT Z1 a51 (dL Z1 L8 @afu 0);have T52:=dT Z1 a52 (dL Z1 akb @afv 1);have T53:=dT Z1 a53 (dL Z1 aka @afw 1);have T54:=dT Z1 a54 (dL Z1 alD @afI 1);have T55:=dT Z1 a55 (dL Z1 alV @afL 2);have T56:=dT Z1 a56 (dL Z1 alY @afO 3);have T57:=dT Z1 a57 (dL Z1 amf @afP 0);have T58:=dT Z1 a58 (dL Z1 Z6 @Zp 2);have T61:=dT Z1 a61 (dL Z1 (aml (C:=fY) (G:=nC)) @af1 4);have T59:=dT Z1 a59 (dL Z1 (amz (C:=fY) (G:=nC)) @afU 5);have T60:=dT Z1 a60 (dL Z1 (amA (C:=fY) (G:=nC)) @afX 6);have T62:=dT Z1 a62 (dL Z1 ame @af2 0);have T63:=dT Z1 a63 (dL Z1 (amM (C:=fY) (q:=nC)) @af5 6);have T64:=dT Z1 a64 (dL Z1 (am2 (C:=fY) (v:=nC)) @af7 4);have T65:=dT Z1 a65 (dL Z1 (Iq (C:=fY) (f:=nC)) @af9 2);have T66:=dT Z1 a66 (dL Z1 (anE (C:=fY) (R:=nC)) @agp 7);exact dL Z1 (aoa (C:=fY) (m:=nC)) @agz 8
theorem walk{l:PySem.W.OpenLaw}{q:BT}{e:bn}{X:(db)->Do->Prop}{Y:A9->Do->Prop}{d:DefRec}{K:Params->Frag}(i:l.most=some 63)(x:d.params.defaults=[])(j:∀(w:A9)(h:Do),Y w h->(K w.params).In h)(F:∀(w:A9)(m:db)(g:z4)(h:Do),(K w.params).In h->h.Ns mainGlobals m->m d.name=some (.ref g)->
   ∃c:Ev,(∀(s:AC)(u:AT),BindsTo s c ⟨[u],[]⟩ [("_law_script",u)])/\∀b:Do,(K w.params).In b->b.Ns mainGlobals m->dH l.prog w (K w.params) m b xT 9 g c ["_law_script"] ((λK=>(λW H Q Z=>(Eo K) W H Q E0)) (K w.params))):
  PySem.W.WalkO q e X Y l.row.toRowW d [] (λf W=>PySem.call f W):=
 aae i ap x ⟨O,ap,ap,O⟩ j F (λZ Z a n k Z S=>⟨a,n,O,S,λZ=>O⟩) λZ Z Z Z Z z=>z
end
end Internal
structure PySem.W.Fast:Prop where(tw11581372020094927138 tw17514840775540549761 tw12073913555783416393 tw766729377143057142 tw11586243086407282969 tw13938894796188250463 tw13721414456582442715 tw16537209238621762330 tw14437641664421273997 tw2878150381018604732 tw13814155594501450638 tw3301619267612604604 tw16562522345999334383 tw14321720322724827906 tw17173962383294471543 tw4620919833173673745 tw15670222459654240683 tw14264535450331321079 tw6958404363975316067 tw1856114809657175850 tw5841822910980092001 tw9393121841575773050 tw1747134511391126894 tw5245454292884292554 tw17963270631855418239 tw8189565318843313809 tw5161412962523720151 tw3119664221583620025 tw16204566940832558426 tw1496956129336368937 tw6743362439418906012 tw5031914166000417222 tw12676768431111258784 tw4038502244972680318 tw15643902441275456535 tw9710093453064758170 tw15179691618398516940 tw5019345833773146252 tw8265472698313879277 tw4456592100033950528 tw8499091251999212663 tw12114978853717903104 tw16210943772729926656 tw8564378637839150814 tw14554091031847670669 tw9210080657405578717 tw14930455942627359614 tw14096751260232706540 tw8894102820067385746 tw14408329121589050789 tw18004438466752934353 tw16029842741002883586 tw15490109840133074133 tw4143953189317255700 tw4008262910623120941 tw10549758069236736419 tw18424520350720912470 tw3203282991259149623 tw1688307595125322615 tw7252565849707978375 tw677153304461129619 tw2701506806399966067 tw8187090186224165515 tw17520179510364745042 tw4766741324994520049 tw907100053829845504 tw9034083387703339555 tw17094030419365854263 tw6221439164794311599 tw11903662867868335168 tw5891727582375602497 tw8261931605150240680 tw18215660691364528055 tw10706579421464614029 tw11087188400540709760 tw12259905521431323127 tw11730908450934671983 tw14972556935237535958 tw17343861218543087991 tw1544187195203782070 tw11378993841063915130 tw11311804856828702809 tw17611159662512200655 tw16708405483576056968 tw11396883954797480877 tw9140753029587060944 tw14264023788338766795 tw16903126845246575700 tw17881290059734297876 tw1186141520433068105 tw13644699994266738883 tw8547596805309172374 tw16551777098084934387 tw10021993641941196710 tw2101918019310969120 tw7081998435019669821 tw880113414955048244 tw5843099166704006814 tw893112869344907294 tw4149125349615590239 tw3620338353937591000 tw1510438980607949053 tw18058681565189812860 tw11826167017341390484 tw14502559555241811559 tw16445486365120411128 tw17382491296935312489 tw4799909842378395331 tw2247564931381753280 tw4849706905818555738 tw16425119893129752097 tw10010918407982885987 tw2238275147345627926 tw17225850613709532223 tw15866870540552252666 tw3692621968151199368 tw16767799553480648957 tw1999066973641518583 tw4160808051437683572 tw5123792555253996256 tw5680789645477259382 tw7904034018788816740 tw1720595331725678659 tw5850951610469355389 tw7059736237292596401 tw3461448143983337584 tw2887761408376631353 tw8720099183596311035 tw5391731723394359530 tw11315274529538755856 tw13094500106091119065 tw8303936652859860946 tw1739151004541415254 tw4231179641827580961 tw792957712012833663 tw11016226501926361532 tw1952810667135718488 tw15758537364677109813 tw4148875720173383835 tw9106095399929842622 tw6044016719429246475 tw3791156579300133614 tw13892950078555179881 tw1305678499861595366 tw10245056519584963179 tw10045241647674886735 tw837296608910676856 tw13470183935981183257 tw18209406583478550349 tw813567089248292895 tw8221677763676630385 tw7654895572425553209 tw17054407054818517182 tw4285663677340653357 tw15814293086495905705 tw5222080712163243462 tw639557498092388980 tw2883290217930521331 tw2052417659050032410 tw11005239563559581568 tw10945601203417544981 tw16138955489505165431 tw4288077312025842283 tw1476001700388346787 tw5057840118427284220 tw6799340122911799361 tw2886245890508952719 tw12916203075719259491 tw2099753976939451417 tw4734832952421237011 tw12275017864085517148 tw10475539962343182636 tw18966756178494079 tw6099297648701905797 tw12704930779200466450 tw3247537287240900239 tw13868084785855978556 tw3878271715246643401 tw5223671236700685251 tw15625269657773289669 tw1592321423511627808 tw15761340265772246503 tw3138654312593217660 tw10666110370535614601 tw469096813283632892 tw1812416391274302057 tw67650035836109172 tw1908425992862164074 tw15002805224250073609 tw1793608794685365618 tw688267001246864525 tw11854273249348690579 tw11147797222203364538 tw11544415614824444203 tw4489028933059086699 tw1795796916745764390 tw7909376334823449048 tw14529757182692072462 tw6790555561351062185 tw13483659730695271325 tw8930882238322604317 tw11910328799951770680 tw9359414086288374770 tw12412982915483788353 tw12170670410844476804 tw525442205552563560 tw16486039112712801414 tw4804444944717256640 tw13012853995807073058 tw10176261953371204504 tw3514419787554712379 tw10415208881796204788 tw17459282728031777668 tw8833581759690789771:True)
open PySem PySem.W PyProof.Rows
set_option maxRecDepth 100000 in
set_option maxHeartbeats 0 in
theorem PySem.Challenge.cw_inkloom_k36_a_hand_by_plain_rows_holds : PySem.Challenge.rw_inkloom_k36_a_hand_by_plain_rows.Holds := by
 w_on;o_law;k_head;(case hw=>w_witness2)
 k_fill
 refine Internal.walk (l:=PySem.Challenge.rw_inkloom_k36_a_hand_by_plain_rows) rfl rfl (λw h Y=>PySem.W.kIn_of Y) ?F
 case F=>
  intro w mg fa h KX G sP;refine' Internal.apQ KX G sP ..
  all_goals try first | refine' Internal.dfk .. | refine' Internal.aom .. | refine' Internal.Ay.mk .. | refine' Internal.dmk .. | refine' Internal.aol .. | refine' Internal.aok .. | refine' Internal.uZ.mk .. | refine' Internal.qQ.mk (Internal.gj.mk ..) .. | refine' Internal.iW.mk (Internal.gj.mk ..) .. | refine' Internal.jx.mk (Internal.gj.mk ..) ..
  all_goals try refine' Internal.aon ..
  all_goals try first | k_is | k_exc | kernel_rfl