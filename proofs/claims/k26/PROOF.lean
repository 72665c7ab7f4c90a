import PyProof.Rows.All
import Wide.All
import OpenK.AllK
import Wide.FinOn
import Lean
import PyProof.EqAt
import PyProof.EqKinds
import PyProof.TupleCall
import PyProof.Rows.EqDataRows
import PyProof.DictList
import PyProof.FactsAll.dict_1
import PyProof.FactsAll.subtypes_4
import KE.KTryMore
import PyProof.WalksEnum
import PyProof.EnumMake
import PyProof.ListStr
import PyProof.TupleOfStr
import PyProof.Dict
import PyProof.ToksMono
import PyProof.StrCalls6
import PyProof.StrWalks
import PyProof.ConsumeWalk
import PyProof.CallStr
import PyProof.MeetsStr
import KE.KIntText
import PyProof.StrCalls2
import PyProof.StrOps2
import KE.KSortTup
import PyProof.WalksMore
import PyProof.TupleIter
import PyProof.SliceList
import PyProof.ListRange
import KE.KRevIter
import PyProof.StrLawsIn
import PyProof.Rows.StrCut
import PyProof.ZipIter
import PyProof.ListNew
import PyProof.StrLaws
import KE.KDictSum
import PyProof.DictTruth
import PyProof.ReprRoads
import PySem.Challenge.RW_inkloom_k26_foreign_by_passing
set_option Elab.async false
set_option linter.all false
set_option maxRecDepth 100000
set_option compiler.extract_closed false
noncomputable section
theorem aH{p:Prop}(h:p:=by lia):p:=h
inductive CC{a':Type}(p:a'->Prop):Prop|i(a:a')(_:p a)
theorem XM:(∃a,p a)->CC p|⟨a1,h⟩=>⟨a1,h⟩
inductive qX2{a' b':Type}(p:a'->b'->Prop):Prop|i(a:a')(b:b')(_:p a b)
theorem Z2:(∃a b,p a b)->qX2 p|⟨a1,b1,h⟩=>⟨a1,b1,h⟩
inductive qX3{a' b' c':Type}(p:a'->b'->c'->Prop):Prop|i(a:a')(b:b')(c:c')(_:p a b c)
theorem jR:(∃a b c,p a b c)->qX3 p|⟨a1,b1,c1,h⟩=>⟨a1,b1,c1,h⟩
inductive Ye{a' b' c' d':Type}(p:a'->b'->c'->d'->Prop):Prop|i(a:a')(b:b')(c:c')(d:d')(_:p a b c d)
theorem YC:(∃a b c d,p a b c d)->Ye p|⟨a1,b1,c1,d1,h⟩=>⟨a1,b1,c1,d1,h⟩
inductive yO{a' b' c' d' e':Type}(p:a'->b'->c'->d'->e'->Prop):Prop|i(a:a')(b:b')(c:c')(d:d')(e:e')(_:p a b c d e)
theorem YH:(∃a b c d e,p a b c d e)->yO p|⟨a1,b1,c1,d1,e1,h⟩=>⟨a1,b1,c1,d1,e1,h⟩
inductive CJ{a' b' c' d' e' f' g':Type}(p:a'->b'->c'->d'->e'->f'->g'->Prop):Prop|i(a:a')(b:b')(c:c')(d:d')(e:e')(f:f')(g:g')(_:p a b c d e f g)
theorem WU:(∃a b c d e f g,p a b c d e f g)->CJ p|⟨a1,b1,c1,d1,e1,f1,g1,h⟩=>⟨a1,b1,c1,d1,e1,f1,g1,h⟩
inductive tO{a' b' c' d' e' f' g' h' i':Type}(p:a'->b'->c'->d'->e'->f'->g'->h'->i'->Prop):Prop|i(a:a')(b:b')(c:c')(d:d')(e:e')(f:f')(g:g')(h:h')(i:i')(_:p a b c d e f g h i)
theorem x5:(∃a b c d e f g h i,p a b c d e f g h i)->tO p|⟨a1,b1,c1,d1,e1,f1,g1,h1,i1,h⟩=>⟨a1,b1,c1,d1,e1,f1,g1,h1,i1,h⟩
inductive w_(a b c:Prop):Prop|i(_:a)(_:b)(_:c)
theorem Z5:a/\b/\c->w_ a b c|⟨a1,b1,c1⟩=>⟨a1,b1,c1⟩
inductive WS(a b c d:Prop):Prop|i(_:a)(_:b)(_:c)(_:d)
theorem YG:a/\b/\c/\d->WS a b c d|⟨a1,b1,c1,d1⟩=>⟨a1,b1,c1,d1⟩
inductive Ax(a b c d e:Prop):Prop|i(_:a)(_:b)(_:c)(_:d)(_:e)
theorem Y7:a/\b/\c/\d/\e->Ax a b c d e|⟨a1,b1,c1,d1,e1⟩=>⟨a1,b1,c1,d1,e1⟩
inductive uF(a b c d e f:Prop):Prop|i(_:a)(_:b)(_:c)(_:d)(_:e)(_:f)
theorem Xt:a/\b/\c/\d/\e/\f->uF a b c d e f|⟨a1,b1,c1,d1,e1,f1⟩=>⟨a1,b1,c1,d1,e1,f1⟩
inductive Ws(a b c d e f g:Prop):Prop|i(_:a)(_:b)(_:c)(_:d)(_:e)(_:f)(_:g)
theorem AP:a/\b/\c/\d/\e/\f/\g->Ws a b c d e f g|⟨a1,b1,c1,d1,e1,f1,g1⟩=>⟨a1,b1,c1,d1,e1,f1,g1⟩
inductive qA8(a b c d e f g h:Prop):Prop|i(_:a)(_:b)(_:c)(_:d)(_:e)(_:f)(_:g)(_:h)
theorem lI:a/\b/\c/\d/\e/\f/\g/\h->qA8 a b c d e f g h|⟨a1,b1,c1,d1,e1,f1,g1,h1⟩=>⟨a1,b1,c1,d1,e1,f1,g1,h1⟩
inductive amS(a b c d e f g h i j k:Prop):Prop|i(_:a)(_:b)(_:c)(_:d)(_:e)(_:f)(_:g)(_:h)(_:i)(_:j)(_:k)
theorem zU:a/\b/\c/\d/\e/\f/\g/\h/\i/\j/\k->amS a b c d e f g h i j k|⟨a1,b1,c1,d1,e1,f1,g1,h1,i1,j1,k1⟩=>⟨a1,b1,c1,d1,e1,f1,g1,h1,i1,j1,k1⟩
inductive Wq{a' b' c' d' e' f':Type}(p:a'->b'->c'->d'->e'->f'->Prop):Prop|i(a:a')(b:b')(c:c')(d:d')(e:e')(f:f')(_:p a b c d e f)
inductive qX8{a' b' c' d' e' f' g' h':Type}(p:a'->b'->c'->d'->e'->f'->g'->h'->Prop):Prop|i(a:a')(b:b')(c:c')(d:d')(e:e')(f:f')(g:g')(h:h')(_:p a b c d e f g h)
inductive aoJ{a' b' c' d' e' f' g' h' i' j':Type}(p:a'->b'->c'->d'->e'->f'->g'->h'->i'->j'->Prop):Prop|i(a:a')(b:b')(c:c')(d:d')(e:e')(f:f')(g:g')(h:h')(i:i')(j:j')(_:p a b c d e f g h i j)
inductive apP(a b c d e f g h i j:Prop):Prop|i(_:a)(_:b)(_:c)(_:d)(_:e)(_:f)(_:g)(_:h)(_:i)(_:j)
namespace Internal
theorem aP{p:Prop}(h:p:=by simp):p:=h
theorem aQ{p:Prop}(h:p:=by decide):p:=h
theorem bc{p:Prop}(h:p:=by simp;lia):p:=h
def GM:=@PySem.wpAny_bind
def GT:=@if_pos
def Id:=@if_neg
def Ix:=@Ne.symm
def IN:=@PySem.Heap.lt_size
def IO:=@PySem.wpAny_pure
def IR:=@congrArg
def KB:=@PySem.Paired.length
def KF:=@PySem.Heap.get?_push_of_some
def KK:=@decide_eq_true_eq
def KM:=@PySem.wpAny_mono
def M2:=@or_false
def No:=@PySem.wpAny_holding
def Nr:=@PySem.Heap.get?_push_size
def NE:=@PySem.mem_of_lookup
def On:=@PySem.Heap.get?_update_other
def Op:=@PySem.wpAny_field
def Os:=@of_decide_eq_true
def Pi:=@PyProof.Rows.callWith_type1
def Ps:=@PySem.wpAny_Call_Name_kw
def Pw:=@PySem.Heap.get?_update_self
def PP:=@PySem.call_meets
def P3:=@PySem.F.plainAttrs_list
def Re:=@Iff.rfl
def Rs:=@PySem.wpAny_passesOwn
def Sc:=@PySem.Heap.size_push
def SB:=@if_false
def SL:=@PySem.Paired.snoc
def ST:=@PySem.wpAny_specialOf
def SZ:=@PySem.wpAny_truthy_bool
def Tk:=@PySem.wpAny_standAt
def Tl:=@PySem.codeAny_mono
def Tm:=@PySem.wpAny_newObj_type
def TD:=@PySem.F.plainAttrs_str
def Uf:=@beq_iff_eq
def UF:=@PySem.wpAny_updateSeq
def UV:=@PySem.tupleKind_room_in1
def Wp:=@PySem.lookup_relabel_local
def WF:=@PySem.wpAny_ite_split
def WP:=@PySem.wpAny_seqItems
def XL:=@PySem.F.slot_zip_next
def XV:=@List.map_set
def YT:=@PySem.Calls.spliced_nil
def Zj:=@PySem.Calls.spliced_cons
def ZB:=@PySem.wpAny_callSpecial?_slot
def tA:=@PyProof.Rows.subscriptTail_builtinR
def sQ:=@PySem.F.slot_list_append
def wM:=@Option.isSome_map
def tF:=@List.ext_getElem?
def xN:=@List.foldl_append
def uD:=@PySem.wpAny_nextOf_list_item
def v3:=@PySem.F.plain_extend_loop
def Cp:=@PyProof.Rows.slot_tuple_getitem
abbrev Do:=PySem.Addr
abbrev Ev:=PySem.Shared
abbrev EQ:=PySem.Value
abbrev Fa:=PySem.World
abbrev Fk:=PySem.Program
abbrev Fr:=PySem.Stmt
abbrev FM:=PySem.Around
abbrev FS:=PySem.Heap
abbrev Gc:=Bool
abbrev Go:=PySem.FuncData
abbrev GE:=String
section
open PySem PySem.Spec PyProof.Rows
abbrev bi:=List (Option Nat)
abbrev bn:=List Nat
abbrev ca:=List Str
abbrev ge:=EQ->Ev->Prop
abbrev gh:=List (Do×Obj)
abbrev ii:=List Do
abbrev im:=List EQ
abbrev io:=Str->Option EQ
abbrev sK:=Array EQ
abbrev tz:=List Expr
abbrev ut:=List (Str×Do)
abbrev u8:=Option Int
abbrev v0:=List (Str×Nat)
abbrev v4:=Option (Option Nat)
abbrev ww:=Option Nat
abbrev xz:=Option Do
abbrev zn:=List (Str×NameKind)
abbrev Al:=List Env
abbrev AC:=Option EQ
abbrev AT:=Unit->Ev->Prop
abbrev BT:=List (Str×EQ)
abbrev Ce:=List Int
abbrev Cl:=List Fr
end
theorem nS{A:α->Prop}{B:α->Prop}(a:α)(h:A a)(k:B a):∃a,A a/\B a:=⟨a,h,k⟩
theorem nT{A:α->Prop}{B:α->Prop}{C:α->Prop}(a:α)(h:A a)(k:B a)(p:C a):∃a,A a/\B a/\C a:=⟨a,h,k,p⟩
theorem n4{A:α->β->γ->δ->Prop}{B:α->β->γ->δ->Prop}{C:α->β->γ->δ->Prop}{D:α->β->γ->δ->Prop}{E:α->β->γ->δ->Prop}(a:α)(b:β)(c:γ)(d:δ)(h:A a b c d)(k:B a b c d)(p:C a b c d)(q:D a b c d)(r:E a b c d):∃a,∃b,∃c,∃d,A a b c d/\B a b c d/\C a b c d/\D a b c d/\E a b c d:=⟨a,b,c,d,h,k,p,q,r⟩
theorem oG{A:α->β->Prop}{B:α->β->Prop}{C:α->β->Prop}(a:α)(b:β)(h:A a b)(k:B a b)(p:C a b):∃a,∃b,A a b/\B a b/\C a b:=⟨a,b,h,k,p⟩
theorem oM{A:α->Prop}(a:α)(h:A a):∃a,A a:=⟨a,h⟩
theorem oS{A:α->β->Prop}{B:α->β->Prop}{C:α->β->Prop}{D:α->β->Prop}(a:α)(b:β)(h:A a b)(k:B a b)(p:C a b)(q:D a b):∃a,∃b,A a b/\B a b/\C a b/\D a b:=⟨a,b,h,k,p,q⟩
theorem oT{A:α->β->γ->δ->Prop}{B:α->β->γ->δ->Prop}{C:α->β->γ->δ->Prop}{D:α->β->γ->δ->Prop}{E:α->β->γ->δ->Prop}{F:α->β->γ->δ->Prop}(a:α)(b:β)(c:γ)(d:δ)(h:A a b c d)(k:B a b c d)(p:C a b c d)(q:D a b c d)(r:E a b c d)(s:F a b c d):∃a,∃b,∃c,∃d,A a b c d/\B a b c d/\C a b c d/\D a b c d/\E a b c d/\F a b c d:=⟨a,b,c,d,h,k,p,q,r,s⟩
theorem o3{A:α->β->Prop}{B:α->β->Prop}(a:α)(b:β)(h:A a b)(k:B a b):∃a,∃b,A a b/\B a b:=⟨a,b,h,k⟩
theorem o4{A:α->β->Prop}{B:α->β->Prop}{C:α->β->Prop}{D:α->β->γ->δ->Prop}{E:α->β->γ->δ->ε->ζ->Prop}{F:α->β->γ->δ->ε->ζ->Prop}{G:α->β->γ->δ->ε->ζ->Prop}(a:α)(b:β)(h:A a b)(k:B a b)(p:C a b)(c:γ)(d:δ)(q:D a b c d)(e:ε)(f:ζ)(r:E a b c d e f)(s:F a b c d e f)(t:G a b c d e f):∃a,∃b,A a b/\B a b/\C a b/\∃c,∃d,D a b c d/\∃e,∃f,E a b c d e f/\F a b c d e f/\G a b c d e f:=⟨a,b,h,k,p,c,d,q,e,f,r,s,t⟩
theorem o_{A:α->Prop}{B:α->β->γ->δ->ε->ζ->Prop}{C:α->β->γ->δ->ε->ζ->Prop}{D:α->β->γ->δ->ε->ζ->Prop}{E:α->β->γ->δ->ε->ζ->Prop}{F:α->β->γ->δ->ε->ζ->Prop}{G:α->β->γ->δ->ε->ζ->η->Prop}{H:α->β->γ->δ->ε->ζ->η->θ->ι->κ->μ->ν->Prop}{I:α->β->γ->δ->ε->ζ->η->θ->ι->κ->μ->ν->Prop}{J:α->β->γ->δ->ε->ζ->η->θ->ι->κ->μ->ν->Prop}{K:α->β->γ->δ->ε->ζ->η->θ->ι->κ->μ->ν->Prop}{L:α->β->γ->δ->ε->ζ->η->θ->ι->κ->μ->ν->Prop}{M:α->β->γ->δ->ε->ζ->η->θ->ι->κ->μ->ν->Prop}(a:α)(h:A a)(b:β)(c:γ)(d:δ)(e:ε)(f:ζ)(k:B a b c d e f)(p:C a b c d e f)(q:D a b c d e f)(r:E a b c d e f)(s:F a b c d e f)(g:η)(t:G a b c d e f g)(i:θ)(j:ι)(l:κ)(m:μ)(n:ν)(u:H a b c d e f g i j l m n)(v:I a b c d e f g i j l m n)(w:J a b c d e f g i j l m n)(x:K a b c d e f g i j l m n)(y:L a b c d e f g i j l m n)(z:M a b c d e f g i j l m n):∃a,A a/\∃b,∃c,∃d,∃e,∃f,B a b c d e f/\C a b c d e f/\D a b c d e f/\E a b c d e f/\F a b c d e f/\∃g,G a b c d e f g/\∃i,∃j,∃l,∃m,∃n,H a b c d e f g i j l m n/\I a b c d e f g i j l m n/\J a b c d e f g i j l m n/\K a b c d e f g i j l m n/\L a b c d e f g i j l m n/\M a b c d e f g i j l m n:=⟨a,h,b,c,d,e,f,k,p,q,r,s,g,t,i,j,l,m,n,u,v,w,x,y,z⟩
theorem pB{A:α->Prop}{B:α->β->Prop}{C:α->β->Prop}(a:α)(h:A a)(b:β)(k:B a b)(p:C a b):∃a,A a/\∃b,B a b/\C a b:=⟨a,h,b,k,p⟩
theorem pE{A:α->β->γ->Prop}{B:α->β->γ->Prop}{C:α->β->γ->Prop}{D:α->β->γ->Prop}{E:α->β->γ->Prop}(a:α)(b:β)(c:γ)(h:A a b c)(k:B a b c)(p:C a b c)(q:D a b c)(r:E a b c):∃a,∃b,∃c,A a b c/\B a b c/\C a b c/\D a b c/\E a b c:=⟨a,b,c,h,k,p,q,r⟩
theorem pF{A:α->β->γ->δ->Prop}{B:α->β->γ->δ->Prop}{C:α->β->γ->δ->Prop}{D:α->β->γ->δ->Prop}(a:α)(b:β)(c:γ)(d:δ)(h:A a b c d)(k:B a b c d)(p:C a b c d)(q:D a b c d):∃a,∃b,∃c,∃d,A a b c d/\B a b c d/\C a b c d/\D a b c d:=⟨a,b,c,d,h,k,p,q⟩
theorem pQ{A:α->Prop}{B:α->Prop}{C:α->Prop}{D:α->Prop}(a:α)(h:A a)(k:B a)(p:C a)(q:D a):∃a,A a/\B a/\C a/\D a:=⟨a,h,k,p,q⟩
theorem pR{A:α->β->γ->δ->ε->Prop}{B:α->β->γ->δ->ε->Prop}{C:α->β->γ->δ->ε->Prop}{D:α->β->γ->δ->ε->Prop}{E:α->β->γ->δ->ε->Prop}{F:α->β->γ->δ->ε->Prop}(a:α)(b:β)(c:γ)(d:δ)(e:ε)(h:A a b c d e)(k:B a b c d e)(p:C a b c d e)(q:D a b c d e)(r:E a b c d e)(s:F a b c d e):∃a,∃b,∃c,∃d,∃e,A a b c d e/\B a b c d e/\C a b c d e/\D a b c d e/\E a b c d e/\F a b c d e:=⟨a,b,c,d,e,h,k,p,q,r,s⟩
theorem p3{A:α->Prop}{B:α->Prop}{C:α->β->Prop}{D:α->β->Prop}(a:α)(h:A a)(k:B a)(b:β)(p:C a b)(q:D a b):∃a,A a/\B a/\∃b,C a b/\D a b:=⟨a,h,k,b,p,q⟩
theorem p4{A:α->β->γ->Prop}{B:α->β->γ->Prop}{C:α->β->γ->Prop}{D:α->β->γ->Prop}{E:α->β->γ->Prop}{F:α->β->γ->Prop}{G:α->β->γ->Prop}(a:α)(b:β)(c:γ)(h:A a b c)(k:B a b c)(p:C a b c)(q:D a b c)(r:E a b c)(s:F a b c)(t:G a b c):∃a,∃b,∃c,A a b c/\B a b c/\C a b c/\D a b c/\E a b c/\F a b c/\G a b c:=⟨a,b,c,h,k,p,q,r,s,t⟩
theorem qC{B:α->Prop}{C:α->Prop}(h:A)(a:α)(k:B a)(p:C a):A/\∃a,B a/\C a:=⟨h,a,k,p⟩
theorem qQ{A:α->β->γ->Prop}{B:α->β->γ->Prop}{C:α->β->γ->Prop}{D:α->β->γ->Prop}(a:α)(b:β)(c:γ)(h:A a b c)(k:B a b c)(p:C a b c)(q:D a b c):∃a,∃b,∃c,A a b c/\B a b c/\C a b c/\D a b c:=⟨a,b,c,h,k,p,q⟩
theorem rO{A:α->β->γ->δ->ε->ζ->η->θ->Prop}(a:α)(b:β)(c:γ)(d:δ)(e:ε)(f:ζ)(g:η)(i:θ)(h:A a b c d e f g i):∃a,∃b,∃c,∃d,∃e,∃f,∃g,∃i,A a b c d e f g i:=⟨a,b,c,d,e,f,g,i,h⟩
theorem rP{A:α->β->Prop}(a:α)(b:β)(h:A a b):∃a,∃b,A a b:=⟨a,b,h⟩
theorem rR{A:α->Prop}{B:α->Prop}{C:α->Prop}{D:α->Prop}{E:α->Prop}(a:α)(h:A a)(k:B a)(p:C a)(q:D a)(r:E a):∃a,A a/\B a/\C a/\D a/\E a:=⟨a,h,k,p,q,r⟩
theorem rT{A:α->Prop}{B:α->β->Prop}{C:α->β->Prop}{D:α->β->Prop}(a:α)(h:A a)(b:β)(k:B a b)(p:C a b)(q:D a b):∃a,A a/\∃b,B a b/\C a b/\D a b:=⟨a,h,b,k,p,q⟩
theorem r_{A:α->β->γ->δ->ε->Prop}{B:α->β->γ->δ->ε->Prop}{C:α->β->γ->δ->ε->Prop}{D:α->β->γ->δ->ε->Prop}{E:α->β->γ->δ->ε->Prop}(a:α)(b:β)(c:γ)(d:δ)(e:ε)(h:A a b c d e)(k:B a b c d e)(p:C a b c d e)(q:D a b c d e)(r:E a b c d e):∃a,∃b,∃c,∃d,∃e,A a b c d e/\B a b c d e/\C a b c d e/\D a b c d e/\E a b c d e:=⟨a,b,c,d,e,h,k,p,q,r⟩
theorem sA{B:α->β->Prop}{C:α->β->Prop}(h:A)(a:α)(b:β)(k:B a b)(p:C a b):A/\∃a,∃b,B a b/\C a b:=⟨h,a,b,k,p⟩
theorem sG{A:α->Prop}{B:α->β->γ->δ->ε->Prop}{C:α->β->γ->δ->ε->Prop}{D:α->β->γ->δ->ε->Prop}{E:α->β->γ->δ->ε->Prop}{F:α->β->γ->δ->ε->Prop}{G:α->β->γ->δ->ε->Prop}(a:α)(h:A a)(b:β)(c:γ)(d:δ)(e:ε)(k:B a b c d e)(p:C a b c d e)(q:D a b c d e)(r:E a b c d e)(s:F a b c d e)(t:G a b c d e):∃a,A a/\∃b,∃c,∃d,∃e,B a b c d e/\C a b c d e/\D a b c d e/\E a b c d e/\F a b c d e/\G a b c d e:=⟨a,h,b,c,d,e,k,p,q,r,s,t⟩
theorem O{b:Sort u}{a:b}:a=a:=rfl
theorem fm{p:Prop}(a:p:=by first|exact .inl O|exact .inr O|assumption)(b:p:=by decide)(c:p:=by rfl)(d:p:=by intro Y;rfl)(e:p:=by kernel_rfl)(f:p:=by decide+kernel)(g:p:=by exact Jx):p:=a
def bd:=fm._auto_1
def cn:=fm._auto_2
def cu:=fm._auto_3
def di:=fm._auto_4
def ei:=fm._auto_5
def fe:=fm._auto_6
def fj:=fm._auto_7
theorem DH:0≤PySem.sizeLine:=by decide
theorem de:1≤PySem.sizeLine:=by decide
theorem cM:2≤PySem.sizeLine:=by decide
theorem DI:3≤PySem.sizeLine:=by decide
theorem amW:6≤PySem.sizeLine:=by decide
open PySem.W (Frag callWith_K cellsFrom_some emptyDict exmOne handedIn hasDictIn hideAll hideAll_get instObj kia_one kitOne kitx_dict kitx_list lookIn makesIn methodObj mroIn nsIn of_hideAll plainGet plainGet_of plainOver specialIn takerIn takesIn)
theorem W_[Decidable p](h:p):decide p=true:=by lia
theorem ZN[Decidable p](h: ¬p):decide p=false:=by lia
theorem JB{c:Type}{a b:List c}:(a++b).length=a.length+b.length:=by simp
theorem ZX(n:Nat):n≤n:=Nat.le_refl n
theorem Y_(n:Nat):0≤n:=Nat.zero_le n
def Wo:=@List.length_map
def X9:=@List.mem_cons
def Ya:=@List.mem_singleton
def Z_:=@List.getElem?_map
def Z4:=@List.mem_append
def jP:=@List.append_nil
def Yy:=@List.not_mem_nil
def Za:=@List.map_append
def ZS:=@List.getElem?_eq_some_iff
def YK:=@List.mem_of_getElem?
def Xm:=@List.append_assoc
def WZ:=@Bool.and_eq_true
def WD:=@List.size_toArray
def Wt:=@List.length_cons
def lF:=@Option.some.inj
def XB:=@List.getElem?_eq_getElem
def ZP:=@Nat.lt_of_lt_of_le
def Wb:=@List.mem_cons_of_mem
def Zh:=@List.mem_append_left
def Ze:=@Nat.ne_of_lt
def cQ:=@List.mem_append_right
def Wu:=@List.mem_cons_self
def Yi:=@Bool.false_ne_true
def Yb:=@List.getElem?_append_left
def Y4:=@Nat.le_trans
def Ww:=@List.map_cons
def WN:=@Int.toNat_natCast
def Xx:=@Nat.lt_irrefl
def Yj:=@List.length_drop
def Wc:=@List.take_of_length_le
def XT:=@List.reverse_cons
def XF:=@Nat.ne_of_gt
def X_:=@List.mem_map
def Yh:=@List.getElem?_set_ne
def Xg:=@List.length_take
def WC:=@Option.map_eq_some_iff
def Xa:=@List.length_eq_zero_iff
def Y3:=@List.map_map
def WK:=@List.mem_iff_getElem?
def Xu:=@List.getD_eq_getElem?_getD
def Xy:=@List.length_singleton
def WG:=@Bool.false_xor
def YL:=@List.nodup_cons
def V_:=@List.length_reverse
def Xb:=@List.map_congr_left
def Y9:=@List.reverse_append
def yE:=@Bool.true_xor
def Z8:=@List.find?_cons
def Hd:=@List.take_length
def Zl:=@List.getElem?_cons_succ
def X7:=@Int.emod_nonneg
def Yw:=@Int.emod_lt_of_pos
def WT:=@List.cons_append
def V1:=@List.length_set
def x9:=@List.replicate_succ
def Xp:=@List.length_nil
def WW:=@Bool.false_eq_true
def ZT:=@Int.le_refl
def hA:=@List.reverse_reverse
def Wf:=@List.getElem?_append_right
def Y6:=@List.lookup_cons
def Zd:=@List.length_range
def Ot:=@Bool.not_eq_true'
def YJ:=@List.cons.inj
def Wa:=@List.take_add_one
def XA:=@Nat.lt_succ_self
def zbo:=@List.map_nil
def Xw:=@Nat.le_add_right
def Zg:=@List.drop_zero
def XO:=@Nat.sub_self
def c7:=@List.getElem?_set
def zbt:=@List.cons_ne_nil
def Z0:=@List.mem_map_of_mem
def Zn:=@List.mem_range
def Zb:=@Nat.le_of_lt
def Wg:=@List.mem_filterMap
def XX:=@Nat.le_of_eq
def XW:=@Nat.le_succ
def XY:=@List.filterMap_map
def ZO:=@Bool.or_false
def ZZ:=@List.all_cons
def yk:=@List.nil_append
def YR:=@Nat.lt_trans
def Y2:=@Array.getElem?_eq_getElem
def Z3:=@List.drop_eq_getElem_cons
def jN:=@List.range_succ
def Yt:=@List.take_append_drop
def Xd:=@Int.natCast_add
def ZY:=@List.mem_reverse
def Yl:=@List.getElem?_set_self
def XR:=@List.any_cons
def zbN:=@List.flatten_cons
def XE:=@Nat.le_of_succ_le
def m_:=@List.all_eq_true
def Zf:=@Nat.sub_zero
def XC:=@List.getElem?_eq_none
def N9:=@List.filter_append
def YI:=@List.length_filter_le
def Z9:=@Nat.zero_add
def ZV:=@Int.zero_add
def xY:=@List.sum_cons
def Z7:=@List.take_nil
def jM:=@List.mem_of_mem_drop
def XU:=@List.map_replicate
def tE:=@List.filterMap_cons
def x6:=@Array.length_toList
def zcc:=@Bool.eq_iff_iff
def We:=@List.length_replicate
def k_:=@List.foldl_cons
def Wr:=@Option.map_some
def Yz:=@List.lookup_append
def Xh:=@Nat.lt_succ_of_lt
def Xe:=@List.range_succ_eq_map
def yX:=@List.sum_append
def WO:=@List.mem_flatten
def Yr:=@List.take_left
def ZQ:=@List.drop_of_length_le
def Z1:=@List.mem_of_mem_take
def zco:=@List.nodup_nil
def Zr:=@List.getElem?_zip_eq_some
def Xl:=@List.getElem?_tail
def WV:=@List.length_dropLast
def yF:=@Nat.lt_of_le_of_lt
def vV:=@Option.ne_none_iff_exists'
def zW:=@List.filterMap_cons_some
def zcv:=@List.getLast?_append
def vn:=@List.mem_of_mem_tail
def wH:=@List.dropLast_concat_getLast
def uC:=@List.dropLast_concat
def Xk:=@Nat.le_add_left
def CR:=@Nat.pos_of_ne_zero
def Z6:=@Nat.le_of_not_lt
def WX:=@Nat.le_succ_of_le
def XZ:=@Nat.le_antisymm
def Wx:=@Int.natCast_nonneg
def X4:=@Nat.add_le_add_right
def XS:=@Nat.succ_le_of_lt
def Yu:=@Nat.le_of_lt_succ
def YW:=@Nat.le_add_right_of_le
def fP:=@Nat.succ_pos
def U6:=@Nat.lt_of_not_le
def V4:=@Nat.sub_le
def Yn:=@Nat.add_comm
def Xs:=@Nat.lt_of_le_of_ne
def WA:=@Nat.not_lt_zero
def vB:=@Int.ne_of_gt
def YF:=@Nat.not_lt_of_le
def BF:=@Nat.lt_of_succ_le
def CG:=@Nat.add_le_add
def x8:=@Int.lt_irrefl
def yS:=@Int.lt_of_lt_of_le
def BG:=@Int.le_of_not_gt
def Ae:=@Nat.add_lt_add_right
def Af:=@Nat.lt_succ_of_le
def x4:=@Nat.le_add_left_of_le
def yP:=@Nat.le_of_succ_le_succ
def tG:=@List.getElem?_range
open PySem PySem.Spec
section
open PyProof.Rows
abbrev gS:=Sum Int Str
abbrev wT:=List (gS×EQ)
abbrev wP:=List (List gS×Do×EQ)
noncomputable def uE:gS->EQ->Gc
 |.inl k,v=>Value.isInt k v
 |.inr x,v=>Value.isStrOf x v
noncomputable def anG(w:Fa):gS->Int
 |.inl k=>hashInt k
 |.inr x=>hashStr w x
theorem nU:∀{k:gS}{v:EQ},uE k v=true->(∃i t,k=Sum.inl i/\v=Value.int i t)\/(∃x t,k=Sum.inr x/\v=Value.str x t)
 |.inl i,v,h=>by
  obtain⟨t,e⟩:=Value.isInt_shape h;exact .inl ⟨i,t,O,e⟩
 |.inr x,v,h=>by
  obtain⟨t,e⟩:=Value.isStrOf_shape h;exact .inr ⟨x,t,O,e⟩
theorem aaE(i:Int)(t:Tok):uE (.inl i) (.int i t)=true:=by simp[uE,Value.isInt]
theorem aoQ(x:Str)(t:Tok):uE (.inr x) (.str x t)=true:=by simp[uE,Value.isStrOf]
theorem amB(a b:Int):decide ((Sum.inl a:gS)=Sum.inl b)=(a==b):=by lia
theorem anC(a b:Str):decide ((Sum.inr a:gS)=Sum.inr b)=decide (a=b):=by lia
theorem afL(a:Int)(b:Str):decide ((Sum.inl a:gS)=Sum.inr b)=false:=O
theorem ahO(a:Str)(b:Int):decide ((Sum.inr a:gS)=Sum.inl b)=false:=O
def d_(p:Fk)(w:Fa):PySem.KeyKind p w gS where
 is:=uE
 hash:=anG w
 inj:=λv a b l f=>by
  rcases nU l with⟨i,t,rfl,rfl⟩|⟨x,t,rfl,rfl⟩
  ·rcases nU f with⟨j,u,rfl,e⟩|⟨y,u,rfl,e⟩
   ·injection e with c _;rw[c]
   ·exact nomatch e
  ·rcases nU f with⟨j,u,rfl,e⟩|⟨y,u,rfl,e⟩
   ·exact nomatch e
   ·injection e with c _;rw[c]
 byValue:=λk v h=>by
  rcases nU h with⟨i,t,rfl,rfl⟩|⟨x,t,rfl,rfl⟩ <;>rfl
 pyHash:=λd h=>by
  rcases nU d with⟨i,t,rfl,rfl⟩|⟨x,t,rfl,rfl⟩
  ·exact wpAny_pyHash_int h
  ·exact wpAny_pyHash_str h
 eqBool:=λg d h=>by
  rcases nU g with⟨i,t,rfl,rfl⟩|⟨x,t,rfl,rfl⟩
  ·rcases nU d with⟨j,u,rfl,rfl⟩|⟨y,u,rfl,rfl⟩
   ·rw[amB] at h;exact wpAny_eqBool_int h
   ·rw[afL] at h;exact SeqAt.EqAt.int_str i t y u _ _ _ _ h
  ·rcases nU d with⟨j,u,rfl,rfl⟩|⟨y,u,rfl,rfl⟩
   ·rw[ahO] at h;exact SeqAt.EqAt.str_int x t j u _ _ _ _ h
   ·rw[anC] at h;exact wpAny_eqBool_str h
 «strs»:=λk x t v h=>by
  rcases nU h with⟨i,u,rfl,e⟩|⟨y,u,rfl,e⟩
  ·exact nomatch e
  ·injection e with c _
   subst c;cases v<;>rfl
theorem acB(p:Fk)(w:Fa)(i:Int)(t:Tok):(d_ p w).is (.inl i) (.int i t)=true:=aaE i t
theorem zM(p:Fk)(w:Fa)(x:Str)(t:Tok):(d_ p w).is (.inr x) (.str x t)=true:=aoQ x t
inductive V where
 |a|b (b:Gc)|i (i:Int)|s (x:Str)|h (b:Array UInt8)|pS (b:UInt64)|r (a:Do)|t (n:GE)
 deriving DecidableEq
abbrev Ch:=List (V×V)
abbrev zA:=List (List gS×V)
abbrev sB:=Option V
abbrev on:=List (Str×V)
abbrev nH:=List (gS×V)
abbrev db:=List V
def lA:V->EQ->Prop
 |.a,u=>u=Value.none
 |.b b,u=>u=Value.bool b
 |.i i,u=>∃t,u=Value.int i t
 |.s x,u=>∃t,u=Value.str x t
 |.h b,u=>∃t,u=Value.bytes b t
 |.pS b,u=>∃t,u=Value.float b t
 |.r a,u=>u=Value.ref a
 |.t n,u=>u=Value.type n
abbrev Wz:db->im->Prop:=Paired lA
theorem Wz.length{u:im}(r:Wz x u):x.length=u.length:=KB r
theorem Wz.get:∀{s:db}{a:im}{i:Nat}{x:V},Wz s a->s[i]?=some x->∃u,a[i]?=some u/\lA x u:=by
 intro Y Y i x h;induction h generalizing i with
 |nil=>intro e;simp at e
 |cons r Y b=>
  intro e;cases i with
  |zero=>simp at e;subst e;exact⟨_,O,r⟩
  |succ i=>
   obtain⟨u,d,c⟩:=b (by simpa using e);exact⟨u,by simpa using d,c⟩
theorem Wz.set(r:lA x u):∀{xs:db}{s:im}(i:Nat),Wz xs s->Wz (xs.set i x) (s.set i u)
 |_,_,_,.nil=>.nil
 |_,_,0,.cons _ t=>.cons r t
 |_,_,i+1,.cons q t=>.cons q (Wz.set r i t)
theorem Wz.append:∀{x y:db}{u w:im},Wz x u->Wz y w->Wz (x++y) (u++w):=by
 intro Y Y Y Y h s;induction h with
 |nil=>exact s
 |cons r Y i=>exact .cons r i
theorem Wz.take:∀{x:db}{u:im}(n:Nat),Wz x u->Wz (x.take n) (u.take n)
 |_,_,0,_=>.nil
 |_,_,_+1,.nil=>.nil
 |_,_,n+1,.cons r t=>.cons r (Wz.take n t)
theorem Wz.drop:∀{x:db}{u:im}(n:Nat),Wz x u->Wz (x.drop n) (u.drop n)
 |_,_,0,r=>r
 |_,_,_+1,.nil=>.nil
 |_,_,n+1,.cons _ t=>Wz.drop n t
def iB:sB->AC->Prop
 |some v,some u=>lA v u
 |none,none=>True
 |_,_=>False
def KV{a:Type}:List (a×V)->List (a×EQ)->Prop:=Paired fun(p:a×V)(q:a×EQ)=>p.1=q.1/\lA p.2 q.2
noncomputable def kV:gS->V
 |.inl i=>.i i
 |.inr x=>.s x
inductive HO where
 |l (a:db)
 |t (a:db)
 |d (K:nH)|T (K:zA)
 |s (S:Int->Gc)(n:Nat)
 |i (C v:Do)(c:on)
 |o (x:Do)
 |xd (c:on)
 |m (f x:Do)
 |fk (j k:Int)
 |b (o:Obj)(u:HO)
 |q (p:sK)
 |e (g:FS->Prop)
abbrev wS:=Do->HO->Prop
abbrev Hp:=Do->Option HO
abbrev wv:=Gc->Hp->Prop
noncomputable def upd(H:Hp)(a:Do)(o:HO):Hp:=λb=>if b=a then some o else H b
theorem aj:upd H a o a=some o:=by unfold upd;rw[GT O]
theorem aw(h:b≠a):upd H a o b=H b:=by unfold upd;rw[Id h]
theorem zN:upd (upd H a o) a u=upd H a u:=by
 funext b;unfold upd;split<;>rfl
theorem cj{H:Hp}(h:H a=some o)(c:H b=some u)(d:o≠u):a≠b:=by lia
theorem aJ{H:Hp}(h:H a=some o)(c:H b=none):a≠b:=by lia
section
variable(P:Fk)(w:Fa)
def cN(H:Hp)(h:FS)(a:Do):HO->Prop
 |.l c=>c.length<=sizeLine/\∃(k:im)(n:Nat),Wz c k/\h.get? a=some {cls:=.type "list",data:=.seq k.toArray n}
 |.t c=>c.length<=sizeLine/\∃k:im,Wz c k/\IsTup h a k.toArray
 |.d K=>K.length<=sizeLine/\(a==sysModules)=false/\∃y,KV K y/\h.DictOf (d_ P w) a y
 |.T K=>K.length<=sizeLine/\(a==sysModules)=false/\∃c:wP,
   Paired (fun(p:List gS×V)(q:List gS×Do×EQ)=>p.1=q.1/\H q.2.1=some (.t<|p.1.map kV)/\lA p.2 q.2.2) K c/\
   ∃o D I,h.get? a=some o/\o.ExactDict/\o.data=.dict D I/\D.toList=c.map (entryOfKey<|tupleKind<|d_ P w)/\(c.map (·.1)).Nodup
 |.s S n=>h.SetOf (intKind P w) a S n
 |.i C j g=>H j=some (.o a)/\g.length<=1000/\j≠a/\h.get? a=some (instObj C j)/\
   ∃A,h.Ns1 j A/\(∀f,iB (g.lookup f)<|A f)/\PySem.Within A (g.map (·.1))
 |.o _=>∃o,h.get? a=some o
 |.xd g=>∃A,h.Ns1 a A/\∀f,iB (g.lookup f) (A f)
 |.fk F G=>∃t u v,h.get? a=some {cls:=.type "range",data:=.fields #[.int F t,.int G u,.int 1 v]}
 |.b o u=>h.get? a=some o/\cN H h a u
 |.q E=>h.get? a=some {cls:=.none,data:=.fields E}
 |.m f x=>h.get? a=some (methodObj (.ref f)<|.ref x)
 |.e r=>r h/\(∃o,h.get? a=some o)/\∀B z:FS,r B->(∀o,B.get? a=some o->z.get? a=some o)->r z
def bX(H:Hp)(h:FS):Prop:= ∀a o,H a=some o->cN P w H h a o
end
section
variable{P:Fk}{w:Fa}{H j:Hp}{h g:FS}{a:Do}{o:HO}
theorem cN.lt(x:cN P w H h a o):a<h.objs.size:=by
 cases o with
 |l c=>obtain⟨Y,Y,Y,Y,e⟩:=x;exact IN e
 |t c=>obtain⟨Y,Y,Y,p⟩:=x;exact p.lt
 |d K=>obtain⟨Y,Y,Y,Y,o,Y,Y,e,Y⟩:=x;exact IN e
 |T K=>obtain⟨Y,Y,Y,Y,o,Y,Y,e,Y⟩:=x;exact IN e
 |s S n=>obtain⟨o,Y,Y,Y,e,Y⟩:=YC x;exact IN e
 |i C A g=>obtain⟨Y,Y,Y,e,Y⟩:=Y7 x;exact IN e
 |o y=>obtain⟨Y,e⟩:=x;exact IN e
 |xd g=>obtain⟨Y,⟨Y,Y,Y,e,Y⟩,Y⟩:=x;exact IN e
 |fk v z=>obtain⟨Y,Y,Y,e⟩:=x;exact IN e
 |b r u=>obtain⟨e,Y⟩:=x;exact IN e
 |q k=>exact IN (show h.get? a=some _ from x)
 |m f y=>exact IN (show h.get? a=some _ from x)
 |e j=>obtain⟨Y,⟨Y,e⟩,Y⟩:=x;exact IN e
theorem Paired.DJ:∀{c:List e}{l:List d},Paired F c l->(∀a b,F a b->G a b)->Paired G c l:=by
 intro Y Y h f;induction h with
 |nil=>exact .nil
 |cons r Y i=>exact .cons (f _ _ r) i
theorem cN.mr(x:cN P w H h a o)(k:∀b u,(b=a\/H b=some (.o a))->h.get? b=some u->g.get? b=some u)(Q:∀b,H b=some (.o a)->j b=some (.o a))(N:∀b E,H b=some (.t E)->j b=some (.t E)):cN P w j g a o:=by
 induction o with
 |l E=>obtain⟨z,I,n,r,e⟩:=x;exact⟨z,I,n,r,k _ _ (.inl O) e⟩
 |t E=>obtain⟨z,I,r,A,e,c⟩:=x;exact⟨z,I,r,A,k _ _ (.inl O) e,c⟩
 |d V=>obtain⟨z,y,K,r,A,B,D,e,c⟩:=x;exact⟨z,y,K,r,A,B,D,k _ _ (.inl O) e,c⟩
 |T V=>
  obtain⟨z,y,E,r,A,B,D,e,c⟩:=x;exact⟨z,y,E,Paired.DJ r λp q z=>⟨z.1,N _ _ z.2.1,z.2.2⟩,A,B,D,k _ _ (.inl O) e,c⟩
 |s S n=>obtain⟨A,B,D,t,e,c⟩:=YC x;exact⟨A,B,D,t,k _ _ (.inl O) e,c⟩
 |i C dx R=>
  obtain⟨d,z,L,e,G,⟨F,B,D,U,c⟩,r⟩:=x;exact⟨Q _ d,z,L,k _ _ (.inl O) e,G,⟨F,B,D,k _ _ (.inr d) U,c⟩,r⟩
 |o y=>obtain⟨A,e⟩:=x;exact⟨A,k _ _ (.inl O) e⟩
 |xd R=>obtain⟨G,⟨F,B,D,e,c⟩,r⟩:=x;exact⟨G,⟨F,B,D,k _ _ (.inl O) e,c⟩,r⟩
 |fk Y Z=>obtain⟨t,u,v,e⟩:=x;exact⟨t,u,v,k _ _ (.inl O) e⟩
 |b A u M=>obtain⟨e,q⟩:=x;exact⟨k _ _ (.inl O) e,M q⟩
 |q X=>
  have e:=x;exact k a _ (.inl O) e
 |m f y=>
  have e:=x;exact k a _ (.inl O) e
 |e W=>obtain⟨p,⟨o,e⟩,J⟩:=x;exact⟨J _ _ p λo q=>k _ _ (.inl O) q,⟨o,k _ _ (.inl O) e⟩,J⟩
theorem bX.lt(x:bX P w H h)(e:H a=some o):a<h.objs.size:=(x a o e).lt
theorem bX.fresh(x:bX P w H h)(e:h.objs.size<=a):H a=none:=by
 cases q:H a with
 |none=>rfl
 |some u=>exact absurd (ZP (x.lt q) e) (Xx _)
theorem bX.kept(x:bX P w H h)(k:∀b u,h.get? b=some u->g.get? b=some u):bX P w H g:=λa o e=>
 (x a o e).mr (λb u Y q=>k b u q) (λY q=>q) λY Y q=>q
theorem bX.laid(x:bX P w H h)(k:∀b u,h.get? b=some u->g.get? b=some u)(p:h.objs.size<=a)(n:cN P w (upd H a o) g a o):bX P w (upd H a o) g:=λb u e=>by
 have d:=x.fresh p;by_cases f:b=a;subst f;rw[aj] at e;cases e;exact n;rw[aw f] at e;exact(x b u e).mr (λc v Y q=>k c v q) (λc q=>by rw[aw<|aJ q d];exact q) λc s q=>by rw[aw<|aJ q d];exact q
end
noncomputable def Rd(H:Hp)(a:Do)(u:HO):Prop:=H a=some u\/∃o,H a=some (.b o u)
theorem Rd.ok(r:Rd H a u)(x:bX P w H h):cN P w H h a u:=by
 rcases r with r|⟨o,r⟩
 exact x a u r;obtain⟨Y,q⟩:=x a _ r;exact q
def wK:Option HO->Prop
 |some (.l _)=>True
 |some (.d _)=>True
 |some (.T _)=>True
 |some (.s _ _)=>True
 |some (.i _ _ _)=>True
 |some (.e _)=>True
 |_=>False
section
variable{P:Fk}{w:Fa}{H:Hp}{h a:FS}{x e:Do}{d:HO}
theorem bX.write(p:bX P w H h)(m:wK (H x))(l:e=x\/H e=some (.o x))(k:∀b u,b≠e->h.get? b=some u->a.get? b=some u)(F:∃u,a.get? e=some u)(n:cN P w (upd H x d) a x d):bX P w (upd H x d) a:=λb u q=>by
 have J:∀c y,H c=some (.o y)->c≠x:=λc y r z=>by subst z;rw[r] at m;exact m
 have W:∀c s,H c=some (.t s)->c≠x:=λc s r z=>by subst z;rw[r] at m;exact m
 by_cases g:b=x;subst g;rw[aj] at q;cases q;exact n;rw[aw g] at q;by_cases i:b=e;have j:H b=some (.o x):=by
  rcases l with z|z
  cases g (i.trans z);rw[i];exact z
 rw[q] at j;cases j;obtain⟨v,A⟩:=F;exact⟨v,aH⟩;refine(p b u q).mr (λc v f r=>k c v ?_ r) (λc r=>by rw[aw<|J c b r];exact r) λc s r=>by rw[aw<|W c s r];exact r
 rcases f with rfl|f
 exact i;rintro rfl;rcases l with z|z
 exact J c b f z;rw[f] at z;cases z;exact g O
end
structure Un(fs ex:ii)(H H':Hp)(h h':FS):Prop where
 keep:∀b o,h.get? b=some o->H b=none->b∉fs->b∉ex->h'.get? b=some o
 slot:∀b o,h.get? b=some o->H b=none->b∈fs->b∉ex->∃sl,h'.get? b=some {o with slots:=sl}
 free:∀b o,h.get? b=some o->H b=none->b∉ex->H' b=none
 there:∀b o,h.get? b=some o->b∉ex->∃o',h'.get? b=some o'
 bx:∀b xs,H b=some (.t xs)->H' b=some (.t xs)
 iC:∀b o u,H b=some (.b o u)->H' b=some (.b o u)
 iP:∀b ps,H b=some (.q ps)->∃more,H' b=some (.q<|ps++more)
section
variable{d fs' f DK:ii}{H H1 H2:Hp}{h g h2 c:FS}{a x e:Do}{o:HO}
theorem Un.any(u:Un d f H H1 h g){b:Do}{o:Obj}(q:h.get? b=some o)(n:H b=none)(x:b∉f):∃s,g.get? b=some {o with slots:=s}:=by
 by_cases a:b∈d;exact u.slot b o q n a x;exact⟨o.slots,u.keep b o q n a x⟩
theorem Un.kept(k:∀b u,h.get? b=some u->c.get? b=some u):Un d f H H h c:=
 ⟨λb o q Y Y Y=>k b o q,λb o q Y Y Y=>⟨o.slots,k b o q⟩,λY Y Y n Y=>n,λb o q Y=>⟨o,k b o q⟩,λY Y q=>q,λY Y Y q=>q,λY p q=>⟨#[],by rw[q];simp⟩⟩
theorem Un.refl:Un d f H H h h:=Un.kept λY Y q=>q
theorem Un.laid(k:∀b u,h.get? b=some u->c.get? b=some u)(p:h.objs.size<=a)(e:H a=none):Un d f H (upd H a o) h c where
 keep:=λb u q Y Y Y=>k b u q
 slot:=λb u q Y Y Y=>⟨u.slots,k b u q⟩
 free:=λb u q n Y=>by rw[aw<|Ze<|ZP (IN q) p];exact n
 there:=λb u q Y=>⟨u,k b u q⟩
 bx:=λb x q=>by rw[aw<|aJ q e];exact q
 iC:=λb u x q=>by rw[aw<|aJ q e];exact q
 iP:=λb s q=>⟨#[],by rw[aw<|aJ q e,q];simp⟩
theorem Un.write(a:wK (H x))(j:e=x\/H e=some (.o x))(k:∀b u,b≠e->h.get? b=some u->c.get? b=some u)(F:∃u,c.get? e=some u):Un d f H (upd H x o) h c:=by
 have g:∀b,H b=none->b≠x:=λb n z=>by subst z;rw[n] at a;exact a
 have i:∀b,H b=none->b≠e:=λb n z=>by
  subst z;rcases j with r|r
  exact g b n r;rw[n] at r;cases r
 have m:∀b u,H b=some u-> ¬wK (some u)->b≠x:=λb u q l z=>by lia
 refine⟨λb u q n Y Y=>k b u (i b n) q,λb u q n Y Y=>⟨u.slots,k b u (i b n) q⟩,λb u q n Y=>by rw[aw (g b n)];exact n,λb u q Y=>?_,
  λb s q=>by rw[aw (m b _ q λz=>z)];exact q,λb u s q=>by rw[aw (m b _ q λz=>z)];exact q,λb p q=>⟨#[],by rw[aw (m b _ q λz=>z),q];simp⟩⟩
 by_cases P:b=e;subst P;exact F;exact⟨u,k b u P q⟩
end
noncomputable def cO(h:FS)(H:Hp):ii:=(List.range h.objs.size).filter λa=>(H a).isSome
def nV(h:FS)(H:Hp):FS:=hideAll h (cO h H)
theorem apD(h:FS)(H:Hp):(nV h H).objs.size=h.objs.size:=PySem.W.hideAll_size _ _
theorem amZ{H:Hp}(e:h.get? b=some o)(n:H b=none):(nV h H).get? b=some o:=
 hideAll_get _ e λm=>by
  have q:=(List.mem_filter.mp m).2;rw[n] at q;simp at q
theorem anY{b:Do}(e:(nV h H).get? b=some o):h.get? b=some o/\H b=none:=by
 have a:=of_hideAll (cO h H) e;refine⟨a,?_⟩;cases q:H b with
 |none=>rfl
 |some x=>
  have m:b∈cO h H:=List.mem_filter.mpr ⟨Zn.mpr<|IN a,by simp[q]⟩;have z:(nV h H).get? b=none:=PySem.W.hideAll_none (cO h H) m;rw[z] at e;cases e
structure Mod(K:Frag)(mg:io)(base:FS):Prop where
 wL:K.In base
 glob:base.Ns mainGlobals mg
 blt:∃mb,base.Ns builtinsNs mb/\∀x:Str,x≠"__name__"->mb x=bootBuiltins x
 nolimit:base.NoLimit
structure Cx where
 prog:Fk
 w:Fa
 K:Frag
 mg:Str->AC
 base:FS
 A:FM
 N:ca
 S:Ev
 H:Hp
 env:Env
 r:Al
 stack:Al
 ex:ii
 fn:Str->Gc
 calm:Gc
 n:gh
 xe:EQ->Ev->Prop
noncomputable def bA(l:Al):ii:=l.filterMap (·.frame)
abbrev Cx.fs(X:Cx):ii:=bA X.r
def zO(s:Scope)(x:Str):Prop:=s.names.lookup x=some .local\/s.names.lookup x=some .cell\/s.names.lookup x=some .free
def Yx(s:Scope)(x:Str):Prop:=s.names.lookup x=some .local\/s.names.lookup x=some .cell
def abA(e:Env)(h:FS)(m:io)(x:Str)(u:EQ):Prop:=
 (e.kindOf x=some .local/\m x=some u)\/((e.kindOf x=some .cell\/e.kindOf x=some .free)/\∃c,e.cells.lookup x=some c/\h.IsCell c (some u))
structure Cx.Ok(X:Cx):Prop where
 mod:Mod X.K X.mg X.base
 kind:X.env.scope.kind=.function
 glob:X.env.globals=mainGlobals
 blt:X.env.builtins=builtinsNs
 above:X.S.heap.objs.size<=X.env.locals
 inj:∀x y c,X.env.cells.lookup x=some c->X.env.cells.lookup y=some c->x=y
 has:∀x,(X.env.kindOf x=some .cell\/X.env.kindOf x=some .free)->∃c,X.env.cells.lookup x=some c
 zP:∀x c,X.fn x=true->X.env.cells.lookup x=some c->X.S.heap.objs.size<=c
 hd:X.calm=true->X.A.handled=none
 frames:X.A.frames=some X.stack
 kQ:X.stack=X.r\/(X.stack=X.env::X.r/\X.env.frame=some X.env.locals)
 JF:∀b∈X.ex,b≠X.env.locals/\∀x c,X.env.cells.lookup x=some c->c≠b
 bs:∀b o,X.base.get? b=some o->X.S.heap.get? b=some o/\X.H b=none
 rQ:X.base.objs.size<=X.S.heap.objs.size
 zQ:∀b o,X.base.get? b=some o->b∉X.ex
 zR:∀b∈X.ex,b∉X.fs
 kR:X.S.heap.FunFrames X.base X.r
 uG:∀b∈X.fs,X.H b=none
structure uP(X:Cx)(D':gh)(σ:List sB)(H:Hp)(s:Ev):Prop where
 ok:X.Ok
 os:s.os=X.S.os
 E:AllBare s.gens
 base:Un X.fs X.ex X.H H X.S.heap s.heap
 G:∃m,s.heap.Ns X.env.locals m/\∀(i:Nat)(x:Str)(v:V),X.N[i]?=some x->σ[i]?=some (some v)->zO X.env.scope x->∃u,lA v u/\abA X.env s.heap m x u
 cell:∀x c,X.env.cells.lookup x=some c->∃v,s.heap.IsCell c v
 free:H X.env.locals=none
 P:∀x c,X.env.cells.lookup x=some c->H c=none
 pin:∀p∈X.n++D',s.heap.get? p.1=some p.2/\H p.1=none/\p.1≠X.env.locals/\p.1∉X.fs/\∀v,p.2.data≠ .cell v
 ay:bX X.prog X.w H s.heap
 len:σ.length=X.N.length
section
variable{X:Cx}{f:gh}{g:List sB}{H B:Hp}{s:Ev}{w:FS}
theorem Cx.Ok.Wh(k:X.Ok){b:Do}(e:X.base.get? b=some o):b∉X.fs:=λh=>by
 have:=(k.kR.mem h).1;rw[e] at this;cases this
theorem uP.bs(I:uP X f g H s):∀b o,X.base.get? b=some o->s.heap.get? b=some o/\H b=none:=λb o e=>
 ⟨I.base.keep b o (I.ok.bs b o e).1 (I.ok.bs b o e).2 (I.ok.Wh e)<|I.ok.zQ b o e,I.base.free b o (I.ok.bs b o e).1 (I.ok.bs b o e).2<|I.ok.zQ b o e⟩
theorem uP.bk(I:uP X f g H s):∀b o,X.base.get? b=some o->s.heap.get? b=some o:=λb o e=>(I.bs b o e).1
theorem uP.mod(I:uP X f g H s):Mod X.K X.mg X.base:=I.ok.mod
theorem uP.dA(I:uP X f g H s):X.K.In s.heap:=I.ok.mod.wL.keeps I.bk
theorem uP.lt(I:uP X f g H s):X.env.locals<s.heap.objs.size:=let ⟨_,h,_⟩:=I.G;h.lt
theorem uP.sz(I:uP X f g H s):X.S.heap.objs.size<=s.heap.objs.size:=Y4 I.ok.above (Zb I.lt)
theorem uP.JG(I:uP X f g H s){a:Do}(h:s.heap.objs.size<=a):a∉X.fs:=λc=>by
 obtain⟨Y,o,b,Y⟩:=I.ok.kR.mem c;cases Xx _ (ZP (IN b)<|Y4 I.sz h)
theorem uP.mw(I:uP X f g H s):∀x c,X.env.cells.lookup x=some c->c≠X.env.locals:=λx c e z=>by
 obtain⟨v,o,h,d⟩:=I.cell x c e;obtain⟨m,⟨a,b,p,Q,r,Y⟩,Y⟩:=I.G;rw[z,Q] at h;cases h;rw[r] at d;cases d
theorem uP.kR(I:uP X f g H s):s.heap.FunFrames X.base X.r:=by
 have d:∀(l:Al),(∀b∈bA l,b∈X.fs)->X.S.heap.FunFrames X.base l->s.heap.FunFrames X.base l:=by
  intro l;induction l with
  |nil=>intro Y Y;trivial
  |cons v r j=>
   intro i p;obtain⟨q,⟨L,o,h,n,m,t⟩,k⟩:=p;have c:=i L (by unfold bA;rw[tE,h];exact Wu);obtain⟨u,e⟩:=I.base.slot L o m (I.ok.uG L c) c λz=>I.ok.zR L z c;exact⟨q,oS L _ h n e t,j (λb a=>i b (by unfold bA;rw[tE,h];exact Wb _ a)) k⟩
 exact d X.r (λY a=>a) I.ok.kR
theorem uP.stack(I:uP X f g H s):s.heap.FunFrames X.base X.stack:=by
 rcases I.ok.kQ with e|⟨e,a⟩
 rw[e];exact I.kR;rw[e];obtain⟨m,h,Y⟩:=I.G;refine .cons (by rw[I.ok.kind];decide) a h ?_ I.kR;exact Heap.get?_none_of_le<|Y4 I.ok.rQ I.ok.above
theorem uP.zS(I:uP X f g H s):∀b∈bA X.stack,b∈X.env.locals::X.fs:=λb h=>by
 rcases I.ok.kQ with e|⟨e,a⟩
 rw[e] at h;exact Wb _ h;rw[e] at h;unfold bA at h;rw[tE,a] at h;exact h
theorem uP.zT(I:uP X f g H s):∀b∈bA X.stack,H b=none:=λb h=>by
 rcases X9.mp (I.zS b h) with e|h
 rw[e];exact I.free;obtain⟨Y,o,a,Y⟩:=I.ok.kR.mem h;exact I.base.free b o a (I.ok.uG b h) λz=>I.ok.zR b z h
theorem uP.step{ch:ii}(I:uP X f g H s)(Q:∀b∈ch,(b∈X.ex\/X.S.heap.objs.size<=b)/\b≠X.env.locals/\(∀x c,X.env.cells.lookup x=some c->c≠b)/\∀p∈X.n++f,p.1≠b)(j:∀b o,b≠X.env.locals->b∉X.fs->b∉ch->s.heap.get? b=some o->H b=none->w.get? b=some o)(C:∀b o,b≠X.env.locals->b∈X.fs->b∉ch->s.heap.get? b=some o->H b=none->∃T,w.get? b=some {o with slots:=T})(a:∀b o,b∉ch->s.heap.get? b=some o->H b=none->B b=none)(D:∀b o,b∉ch->s.heap.get? b=some o->∃J,w.get? b=some J)(bx:∀b A,H b=some (.t A)->B b=some (.t A))(iC:∀b o u,H b=some (.b o u)->B b=some (.b o u))(iP:∀b R,H b=some (.q R)->∃L,B b=some (.q<|R++L))(ns:∀m,s.heap.Ns X.env.locals m->w.Ns X.env.locals m)(ay:bX X.prog X.w B w)(hg:AllBare g'):
  uP X f g B {s with heap:=w,gens:=g',drawn:=d',toks:=t'}:=by
 have JH:∀b o,X.S.heap.get? b=some o->b≠X.env.locals:=λb o e=>Ze (ZP (IN e) I.ok.above);have U:∀b o,X.S.heap.get? b=some o->b∉X.ex->b∉ch:=λb o e h E=>by
  rcases (Q b E).1 with z|z
  exact h z;cases Xx _ (ZP (IN e) z)
 have K:∀x c,X.env.cells.lookup x=some c->∀v,s.heap.IsCell c v->w.IsCell c v:=λx c e v ⟨o,F,V⟩=>by
  have M:=λz=>(Q c z).2.2.1 x c e O;by_cases hc:c∈X.fs;obtain⟨T,q⟩:=C c o (I.mw x c e) hc M F (I.P x c e);exact nS _ q V;exact nS o (j c o (I.mw x c e) hc M F<|I.P x c e) V
 refine⟨I.ok,I.os,hg,⟨λb o e n E h=>?_,λb o e n E h=>?_,λb o e n h=>?_,λb o e h=>?_,λb A e=>bx b A<|I.base.bx b A e,λb o A e=>iC b o A<|I.base.iC b o A e,λb R e=>?_⟩,?_,λx c e=>?_,?_,λx c e=>?_,λp Z=>?_,ay,I.len⟩;exact j b o (JH b o e) E (U b o e h) (I.base.keep b o e n E h) (I.base.free b o e n h);obtain⟨T,y⟩:=I.base.slot b o e n E h;obtain⟨Wi,N⟩:=C b _ (JH b o e) E (U b o e h) y (I.base.free b o e n h);exact oM Wi N;obtain⟨J,y⟩:=I.base.there b o e h;exact a b J (U b o e h) y<|I.base.free b o e n h;obtain⟨J,y⟩:=I.base.there b o e h;exact D b J (U b o e h) y;obtain⟨m1,y⟩:=I.base.iP b R e;obtain⟨m2,N⟩:=iP b _ y;exact oM (m1++m2) (by rw[N,Array.append_assoc]);obtain⟨m,hn,hl⟩:=I.G;refine nS m (ns m hn) (λi x v y N e3=>?_);obtain⟨u,r,l⟩:=hl i x v y N e3;refine nS u r ?_;rcases l with l|⟨k,c,e,z⟩
 exact .inl l;exact .inr (qC k c e (K x c e _ z));obtain⟨v,z⟩:=I.cell x c e;exact oM v (K x c e v z);obtain⟨m,⟨o,_,_,F,_⟩,_⟩:=I.G;exact a _ o (λz=>(Q _ z).2.1 O) F I.free;obtain⟨v,o,F,V⟩:=I.cell x c e;exact a c o (λz=>(Q c z).2.2.1 x c e O) F<|I.P x c e;obtain⟨e,n,Y,W,d⟩:=Y7 (I.pin p Z);have M:=λz=>(Q p.1 z).2.2.2 p Z O;exact⟨j p.1 p.2 Y W M e n,a p.1 p.2 M e n,Y,W,d⟩
theorem uP.un(I:uP X f g H s)(u:Un X.fs [] H B s.heap w)(y:bX X.prog X.w B w):uP X f g B {s with heap:=w,toks:=t}:=by
 obtain⟨m,⟨o,p,q,a,r⟩,Y⟩:=id I.G;obtain⟨l,L⟩:=u.any a I.free aP;exact I.step (ch:=[]) (λY z=>nomatch z) (λb o Y h Y e n=>u.keep b o e n h aH) (λb o Y h Y e n=>u.slot b o e n h aP) (λb o Y e n=>u.free b o e n aH) (λb o Y e=>u.there b o e aH) u.bx u.iC u.iP (λk d=>by
  obtain⟨j,i,D,Q,c⟩:=d;rw[a] at Q;cases Q;exact⟨_,i,D,L,c⟩) y I.E
theorem uP.call(I:uP X f g H s)(u:Un (bA X.stack) i H B s.heap w)(C:bX X.prog X.w B w)(l:AllBare v)(d:∀b∈i,(b∈X.ex\/X.S.heap.objs.size<=b)/\b≠X.env.locals/\(∀x c,X.env.cells.lookup x=some c->c≠b)/\∀p∈X.n++f,p.1≠b):
  uP X f g B {s with heap:=w,gens:=v,drawn:=A,toks:=t}:=by
 obtain⟨m,⟨o,K,M,a,r⟩,Y⟩:=id I.G;obtain⟨E,L⟩:=u.any a I.free λz=>(d _ z).2.1 O;exact I.step d (λb o L q h e n=>u.keep b o e n (λz=>(X9.mp (I.zS b z)).elim L q) h) (λb o Y Y h e n=>u.any e n h) (λb o h e n=>u.free b o e n h) (λb o h e=>u.there b o e h) u.bx u.iC u.iP (λJ k=>by
  obtain⟨F,y,D,Q,j⟩:=k;rw[a] at Q;cases Q;exact⟨_,y,D,L,j⟩) C l
theorem uP.turned{i:Do}(I:uP X f g H s)(k:∀b o,b≠i->s.heap.get? b=some o->w.get? b=some o)(F:H i=none)(L:i≠X.env.locals)(y:i∈X.ex\/X.S.heap.objs.size<=i)(t:∀x c,X.env.cells.lookup x=some c->c≠i)(l:∀p∈X.n++f,p.1≠i):uP X f g H {s with heap:=w,toks:=C}:=by
 have J:∀b u,H b=some u->b≠i:=λb u e z=>by lia
 refine I.step (ch:=[i]) (λb j=>?_) (λb o Y Y h e Y=>k b o (λz=>h (by simp[z])) e) (λb o Y Y h e Y=>⟨o.slots,k b o (λz=>h (by simp[z])) e⟩) (λY Y Y Y n=>n)
  (λb o h e=>⟨o,k b o (λz=>h (by simp[z])) e⟩) (λY Y e=>e) (λY Y Y e=>e) (λb D e=>⟨#[],by rw[e];simp⟩) (λm d=>?_) (λb u e=>?_) I.E
 have e:=by simpa using j
 subst e;exact⟨y,L,t,l⟩;obtain⟨o,A,B,a,r⟩:=d;exact⟨o,A,B,k _ o (Ix L) a,r⟩;refine(I.ay b u e).mr (λc v h q=>k c v ?_ q) (λY q=>q) λY Y q=>q;rcases h with z|z
 rw[z];exact J b u e;exact J c _ z
theorem uP.tok(I:uP X f g H s)(t:Nat):uP X f g H {s with toks:=t}:=I.un Un.refl I.ay
theorem uP.kept(I:uP X f g H s)(k:∀b u,s.heap.get? b=some u->w.get? b=some u):uP X f g H {s with heap:=w,toks:=t}:=I.un (Un.kept k) (I.ay.kept k)
theorem uP.laid{a:Do}(I:uP X f g H s)(k:∀b u,s.heap.get? b=some u->w.get? b=some u)(h:s.heap.objs.size<=a)(n:cN X.prog X.w (upd H a o) w a o):
  uP X f g (upd H a o) {s with heap:=w,toks:=t'}:=I.un (Un.laid k h<|I.ay.fresh h) (I.ay.laid k h n)
theorem uP.write(I:uP X f g H s)(m:wK (H x))(h:e=x\/H e=some (.o x))(k:∀b u,b≠e->s.heap.get? b=some u->w.get? b=some u)(F:∃u,w.get? e=some u)(n:cN X.prog X.w (upd H x o) w x o):uP X f g (upd H x o) {s with heap:=w,toks:=t}:=I.un (Un.write m h k F) (I.ay.write m h k F n)
theorem uP.uH(I:uP X f g H s)(h:∀p∈pins',s.heap.get? p.1=some p.2/\H p.1=none/\p.1≠X.env.locals/\p.1∉X.fs/\∀v,p.2.data≠ .cell v):uP X pins' g H s:=
 ⟨I.ok,I.os,I.E,I.base,I.G,I.cell,I.free,I.P,λp a=>(Z4.mp a).elim (λz=>I.pin p<|Zh _ z)<|h p,I.ay,I.len⟩
theorem JJ{N:ca}(h:N.Nodup){j:Nat}(a:N[i]?=some x)(b:N[j]?=some x):i=j:=by
 obtain⟨f,c⟩:=ZS.mp a;obtain⟨d,e⟩:=ZS.mp b;exact(List.getElem_inj h).mp<|c.trans e.symm
theorem JK{A:FM}{E:ge}{Q:AT}(I:uP X f g H s)(hN:X.N.Nodup)(R:X.N[i]?=some x)(D:Yx X.env.scope x)(r:lA v u)(h:∀s',uP X f (g.set i<|some v) H s'->(∃a,Heap.SameBut a s.heap s'.heap/\(a=X.env.locals\/X.env.cells.lookup x=some a))->Q () s')(hf:autoParam (X.fn x=true\/X.env.scope.names.lookup x=some .local) bd):wpAny M A (storeName X.env x u) Q E s:=by
 obtain⟨m,hn,hl⟩:=id I.G;have Wj:(X.env.scope.kind==.class ||(X.env.scope.kind==.module && X.env.locals !=X.env.globals))=false:=I.ok.kind▸O;have JL:i<g.length:=by rw[I.len];exact(ZS.mp R).1
 have mw:=I.mw;have t:∀{a:Do}{w:FS},(∃o,s.heap.get? a=some o/\H a=none)->Heap.SameBut a s.heap w->bX X.prog X.w H w:=λ{a w} ha l b ob e=>by
  obtain⟨_,_,uI⟩:=ha;refine(I.ay b ob e).mr (λc S C q=>(l.2 c ?_).trans q) (λ_ q=>q) λ_ _ q=>q;rintro rfl;rcases C with rfl|C
  rw[uI] at e;cases e;rw[uI] at C;cases C
 rcases D with J|J
 refine wpAny_storeName_local J hn (λw Wk l=>?_) Wj;obtain⟨oL,_,_,Wl,_⟩:=id hn;refine h _ ⟨I.ok,I.os,I.E,⟨λb o e n L D=>?_,λb o e n L D=>?_,I.base.free,λb o e D=>?_,I.base.bx,I.base.iC,I.base.iP⟩,nS _ Wk (λj y W B F e3=>?_),λy c e=>?_,I.free,I.P,λp hp=>?_,t (nS oL Wl I.free) l,by simpa using I.len⟩ (nS _ l (.inl O));exact(l.2 b<|Ze<|ZP (IN e) I.ok.above).trans (I.base.keep b o e n L D);obtain⟨Z,B⟩:=I.base.slot b o e n L D;exact oM Z ((l.2 b<|Ze<|ZP (IN e) I.ok.above).trans B);obtain⟨o',B⟩:=I.base.there b o e D;exact oM o' ((l.2 b<|Ze<|ZP (IN e) I.ok.above).trans B);by_cases K:j=i;subst K;rw[R] at B;cases B;rw[Yl JL] at F;cases F;exact nS u r (.inl ⟨J,aH⟩);rw[Yh<|Ix K] at F;obtain⟨Y,r',q⟩:=hl j y W B F e3;refine nS Y r' ?_;rcases q with⟨k,e⟩|⟨k,c,e,z⟩
 refine .inl ⟨k,?_⟩;have:y≠x:=λe=>K (JJ hN B<|e ▸ R);simp[this,e];exact .inr (qC k c e (z.sameBut l<|mw y c e));obtain⟨S,z⟩:=I.cell y c e;exact oM S (z.sameBut l<|mw y c e);obtain⟨e,n,T,nf,d⟩:=I.pin p hp;exact⟨(l.2 p.1 T).trans e,n,T,nf,d⟩;have DM:X.fn x=true:=by
  rcases hf with z|z
  exact z;rw[z] at J;cases J
 obtain⟨c,C⟩:=I.ok.has x (.inl J);obtain⟨S,z⟩:=I.cell x c C;refine wpAny_storeName_cell I.ok.kind J C z<|λw eR l=>?_;obtain⟨oc,JM,Wm⟩:=id z;refine h {s with heap:=w} ⟨I.ok,I.os,I.E,⟨λb o e n L D=>?_,λb o e n L D=>?_,I.base.free,λb o e D=>?_,I.base.bx,I.base.iC,I.base.iP⟩,nS m (hn.sameBut l<|Ix<|mw x c C) (λj y W B F e3=>?_),λy U e=>?_,I.free,I.P,λp hp=>?_,t (nS oc JM (I.P x c C)) l,by simpa using I.len⟩ (nS c l (.inr C));exact(l.2 b<|Ze<|ZP (IN e)<|I.ok.zP x c DM C).trans (I.base.keep b o e n L D);obtain⟨Z,B⟩:=I.base.slot b o e n L D;exact oM Z ((l.2 b<|Ze<|ZP (IN e)<|I.ok.zP x c DM C).trans B);obtain⟨o',B⟩:=I.base.there b o e D;exact oM o' ((l.2 b<|Ze<|ZP (IN e)<|I.ok.zP x c DM C).trans B);by_cases K:j=i;subst K;rw[R] at B;cases B;rw[Yl JL] at F;cases F;exact nS u r (.inr (qC (.inl J) c C eR));rw[Yh<|Ix K] at F;obtain⟨Y,r',q⟩:=hl j y W B F e3;refine nS Y r' ?_;rcases q with q|⟨k,U,e,z'⟩
 exact .inl q;refine .inr (qC k U e (z'.sameBut l ?_));rintro rfl;exact K<|JJ hN B<|I.ok.inj _ _ _ e C ▸ R;by_cases rS:U=c;subst rS;exact oM _ eR;obtain⟨w2,z2⟩:=I.cell y U e;exact oM w2 (z2.sameBut l rS);obtain⟨e,n,T,nf,d⟩:=I.pin p hp;refine⟨(l.2 p.1 ?_).trans e,n,T,nf,d⟩;intro q;exact d S aH
theorem JN{A:FM}{E:ge}{Q:AT}(I:uP X f g H s)(e:X.N.Nodup)(c:X.N[i]?=some x)(b:Yx X.env.scope x)(r:lA v u)(h:∀a,uP X f (g.set i<|some v) H a->Q () a)(d:autoParam (X.fn x=true\/X.env.scope.names.lookup x=some .local) bd):wpAny M A (storeName X.env x u) Q E s:=
 JK I e c b r (λa j Y=>h a j) d
theorem uP.DN(I:uP X f g H s)(h:s'.os=s.os)(u:Un (bA X.stack) ch H B s.heap s'.heap)(y:bX X.prog X.w B s'.heap)(a:AllBare s'.gens)(d:∀b∈ch,(b∈X.ex\/X.S.heap.objs.size<=b)/\b≠X.env.locals/\(∀x c,X.env.cells.lookup x=some c->c≠b)/\∀p∈X.n++f,p.1≠b):uP X f g B s':=by
 obtain⟨w,e,i,t,o⟩:=s';subst h;exact I.call u y a d
end
abbrev XK:=EQ->xz->Hp->Prop
abbrev St:=List sB
abbrev Db:=St->Hp->Prop
abbrev VK:=V->Hp->Prop
abbrev TE:=St->Hp->VK->Prop
abbrev TT:=St->Hp->(wv)->Prop
abbrev TA:=St->Hp->(db->Hp->Prop)->Prop
structure WH where
 nx:St->Hp->Prop
 r:VK
 bk:St->Hp->Prop:=λ_ _=>False
 c:St->Hp->Prop:=λ_ _=>False
abbrev TS:=WH->St->Hp->Prop
inductive EP(X:Cx)(D:gh)(a:St)(Q:VK)(u:EQ)(s:Ev):Prop|i(v H)(_:uP X D a H s)(_:lA v u)(_:Q v H)
inductive TP(X:Cx)(D:gh)(a:St)(Q:wv)(b:Gc)(s:Ev):Prop|i(H)(_:uP X D a H s)(_:Q b H)
inductive aoM(X:Cx)(D:gh)(a:St)(Q:db->Hp->Prop)(u:im)(s:Ev):Prop|i(v H)(_:uP X D a H s)(_:Wz v u)(_:Q v H)
def SP(X:Cx)(a:gh)(D:WH)(f:Flow)(s:Ev):Prop:=
 match f with
 |.next=>∃V H,uP X a V H s/\D.nx V H
 |.brk=>∃V H,uP X a V H s/\D.bk V H
 |.cont=>∃V H,uP X a V H s/\D.c V H
 |.ret u=>∃v V H,uP X a V H s/\lA v u/\D.r v H
def PE(X:Cx)(e:Expr)(t:TE):Prop:=
 ∀(D:gh)(s:Ev)(a:St)(H:Hp)(Q:VK),uP X D a H s->t a H Q->wpAny (model X.prog X.w) X.A (eval e X.env) (EP X D a Q) X.xe s
def PT(X:Cx)(e:Expr)(t:TT):Prop:=
 ∀(D:gh)(s:Ev)(a:St)(H:Hp)(Q:wv),uP X D a H s->t a H Q->wpAny (model X.prog X.w) X.A (isTrue e X.env<|eval e X.env) (TP X D a Q) X.xe s
def PW(X:Cx)(e:Expr)(t:TT):Prop:=
 ∀(a:Sem EQ)(D:gh)(s:Ev)(b:St)(H:Hp)(Q:wv),uP X D b H s->t b H Q->wpAny (model X.prog X.w) X.A (isTrue e X.env a) (TP X D b Q) X.xe s
theorem PW.pt(h:PW X e t):PT X e t:=h _
def PA(X:Cx)(e:tz)(t:TA):Prop:=
 ∀(p:Pos)(D:gh)(s:Ev)(a:St)(H:Hp)(Q:db->Hp->Prop),uP X D a H s->t a H Q->wpAny (model X.prog X.w) X.A (spliced<|backTo p<|starEach e X.env) (aoM X D a Q) X.xe s
def PS(X:Cx)(c:Fr)(t:TS):Prop:=
 ∀(b:gh)(s:Ev)(a:St)(H:Hp)(D:WH),uP X b a H s->t D a H->wpAny (model X.prog X.w) X.A (exec c X.env) (SP X b D) X.xe s
def eT(X:Cx)(c:Cl)(t:TS):Prop:=
 ∀(b:gh)(s:Ev)(a:St)(H:Hp)(D:WH),uP X b a H s->t D a H->wpAny (model X.prog X.w) X.A (execs c X.env) (SP X b D) X.xe s
theorem aF{Q b:c->Ev->Prop}{A:FM}{E:ge}{s:Ev}(h:wpAny M A t Q E s)(d:∀a s,Q a s->b a s):wpAny M A t b E s:=KM h d λY Y x=>x
section
variable{X:Cx}
def DO(i:Nat):TE:=λa H Q=>∃v,a[i]?=some (some v)/\Q v H
def tC(v:V):TE:=λ_ H Q=>Q v H
theorem apW(q:X.N[i]?=some x)(g:zO X.env.scope x)(d:autoParam ((x==("__debug__":Str))=false) cn)(f:autoParam ((x==("__classdict__":Str))=false) cn):PE X (.Name x p) (DO i):=by
 intro D s b H Q I h;obtain⟨v,e,h⟩:=h;obtain⟨m,n,o⟩:=I.G;obtain⟨u,r,l⟩:=o i x v q e g;have Y:EP X D b Q u s:=⟨v,H,I,r,h⟩;rcases l with⟨k,j⟩|⟨k,c,a,J⟩
 exact wpAny_Name (wpAny_loadName_local I.ok.kind k n j Y) d;rcases k with k|k
 exact wpAny_Name (wpAny_loadName_cell I.ok.kind k a J Y) d;exact wpAny_Name (wpAny_loadName_free I.ok.kind k a J Y f) d
theorem aaU:PE X (.Constant (.int i) j p) (tC<|.i i):=λY Y Y H Y I h=>wpAny_Constant_int ⟨.i i,H,I.tok _,⟨_,O⟩,h⟩
theorem apY:PE X (.Constant (.bool b) j p) (tC<|.b b):=λY Y Y H Y I h=>Constant_bool ⟨.b b,H,I,O,h⟩
theorem apN:PE X (.Constant .none j p) (tC .a):=λY Y Y H Y I h=>Constant_none ⟨.a,H,I,O,h⟩
theorem aqB:PE X (.Constant (.str x) j p) (tC<|.s x):=λY Y Y H Y I h=>Calls.Constant_str ⟨.s x,H,I.tok _,⟨_,O⟩,h⟩
def Gl(X:Cx)(x:Str):Prop:=X.env.kindOf x=some .globalImplicit
theorem zV{a:St}{Q:ge}(I:uP X D a H s)(g:Gl X x)(m:X.mg x=some u)(h:Q u s)(d:autoParam ((x==("__debug__":Str))=false) cn):wpAny (model X.prog X.w) X.A (eval (.Name x p) X.env) Q E s:=
 Calls.Name_function_global I.ok.kind g (Calls.loadGlobal_global (I.ok.glob▸I.mod.glob.keeps I.bk) m h) d
theorem my{E:ge}{a:St}{u:EQ}{Q:ge}(I:uP X D a H s)(g:Gl X x)(m:X.mg x=none)(v:bootBuiltins x=some u)(h:Q u s)(n:autoParam (x≠"__name__") cn)(d:autoParam ((x==("__debug__":Str))=false) cn):wpAny (model X.prog X.w) X.A (eval (.Name x p) X.env) Q E s:=by
 obtain⟨e,c,b⟩:=I.mod.blt;exact Calls.Name_function_global I.ok.kind g (Calls.loadGlobal_builtin (I.ok.glob▸I.mod.glob.keeps I.bk) m (I.ok.blt▸c.keeps I.bk) ((b x n).trans v) h) d
theorem JP(g:Gl X x)(m:X.mg x=some u)(r:lA v u)(d:autoParam ((x==("__debug__":Str))=false) cn):PE X (.Name x p) (tC v):=
 λY Y Y H Y I h=>zV I g m ⟨v,H,I,r,h⟩ d
theorem agL{u:EQ}(g:Gl X x)(m:X.mg x=none)(a:bootBuiltins x=some u)(r:lA v u)(n:autoParam (x≠"__name__") cn)(d:autoParam ((x==("__debug__":Str))=false) cn):PE X (.Name x p) (tC v):=
 λY Y Y H Y I h=>my I g m a ⟨v,H,I,r,h⟩ n d
variable{a b:Expr}{g i:TE}{f:Pos}
def PC(X:Cx)(o:CmpOp)(a b:Expr)(t:TE):Prop:=
 ∀(D:gh)(s:Ev)(c:St)(H:Hp)(Q:VK),uP X D c H s->t c H Q->
  wpAny (model X.prog X.w) X.A (eval a X.env) (λv U=>wpAny (model X.prog X.w) X.A (eval b X.env) (λu Z=>wpAny (model X.prog X.w) X.A (compareOp o v u) (EP X D c Q) X.xe Z) X.xe U) X.xe s
def tB(t:TE):TT:=λa H Q=>t a H λx d=>∃c,x=.b c/\Q c d
theorem JQ(h:PC X o a b t)(e:behindInMarks o b=false:=by first|exact an3 _ aQ aQ|rfl):PT X (.Compare a [o] [b] f) (tB t):=by
 intro D s g H Q I w;refine wpAny_isTrue_Compare1 (aF (h D s g H _ I w) λv p e=>aF e λu n j=>aF j λc m ⟨x,l,k,r,i⟩=>?_) e;obtain⟨d,rfl,q⟩:=i;cases r;exact SZ ⟨l,k,q⟩
variable{j l:TT}{k:tz}
def JR(t u:TT):TT:=λa H Q=>t a H λc b=>if c=true then u a b Q else Q false b
def JS(t u:TT):TT:=λa H Q=>t a H λc b=>if c=true then Q true b else u a b Q
def JT(t:TT):TT:=λa H Q=>t a H λc b=>Q (!c) b
theorem adY(ha:PT X a j):PW X (.BoolOp .And [a] f) j:=by
 intro wh D' s σ H Q I h;refine isTrue_and<|aF (ha D' s σ H Q I h) λc s1 e=>?_;cases c with
 |true=>exact isTrue_and_nil e
 |false=>exact e
theorem amD(ha:PT X a j):PW X (.BoolOp .Or [a] f) j:=by
 intro wh D' s σ H Q I h;refine isTrue_or<|aF (ha D' s σ H Q I h) λc s1 e=>?_;cases c with
 |false=>exact isTrue_or_nil e
 |true=>exact e
theorem aoY(ha:PT X a j)(hb:PW X (.BoolOp .And (b::k) f) l):PW X (.BoolOp .And (a::b::k) f) (JR j l):=by
 intro wh D' s σ H Q I h;refine isTrue_and<|aF (ha D' s σ H _ I h) λc s1 ⟨H1,I1,q1⟩=>?_;cases c with
 |true=>exact hb wh D' s1 σ H1 Q I1 q1
 |false=>exact⟨H1,I1,q1⟩
theorem amE(ha:PT X a j)(hb:PW X (.BoolOp .Or (b::k) f) l):PW X (.BoolOp .Or (a::b::k) f) (JS j l):=by
 intro wh D' s σ H Q I h;refine isTrue_or<|aF (ha D' s σ H _ I h) λc s1 ⟨H1,I1,q1⟩=>?_;cases c with
 |true=>exact⟨H1,I1,q1⟩
 |false=>exact hb wh D' s1 σ H1 Q I1 q1
theorem agM(e:PT X a j):PT X (.UnaryOp .Not a f) (JT j):=by
 intro D s d H Q I h;exact isTrue_not (aF (e D s d H (λc g=>Q (!c) g) I h) λ_ _⟨a,b,c⟩=>⟨a,b,c⟩)
def JU(g i:TE):TE:=λa H Q=>g a H λx d=>∃c,x=.b c/\if c=true then i a d Q else Q (.b false) d
def Wv(g i:TE):TE:=λa H Q=>g a H λx d=>∃c,x=.b c/\if c=true then Q (.b true) d else i a d Q
theorem alK(h:PE X a t):PE X (.BoolOp o [a] f) t:=λD s b H Q I w=>BoolOp_one (h D s b H Q I w)
theorem akK(n:PE X a g)(m:PE X (.BoolOp .And (b::k) f) i):PE X (.BoolOp .And (a::b::k) f) (JU g i):=by
 intro D s d H Q I h;refine BoolOp_and<|aF (n D s d H _ I h) λv l ⟨x,j,e,r,q⟩=>?_;obtain⟨c,rfl,q⟩:=q;cases r;refine SZ ?_;cases c with
 |true=>exact m D l d j Q e q
 |false=>exact⟨.b false,j,e,O,q⟩
def JV(t:TT)(g i:TE):TE:=λa H Q=>t a H λc b=>if c=true then g a b Q else i a b Q
theorem acC(n:PT X c j)(p:PE X a g)(o:PE X b i):PE X (.IfExp c a b f) (JV j g i):=by
 intro D s e H Q I h;refine wpAny_IfExp<|aF (n D s e H _ I h) λd k ⟨m,l,q⟩=>?_;cases d with
 |true=>exact p D k e m Q l q
 |false=>exact o D k e m Q l q
end
def ag(K:Frag)(H:Hp)(a:Do)(x:db):Prop:=
 Rd H a (.l x)\/
  ∃(o:Obj)(k:sK)(n:Nat),K.lookup a=some o/\o.cls=.type "list"/\o.dict=none/\o.data=.seq k n/\k.size<=sizeLine/\Wz x k.toList
def aA(K:Frag)(H:Hp)(a:Do)(x:db):Prop:=
 Rd H a (.t x)\/
  ∃(o:Obj)(k:sK)(n:Nat),K.lookup a=some o/\o.cls=.type "tuple"/\o.data=.seq k n/\k.size<=sizeLine/\Wz x k.toList
noncomputable def aoZ:EQ->sB
 |.none=>some .a
 |.bool b=>some (.b b)
 |.int i _=>some (.i i)
 |.str x _=>some (.s x)
 |.bytes b _=>some (.h b)
 |.float b _=>some (.pS b)
 |.ref a=>some (.r a)
 |.type n=>some (.t n)
 |_=>none
theorem lA.abs(r:lA x u):aoZ u=some x:=by
 cases x with
 |a=>cases r;rfl
 |b Y=>cases r;rfl
 |i Y=>obtain⟨t,rfl⟩:=r;rfl
 |s Y=>obtain⟨t,rfl⟩:=r;rfl
 |h Y=>obtain⟨t,rfl⟩:=r;rfl
 |pS Y=>obtain⟨t,rfl⟩:=r;rfl
 |r Y=>cases r;rfl
 |t Y=>cases r;rfl
theorem lA.inj{u:EQ}(r:lA x u)(q:lA y u):x=y:=lF (r.abs.symm.trans q.abs)
theorem Wz.inj:∀{x y:db}{u:im},Wz x u->Wz y u->x=y:=by
 intro x y u h;induction h generalizing y with
 |nil=>intro k;cases k;rfl
 |cons r Y i=>
  intro k;cases k with
  |cons a t=>rw[r.inj a,i t]
section
variable{X:Cx}{c:gh}{f:St}{H:Hp}{s:Ev}{a:Do}{b g:db}
theorem ag.of{K:Frag}(h:H a=some (.l b)):ag K H a b:=.inl (.inl h)
theorem aA.of{K:Frag}(h:H a=some (.t b)):aA K H a b:=.inl (.inl h)
theorem uP.list(I:uP X c f H s)(h:ag X.K H a b):∃k:im,Wz b k/\PlainL s.heap a k.toArray/\b.length<=sizeLine:=by
 rcases h with h|⟨o,k,n,g,j,i,d,l,r⟩
 obtain⟨z,k,n,r,e⟩:=h.ok I.ay;exact nT k r (oS _ n e O O O) z;refine nT k.toList r (oS o n (I.dA a o g) j i (by simpa using d)) ?_;have e:=r.length;simp at e;exact Y4 (XX e) l
theorem uP.tuple(I:uP X c f H s)(h:aA X.K H a b):∃k:im,Wz b k/\IsTup s.heap a k.toArray/\b.length<=sizeLine:=by
 rcases h with h|⟨o,k,n,g,i,d,j,r⟩
 obtain⟨z,k,r,p⟩:=h.ok I.ay;exact nT k r p z;refine nT k.toList r (nT o (I.dA a o g) i ⟨n,by simpa using d⟩) ?_;have e:=r.length;simp at e;exact Y4 (XX e) j
theorem uP.DP(I:uP X c f H s)(h:ag X.K H a b)(l:ag X.K H a g):b=g:=by
 obtain⟨m,r,⟨o,n,e,Y,Y,d⟩,Y⟩:=I.list h;obtain⟨i,k,⟨p,q,j,Y,Y,t⟩,Y⟩:=I.list l;rw[e] at j;cases j;have:m=i:=by lia
 subst this;exact r.inj k
end
section
variable{X:Cx}{j:Fr}{k:Cl}{t u:TS}{e:Expr}{g:TE}{i:Pos}
def DQ:TS:=λD a H=>D.nx a H
def JW(t u:TS):TS:=λD a H=>t {D with nx:=u D} a H
theorem JX:eT X [] DQ:=λY Y a H Y I h=>wpAny_execs_nil ⟨a,H,I,h⟩
theorem akB(e:PS X j t)(d:eT X k u):eT X (j::k) (JW t u):=by
 intro a s b H D I h;refine wpAny_execs_cons<|aF (e a s b H {D with nx:=u D} I h) λf c q=>?_;cases f with
 |next=>
  obtain⟨V,i,g,q⟩:=q;exact d a c V i D g q
 |ret v=>exact q
 |brk=>exact q
 |cont=>exact q
def afK:TS:=λD a H=>D.bk a H
def JY:TS:=λD a H=>D.c a H
theorem aqC:PS X (.Continue i) JY:=λY Y a H Y I h=>wpAny_Continue ⟨a,H,I,h⟩
theorem uP.quiet{a:St}(I:uP X D a H s):interactive X.env=false:=by simp[interactive,I.ok.kind]
def JZ(g:TE):TS:=λD a H=>g a H λ_ b=>D.nx a b
theorem amV(c:PE X e g)(b:autoParam (swapsWith e none i.line X.env=pure false) cu):PS X (.Expr e i) (JZ g):=by
 intro j s a H D I h;exact wpAny_Expr_any (aF (c j s a H _ I h) λv k ⟨x,f,d,r,q⟩=>⟨a,f,d,q⟩) I.quiet b
def J0(g:TE):TS:=λD a H=>g a H D.r
theorem afE(b:PE X e g):PS X (.Return (some e) i) (J0 g):=by
 intro f s a H D I h;exact wpAny_Return_some<|aF (b f s a H _ I h) λv j ⟨x,d,c,r,q⟩=>⟨x,a,d,c,r,q⟩
def WI:TS:=λD _ H=>D.r .a H
def J3(c:TT)(t u:TS):TS:=λD a H=>c a H λb d=>if b=true then t D a d else u D a d
theorem alF{g:TT}(m:PT X c g)(o:eT X a t)(n:eT X b u):PS X (.If c a b i) (J3 g t u):=by
 intro f s e H D I h;refine wpAny_If<|aF (m f s e H _ I h) λd j ⟨l,k,q⟩=>?_;cases d with
 |true=>exact o f j e l D k q
 |false=>exact n f j e l D k q
def aiG:TS:=λ_ _ _=>False
end
abbrev TG:=V->St->Hp->(Db)->Prop
abbrev mz:=db->St->Hp->(Db)->Prop
def PG(X:Cx)(a:Expr)(t:TG):Prop:=
 ∀(D:gh)(s:Ev)(b:St)(H:Hp)(v:V)(u:EQ)(Q:Db),uP X D b H s->lA v u->t v b H Q->
  wpAny (model X.prog X.w) X.A (assign a X.env u) (λ_ e=>∃c d,uP X D c d e/\Q c d) X.xe s
def uJ(X:Cx)(c:tz)(t:mz):Prop:=
 ∀(D:gh)(s:Ev)(a:St)(H:Hp)(v:db)(u:im)(Q:Db),uP X D a H s->Wz v u->t v a H Q->
  wpAny (model X.prog X.w) X.A (assignInOrder ((assignEach c X.env).map (·.2)) u) (λ_ d=>∃V b,uP X D V b d/\Q V b) X.xe s
abbrev DR:=V->V->V->Hp->(Hp->Prop)->Prop
def J4(X:Cx)(t:DR):Prop:=
 ∀(D:gh)(s:Ev)(a:St)(H:Hp)(o i v:V)(b c u:EQ)(Q:Hp->Prop),uP X D a H s->lA o b->lA i c->lA v u->t o i v H Q->
  wpAny (model X.prog X.w) X.A (setItem b c u) (λ_ e=>∃d,uP X D a d e/\Q d) X.xe s
section
variable{X:Cx}{d:Pos}
def gA(i:Nat):TG:=λv a H Q=>Q (a.set i<|some v) H
theorem zX(c:X.N.Nodup)(b:X.N[i]?=some x)(a:Yx X.env.scope x)(f:autoParam (X.fn x=true\/X.env.scope.names.lookup x=some .local) bd):PG X (.Name x d) (gA i):=by
 intro D s g H v u Q I r h;exact wpAny_assign_Name<|JN I c b a r (λj e=>⟨_,H,e,h⟩) f
def DS:mz:=λv a H Q=>v=[]/\Q a H
def zY(t:TG)(u:mz):mz:=λs a H Q=>∃v r,s=v::r/\t v a H λV b=>u r V b Q
theorem J5:uJ X [] DS:=by
 intro D s a H v u Q I r h;obtain⟨e,h⟩:=h;subst e;cases r;exact assignInOrder_nil ⟨a,H,I,h⟩
theorem DT(j:PG X e t)(i:uJ X a u)(g:autoParam ((assignEach (e::a) X.env).map (·.2)=assign e X.env::(assignEach a X.env).map (·.2)) cu):uJ X (e::a) (zY t u):=by
 intro D s c H n p Q I r h;obtain⟨v,o,k,h⟩:=h;subst k;cases r with
 |cons r f=>
  rw[g];exact assignInOrder_cons<|aF (j D s c H _ _ _ I r h) λ_ d ⟨b,m,l,q⟩=>i D d b m _ _ Q l f q
def J6(K:Frag)(n:Nat)(t:mz):TG:=λv b H Q=>∃a x,v=.r a/\aA K H a x/\x.length=n/\t x b H Q
theorem J7(p:X.calm=true)(h:uJ X c t)(l:autoParam ((assignEach c X.env).length=n) cu)(V:autoParam ((assignEach c X.env).findIdx? (·.1)=none) cu):PG X (.Tuple c k d) (J6 X.K n t):=by
 intro D s f H v u Q I r w;obtain⟨a,x,y,q,m,w⟩:=w;subst y;cases r;obtain⟨B,g,j,z⟩:=I.tuple q;refine assign_Tuple_tuple (I.ok.hd p) j (by simp[l,<-m,g.length]) V λA i=>?_;exact h D _ f H x _ Q (I.kept λb o e=>i b o (Ze<|IN e) e) aH w
def J8(b c:TE)(t:DR):TG:=λv a H Q=>b a H λo f=>c a f λi e=>t o i v e λd=>Q a d
theorem WM(w:PE X o e)(z:PE X i f)(p:J4 X t)(K:autoParam (∀v,assign (.Subscript o i d) X.env v=(do
   let a <-holding [v] (eval o X.env)
   let b <-holding [v,a] (eval i X.env)
   standAt d
   holding [v,a,b] (setItem a b v)
   release [v,a,b] [])) di):PG X (.Subscript o i d) (J8 e f t):=by
 intro D s c H v u Q I r h;exact GM<|No<|aF (w D s c H _ I h) λa j ⟨x,G,C,l,n⟩=>GM<|No<|aF (z D j c G _ C n) λb g ⟨y,F,B,k,m⟩=>GM<|Tk<|GM<|No<|aF (p D g c F x y v a b u _ B l k r m) λ_ J ⟨E,A,q⟩=>wpAny_release ⟨c,E,A,q⟩
def kS(t:TE)(g:TG):TS:=λD a H=>t a H λx b=>g x a b D.nx
theorem J9(l:PE X e b)(k:PG X t g)(j:autoParam (swapsWithSole [t] e d.line X.env=pure false) cu)(w:autoParam (swappedStores [t] e X.env=pure none) cu)(m:autoParam ((assignEach [t] X.env).map (·.2)=[assign t X.env]) cu):PS X (.Assign [t] e d) (kS b g):=by
 intro c s a H D I h;refine wpAny_Assign_stores (aF (l c s a H _ I h) λv f ⟨x,o,n,r,i⟩=>?_) j w;rw[m];exact aF (k c f a o x v _ n r i) λY p q=>q
theorem ahN(k:X.N.Nodup)(f:X.N[i]?=some x)(b:Yx X.env.scope x)(j:PE X e t)(c:autoParam (swapsWith e (some<|.Name x p) d.line X.env=pure false) cu)(g:autoParam (X.fn x=true\/X.env.scope.names.lookup x=some .local) bd):
  PS X (.Assign [.Name x p] e d) (kS t<|gA i):=by
 intro o s a H D I h;exact wpAny_Assign_Name (aF (j o s a H _ I h) λv w ⟨y,n,m,r,q⟩=>JN m k f b r (λu l=>o3 _ n l q) g) c
def J_(c:TT)(t:TS):TS:=λD a H=>∃W:Nat->St->Hp->Prop,(∃m,W m a H)/\∀m a H,W m a H->
 c a H λb e=>if b=true then ∃N:St->Hp->Prop,(∀V f,N V f->∃d,d<m/\W d V f)/\t {D with nx:=N,c:=N,bk:=D.nx} a e else D.nx a e
theorem apR(x:PassesOwn (model X.prog X.w) X.A X.env X.xe)(R:PT X c r)(S:eT X y u):PS X (.While c y [] d) (J_ r u):=by
 intro p s G H D I h;obtain⟨W,⟨Q,K⟩,t⟩:=h;refine wpAny_While<|codeAny_whileLoop (λn P=>∃V F,uP X p V F P/\W n V F) ?_ Q (o3 G H I K);rintro n M zq;obtain⟨e,E,T,J⟩:=Z2 zq;refine Rs x<|aF (R p M e E _ T<|t n e E J) λb L ⟨C,B,i⟩=>?_;cases b with
 |true=>
  obtain⟨N,z,i⟩:=i;refine Rs x<|aF (S p L e C _ B i) λf U q=>?_;cases f with
  |next=>
   obtain⟨a,g,o,k⟩:=q;obtain⟨m,l,j⟩:=z a g k;exact nS m l ⟨a,g,o,j⟩
  |cont=>
   obtain⟨a,g,o,k⟩:=q;obtain⟨m,l,j⟩:=z a g k;exact nS m l ⟨a,g,o,j⟩
  |brk=>exact q
  |ret v=>exact q
 |false=>
  exact wpAny_execs_nil (o3 e C B i)
end
structure It where
 go:Nat->Hp->Prop
 eE:Nat->Hp->V->Hp->Prop
 stop:Nat->Hp->Prop
def ka(X:Cx)(D:gh)(H:Hp)(b:Do):Prop:=
 H b=none/\b≠X.env.locals/\b∉X.fs/\(b∈X.ex\/X.S.heap.objs.size<=b)/\(∀x c,X.env.cells.lookup x=some c->c≠b)/\∀p∈X.n++D,p.1≠b
theorem uP.DU{a:St}{b:Do}(I:uP X D a H s)(h:s.heap.objs.size<=b)(n:H' b=none):ka X D H' b:=by
 refine⟨n,XF<|ZP I.lt h,I.JG h,.inr<|Y4 I.sz h,λx c e z=>?_,λp d z=>?_⟩;obtain⟨v,q⟩:=I.cell x c e;cases Xx _ (ZP q.lt aH);cases Xx _ (ZP (IN (I.pin p d).1) aH)
structure jS(P:Fk)(w:Fa)(K:Frag)(tg:Expr)(J:It)(fp:ii)(it:Do)(tn:Nat->FS->Prop):Prop where
 mem:it∈fp
 obj:∀i h,tn i h->∀b∈fp,∃o,h.get? b=some o/\∀v,o.data≠ .cell v
 keep:∀i h h',tn i h->(∀b∈fp,∀o,h.get? b=some o->h'.get? b=some o)->tn i h'
 item:∀(X:Cx),X.prog=P->X.w=w->X.K=K->X.calm=true->∀(i:Nat)(D':gh)(s:Ev)(σ:St)(H:Hp)(E:ge),uP X D' σ H s->(∀b∈fp,ka X D' H b)->tn i s.heap->J.go i H->
  wpAny (model P w) X.A (pyNext (.ref it)) (λr s1=>∃u,r=some u/\
   wpAny (model P w) X.A (letOwnedTupleGo tg (.ref it) u) (λ_ s2=>∃x H',uP X D' σ H' s2/\lA x u/\J.eE i H x H'/\tn (i+1) s2.heap/\∀b∈fp,H' b=none) E s1) E s
 done:∀(X:Cx),X.prog=P->X.w=w->X.K=K->X.calm=true->∀(i:Nat)(D':gh)(s:Ev)(σ:St)(H:Hp)(E:ge),uP X D' σ H s->(∀b∈fp,ka X D' H b)->tn i s.heap->J.stop i H->
  wpAny (model P w) X.A (pyNext<|.ref it) (λr s1=>r=none/\uP X D' σ H s1) E s
 self:∀(A:FM)(i:Nat)(s:Ev)(Q:ge)(E:ge),tn i s.heap->Q (.ref it) s->wpAny (model P w) A (pyIter<|.ref it) Q E s
abbrev TI:=St->Hp->(It->Hp->Prop)->Prop
def Ka(X:Cx)(D:gh)(a:St)(g:Expr)(R:It->Hp->Prop)(r:EQ)(s:Ev):Prop:=
 ∃(i:Do)(f:ii)(t:Nat->FS->Prop)(J:It)(H:Hp),r=.ref i/\uP X D a H s/\jS X.prog X.w X.K g J f i t/\t 0 s.heap/\(∀b∈f,ka X D H b)/\R J H
def PI(X:Cx)(t i:Expr)(b:TI):Prop:=
 ∀(D:gh)(s:Ev)(a:St)(H:Hp)(R:It->Hp->Prop),uP X D a H s->b a H R->
  wpAny (model X.prog X.w) X.A (eval i X.env) (λv c=>wpAny (model X.prog X.w) X.A (pyIter v) (Ka X D a t R) X.xe c) X.xe s
theorem Kb{A:FM}{E:ge}{i:Do}{u:EQ}{n:GE}{v:sK}{Q:AT}(a:s.heap.get? i=some o)(c:o.cls=.type n)(d:o.data=.fields v)(b:["enumerate","zip","dict_itemiterator","dict_reverseitemiterator","odict_iterator","itertools.zip_longest","itertools.pairwise"].contains n=false)(h:Q () s):wpAny M A (letOwnedTupleGo t (.ref i) u) Q E s:=by
  cases t<;>first
    |exact IO h
    | (cases u<;>first
        |exact IO h
        | (refine GM (wpAny_load a ?_)
           rw[c,d];show wpAny M A (if (["enumerate","zip","dict_itemiterator","dict_reverseitemiterator","odict_iterator","itertools.zip_longest","itertools.pairwise"].contains n && v[0]?==some (rawInt _))=true then _ else _) Q E s;rw[Id aH];exact IO h))
def dH(K:Frag)(a:Do):It:=
 ⟨λi H=>∃s x,ag K H a s/\s[i]?=some x,λi H x b=>b=H/\∀s,ag K H a s->s[i]?=some x,λi H=>∃s,ag K H a s/\s.length<=i⟩
def WQ(K:Frag)(a:Do):It:=
 ⟨λi H=>∃s x,aA K H a s/\s[i]?=some x,λi H x b=>b=H/\∀s,aA K H a s->s[i]?=some x,λi H=>∃s,aA K H a s/\s.length<=i⟩
noncomputable def dY(l:Int)(n:Nat):It:=⟨λi _=>i<n,λi H x a=>a=H/\x=.i (l+i),λi _=>n<=i⟩
theorem agD{K:Frag}(a g:Do):jS P w K R (dH K a) [g] g (λi h=>h.IsListIter g a i) where
 mem:=by simp
 obj:=λi h t b f=>by
  have e:=by simpa using f
  subst e;obtain⟨o,e,c,d⟩:=t;exact nS o e (λv z=>by lia)
 keep:=λi h L t k=>t.at λo e=>k g aP o e
 item:=by
  intro X y m A J i D' s N H E I j t n;subst y m A;obtain⟨Q,x,q,l⟩:=n;obtain⟨ak,r,p,U⟩:=I.list q;obtain⟨u,W,T⟩:=r.get l;obtain⟨G,F,Y,D,C,B⟩:=Xt (j g aP);refine wpAny_pyNext_list_item t p.isList (by simpa using W) λL M S=>?_;obtain⟨o,e,c,d⟩:=id M;exact nS u O (Kb e c d (O) (oS x H (I.turned (λb o f e=>(S.2 b f).trans e) G F D C B) T ⟨O,λys V=>by rw[I.DP V q];exact l⟩ ⟨M,λb f=>(j b f).1⟩))
 done:=by
  intro X y m A J i D' s N H E I j t n;subst y m A;obtain⟨Q,q,l⟩:=n;obtain⟨ak,r,p,U⟩:=I.list q;obtain⟨G,F,Y,D,C,B⟩:=Xt (j g aP);have hl:=r.length;exact wpAny_pyNext_list_end (I.ok.hd J) t p.isList bc λL Z=>⟨O,I.turned (λb o f e=>Z b o f e) G F D C B⟩
 self:=λ_ _ _ _ _ t h=>wpAny_pyIter_listiter t h
theorem apL{K:Frag}(c:Do)(l:Int)(n:Nat):jS P w K J (dY l n) [c] c (λi h=>IsRangeIter h c (l+(i:Nat)*1) ((n:Int) - (i:Nat)) 1) where
 mem:=by simp
 obj:=λi h a b d=>by
  have e:=by simpa using d
  subst e;exact nS _ a (λv z=>by
   cases z)
 keep:=λi h m a k=>k c aP _ a
 item:=by
  intro X B A C j i D s y H E I f a g;subst B A C;obtain⟨x,u,N,r,q,p⟩:=Xt (f c aP);refine (Walks.range (I.ok.hd j) c l 1 n).item i s _ _ g a λv m G M F L=>?_;obtain⟨t,rfl⟩:=M;have R:uP X D y H {s with heap:=m,toks:=G}:=I.turned (λb o d e=>L b o (by simpa using d) e) x u r q p;refine nS _ O (Kb F O O (O) (oS (.i<|l+i) H R ⟨t,?_⟩ ⟨O,O⟩ ⟨F,λb d=>(f b d).1⟩));rw[Int.mul_one]
 done:=by
  intro X B A C j i D s y H E I f a g;obtain⟨x,u,N,r,q,p⟩:=f c aP;exact wpAny_pyNext_range_end (I.ok.hd j) a (by have:n<=i:=g;lia) λm Q=>⟨O,I.turned (λb o d e=>Q b o d e) x u r q p⟩
 self:=λY Y Y Y Y a h=>wpAny_pyIter_rangeiter a h
section
variable{X:Cx}{c:Expr}
def DV(K:Frag)(t:TE):TI:=λc H R=>t c H λx b=>∃a,x=.r a/\(∃s,ag K b a s)/\R (dH K a) b
def amU(K:Frag)(t:TE):TI:=λc H R=>t c H λx b=>∃a,x=.r a/\(∃s,aA K b a s)/\R (WQ K a) b
theorem alS(k:PE X l t):PI X c l (DV X.K t):=by
 intro D s g H R I h;refine aF (k D s g H _ I h) λv f ⟨x,n,d,r,i⟩=>?_;obtain⟨a,e,⟨u,j⟩,q⟩:=i;subst e;cases r;obtain⟨y,w,p,z⟩:=d.list j;refine wpAny_pyIter_list p.isList (pR f.heap.objs.size [f.heap.objs.size] _ _ n O (d.kept λb o e=>KF _ e) (agD a _) (nT _ (Nr _ O) O O) (λb m=>?_) q);have e:=by simpa using m
 subst e;exact d.DU (ZX _)<|d.ay.fresh<|ZX _
theorem Kc{a:St}{E:ge}(I:uP X D a H s)(m: -(2 ^ 62)<=l)(j:l<2 ^ 62)(i: -(2 ^ 62)<=h)(g:h<2 ^ 62)(q:R (dY l (h - l).toNat) H):wpAny (model X.prog X.w) X.A (pyIter<|.ref s.heap.objs.size) (Ka X D a c R) E {s with heap:=s.heap.push {cls:=.type "range",data:=.fields #[.int l t,.int h u,.int 1 v]},toks:=k}:=by
 refine wpAny_pyIter_range (IsRange.new ..) (small_one m j i g) ?_;have d:uP X D a H {s with heap:=s.heap.push {cls:=.type "range",data:=.fields #[.int l t,.int h u,.int 1 v]},toks:=k}:=I.kept λb o e=>KF _ e;refine⟨(s.heap.push {cls:=.type "range",data:=.fields #[.int l t,.int h u,.int 1 v]}).objs.size,[(s.heap.push {cls:=.type "range",data:=.fields #[.int l t,.int h u,.int 1 v]}).objs.size],_,_,H,O,
  d.kept λb o e=>KF _ e,apL _ l (h - l).toNat,?_,λb f=>?_,q⟩
 have p:l+((0:Nat):Int)*1=l:=by lia
 have n:(((h - l).toNat:Nat):Int) - ((0:Nat):Int)=Builtin.Range.rangeSize l h 1:=by rw[rangeSize_one];split<;>omega
 rw[p,n];exact Nr _ O;have e:b=(s.heap.push {cls:=.type "range",data:=.fields #[.int l t,.int h u,.int 1 v]}).objs.size:=by simpa using f
 subst e;exact d.DU (ZX _)<|d.ay.fresh<|ZX _
def Kd(t:TA):TI:=λa H R=>t a H λv b=>∃j:Int,v=[.i j]/\ -(2 ^ 62)<=j/\j<2 ^ 62/\R (dY 0 j.toNat) b
def Ke(t:TA):TI:=λa H R=>t a H λv b=>∃i j:Int,v=[.i i,.i j]/\(-(2 ^ 62)<=i/\i<2 ^ 62/\ -(2 ^ 62)<=j/\j<2 ^ 62)/\R (dY i (j - i).toNat) b
theorem aqD(o:Gl X "range")(n:X.mg "range"=none)(u:PA X [a] f)(m:autoParam (starEach [a] X.env=[(false,eval a X.env)]) cu):PI X c (.Call (.Name "range" p) [a] [] b) (Kd f):=by
 intro D s g H R I h;refine Call_<|my I o n boot_range<|Pi (aF (u b D s g H _ I h) λx y ⟨w,z,v,k,d⟩=>?_) m O;obtain⟨j,e,d,l,q⟩:=d;subst e;cases k with
 |cons r i=>
  cases i;obtain⟨t,rfl⟩:=r;exact call_range_1<|Kc v aH aH d l aH
theorem apV(x:Gl X "range")(w:X.mg "range"=none)(y:PA X [a,b] k)(F:autoParam (starEach [a,b] X.env=[(false,eval a X.env),(false,eval b X.env)]) cu)(T:autoParam (starEach [b] X.env=[(false,eval b X.env)]) cu):
  PI X c (.Call (.Name "range" p) [a,b] [] d) (Ke k):=by
 intro D s l H R I h;refine Call_<|my I x w boot_range<|Pi (aF (y d D s l H _ I h) λB E ⟨A,G,z,m,g⟩=>?_) aH (T▸O);obtain⟨i,j,e,⟨g,v,u,o⟩,q⟩:=g;subst e;cases m with
 |cons r f=>
  cases f with
  |cons n f=>
   cases f;obtain⟨t,rfl⟩:=r;obtain⟨C,rfl⟩:=n;exact call_range_2<|Kc z g v u o q
def zZ(w:TI)(g:TG)(t:TS):TS:=λD a H=>w a H λJ h=>∃W:Nat->Nat->St->Hp->Prop,(∃m,W 0 m a h)/\∀i m a H,W i m a H->
 (J.stop i H/\D.nx a H)\/(J.go i H/\∃N:St->Hp->Prop,(∀V b,N V b->∃e,e<m/\W (i+1) e V b)/\∀x b,J.eE i H x b->g x a b λd f=>t {D with nx:=N,c:=N,bk:=D.nx} d f)
noncomputable def uK(f:ii)(h:FS):gh:=f.filterMap λb=>(h.get? b).map λo=>(b,o)
theorem z6(a:b∈f)(e:h.get? b=some o):(b,o)∈uK f h:=Wg.mpr ⟨b,a,e▸O⟩
theorem ahZ(a:p∈uK f h):p.1∈f/\h.get? p.1=some p.2:=by
 obtain⟨b,c,e⟩:=Wg.mp a;cases q:h.get? b with
 |none=>rw[q] at e;cases e
 |some o=>
  rw[q] at e;have d:=lF e;subst d;exact⟨c,q⟩
theorem uP.pinned{a:St}{f:ii}(I:uP X D a H s)(j:∀b∈f,ka X D H b)(i:∀b∈f,∃o,s.heap.get? b=some o/\∀v,o.data≠ .cell v):uP X (D++uK f s.heap) a H s:=
 I.uH λp g=>(Z4.mp g).elim (λz=>I.pin p<|cQ _ z) λz=>by
  obtain⟨h,e⟩:=ahZ z;obtain⟨m,l,k,Y⟩:=YG (j p.1 h);obtain⟨o,c,d⟩:=i p.1 h;rw[e] at c;cases c;exact⟨e,m,l,k,d⟩
theorem uP.DW{a:St}(I:uP X (D++l) a H s):uP X D a H s:=I.uH λp h=>I.pin p (cQ _<|Zh _ h)
theorem Kf(L:PassesOwn (model X.prog X.w) X.A X.env X.xe)(hc:X.calm=true)(hi:PI X c z wi)(hg:PG X c g)(k:eT X B tb)(hs:∀x,foldedSetIterable z X.env x=pure x:=by intro _;rfl):PS X (.For c z B [] Y) (zZ wi g tb):=by
 intro C s σ H D I h;refine wpAny_For (aF (hi C s σ H _ I h) λv s1 h1=>aF h1 λrT s2 h2=>?_) hs;obtain⟨it,M,tn,J,H2,e,I2,T,wN,f2,W,⟨m0,w0⟩,E⟩:=h2;subst e;have U:∀{t:Hp},(∀b∈M,t b=none)->∀b∈M,ka X C t b:=λhn b k=>⟨hn b k,(f2 b k).2⟩;refine codeAny_forLoop_any (λn s'=>∃i V t,uP X C V t s'/\tn i s'.heap/\(∀b∈M,t b=none)/\W i n V t) ?_ m0 (qQ 0 σ H2 I2 wN (λb k=>(f2 b k).1) w0);rintro n s3 zq;obtain⟨i,j,P,zq⟩:=jR zq;obtain⟨I3,Kg,Kh,w3⟩:=YG zq;rcases E i n j P w3 with⟨F,qn⟩|⟨go,N,hN,G⟩
 refine Rs L (aF (T.done X O O O hc i C s3 j P X.xe I3 (U Kh) Kg F) λr s4 ⟨Z,I4⟩=>?_);subst Z;exact wpAny_execs_nil (o3 j P I4 qn);refine Rs L (aF (T.item X O O O hc i C s3 j P X.xe I3 (U Kh) Kg go) λr s4 ⟨u,Z,h4⟩=>?_);subst Z;refine Rs L<|aF h4 λ_ s5 ⟨x,H5,I5,r5,y5,S,DX⟩=>Rs L<|aF (hg _ s5 j H5 x u _ (I5.pinned (U DX) (T.obj _ _ S)) r5<|G x H5 y5) λ_ s6 ⟨Q,H6,I6,q6⟩=>Rs L<|aF (k _ s6 Q H6 _ I6 q6) λf R y=>?_;have l:∀{a:St}{q:Hp},uP X (C++uK M s5.heap) a q R->N a q->∃m,m<n/\∃i V t,uP X C V t R/\tn i R.heap/\(∀b∈M,t b=none)/\W i m V t:=λ{a q} p K=>by
  obtain⟨m',hm,w7⟩:=hN a q K;refine nS m' hm ⟨i+1,a,q,p.DW,T.keep _ _ _ S λb k o e=>(p.pin (b,o)<|cQ _<|cQ _<|z6 k e).1,λb k=>?_,w7⟩;obtain⟨o,e,d⟩:=T.obj _ _ S b k;exact(p.pin (b,o)<|cQ _<|cQ _<|z6 k e).2.1
 cases f with
 |next=>obtain⟨a,q,p,K⟩:=y;exact l p K
 |cont=>obtain⟨a,q,p,K⟩:=y;exact l p K
 |brk=>obtain⟨a,q,p,y⟩:=y;exact o3 a q p.DW y
 |ret v=>obtain⟨x7,a,q,zq⟩:=jR y;obtain⟨p,r7,y⟩:=Z5 zq;exact rP x7 a ⟨q,p.DW,r7,y⟩
end
theorem kU{K:Frag}{g:TG}{t:TS}{D:WH}(P:Nat->St->Hp->Prop)(r:P 0 b H)(l:∀i b H,i<=xs.length->P i b H->ag K H a xs)(s:∀i x b H,xs[i]?=some x->P i b H->g x b H λd h=>t {D with nx:=P (i+1),c:=P (i+1),bk:=D.nx} d h)(o:∀b H,P xs.length b H->D.nx b H):
  ∃W:Nat->Nat->St->Hp->Prop,(∃m,W 0 m b H)/\∀i m b H,W i m b H->
   ((dH K a).stop i H/\D.nx b H)\/((dH K a).go i H/\∃N:St->Hp->Prop,(∀V f,N V f->∃j,j<m/\W (i+1) j V f)/\∀x f,(dH K a).eE i H x f->g x b f λd h=>t {D with nx:=N,c:=N,bk:=D.nx} d h):=by
 refine nS (λi m b H=>m=xs.length - i/\i<=xs.length/\P i b H) (nT xs.length O (Y_ _) r) ?_;rintro i m b H ⟨rfl,n,p⟩;have q:=l i b H n p;by_cases B:i<xs.length;refine .inr (qC (o3 xs (xs[i]) q aP) (P<|i+1) (λV f k=>pQ (xs.length - (i+1)) aH O B k) (λx f y=>?_));obtain⟨e,y⟩:=y;subst e;exact s i x b _ (y xs q) p;have e:i=xs.length:=XZ n (Z6 B)
 subst e;exact .inl ⟨nS xs q (ZX _),o b H p⟩
theorem rX{lo:Int}{g:TG}{t:TS}{D:WH}(P:Nat->St->Hp->Prop)(l:P 0 a H)(s:∀i a H,i<n->P i a H->g (.i<|lo+i) a H λb f=>t {D with nx:=P (i+1),c:=P (i+1),bk:=D.nx} b f)(k:∀a H,P n a H->D.nx a H):
  ∃W:Nat->Nat->St->Hp->Prop,(∃m,W 0 m a H)/\∀i m a H,W i m a H->
   ((dY lo n).stop i H/\D.nx a H)\/((dY lo n).go i H/\∃N:St->Hp->Prop,(∀V d,N V d->∃h,h<m/\W (i+1) h V d)/\∀x d,(dY lo n).eE i H x d->g x a d λb f=>t {D with nx:=N,c:=N,bk:=D.nx} b f):=by
 refine nS (λi m a H=>m=n - i/\i<=n/\P i a H) (nT n O (Y_ _) l) ?_;rintro i m a H ⟨rfl,o,p⟩;by_cases B:i<n;refine .inr (qC B (P<|i+1) (λV d j=>pQ (n - (i+1)) aH O B j) (λx d y=>?_));obtain⟨e,y⟩:=y;subst e y;exact s i a _ B p;have e:i=n:=XZ o (Z6 B)
 subst e;exact .inl ⟨ZX _,k a H p⟩
abbrev R2:=V->V->Hp->VK->Prop
def bj(X:Cx)(f:EQ->EQ->Sem EQ)(r:R2):Prop:=
 ∀(D:gh)(s:Ev)(a:St)(H:Hp)(x y:V)(v u:EQ)(Q:VK),uP X D a H s->lA x v->lA y u->r x y H Q->
  wpAny (model X.prog X.w) X.A (f v u) (EP X D a Q) X.xe s
def z7(X:Cx)(f:EQ->Sem EQ)(r:V->Hp->VK->Prop):Prop:=
 ∀(D:gh)(s:Ev)(a:St)(H:Hp)(x:V)(v:EQ)(Q:VK),uP X D a H s->lA x v->r x H Q->
  wpAny (model X.prog X.w) X.A (f v) (EP X D a Q) X.xe s
def eG(X:Cx)(f:EQ)(r:db->Hp->VK->Prop):Prop:=
 ∀(D:gh)(s:Ev)(a:St)(H:Hp)(x:db)(u:im)(Q:VK),uP X D a H s->Wz x u->r x H Q->
  wpAny (model X.prog X.w) X.A (call f u) (EP X D a Q) X.xe s
def adH(X:Cx)(r:V->Hp->(wv)->Prop):Prop:=
 ∀(D:gh)(s:Ev)(a:St)(H:Hp)(x:V)(v:EQ)(Q:wv),uP X D a H s->lA x v->r x H Q->
  wpAny (model X.prog X.w) X.A (truthy v) (TP X D a Q) X.xe s
def gB(r:R2)(b t:TE):TE:=λa H Q=>b a H λx d=>t a d λy c=>r x y c Q
def Ki(r:V->Hp->VK->Prop)(t:TE):TE:=λa H Q=>t a H λx b=>r x b Q
def rI(C:Int->Int->Prop)(g:Int->Int->V):R2:=λx y H Q=>∃i j,x=.i i/\y=.i j/\C i j/\Q (g i j) H
def nW(g:Int->Int->V):R2:=λx y H Q=>∃i j,x=.i i/\y=.i j/\Q (g i j) H
def rU(g:Int->V):V->Hp->VK->Prop:=λx H Q=>∃i,x=.i i/\Q (g i) H
section
variable{X:Cx}{a b c:Expr}{d e tc:TE}{k:Pos}
theorem DY(p:PE X a d)(o:PE X b e){c:St}{R:V->V->Hp->Prop}(I:uP X D c H s)(h:d c H λx j=>e c j λy g=>R x y g){Q:ge}{f:EQ->EQ->Sem EQ}(n:∀v u i x y g,uP X D c g i->lA x v->lA y u->R x y g->wpAny (model X.prog X.w) X.A (f v u) Q X.xe i):
  wpAny (model X.prog X.w) X.A (eval a X.env) (λv U=>wpAny (model X.prog X.w) X.A (eval b X.env) (λu Z=>wpAny (model X.prog X.w) X.A (f v u) Q X.xe Z) X.xe U) X.xe s:=by
 exact aF (p D s c H _ I h) λv k ⟨x,j,z,l,m⟩=>aF (o D k c j _ z m) λu i ⟨y,g,t,r,q⟩=>n v u i x y g t l r q
theorem aeZ(j:bj X (binaryOp o) r)(m:PE X a d)(l:PE X b e):PE X (.BinOp a o b k) (gB r d e):=by
 intro D s c H Q I h;exact wpAny_BinOp<|DY m l I h λv u f x y p n i g q=>j D f c p x y v u Q n i g q
theorem W0(f:z7 X (unaryOp o) r)(g:PE X a d):PE X (.UnaryOp o a k) (Ki r d):=by
 intro D s b H Q I h;exact UnaryOp_<|aF (g D s b H _ I h) λv c ⟨x,j,i,e,q⟩=>f D c b j x v Q i e q
theorem z8{g:Int->Int->Int}(r:∀(i j:Int)(t u:Tok)(s:Ev)(Q:ge)(E:ge),C i j->Q (.int (g i j) s.toks) {s with toks:=s.toks+1}->wpAny (model X.prog X.w) X.A (f (.int i t)<|.int j u) Q E s):
  bj X f (rI C λi j=>.i (g i j)):=by
 intro D s e H x y v u Q I c b h;obtain⟨i,j,rfl,rfl,d,q⟩:=h;obtain⟨t,rfl⟩:=c;obtain⟨a,rfl⟩:=b;exact r i j t a s _ _ d ⟨.i<|g i j,H,I.tok _,⟨_,O⟩,q⟩
theorem Kj{g:Int->Int->Int}(r:∀(i j:Int)(t u:Tok)(s:Ev)(Q:ge)(E:ge),Q (.int (g i j) s.toks) {s with toks:=s.toks+1}->wpAny (model X.prog X.w) X.A (f (.int i t)<|.int j u) Q E s):
  bj X f (nW λi j=>.i (g i j)):=by
 intro D s d H x y v u Q I c b h;obtain⟨i,j,rfl,rfl,q⟩:=h;obtain⟨t,rfl⟩:=c;obtain⟨a,rfl⟩:=b;exact r i j t a s _ _ ⟨.i<|g i j,H,I.tok _,⟨_,O⟩,q⟩
theorem z9{g:Int->Int->Gc}(r:∀(i j:Int)(t u:Tok)(s:Ev)(Q:ge)(E:ge),Q (.bool<|g i j) s->wpAny (model X.prog X.w) X.A (f (.int i t)<|.int j u) Q E s):
  bj X f (nW λi j=>.b (g i j)):=by
 intro D s e H x y v u Q I d c h;obtain⟨i,j,rfl,rfl,q⟩:=h;obtain⟨t,rfl⟩:=d;obtain⟨a,rfl⟩:=c;exact r i j t a s _ _ ⟨.b<|g i j,H,I,O,q⟩
def Kk(i j:Int):Prop:=0<j/\j<1073741824
def Kl(i j:Int):Prop:=0<=j/\j<=1000000/\i.natAbs<2 ^ 64
def uL(i j:Int):Prop:=(-(2 ^ 64) <i/\i<2 ^ 64)\/(-(2 ^ 64) <j/\j<2 ^ 64)
theorem uL.ok(h:uL i j):IntMulOk i j:=by
 rcases h with⟨b,a⟩|⟨b,a⟩
 exact .of_left (intBits_le_64 b a);exact .of_right (intBits_le_64 b a)
theorem aeR:bj X (binaryOp .Add) (nW λi j=>.i (i+j)):=Kj λY Y Y Y Y Y Y q=>add_int q
theorem akA:bj X (binaryOp .Sub) (nW λi j=>.i (i - j)):=Kj λY Y Y Y Y Y Y q=>sub_int q
theorem alG:bj X (binaryOp .Mult) (rI uL λi j=>.i (i*j)):=z8 λY Y Y Y Y Y Y h q=>mul_int q h.ok
theorem anW:bj X (binaryOp .FloorDiv) (rI Kk λi j=>.i (i / j)):=z8 λi j Y Y Y Y Y h q=>by
 have b:=h.1;have a:=h.2;exact floordiv_int (by omega) (by rw[Int.fdiv_eq_ediv_of_nonneg i (by omega)];exact q)<|.inl<|PyProof.noPylong_small (by omega)
theorem apK:bj X (binaryOp .Mod) (rI (λY j=>0<j) λi j=>.i (i % j)):=z8 λi j Y Y Y Y Y h q=>by
 exact mod_int' (vB h) (by rw[Int.fmod_eq_emod_of_nonneg i (by omega)];exact q)
theorem afN:bj X (binaryOp .Pow) (rI Kl λi j=>.i (i ^ j.toNat)):=z8 λY Y Y Y Y Y Y h q=>pow_int_small h.1 h.2.1 h.2.2 q
theorem akC{g:Int->Int}(r:∀(i:Int)(t:Tok)(s:Ev)(Q:ge)(E:ge),Q (.int (g i) s.toks) {s with toks:=s.toks+1}->wpAny (model X.prog X.w) X.A (f<|.int i t) Q E s):
  z7 X f (rU λi=>.i (g i)):=by
 intro D s b H x v Q I a h;obtain⟨i,rfl,q⟩:=h;obtain⟨t,rfl⟩:=a;exact r i t s _ _ ⟨.i<|g i,H,I.tok _,⟨_,O⟩,q⟩
theorem aoL:z7 X (unaryOp .USub) (rU λi=>.i (-i)):=akC λY Y Y Y Y q=>neg_int q
end
noncomputable def mB:V->V->Gc
 |.a,.a=>true|.a,.i _=>true|.i _,.a=>true|.a,.b _=>true|.b _,.a=>true|.a,.s _=>true|.s _,.a=>true
 |.i _,.i _=>true|.b _,.b _=>true|.s _,.s _=>true|.h _,.h _=>true
 |.i _,.s _=>true|.s _,.i _=>true|.b _,.s _=>true|.s _,.b _=>true
 |_,_=>false
def Xi:R2:=λx y H Q=>mB x y=true/\Q (.b<|decide<|x=y) H
def amX:R2:=λx y H Q=>mB x y=true/\Q (.b<|!decide (x=y)) H
theorem Km:decide (V.i i=V.i j)=(i==j):=by lia
theorem Kn:decide (V.b i=V.b j)=(i==j):=by lia
theorem iD:decide (V.s i=V.s j)=(i==j):=by lia
theorem Ko:decide (V.h i=V.h j)=(i.toList==j.toList):=by
 rw[zcc];cases i;cases j;simp
section
variable{X:Cx}{a b c:Expr}{g l o:TE}{w:Pos}
theorem cC{a:St}{c:Gc}(I:uP X D a H s)(q:Q (.b k) H)(e:k=c):EP X D a Q (.bool c) s:=by
 subst e;exact⟨.b k,H,I,O,q⟩
theorem aeK:bj X (compareOp .Eq) Xi:=by
 intro D s f H x y v u Q I e r h;obtain⟨d,q⟩:=h;cases x with
 |a=>
  cases e;cases y with
  |a=>cases r;exact PySem.EqNone.eq_none_none (cC I q (O))
  |b j=>cases r;exact PySem.EqNone.eq_none_bool (cC I q (O))
  |i j=>obtain⟨c,rfl⟩:=r;exact PySem.EqNone.eq_none_int (cC I q (O))
  |s j=>obtain⟨c,rfl⟩:=r;exact PySem.EqNone.eq_none_str (cC I q (O))
  |_=>exact absurd (show false=true from d) Yi
 |b i=>
  cases e;cases y with
  |a=>cases r;exact PySem.EqNone.eq_bool_none (cC I q (O))
  |b j=>cases r;exact eq_bool (cC I q Kn)
  |s j=>obtain⟨c,rfl⟩:=r;exact PySem.EqMixed.eq_bool_str (cC I q aH)
  |_=>exact absurd (show false=true from d) Yi
 |i i=>
  obtain⟨t,rfl⟩:=e;cases y with
  |a=>cases r;exact PySem.EqNone.eq_int_none (cC I q (O))
  |i j=>obtain⟨c,rfl⟩:=r;exact eq_int (cC I q Km)
  |s j=>obtain⟨c,rfl⟩:=r;exact PySem.EqMixed.eq_int_str (cC I q aP)
  |_=>exact absurd (show false=true from d) Yi
 |s i=>
  obtain⟨t,rfl⟩:=e;cases y with
  |a=>cases r;exact PySem.EqNone.eq_str_none (cC I q aP)
  |b j=>cases r;exact PySem.EqMixed.eq_str_bool (cC I q aP)
  |i j=>obtain⟨c,rfl⟩:=r;exact PySem.EqMixed.eq_str_int (cC I q aP)
  |s j=>obtain⟨c,rfl⟩:=r;exact eq_str (cC I q iD)
  |_=>exact absurd (show false=true from d) Yi
 |h i=>
  obtain⟨t,rfl⟩:=e;cases y with
  |h j=>obtain⟨c,rfl⟩:=r;exact PySem.W.eq_bytes (cC I q Ko)
  |_=>exact absurd (show false=true from d) Yi
 |_=>cases y<;>exact absurd (show false=true from d) Yi
theorem apH:bj X (compareOp .NotEq) amX:=by
 intro D s f H x y v u Q I e r h;obtain⟨d,q⟩:=h;cases x with
 |a=>
  cases e;cases y with
  |a=>cases r;exact PySem.EqNone.ne_none_none (cC I q (O))
  |b j=>cases r;exact PySem.EqNone.ne_none_bool (cC I q (O))
  |i j=>obtain⟨c,rfl⟩:=r;exact PySem.EqNone.ne_none_int (cC I q (O))
  |s j=>obtain⟨c,rfl⟩:=r;exact PySem.EqNone.ne_none_str (cC I q (O))
  |_=>exact absurd (show false=true from d) Yi
 |b i=>
  cases e;cases y with
  |a=>cases r;exact PySem.EqNone.ne_bool_none (cC I q (O))
  |b j=>cases r;exact ne_bool (cC I q<|IR not Kn)
  |s j=>obtain⟨c,rfl⟩:=r;exact PySem.EqMixed.ne_bool_str (cC I q aH)
  |_=>exact absurd (show false=true from d) Yi
 |i i=>
  obtain⟨t,rfl⟩:=e;cases y with
  |a=>cases r;exact PySem.EqNone.ne_int_none (cC I q (O))
  |i j=>obtain⟨c,rfl⟩:=r;exact ne_int (cC I q<|IR not Km)
  |s j=>obtain⟨c,rfl⟩:=r;exact PySem.EqMixed.ne_int_str (cC I q aP)
  |_=>exact absurd (show false=true from d) Yi
 |s i=>
  obtain⟨t,rfl⟩:=e;cases y with
  |a=>cases r;exact PySem.EqNone.ne_str_none (cC I q aP)
  |b j=>cases r;exact PySem.EqMixed.ne_str_bool (cC I q aP)
  |i j=>obtain⟨c,rfl⟩:=r;exact PySem.EqMixed.ne_str_int (cC I q aP)
  |s j=>obtain⟨c,rfl⟩:=r;exact ne_str (cC I q<|IR not iD)
  |_=>exact absurd (show false=true from d) Yi
 |h i=>
  obtain⟨t,rfl⟩:=e;cases y with
  |h j=>obtain⟨c,rfl⟩:=r;exact PySem.W.ne_bytes (cC I q<|IR not Ko)
  |_=>exact absurd (show false=true from d) Yi
 |_=>cases y<;>exact absurd (show false=true from d) Yi
theorem aeV:bj X (compareOp .Lt) (nW λi j=>.b (decide<|i<j)):=z9 λY Y Y Y Y Y Y q=>lt_int q
theorem Xn:bj X (compareOp .LtE) (nW λi j=>.b (decide<|i<=j)):=z9 λY Y Y Y Y Y Y q=>le_int q
theorem Xo:bj X (compareOp .Gt) (nW λi j=>.b (decide<|j<i)):=z9 λY Y Y Y Y Y Y q=>gt_int q
theorem anV:bj X (compareOp .GtE) (nW λi j=>.b (decide<|j<=i)):=z9 λY Y Y Y Y Y Y q=>ge_int q
theorem Xq:bj X (compareOp .In) (λx y H Q=>∃i j,x=.s i/\y=.s j/\Q (.b<|!(Builtin.Str.occurrences j i 0 j.length 1).isEmpty) H):=by
 intro D s c H x y v u Q I a r h;obtain⟨i,j,rfl,rfl,q⟩:=h;obtain⟨t,rfl⟩:=a;obtain⟨d,rfl⟩:=r;exact in_str<|cC I q O
theorem adC:bj X (compareOp .Is) (λx y H Q=>y=.a/\Q (.b<|decide<|x=.a) H):=by
 intro D s d H x y v u Q I r c h;obtain⟨rfl,q⟩:=h;cases c;refine is_none_gen<|cC I q ?_;cases x<;>first
  | (cases r;rfl)
  | (obtain⟨t,rfl⟩:=r;rfl)
theorem aoU:bj X (compareOp .IsNot) (λx y H Q=>y=.a/\Q (.b<|!decide (x=.a)) H):=by
 intro D s d H x y v u Q I r c h;obtain⟨rfl,q⟩:=h;cases c;refine isnot_none_gen<|cC I q ?_;cases x<;>first
  | (cases r;rfl)
  | (obtain⟨t,rfl⟩:=r;rfl)
theorem ahA:bj X (compareOp .NotIn) (λx y H Q=>∃i j,x=.s i/\y=.s j/\Q (.b<|!(!(Builtin.Str.occurrences j i 0 j.length 1).isEmpty)) H):=by
 intro D s c H x y v u Q I a r h;obtain⟨i,j,rfl,rfl,q⟩:=h;obtain⟨t,rfl⟩:=a;obtain⟨d,rfl⟩:=r;exact notIn_str<|cC I q O
theorem bj.or(h:bj X f r)(e:bj X f d):bj X f (λx y H Q=>r x y H Q\/d x y H Q):=by
 intro D s a H x y v u Q I c b q;rcases q with q|q
 exact h D s a H x y v u Q I c b q;exact e D s a H x y v u Q I c b q
theorem akL(i:bj X (compareOp op) r)(k:PE X a g)(j:PE X b l)(m:behindInMarks op b=false):PE X (.Compare a [op] [b] w) (gB r g l):=by
 intro D s c H Q I h;exact wpAny_Compare1 (DY k j I h λv u d x y p n f e q=>i D d c p x y v u Q n f e q) m
def uM(t:TE):TT:=λa H Q=>t a H λx c=>∃k,x=.b k/\Q k c
theorem anU(A:bj X (compareOp op) r)(E:PE X a g)(C:PE X b l)(B:behindInMarks op b=false):PT X (.Compare a [op] [b] w) (uM<|gB r g l):=by
 intro D s d H Q I h;refine wpAny_isTrue_Compare1 (aF (E D s d H _ I h) λv i ⟨x,M,J,n,t⟩=>aF (C D i d M _ J t) λu f ⟨y,L,G,m,p⟩=>
  aF (A D f d L x y v u _ G n m p) λc N ⟨z,K,F,j,k,e,q⟩=>?_) B
 subst e;cases j;exact SZ ⟨K,F,q⟩
def z_(r d:R2)(g l o:TE):TE:=λa H Q=>g a H λx h=>l a h λy f=>r x y f λz c=>∃k,z=.b k/\
 (if k=true then o a c λw e=>d y w e Q else Q (.b false) c)
theorem aiB(P:bj X (compareOp p) r)(V:bj X (compareOp Z) j)(U:PE X a g)(T:PE X b l)(S:PE X c o)(R:lastMarks [p,Z] [b,c]=false:=by with_unfolding_all rfl):PE X (.Compare a [p,Z] [b,c] w) (z_ r j g l o):=by
 intro D s f H Q I h;refine Compare_chain (aF (U D s f H _ I h) λv F ⟨x,H1,I1,K,N⟩=>chain_link (aF (T D F f H1 _ I1 N) λu E ⟨y,H2,Y,i,M⟩=>
  aF (P D E f H2 x y v u _ Y K i M) λd C ⟨z,n,m,J,k,e,q⟩=>?_)) R
 subst e;cases J;refine SZ ?_;cases k with
 |false=>exact ite_ff ⟨.b false,n,m,O,q⟩
 |true=>exact ite_tt (chain_last<|aF (S D C f n _ m q) λA B ⟨t,H4,W,G,L⟩=>V D B f H4 y t u A Q W i G L)
def Kq(K:Frag)(x:V)(H:Hp)(k:Gc):Prop:=
 match x with
 |.a=>k=false
 |.b b=>k=b
 |.i i=>k=(i !=0)
 |.s y=>y.length<=sizeLine/\k=((y.length:Int) !=0)
 |.h y=>y.size<=sizeLine/\k=((y.size:Int) !=0)
 |.r p=>(∃c,ag K H p c/\k= !c.isEmpty)\/(∃c,aA K H p c/\k= !c.isEmpty)\/∃e,H p=some (.d e)/\k= !e.isEmpty
 |_=>False
theorem agQ{K:List (κ×V)}(r:KV K v):(!v.isEmpty)= !K.isEmpty:=by
 cases r<;>rfl
theorem Kr{a:im}(r:Wz x a):(!a.toArray.isEmpty)= !x.isEmpty:=by
 cases r<;>simp
theorem rY:(sizeLine:Nat) <2 ^ 63:=by decide
theorem Ks:adH X (λx H Q=>∃k,Kq X.K x H k/\Q k H):=by
 intro E s B H x v Q I d h;obtain⟨k,e,q⟩:=h;have D:=rY;have C:sizeLine=16777216:=sizeLine_eq;cases x with
 |a=>
  cases d;have c:k=false:=e;subst c;exact truthy_none ⟨H,I,q⟩
 |b b=>
  cases d;have c:k=b:=e;subst c;exact SZ ⟨H,I,q⟩
 |i i=>
  obtain⟨t,rfl⟩:=d;have c:k=(i !=0):=e;subst c;exact PySem.P.truthy_int ⟨H,I,q⟩
 |s y=>
  obtain⟨t,rfl⟩:=d;obtain⟨u,c⟩:y.length<=sizeLine/\k=((y.length:Int) !=0):=e;subst c;exact PySem.P.truthy_str aH ⟨H,I.tok _,q⟩
 |h y=>
  obtain⟨t,rfl⟩:=d;obtain⟨u,c⟩:y.size<=sizeLine/\k=((y.size:Int) !=0):=e;subst c;exact PySem.W.truthy_bytes aH ⟨H,I.tok _,q⟩
 |r p=>
  cases d;have c:=e;rcases c with⟨o,f,c⟩|⟨o,f,c⟩|⟨j,f,c⟩
  subst c;obtain⟨A,r,l,z⟩:=I.list f;have n:=r.length;exact wpAny_truthy_list l.isList (by simp only[WD];lia) ⟨H,I.tok _,by rw[Kr r];exact q⟩;subst c;obtain⟨A,r,l,z⟩:=I.tuple f;have n:=r.length;exact truthy_tuple l (by simp only[WD];lia) ⟨H,I.tok _,by rw[Kr r];exact q⟩;subst c;obtain⟨z,S,g,r,m⟩:j.length<=sizeLine/\(p==sysModules)=false/\∃g,KV j g/\s.heap.DictOf (d_ X.prog X.w) p g:=I.ay p _ f;have n:=KB r;exact wpAny_truthy_dict S m aH ⟨H,I.tok _,by rw[agQ r];exact q⟩
 |_=>exact(show False from e).elim
theorem alA:bj X (binaryOp .Add) (λx y H Q=>∃i j,x=.s i/\y=.s j/\i.length+j.length<=sizeLine/\Q (.s<|i++j) H):=by
 intro D s c H x y v u Q I b r h;obtain⟨i,j,rfl,rfl,z,q⟩:=h;obtain⟨t,rfl⟩:=b;obtain⟨a,rfl⟩:=r;exact add_str (λa k=>⟨.s<|i++j,H,I.tok _,⟨_,O⟩,q⟩) z
theorem ZI(r:Wz [x] s):∃u,s=[u]/\lA x u:=by
 cases r with
 |cons b a=>cases a;exact⟨_,O,b⟩
theorem X3(r:Wz [x,y] s):∃u w,s=[u,w]/\lA x u/\lA y w:=by
 cases r with
 |cons d c=>
  cases c with
  |cons b a=>cases a;exact⟨_,_,O,d,b⟩
theorem Xz(c:X.calm=true):eG X (.builtin "min") (λx H Q=>∃i j,x=[.i i,.i j]/\Q (.i (if j<i then j else i)) H):=by
 intro D s b H x d Q I r h;obtain⟨i,j,rfl,q⟩:=h;obtain⟨u,w,rfl,⟨t,rfl⟩,⟨f,rfl⟩⟩:=X3 r;refine min_two_ints (I.ok.hd c) λg e k=>⟨_,H,I.kept k,?_,q⟩;by_cases a:j<i;rw[GT a,GT a];exact⟨_,O⟩;rw[Id a,Id a];exact⟨_,O⟩
theorem akF:eG X (.type "int") (λx H Q=>(∃i,x=[.i i]/\Q (.i i) H)\/∃k,x=[.b k]/\Q (.i (if k then 1 else 0)) H):=by
 intro D s c H x d Q I r h;rcases h with⟨i,rfl,q⟩|⟨k,rfl,q⟩
 obtain⟨u,rfl,t,rfl⟩:=ZI r;exact call_int_int ⟨.i i,H,I,⟨_,O⟩,q⟩;obtain⟨u,rfl,a⟩:=ZI r;cases a;exact call_int_bool ⟨.i (if k then 1 else 0),H,I.tok _,⟨_,O⟩,q⟩
def Kt(K:Frag)(x:V)(H:Hp)(n:Nat):Prop:=
 match x with
 |.s y=>y.length<=sizeLine/\n=y.length
 |.h y=>y.size<=sizeLine/\n=y.size
 |.r p=>(∃a,ag K H p a/\n=a.length)\/∃a,aA K H p a/\n=a.length
 |_=>False
theorem agA:eG X (.builtin "len") (λc H Q=>∃x n,c=[x]/\Kt X.K x H n/\Q (.i n) H):=by
 intro D s m H c o Q I r h;obtain⟨x,n,rfl,e,q⟩:=h;obtain⟨u,rfl,d⟩:=ZI r;have v:=sizeLine_eq;cases x with
 |s y=>
  obtain⟨t,rfl⟩:=d;obtain⟨j,b⟩:y.length<=sizeLine/\n=y.length:=e;subst b;exact len_str aH ⟨.i _,H,I.tok _,⟨_,O⟩,q⟩
 |h y=>
  obtain⟨t,rfl⟩:=d;obtain⟨j,b⟩:y.size<=sizeLine/\n=y.size:=e;subst b;exact PySem.W.len_bytes aH ⟨.i _,H,I.tok _,⟨_,O⟩,q⟩
 |r p=>
  cases d;have b:=e;rcases b with⟨c,g,b⟩|⟨c,g,b⟩
  subst b;obtain⟨k,f,l,z⟩:=I.list g;have a:=f.length;exact Calls.call_len_list l.isList bc ⟨.i c.length,H,I.tok _,⟨_,by simp only[WD];rw[a]⟩,q⟩;subst b;obtain⟨k,f,l,z⟩:=I.tuple g;have a:=f.length;exact len_tuple l bc ⟨.i c.length,H,I.tok _,⟨_,by simp only[WD];rw[a]⟩,q⟩
 |_=>exact(show False from e).elim
end
structure rZ(h:FS)(x dx C:Do)(mA:io):Prop where
 obj:h.get? x=some (instObj C dx)
 ns:h.Ns1 dx mA
 ne:dx≠x
theorem apB{h:FS}{x:Do}{m:io}(n:h.Ns1 x m):∃d,h.get? x=some d/\∀b,lookIn b d=some (m b):=by
 obtain⟨o,s,p,zq⟩:=jR n;obtain⟨f,i,k,Y,g⟩:=Y7 zq;refine⟨o,f,λb=>?_⟩;have e:=g b;unfold nsFind findBy at e;rw[<-Array.find?_toList] at e;unfold lookIn;rw[i];dsimp only;split;rename_i y q;rw[q] at e;exact IR some e;rename_i q;rw[q] at e;have a:s.toList.any (·.refKey)=false:=by
  rw[List.any_eq_false];intro y c;obtain⟨z,t,X⟩:=k y (Array.mem_toList_iff.mp c);simp[DictEntry.refKey,X]
 have j:¬s.toList.any (·.refKey)=true:=by lia
 rw[Id j];exact IR some e
theorem rZ.look(I:rZ h x d C m):∃o,PySem.W.InstAt h x (instObj C d) C (some o)/\∀n,lookIn n o=some (m n):=
 let ⟨o,a,l⟩:=apB I.ns
 ⟨o,⟨I.obj,O,O,a⟩,l⟩
section
variable{e:Fk}{w:Fa}{A:FM}{E:ge}{s:Ev}{K:Frag}{x i C f:Do}{c:io}{a:Str}{v:EQ}
theorem adX{Q:ge}(X:K.In s.heap)(I:rZ s.heap x i C c)(g:plainGet K C a=true)(d:hasDictIn K C=true)(f:PySem.W.findIn K (.ref C) a=some none)(b:c a=some v)(j:handedIn v=true)(h:Q v {s with toks:=s.toks+1}):
  wpAny (model e w) A (getAttr (.ref x) a r) Q E s:=by
 obtain⟨o,J,l⟩:=I.look;exact PySem.W.get_value X J (plainGet_of g).1 (PySem.W.findObj_own d f O (by rw[l,b])) j h
theorem amC{Q:EQ×im->Ev->Prop}(X:K.In s.heap)(I:rZ s.heap x i C c)(g:plainGet K C a=true)(b:PySem.W.findIn K (.ref C) a=some (some<|.ref f))(t:PySem.W.isFn K (.ref f)=true)(v:c a=none)(h:Q (.ref f,[.ref x]) s):
  wpAny (model e w) A (getMethod (.ref x) a p) Q E s:=by
 obtain⟨o,J,l⟩:=I.look;exact PySem.W.method_fn X J (plainGet_of g).1 (plainGet_of g).2 b (beq_iff_eq.mp t) (by show(lookIn a o).map (·.isSome)=some false;rw[l,v];rfl) h
theorem agU{Q:AT}(X:K.In s.heap)(I:rZ s.heap x i C c)(g:PySem.W.findIn K (.ref C) "__setattr__"=some (some<|.builtin "object.__setattr__"))(p:plainOver K C=true)(t:takerIn K C a=some none)(j:hasDictIn K C=true)(f:PySem.Within c n)(z:n.length<=sizeLine)(h:∀d,rZ d x i C (λy=>if y=a then some v else c y)->Heap.SameBut i s.heap d->Q () {s with heap:=d,toks:=s.toks+2}):
  wpAny (model e w) A (setAttr (.ref x) a v) Q E s:=by
 obtain⟨q,J,B⟩:=I.look;refine PySem.W.set_plain X J g<|PySem.W.osa_open X J p t λb=>?_;obtain⟨F,l,r⟩:=PySem.W.any_some j;refine GM<|IO<|GM<|GM<|wpAny_loadPart I.obj<|GM<|PySem.W.Looks.here (PySem.W.looks_clsIn X l) ?_;rw[r];refine IO<|GM<|IO<|GM (wpAny_nsSet1 I.ns λd k T=>?_);obtain⟨u,D,m,zq⟩:=jR (k.count (PySem.Within.cons a v f));obtain⟨G,H,o⟩:=Z5 zq;refine GM<|wpAny_lookBehind G (H▸pastItsLine_dict (Y4 o (by rw[Wt];exact X4 z _))) ?_;exact IO<|h _ ⟨(T.2 _<|Ix I.ne).trans I.obj,k,I.ne⟩ T
theorem anX{v:im}{k:BT}(X:K.In s.heap)(m:makesIn K C=true)(i:PySem.W.findIn K (.ref C) "__init__"=some (some<|.ref f))(b:PySem.W.typeIn K (.ref f)=some (.type "function"))(h:codeAny (model e w) (A.under (.builtin "type.__call__" ⟨.ref C::v,k⟩)) (.call (.ref f) ⟨.ref (s.heap.objs.size+1)::v,k⟩) (PySem.W.InitBack (s.heap.objs.size+1) R)
   {s with heap:=(s.heap.push emptyDict).push (instObj C s.heap.objs.size)}):
  codeAny (model e w) A (.call (.ref C) ⟨v,k⟩) R s:=by
 obtain⟨c,g,d,t,o⟩:=s;exact PySem.W.make_core (PySem.W.makes_of X m) (PySem.W.looks_findIn X i) (λa=>PySem.W.bind_fn X a b) (.inl O) h
end
noncomputable def bT(f:Str)(v:V):on->on
 |[]=>[(f,v)]
 |(g,x)::r=>if g=f then (g,v)::r else (g,x)::bT f v r
theorem Ku(f g:Str)(v:V):∀s:on,(bT f v s).lookup g=if g=f then some v else s.lookup g
 |[]=>by
  show List.lookup g [(f,v)]=_;by_cases h:g=f;have b:=beq_iff_eq.mpr h;simp only[List.lookup,b,GT h];have b:=beq_eq_false_iff_ne.mpr h;simp only[List.lookup,b,Id h]
 |(k,x)::r=>by
  rw[show bT f v ((k,x)::r)=(if k=f then (k,v)::r else (k,x)::bT f v r) from O];by_cases a:k=f;rw[GT a];by_cases h:g=k;have b:=beq_iff_eq.mpr h;simp only[List.lookup,b,GT<|h.trans a];have b:=beq_eq_false_iff_ne.mpr h;simp only[List.lookup,b,Id (λe:g=f=>h (e.trans a.symm))];rw[Id a];by_cases h:g=k;have b:(g==k)=true:=beq_iff_eq.mpr h;simp only[List.lookup,b,Id (λe:g=f=>a (h.symm.trans e))];have b:=beq_eq_false_iff_ne.mpr h;simp only[List.lookup,b];exact (Ku f g v r)
theorem DZ(f:Str)(v:V):∀s:on,f∈ (bT f v s).map (·.1)/\∀g,g∈s.map (·.1)->g∈ (bT f v s).map (·.1)
 |[]=>⟨by simp[bT],λg h=>by simp at h⟩
 |(k,x)::r=>by
  obtain⟨b,i⟩:=DZ f v r;rw[show bT f v ((k,x)::r)=(if k=f then (k,v)::r else (k,x)::bT f v r) from O];by_cases a:k=f;subst a;exact⟨aP,λg h=>by simpa using h⟩;rw[Id a];refine⟨?_,λg h=>?_⟩;exact Wb _ b;rcases X9.mp h with e|e
  exact X9.mpr (.inl e);exact Wb _ (i g e)
theorem Kv(f:Str)(v:V):∀s:on,(bT f v s).length<=s.length+1
 |[]=>by simp[bT]
 |(k,x)::r=>by
  have i:=Kv f v r;rw[show bT f v ((k,x)::r)=(if k=f then (k,v)::r else (k,x)::bT f v r) from O];by_cases h:k=f;rw[GT h,Wt,Wt];exact XW _;rw[Id h,Wt,Wt];exact X4 i _
theorem iB.some_of(r:iB (some v) o):∃u,o=some u/\lA v u:=by
 cases o with
 |none=>exact(show False from r).elim
 |some u=>exact⟨u,O,r⟩
theorem iB.none_of(r:iB none o):o=none:=by
 cases o with
 |none=>rfl
 |some u=>exact(show False from r).elim
theorem apA(r:lA v u):handedIn u=true:=by
 cases v with
 |a=>cases (show u=Value.none from r);rfl
 |b b=>cases (show u=Value.bool b from r);rfl
 |i i=>obtain⟨t,e⟩:=(show ∃t,u=Value.int i t from r);cases e;rfl
 |s x=>obtain⟨t,e⟩:=(show ∃t,u=Value.str x t from r);cases e;rfl
 |h b=>obtain⟨t,e⟩:=(show ∃t,u=Value.bytes b t from r);cases e;rfl
 |pS b=>obtain⟨t,e⟩:=(show ∃t,u=Value.float b t from r);cases e;rfl
 |r a=>cases (show u=Value.ref a from r);rfl
 |t n=>cases (show u=Value.type n from r);rfl
section
variable{P:Fk}{w:Fa}{H H':Hp}{h h':FS}{a C c:Do}{b fs':on}
theorem Aa(y:bX P w H h)(e:H a=some (.i C c b)):∃m,rZ h a c C m/\(∀f,iB (b.lookup f)<|m f)/\PySem.Within m (b.map (·.1))/\b.length<=1000/\H c=some (.o a):=by
 obtain⟨d,z,j,g,m,n,r,q⟩:=(show cN P w H h a (.i C c b) from y a _ e);exact⟨m,⟨g,n,j⟩,r,q,z,d⟩
end
structure gP(K:Frag)(C:Do):Prop where
 pg:plainGet K C Str.empty=true
 hd:hasDictIn K C=true
 po:plainOver K C=true
 sa:PySem.W.findIn K (.ref C) "__setattr__"=some (some<|.builtin "object.__setattr__")
theorem gP.get{K:Frag}{C:Do}(c:gP K C)(f:Str):plainGet K C f=true:=c.pg
def gC(K:Frag)(C:Do)(f:Str):Prop:=PySem.W.findIn K (.ref C) f=some none
theorem gC.XN{K:Frag}(n:gC K C f):takerIn K C f=some none:=by
 unfold takerIn;rw[show PySem.W.findIn K (.ref C) f=some none from n];rfl
structure wW(K:Frag)(C:Do)(m:Str)(f:Do):Prop where
 at_:PySem.W.findIn K (.ref C) m=some (some<|.ref f)
 fn:PySem.W.isFn K (.ref f)=true
 kp:PySem.W.keepIn K (.ref f)=true
section
variable{X:Cx}{i:gh}{j:St}{H:Hp}{s:Ev}{a C p:Do}{d:on}{f:Str}{v:V}{A:FM}{E:ge}
theorem anI{Q:ge}(I:uP X i j H s)(e:H a=some (.i C p d))(c:gP X.K C)(n:gC X.K C f)(l:d.lookup f=some v)(h:∀u k,uP X i j H k->lA v u->Q u k):wpAny (model X.prog X.w) A (getAttr (.ref a) f b) Q E s:=by
 obtain⟨q,zq⟩:=XM (Aa I.ay e);obtain⟨g,r,Y,Y,Y⟩:=Y7 zq;obtain⟨u,o,m⟩:=iB.some_of (l▸r f);exact adX I.dA g (c.get f) c.hd n o (apA m)<|h u _ (I.tok _) m
theorem Kw{f:Sem Gc}{Q:EQ×im->Ev->Prop}(I:uP X i j H s)(e:H a=some (.i C p d))(c:gP X.K C)(k:wW X.K C m g)(l:d.lookup m=none)(h:Q (.ref g,[.ref a]) s):wpAny (model X.prog X.w) A (getMethod (.ref a) m f) Q E s:=by
 obtain⟨n,zq⟩:=XM (Aa I.ay e);obtain⟨b,r,Y,Y,Y⟩:=Y7 zq;exact amC I.dA b (c.get m) k.at_ k.fn (iB.none_of (l▸r m)) h
theorem amY{Q:AT}(I:uP X i j H s)(e:H a=some (.i C p d))(c:gP X.K C)(n:gC X.K C f)(P:d.length<1000)(D:lA y u)(h:∀t,uP X i j (upd H a<|.i C p<|bT f y d) t->Q () t):wpAny (model X.prog X.w) A (setAttr (.ref a) f u) Q E s:=by
 obtain⟨v,k,r,m,Y,x⟩:=Aa I.ay e;have F:(d.map (·.1)).length<=sizeLine:=by rw[Wo,sizeLine_eq];exact Y4 Y (Xk _ _)
 refine agU I.dA k c.sa c.po n.XN c.hd m F λM l B=>h _ ?_;have J:∃o,M.get? p=some o:=let ⟨o,_,_,N,_⟩:=l.ns;⟨o,N⟩;refine I.write (e▸True.intro) (.inr x) (λb q L z=>(B.2 b L).trans z) J (⟨by rw[aw k.ne];exact x,?_,k.ne,l.obj,_,l.ns,λg=>?_,λg G=>?_⟩);have:=Kv f y d;exact Y4 this (XS P);show iB ((bT f y d).lookup g) (if g=f then some u else v g);rw[Ku];by_cases q:g=f;rw[GT q,GT q];exact D;rw[Id q,Id q];exact r g;by_cases q:g=f;rw[q];exact(DZ f y d).1;refine(DZ f y d).2 g (m g λz=>G ?_);show(if g=f then some u else v g)=none;rw[Id q];exact z
theorem uP.made(I:uP X i j H s):uP X i j (upd (upd H s.heap.objs.size<|.o<|s.heap.objs.size+1) (s.heap.objs.size+1)<|.i C s.heap.objs.size [])
  {s with heap:=(s.heap.push emptyDict).push (instObj C s.heap.objs.size)}:=by
 have a:(s.heap.push emptyDict).get? s.heap.objs.size=some emptyDict:=Nr s.heap O;have f:=by
  have:=Nr (s.heap.push emptyDict) (o:=instObj C s.heap.objs.size) O
  rwa [Sc] at this
 have d:(s.heap.push emptyDict).Ns s.heap.objs.size (λY=>none):=qQ emptyDict (#[]) _ a O (λe c=>absurd c aP) (λY=>O);refine (I.laid (o:=.o (s.heap.objs.size+1)) (t':=s.toks) (λb u q=>KF _ q) (ZX _) (oM _ a)).laid (λb u q=>KF _ q) (XX<|Sc _ _) ?_;have n:s.heap.objs.size≠s.heap.objs.size+1:=Ze (XA _);refine⟨by rw[aw n,aj],Y_ _,n,qC f (λY=>none) ((Heap.Ns1.of_empty d).at λo q=>KF _ q) ⟨λY=>True.intro,λy h=>absurd O h⟩⟩
theorem apC{w:Fa}{v:Env}{a:Pos}{Q:ge}(b:attributeBase e f v (eval e v)=eval e v)(h:wpAny (model prog w) A (eval e v) (λo U=>wpAny (model prog w) A (getAttr o f true) Q E U) E s):wpAny (model prog w) A (eval (.Attribute e f a) v) Q E s:=
 Attribute_any_ h (by rw[arm_eval_Attribute,b])
end
def Ab(K:Frag)(t:TE)(f:Str):TE:=λc H Q=>t c H λx b=>∃a C d s v,x=.r a/\b a=some (.i C d s)/\gP K C/\gC K C f/\s.lookup f=some v/\Q v b
def Ac(K:Frag)(e t:TE)(f:Str):TS:=λD b H=>t b H λy g=>e b g λx c=>∃a C d s,x=.r a/\c a=some (.i C d s)/\gP K C/\gC K C f/\s.length<1000/\
 D.nx b (upd c a<|.i C d<|bT f y s)
section
variable{X:Cx}{o e d:Expr}{f:Str}{g i D0:Pos}{b j:TE}
theorem alC(j:PE X e b)(k:attributeBase e f X.env (eval e X.env)=eval e X.env):PE X (.Attribute e f g) (Ab X.K b f):=by
 intro D s d H Q I h;refine apC k<|aF (j D s d H _ I h) λu A ⟨x,w,t,r,a,C,E,B,v,m,o,c,n,l,q⟩=>?_;subst m;obtain rfl:u=Value.ref a:=r;exact anI t o c n l λy z p i=>⟨v,w,p,i,q⟩
theorem Kx(A:PE X o b)(w:PE X d j)(z:swapsWith d (some<|.Attribute o f i) g.line X.env=pure false):PS X (.Assign [.Attribute o f i] d g) (Ac X.K b j f):=by
 intro k s e H D I h;refine plainObj_wpAny_Assign_Attribute (aF (w k s e H _ I h) λu m ⟨y,L,J,r,q⟩=>aF (A k m e L _ J q) λv N ⟨x,R,G,p,a,C,Q,P,B,E,c,n,l,t⟩=>?_) z;subst B;obtain rfl:v=Value.ref a:=p;exact amY G E c n l r λM F=>⟨e,_,F,t⟩
end
section
variable{X:Cx}{D':gh}{σ:St}{H:Hp}{s:Ev}{A:FM}{E:ge}{Q:ge}{c:EQ}{b:Gc}
inductive kd(K:Frag)(H:Hp):V->EQ->Prop where
 |au:kd K H .a (.type "NoneType")
 |bl (x:Gc):kd K H (.b x) (.type "bool")
 |int (i:Int):kd K H (.i i) (.type "int")
 |str (x:Str):kd K H (.s x) (.type "str")
 |pS (x:UInt64):kd K H (.pS x) (.type "float")
 |lst {a:Do}{c:db} (e:H a=some (.l c)):kd K H (.r a) (.type "list")
 |bV {a:Do}{o:Obj}{c:db} (e:H a=some (.b o<|.l c)):kd K H (.r a) (.type "list")
 |tup {a:Do}{c:db} (e:H a=some (.t c)):kd K H (.r a) (.type "tuple")
 |dK {a:Do}{f:nH} (e:H a=some (.d f)):kd K H (.r a) (.type "dict")
 |dT {a:Do}{f:zA} (e:H a=some (.T f)):kd K H (.r a) (.type "dict")
 |ins {a C n:Do}{m:on} (e:H a=some (.i C n m)) (z:gP K C) (v:PySem.W.findIn K (.ref C) "__class__"=some (some<|.builtin "object.__class__"))
   (q:specialIn K (.builtin "object.__class__") "__get__"=some (some<|.builtin "getset_descriptor.__get__")) (E:takesIn K (.builtin "object.__class__")=some true)
   (u:mroIn K C (.type "object")=some true):kd K H (.r a) (.ref C)
theorem nX(I:uP X D' σ H s)(r:lA x u)(D:kd X.K H x t)(e:kitOne X.K t c=some b)(h:∀F,Q (.bool b) {s with toks:=F}):
  wpAny (model X.prog X.w) A (call (.builtin "isinstance") [u,c]) Q E s:=by
 cases D with
 |au=>cases (show u=Value.none from r);exact kia_one PySem.W.kitx_none I.dA True.intro e (λz=>nomatch z) h
 |bl y=>cases (show u=Value.bool y from r);exact kia_one PySem.W.kitx_bool I.dA True.intro e (λz=>nomatch z) h
 |int i=>obtain⟨t,q⟩:=(show ∃t,u=Value.int i t from r);cases q;exact kia_one PySem.W.kitx_int I.dA True.intro e (λz=>nomatch z) h
 |str y=>obtain⟨t,q⟩:=(show ∃t,u=Value.str y t from r);cases q;exact kia_one PySem.W.kitx_str I.dA True.intro e (λz=>nomatch z) h
 |pS y=>obtain⟨t,q⟩:=(show ∃t,u=Value.float y t from r);cases q;exact kia_one PySem.W.kitx_float I.dA True.intro e (λz=>nomatch z) h
 | @lst a k g=>
  cases (show u=Value.ref a from r);obtain⟨_,_,n,_,j⟩:=(show cN X.prog X.w H s.heap a (.l k) from I.ay a _ g);exact kia_one kitx_list I.dA ⟨_,j,O⟩ e (λz=>nomatch z) h
 | @bV a G k g=>
  cases (show u=Value.ref a from r);obtain⟨_,_,_,n,_,j⟩:=(show cN X.prog X.w H s.heap a (.b G<|.l k) from I.ay a _ g);exact kia_one kitx_list I.dA ⟨_,j,O⟩ e (λz=>nomatch z) h
 | @tup a k g=>
  cases (show u=Value.ref a from r);obtain⟨_,_,_,p⟩:=(show cN X.prog X.w H s.heap a (.t k) from I.ay a _ g);obtain⟨o,j,m,_⟩:=p;exact kia_one PySem.W.kitx_tuple I.dA ⟨o,j,m⟩ e (λz=>nomatch z) h
 | @dK a v g=>
  cases (show u=Value.ref a from r);obtain⟨_,_,U,_,p⟩:=(show cN X.prog X.w H s.heap a (.d v) from I.ay a _ g);obtain⟨o,P,R,j,m,_⟩:=p;exact kia_one kitx_dict I.dA ⟨o,j,m.1⟩ e (λz=>nomatch z) h
 | @dT a v g=>
  cases (show u=Value.ref a from r);obtain⟨_,_,k,_,o,P,R,j,m,_⟩:=(show cN X.prog X.w H s.heap a (.T v) from I.ay a _ g);exact kia_one kitx_dict I.dA ⟨o,j,m.1⟩ e (λz=>nomatch z) h
 | @ins a C dx Z g B N L S M=>
  cases (show u=Value.ref a from r);obtain⟨Y,f,_⟩:=Aa I.ay g;obtain⟨V,J,_⟩:=f.look;exact kia_one (PySem.W.kitx_own (B.get _) B.hd N L S M) I.dA J e (λz=>nomatch z) h
end
structure dJ(k:Nat)(A:FM):Prop where
 hd:A.handled=none
 dp:A.depth+3*k+5<recursionLimit
 un:A.units+16*k+200<cLine
 gd:A.guards=some []:=by rfl
theorem dJ.mono(r:dJ k A)(h:j<=k):dJ j A:=⟨r.hd,by have:=r.dp;lia,by have:=r.un;lia,r.gd⟩
theorem dJ.deeper(r:dJ (k+1) A)(e:Env):dJ k (A.deeper e):=
 ⟨r.hd,by have:=r.dp;show A.depth+1+3*k+5<_;lia,by have:=r.un;show A.units+3+16*k+200<_;lia,r.gd⟩
theorem aiE{A:FM}{C:Do}{u:im}{k:BT}:(A.under<|.builtin "type.__call__" ⟨.ref C::u,k⟩).depth=A.depth+1:=O
theorem aoO{A:FM}{C:Do}{u:im}{k:BT}:(A.under<|.builtin "type.__call__" ⟨.ref C::u,k⟩).units=A.units+1:=O
theorem dJ.make(r:dJ (k+1) A)(C:Do)(u:im)(w:BT):dJ k (A.under<|.builtin "type.__call__" ⟨.ref C::u,w⟩):=
 ⟨r.hd,by have:=r.dp;rw[aiE];lia,by have:=r.un;rw[aoO];lia,by first|exact r.gd|simp⟩
theorem dJ.depth(r:dJ k A):A.depth<recursionLimit:=by have:=r.dp;lia
theorem dJ.units(r:dJ k A):A.units+64<cLine:=by have:=r.un;lia
def kW:TA:=λ_ H Q=>Q [] H
def fX(b:TE)(t:TA):TA:=λa H Q=>b a H λx d=>t a d λs c=>Q (x::s) c
section
variable{X:Cx}{e:Expr}{a:tz}{d:TE}{t:TA}{c:Pos}
theorem wQ:PA X [] kW:=λY Y Y Y H Q I h=>YT ⟨[],H,I,.nil,h⟩
theorem pT(m:PE X e d)(l:PA X a t)(k:autoParam (starEach (e::a) X.env=(false,eval e X.env)::starEach a X.env) cu):PA X (e::a) (fX d t):=by
 intro c D s b H Q I h;rw[k];exact Zj<|aF (m D s b H _ I h) λu g ⟨x,v,o,i,j⟩=>aF (l c D g b v _ o j) λw y ⟨f,p,n,r,q⟩=>⟨x::f,p,n,.cons i r,q⟩
def Ky(t:TA):TE:=λb H Q=>t b H λx a=>x.length<=sizeLine/\∀p,a p=none->Q (.r p) (upd a p<|.t x)
def Kz(t:TA):TE:=λb H Q=>t b H λx a=>x.length<=sizeLine/\∀p,a p=none->Q (.r p) (upd a p<|.l x)
theorem alO(h:PA X a t):PE X (.Tuple a l c) (Ky t):=by
 intro D s g H Q I j;refine wpAny_Tuple_spliced<|aF (h c D s g H _ I j) λi d ⟨x,k,f,r,z,q⟩=>⟨r.length▸z,⟨.r d.heap.objs.size,upd k d.heap.objs.size<|.t x,f.laid (λb u e=>KF _ e) (ZX _) ?_,O,q _ (f.ay.fresh (ZX _))⟩⟩;exact⟨z,i,r,⟨_,Nr _ O,O,_,O⟩⟩
theorem afJ(h:PA X a t):PE X (.List a c) (Kz t):=by
 intro D s g H Q I j;refine wpAny_List_spliced<|aF (h c D s g H _ I j) λi d ⟨x,k,f,r,z,q⟩=>⟨r.length▸z,⟨.r d.heap.objs.size,upd k d.heap.objs.size<|.l x,f.laid (λb u e=>KF _ e) (ZX _) ?_,O,q _ (f.ay.fresh (ZX _))⟩⟩;exact sA z i 0 r (Nr _ O)
end
abbrev Sp:=db->Hp->VK->XK->Prop
abbrev wr:=List (Str×Sp)
abbrev cP:=Al->Hp->Ev->XK->EQ->Ev->Prop
structure pU(P:Fk)(w:Fa)(K:Frag)(mg:io)(base:FS)(A:FM)(outer:Al)(s:Ev)(H:Hp):Prop where
 frames:A.frames=some outer
 mod:Mod K mg base
 bs:∀b o,base.get? b=some o->s.heap.get? b=some o/\H b=none
 rQ:base.objs.size<=s.heap.objs.size
 kR:s.heap.FunFrames base outer
 uG:∀b∈bA outer,H b=none
 ay:bX P w H s.heap
 B:AllBare s.gens
def CE(o:Al)(P:Fk)(w:Fa)(H:Hp)(s:Ev)(Q:VK)(u:EQ)(a:Ev):Prop:=
 ∃v b,a.os=s.os/\AllBare a.gens/\Un (bA o) [] H b s.heap a.heap/\bX P w b a.heap/\lA v u/\Q v b
def agR(C:cP)(o:Al)(P:Fk)(w:Fa)(H:Hp)(s:Ev)(Q:VK)(E:XK)(r:Result)(a:Ev):Prop:=
 match r with
 |.ok (.ret u)=>CE o P w H s Q u a
 |.ok _=>False
 |.error e=>C o H s E e a
structure du(P:Fk)(w:Fa)(K:Frag)(mg:io)(base:FS)(CX:cP)(k:Nat)(f:Do)(fd:Go)(ps:ca)(sp:Sp):Prop where
 len:∀vs H Q E,sp vs H Q E->vs.length=ps.length
 run:∀(A:FM)(outer:Al)(s:Ev)(H:Hp)(args:Args)(us:im)(vs:db)(Q:VK)(E:XK),dJ k A->pU P w K mg base A outer s H->BindsTo s fd args (ps.zip us)->Wz vs us->sp vs H Q E->
  codeAny (model P w) A (.call (.ref f) args) (agR CX outer P w H s Q E) s
theorem du.mono{K:Frag}(F:du P w K m b C j f d c p)(h:j<=k):
  du P w K m b C k f d c p:=⟨F.len,λA o s H a u v Q E r=>F.run A o s H a u v Q E<|r.mono h⟩
theorem pU.make{K:Frag}(e:pU P w K m b A o s H)(C:Do)(u:im)(k:BT):
  pU P w K m b (A.under<|.builtin "type.__call__" ⟨.ref C::u,k⟩) o s H:=⟨by first|exact e.frames| (simpa[Around.under,Code.envs,Code.isFrame,pushEnvs] using e.frames),e.mod,e.bs,e.rQ,e.kR,e.uG,e.ay,e.B⟩
section
variable{X:Cx}{a:gh}{c:St}{H:Hp}{s e:Ev}
theorem uP.KA(I:uP X a c H s):pU X.prog X.w X.K X.mg X.base X.A X.stack s H:=
 ⟨I.ok.frames,I.ok.mod,I.bs,Y4 I.ok.rQ I.sz,I.stack,I.zT,I.ay,I.E⟩
theorem uP.after(I:uP X a c H s)(h:CE X.stack X.prog X.w H s Q u e):EP X a c Q u e:=by
 obtain⟨v,i,o,f,n,y,r,q⟩:=h;obtain⟨j,g,d,t,A⟩:=e;obtain rfl:A=s.os:=o;exact⟨v,i,I.call n y f<|λb z=>absurd z aP,r,q⟩
end
def D2(s:Sp)(h:db)(E:XK)(t:TA):TE:=λa H Q=>t a H λv b=>s (v++h) b Q E
def r9(C:Do)(m:Str)(s:Sp)(h:db)(E:XK)(d:TE)(t:TA):TE:=λb H Q=>d b H λx c=>∃a e f,x=.r a/\c a=some (.i C e f)/\f.lookup m=none/\
 t b c λv g=>s (x::(v++h)) g Q E
def D3(C:Do)(p:Sp)(h:db)(E:XK)(t:TA):TE:=λc H Q=>t c H λs b=>∀x d,b x=none->b d=none->d≠x->
 p (.r x::(s++h)) (upd (upd b d<|.o x) x<|.i C d []) (λv e=>v=.a/\Q (.r x) e) E
def Y5(K:Frag)(f:Go)(p:ca)(d:im):Prop:=
 ∀(s:Ev)(u:im),K.In s.heap->(u++d).length=p.length->BindsTo s f ⟨u,[]⟩ (p.zip<|u++d)
theorem Y5.all{K:Frag}{f:Go}{p:ca}(h:∀u:im,u.length=p.length->bindArgs f ⟨u,[]⟩=pure (p.zip u)):Y5 K f p []:=λs u Y l=>by
 rw[jP] at l⊢;exact .of_eq<|h u l
def hV(C:cP)(X:Cx)(E:XK):Prop:= ∀(D:gh)(b:St)(H:Hp)(s:Ev)(e:EQ)(a:Ev),uP X D b H s->C X.stack H s E e a->X.xe e a
section
variable{X:Cx}{d:cP}{k:Nat}{f C:Do}{g:Go}{i:ca}{j:Sp}{b:db}{a:im}{E:XK}{x m:Str}{p l apos:Pos}{e o:Expr}{c:tz}{ta:TE}{t:TA}
theorem D4{l:St}{c:im}(F:du X.prog X.w X.K X.mg X.base d k f g i j)(o:dJ k X.A)(t:Y5 X.K g i a)(p:Wz b a)(x:hV d X E)(I:uP X D l H s)(r:Wz vs c)(h:j (vs++b) H Q E):wpAny (model X.prog X.w) X.A (call (.ref f) c) (EP X D l Q) X.xe s:=by
 have m:=r.append p;refine wpAny_call<|Tl (F.run X.A X.stack s H ⟨c,[]⟩ (c++a) (vs++b) Q E o I.KA (t s c I.dA (m.length▸F.len _ _ _ _ h)) m h) λr n q=>?_;cases r with
 |error e=>exact x D l H s e n I q
 |ok v=>
  cases v with
  |ret u=>exact I.after q
  |next=>exact False.elim q
  |brk=>exact False.elim q
  |cont=>exact False.elim q
theorem aoE(F:du X.prog X.w X.K X.mg X.base d k f g i j)(y:dJ k X.A)(C:Gl X x)(z:X.mg x=some (.ref f))(B:PySem.W.keepIn X.K (.ref f)=true)(J:Y5 X.K g i a)(G:Wz b a)(v:hV d X E)(L:PA X (e::c) t)(o:autoParam ((x==("__debug__":Str))=false) cn)(D:autoParam (starEach (e::c) X.env=(false,eval e X.env)::starEach c X.env) cu)(u:autoParam ((backTo l<|starEach c X.env).any (·.1)=false) cu):
  PE X (.Call (.Name x p) (e::c) [] l) (D2 j b E t):=by
 intro M s n H Q I h;exact Ps<|zV I C z (callWith_K I.ok.mod.wL B (aF (L l M s n H _ I h) λP R ⟨N,S,m,r,q⟩=>⟨m.dA,D4 F y J G v m r q⟩) D u) o
structure Mk(K:Frag)(C f:Do):Prop where
 m:makesIn K C=true
 init:PySem.W.findIn K (.ref C) "__init__"=some (some<|.ref f)
 fn:PySem.W.isFn K (.ref f)=true
 kp:PySem.W.keepIn K (.ref C)=true
theorem aiA{p:St}{c:im}(M:Mk X.K C f)(F:du X.prog X.w X.K X.mg X.base d k f g i j)(L:dJ (k+1) X.A)(R:Y5 X.K g i a)(P:Wz b a)(J:hV d X E)(I:uP X D p H s)(r:Wz q c)(h:∀x l,H x=none->H l=none->l≠x->j (.r x::(q++b)) (upd (upd H l<|.o x) x<|.i C l []) (λv W=>v=.a/\Q (.r x) W) E):
  wpAny (model X.prog X.w) X.A (call (.ref C) c) (EP X D p Q) X.xe s:=by
 have y:=h (s.heap.objs.size+1) s.heap.objs.size (I.ay.fresh<|XW _) (I.ay.fresh<|ZX _) (Ze<|XA _);have n:=uP.made (C:=C) I;have t:Wz (V.r (s.heap.objs.size+1)::(q++b)) (Value.ref (s.heap.objs.size+1)::(c++a)):=.cons O (r.append P);have N:=by
  have e:=t.length;rw[F.len _ _ _ _ y] at e;exact e.symm
 refine wpAny_call (anX I.dA M.m M.init (beq_iff_eq.mp M.fn) (Tl (F.run _ X.stack _ _ ⟨Value.ref (s.heap.objs.size+1)::c,[]⟩ (Value.ref (s.heap.objs.size+1)::(c++a)) _ _ E (L.make C c [])
  (n.KA.make C c []) (R _ (Value.ref (s.heap.objs.size+1)::c) n.dA N) t y) λr z Y=>?_))
 cases r with
 |error e=>exact J D p _ _ e z n Y
 |ok S=>
  cases S with
  |ret u=>
   obtain⟨v,Z,U,B,T,G⟩:=n.after Y;subst T;exact⟨B,⟨V.r<|s.heap.objs.size+1,Z,U,O,G⟩⟩
  |next=>exact False.elim Y
  |brk=>exact False.elim Y
  |cont=>exact False.elim Y
theorem X0(M:Mk X.K C f)(F:du X.prog X.w X.K X.mg X.base d k f g i j)(y:dJ (k+1) X.A)(B:Gl X x)(z:X.mg x=some (.ref C))(J:Y5 X.K g i a)(G:Wz b a)(v:hV d X E)(L:PA X (e::c) t)(o:autoParam ((x==("__debug__":Str))=false) cn)(D:autoParam (starEach (e::c) X.env=(false,eval e X.env)::starEach c X.env) cu)(u:autoParam ((backTo l<|starEach c X.env).any (·.1)=false) cu):
  PE X (.Call (.Name x p) (e::c) [] l) (D3 C j b E t):=by
 intro N s n H Q I h;exact Ps<|zV I B z (callWith_K I.ok.mod.wL M.kp (aF (L l N s n H _ I h) λR S ⟨P,T,m,r,q⟩=>⟨m.dA,aiA M F y J G v m r q⟩) D u) o
end
structure wR(N P:ca)(sc:Scope):Prop where
 kind:sc.kind=.function
 co:sc.isCoroutine=false
 gen:sc.isGenerator=false
 nd:N.Nodup
 pre:N.take P.length=P
 par:∀x∈P,sc.names.lookup x=some .local\/sc.names.lookup x=some .cell
 X1:∀y∈sc.names,y.2≠ .free
theorem KC:∀{b:BT}{m:io},(∀v,(x,v)∉b)->bindL k b m x=m x
 |[],_,_=>O
 |(n,v)::r,m,h=>by
  unfold bindL;rw[KC λw a=>h w (Wb _ a)];split;have:x≠n:=by rintro rfl;exact h v Wu
  simp[this];rfl
theorem KD:∀{b:BT}{m:io},(∀v,(x,v)∉b)->bindC k b m x=m x
 |[],_,_=>O
 |(n,v)::r,m,h=>by
  unfold bindC;rw[KD λw a=>h w (Wb _ a)];split;rfl;have:x≠n:=by rintro rfl;exact h v Wu
  simp[this]
theorem KG:∀{P:ca}{s:im}{i:Nat}{m:io},P.Nodup->P[i]?=some x->s[i]?=some v->k x=some .local->
  bindL k (P.zip s) m x=some v
 |[],_,_,_,_,h,_,_=>by simp at h
 |_::_,[],_,_,_,_,h,_=>by simp at h
 |p::P,w::s,0,m,n,b,a,c=>by
  simp at b a;subst b;subst a;show bindL k ((p,w)::P.zip s) m p=_;unfold bindL;rw[KC λv d=>(YL.mp n).1 (List.of_mem_zip d).1,GT c];simp
 |p::P,w::s,i+1,m,n,b,a,c=>by
  unfold bindL;exact KG (YL.mp n).2 (by simpa using b) (by simpa using a) c
theorem KH:∀{P:ca}{s:im}{i:Nat}{m:io},P.Nodup->P[i]?=some x->s[i]?=some v->k x≠some .local->
  bindC k (P.zip s) m x=some v
 |[],_,_,_,_,h,_,_=>by simp at h
 |_::_,[],_,_,_,_,h,_=>by simp at h
 |p::P,w::s,0,m,n,b,a,c=>by
  simp at b a;subst b;subst a;show bindC k ((p,w)::P.zip s) m p=_;unfold bindC;rw[KD λv d=>(YL.mp n).1 (List.of_mem_zip d).1,Id c];simp
 |p::P,w::s,i+1,m,n,b,a,c=>by
  unfold bindC;exact KH (YL.mp n).2 (by simpa using b) (by simpa using a) c
noncomputable def WR(N:ca)(v:db):St:=v.map some++List.replicate (N.length - v.length) none
def sf(C:cP)(P:Fk)(w:Fa)(K:Frag)(m:io)(b:FS)(N:ca)(q:Str)(a:Scope)(f:Do)(c:EQ)(A:FM)(o:Al)(s:Ev)(H:Hp)(E:XK):Cx where
 prog:=P
 w:=w
 K:=K
 mg:=m
 base:=b
 A:=A.deeper (envOfC q a s.heap.objs.size f c)
 N:=N
 S:=s
 H:=H
 env:=envOfC q a s.heap.objs.size f c
 r:=o
 stack:=envOfC q a s.heap.objs.size f c::o
 ex:=[]
 calm:=true
 fn:=λ_=>true
 n:=[]
 xe:=λe d=>wpAny (model P w) (A.deeper<|envOfC q a s.heap.objs.size f c) (leaving (envOfC q a s.heap.objs.size f c) e) (λ_ i=>C o H s E e i) (λg i=>C o H s E g i) d
theorem KI{s:Scope}(h:s.names.lookup x=some .cell):∃c,(cellsFrom n s.names []).lookup x=some c:=by
 exact Option.isSome_iff_exists.mp (cellsFrom_some s.names n [] (.inl h))
theorem apO{K:Frag}{f:Do}{I:EQ}{M:Ev}(S:wR N t d)(W:A.handled=none)(m:pU P w K L j A o s H)(hl:n.length=t.length)(r:Wz n J)(x:InCallC s s.heap.objs.size (bindL (envOfC l d s.heap.objs.size f I).kindOf (t.zip J) λ_=>none) (cellsFrom (s.heap.objs.size+1) d.names []) (bindC (envOfC l d s.heap.objs.size f I).kindOf (t.zip J) λ_=>none) M):
  uP (sf Y P w K L j N l d f I A o s H E) [] (WR N n) H M:=by
 have ke:t.length<=N.length:=by have:=IR List.length S.pre;rw[Xg] at this;lia
 obtain⟨G,Z,rfl,R⟩:=x.done;have U:∀b:Do,b∉ (sf Y P w K L j N l d f I A o s H E).ex:=λb z=>absurd (show b∈ ([]:ii) from z) aP;refine⟨⟨m.mod,S.kind,O,O,ZX _,λy z c G g=>?_,λy C=>?_,λy c _ h=>?_,λ_=>W,Around.frames_deeper m.frames,.inr ⟨O,O⟩,λb z=>absurd z (U b),m.bs,m.rQ,λb _ _=>U b,λb z=>absurd z (U b),m.kR,m.uG⟩,
  rfl,m.B,Un.kept R,nS _ x.toInCall.ns (λi y v G g h3=>?_),λy c h=>oM _ (x.cell y c h),m.ay.fresh (ZX _),λy c h=>?_,λp D=>absurd (show p∈ ([]:gh) from D) aP,m.ay.kept R,?_⟩
 exact name_of_addr x.apart (NE G) (NE g);rcases C with C|C
 exact KI C;cases (S.X1 _<|NE C) O;exact Zb (x.above y c<|NE h);have F:i<n.length:=by
  unfold WR at g;by_cases F:i<n.length;exact F;rw[Wf (by simpa using F)] at g;rw[List.getElem?_replicate] at g;split at g<;>cases g
 have X:n[i]?=some v:=by
  unfold WR at g;rw[Yb (by simpa using F),Z_] at g;cases e:n[i]? with
  |none=>rw[e] at g;cases g
  |some a=>rw[e] at g;cases g;rfl
 obtain⟨u,Q,V⟩:=r.get X;have D:t[i]?=some y:=by
  rw[<-S.pre,List.getElem?_take_of_lt (ZP F (XX hl))];exact G
 have T:=S.pre▸S.nd.sublist (List.take_sublist _ _);refine nS u V ?_;rcases S.par y (YK D) with k|k
 exact .inl ⟨k,KG T D Q k⟩;obtain⟨c,e⟩:=KI k;refine .inr (qC (.inl k) c e ?_);have q:=x.cell y c e;rw[KH T D Q (by show d.names.lookup y≠_;rw[k];decide)] at q;exact q;exact m.ay.fresh (Zb<|x.above y c<|NE h);unfold WR;show _=N.length;rw[JB,Wo,We];lia
theorem akJ{K:Frag}{f:Do}{h:Cl}{dV kV D pm F ct oc:EQ}{an od:xz}{jO:Array AC}(lk:K.lookup f=some ⟨oc,od,.func<|PySem.W.fnOf j l p h c dV kV D pm an F ct,jO⟩)(mx:PySem.W.codeIn K F l=true)(S:wR N G c)(B:∀i H Q E,R i H Q E->i.length=G.length)(X5:∀(A:FM)(d:Al)(s:Ev)(H:Hp)(i:db)(Q:VK)(E:XK),dJ k (A.deeper (envOfC l c s.heap.objs.size f F))->R i H Q E->
   ∃t,eT (sf Y P w K L g N l c f F A d s H E) h t/\t {nx:=λ_ m=>Q .a m,r:=Q} (WR N i) H):
  du P w K L g Y (k+1) f (PySem.W.fnOf j l p h c dV kV D pm an F ct) G R:=by
 refine⟨B,λA d s H a' us i Q E X C hb r pV=>?_⟩;have KX:=C.mod.wL.keeps λb o e=>(C.bs b o e).1;have X6:∀y∈G.zip us,c.names.lookup y.1=some .local\/(c.names.lookup y.1=some .cell/\((cellsFrom (s.heap.objs.size+1) c.names []).lookup y.1).isSome=true):=λ⟨n,v⟩ hy=>by
  rcases S.par n (List.of_mem_zip hy).1 with q|q
  exact .inl q;exact .inr ⟨q,cellsFrom_some _ _ _<|.inl q⟩
 refine codeAny_call_function X.depth (KX _ _ lk) O S.co S.gen O (PySem.W.codeRec_of KX mx)<|hb _ _ _ _ (wpAny_newFunctionEnv_cells S.kind X6 λb' he Z x=>?_);subst he;refine⟨(C.mod.nolimit.keeps λb o e=>(C.bs b o e).1).keeps x.toInCall.keep,codeAny_func ?_⟩;obtain⟨t,ht,hq⟩:=X5 A d s H i Q E (X.deeper _) pV;have I:uP (sf Y P w K L g N l c f F A d s H E) [] (WR N i) H Z:=apO S X.hd C (B _ _ _ _ pV) r x;refine KM (ht [] Z (WR N i) H _ I hq) (λfl T z=>?_) λe T z=>z;have Y':∀{M:St}{m:Hp}{v:V}{u:EQ},uP (sf Y P w K L g N l c f F A d s H E) [] M m T->lA v u->Q v m->CE d P w H s Q u T:=
  λ{M m v u} J U q=>oS v m J.os J.E J.base ⟨J.ay,U,q⟩
 cases fl with
 |ret u=>
  obtain⟨v,M,m,zq⟩:=jR z;obtain⟨J,U,q⟩:=Z5 zq;exact Y' J U q
 |next=>
  obtain⟨M,m,J,q⟩:=z;exact Y' (v:=V.a) J O q
 |brk=>
  obtain⟨_,_,_,q⟩:=z;exact False.elim q
 |cont=>
  obtain⟨_,_,_,q⟩:=z;exact False.elim q
section
variable{X:Cx}{x:Str}{p b:Pos}{e:Expr}{a:tz}{t:TA}{c T:GE}{r:db->Hp->VK->Prop}
def iR(r:db->Hp->VK->Prop)(t:TA):TE:=λa H Q=>t a H λv b=>r v b Q
theorem KL(w:eG X (.builtin c) r)(l:Gl X x)(m:X.mg x=none)(j:bootBuiltins x=some (.builtin c))(y:PA X (e::a) t)(n:autoParam (x≠"__name__") cn)(g:autoParam ((x==("__debug__":Str))=false) cn)(o:autoParam (starEach (e::a) X.env=(false,eval e X.env)::starEach a X.env) cu)(k:autoParam ((backTo b<|starEach a X.env).any (·.1)=false) cu):PE X (.Call (.Name x p) (e::a) [] b) (iR r t):=by
 intro D s d H Q I h;exact Ps<|my I l m j (PyProof.Rows.callWith_builtin1 (aF (y b D s d H _ I h) λu f ⟨v,A,z,i,q⟩=>w D f d A v u Q z i q) o k) n g
theorem anD(o:eG X (.type T) r)(j:Gl X x)(m:X.mg x=none)(i:bootBuiltins x=some (.type T))(w:PA X (e::a) t)(n:autoParam (x≠"__name__") cn)(f:autoParam ((x==("__debug__":Str))=false) cn)(l:autoParam (starEach (e::a) X.env=(false,eval e X.env)::starEach a X.env) cu)(k:autoParam ((backTo b<|starEach a X.env).any (·.1)=false) cu):PE X (.Call (.Name x p) (e::a) [] b) (iR r t):=by
 intro D s c H Q I h;exact Ps<|my I j m i (Pi (aF (w b D s c H _ I h) λu d ⟨v,z,y,g,q⟩=>o D d c z v u Q y g q) l k) n f
end
end
namespace HT
open PySem PyProof.Rows
section
variable{a:Fk}{w:Fa}{A:FM}{E:ge}{s:Ev}
theorem X8{v c:im}{Q:ge}(q:IsTup s.heap t v.toArray)(x:IsTup s.heap b c.toArray)(m:v≠ [])(B:c=[]->Q (.ref t) s)(y:c≠ []->Q (.ref s.heap.objs.size) {s with heap:=s.heap.push {cls:=.type "tuple",data:=.seq (v++c).toArray}})(z:v.length+c.length<=sizeLine):wpAny (model a w) A (binaryOp .Add (.ref t)<|.ref b) Q E s:=by
 obtain⟨⟨j,p,d,l⟩,o,u,n,r⟩:=id q;obtain⟨⟨C,K,i,V⟩,g,Y,k,f⟩:=id x;subst u r Y f;have e:v.toArray++c.toArray=(v++c).toArray:=by simp
 by_cases h:c=[];exact concat_meets ⟨_,o,O⟩ ⟨_,g,O⟩ noFill_tuple_add seq_tuple_add PySem.F.slot_tuple_add PySem.F.entry_tuple_add (PySem.F.args_tuple_add_2 _ _)
  (tuple_addW1 t b v.toArray c.toArray n k p K l V (by simpa using m) (by simp[h])) ⟨o,g,B h⟩
 refine concat_meets ⟨_,o,O⟩ ⟨_,g,O⟩ noFill_tuple_add seq_tuple_add PySem.F.slot_tuple_add PySem.F.entry_tuple_add (PySem.F.args_tuple_add_2 _ _)
  (tuple_addW2 t b v.toArray c.toArray n k p K l V (by simpa using m) (by simpa using h) (by exact z)) ⟨o,g,?_⟩
 rw[e];exact y h
def aZ(n d:Nat):u8->Nat
 |none=>d
 |some v=>if v<0 then (v+(n:Int)).toNat else min v.toNat n
theorem D5(n d:Nat):aZ n d none=d:=O
theorem pX(n d k:Nat):aZ n d (some (k:Int))=min k n:=O
theorem D6(n d:Nat)(a:d<=n)(o:u8):aZ n d o<=n:=by
 cases o with
 |none=>exact a
 |some v=>
  show(if v<0 then (v+(n:Int)).toNat else min v.toNat n)<=n;by_cases h:v<0;lia;rw[Id h];exact Nat.min_le_right _ _
theorem KO(v:Int)(n d:Nat):(if v<0 then max (v+(n:Int)) 0 else min v (n:Int))=((aZ n d (some v):Nat):Int):=by
 show(if v<0 then max (v+(n:Int)) 0 else min v (n:Int))=(((if v<0 then (v+(n:Int)).toNat else min v.toNat n):Nat):Int);by_cases h:v<0;lia;lia
theorem abC(l h:u8)(n:Nat):Builtin.Slice.sliceAdjust l h 1 (n:Int)=(((aZ n 0 l:Nat):Int),((aZ n n h:Nat):Int)):=by
 refine Prod.ext ?_ ?_;cases l with
 |none=>rfl
 |some v=>exact KO v n 0
 cases h with
 |none=>rfl
 |some v=>exact KO v n n
theorem aiD(i j:Nat):Builtin.Slice.slicePlaces (i:Int) (j:Int) 1=j - i:=by
 unfold Builtin.Slice.slicePlaces;split<;>lia
theorem KP{o:u8}{Q:u8->Ev->Prop}(p:IsPart v o)(h:Q o s):wpAny (model a w) A (Builtin.Slice.slicePartIndex v) Q E s:=by
 cases p with
 |none=>exact slicePart_none h
 |int i t=>exact slicePart_int h
theorem acD{b v:EQ}{l i:u8}{Q:Int×Int×Nat->Ev->Prop}(f:s.heap.IsSliceOf c b v .none)(d:IsPart b l)(p:IsPart v i)(h:Q (((aZ n 0 l:Nat):Int),1,aZ n n i - aZ n 0 l) s):wpAny (model a w) A (Builtin.Slice.sliceApplied (.ref c)<|pure (n:Int)) Q E s:=by
 obtain⟨o,W,K,e⟩:=id f;refine GM<|GM<|Op W e O<|GM<|Op W e O<|GM<|Op W e O<|IO (GM<|slicePart_none (GM<|KP d<|GM<|KP p<|GM<|IO ?_));show wpAny _ _ (match Builtin.Slice.sliceAdjust l i 1 (n:Int) with|(l,i)=>pure (l,(1:Int),Builtin.Slice.slicePlaces l i 1)) _ _ s;rw[abC l i n];show wpAny _ _ (pure (((aZ n 0 l:Nat):Int),(1:Int),Builtin.Slice.slicePlaces ((aZ n 0 l:Nat):Int) ((aZ n n i:Nat):Int) 1)) _ _ s;rw[aiD];exact IO h
theorem agS(s:sK)(i k:Nat):((List.range k).filterMap fun(m:Nat)=>s[((i:Int)+(m:Int)*1).toNat]?).toArray=((s.toList.drop i).take k).toArray:=by
 have e:(fun(m:Nat)=>s[((i:Int)+(m:Int)*1).toNat]?)=λm=>s[i+m]?:=by
  funext m;have:((i:Int)+(m:Int)*1).toNat=i+m:=by lia
  rw[this]
 rw[e];have:=pick_run s i k;rw[XY] at this;have a:((λx=>s[x]?)∘λx=>i+x)=λm=>s[i+m]?:=O;rw[a] at this;rw[this]
theorem Yc{i:sK}{d v:EQ}{l b:u8}{Q:ge}(c:IsTup s.heap t i)(g:s.heap.IsSliceOf e d v .none)(j:IsPart d l)(p:IsPart v b)(k:¬(aZ i.size 0 l=0/\aZ i.size i.size b=i.size))(h:Q (.ref s.heap.objs.size) {s with heap:=s.heap.push {cls:=.type "tuple",data:=.seq ((i.toList.drop<|aZ i.size 0 l).take<|aZ i.size i.size b - aZ i.size 0 l).toArray}})(z:i.size<=sizeLine):wpAny (model a w) A (getItem (.ref t)<|.ref e) Q E s:=by
 have f:=by
  show((i.toList.drop<|aZ i.size 0 l).take<|aZ i.size i.size b - aZ i.size 0 l).toArray.size<=sizeLine;rw[WD,Xg,Yj,x6];omega
 obtain⟨o,W,K,x⟩:=id g;have n:s.TypeIs (.ref e) "slice":=⟨o,W,K⟩;unfold getItem
 try with_reducible refine No ?_
 refine GM<|wpAny_sequenceKey c.typeIs (O) ?_;refine GM (ZB c.typeIs Cp
  (wpAny_call_entry Cp c.typeIs entry_tuple_getitem ?_ (args_tuple_getitem _ _)))
 show wpAny _ _ (Builtin.Tuple.tupleItemsOf (.ref t) >>=_) _ _ s;refine GM<|tupleItemsOf_ c (GM<|wpAny_typeOf n (GM<|acD g j p ?_));have Y:¬((((aZ i.size 0 l:Nat):Int)==0 && (1:Int)==1 && (aZ i.size i.size b - aZ i.size 0 l)==i.size)=true):=by
  intro q;rw[WZ,WZ] at q;have u:=eq_of_beq q.1.1;have r:=eq_of_beq q.2;exact k ⟨aH,aH⟩
 show wpAny _ _ (if (((aZ i.size 0 l:Nat):Int)==0 && (1:Int)==1 && (aZ i.size i.size b - aZ i.size 0 l)==i.size)=true then _ else _) _ _ s;rw[Id Y,agS]
 first
  |exact GM (Tm (IO ⟨_,O,IO h⟩) f)
  |exact GM (m:=Builtin.Tuple.tupleExact _) (Tm (GM<|IO<|IO ⟨_,O,IO h⟩) f)
  |exact GM (GM<|Tm (IO<|IO ⟨_,O,IO h⟩) f)
  |exact GM (GM (m:=Builtin.Tuple.tupleExact _)<|Tm (IO ⟨_,O,IO h⟩) f)
end
end HT
section
open PyProof.Rows
abbrev TO:=St->Hp->(u8->Hp->Prop)->Prop
def PO(X:Cx)(e:Option Expr)(t:TO):Prop:=
 ∀(D:gh)(s:Ev)(a:St)(H:Hp)(Q:u8->Hp->Prop),uP X D a H s->t a H Q->
  wpAny (model X.prog X.w) X.A (evalPart e X.env) (λu c=>∃o b,uP X D a b c/\IsPart u o/\Q o b) X.xe s
def wX:TO:=λ_ H Q=>Q none H
def si(t:TE):TO:=λa H Q=>t a H λx b=>∃i,x=.i i/\Q (some i) b
theorem Aq:∀{u:im},Wz (s.map V.i) u->IntsAre u s:=by
 induction s with
 |nil=>intro u r;cases r;exact .nil
 |cons n s h=>
  intro u r;cases r with
  |cons b a=>
   obtain⟨t,e⟩:=b;subst e;exact .cons n t<|h a
section
variable{X:Cx}{e:Expr}{f:TE}{c d:Option Expr}{g j:TO}{pos k:Pos}
theorem Ag:PO X none wX:=by
 intro D s a H Q I h;exact IO ⟨none,H,I,.none,h⟩
theorem Ah(h:PE X e f):PO X (some e) (si f):=by
 intro D s a H Q I w;refine aF (h D s a H _ I w) λu g ⟨x,d,c,r,b⟩=>?_;obtain⟨i,rfl,q⟩:=b;obtain⟨t,rfl⟩:=r;exact oG (some i) d c (.int i t) q
def Ai(X:Cx)(r:V->u8->u8->Hp->VK->Prop):Prop:=
 ∀(D:gh)(s:Ev)(a:St)(H:Hp)(x:V)(v l u:EQ)(c d:u8)(b:Do)(Q:VK),uP X D a H s->lA x v->s.heap.IsSliceOf b l u .none->IsPart l c->IsPart u d->r x c d H Q->
  ∃T i,typeLookup (.type T) "__getitem__"=pure (some<|.builtin i)/\s.TypeIs v T/\wpAny (model X.prog X.w) X.A (getItem v<|.ref b) (EP X D a Q) X.xe s
def D7(r:V->u8->u8->Hp->VK->Prop)(f:TE)(g j:TO):TE:=λa H Q=>f a H λx d=>g a d λl c=>j a c λu b=>r x l u b Q
theorem amG(G:Ai X r)(L:PE X e f)(J:PO X c g)(E:PO X d j):PE X (.Subscript e (.Slice c d none k) pos) (D7 r f g j):=by
 intro D s a H Q I h;refine Subscript_<|aF (L D s a H _ I h) λv t ⟨x,V,S,w,A⟩=>wpAny_Slice<|aF (J D t a V _ S A) λn p ⟨l,U,R,C,z⟩=>aF (E D p a U _ R z) λm i ⟨u,o,P,B,y⟩=>IO ?_;have N:uP X D a o {i with heap:=i.heap.push {cls:=.type "slice",data:=.fields #[n,m,.none]}}:=P.kept λb W q=>KF _ q;obtain⟨T,Y,zq⟩:=Z2 (G D {i with heap:=i.heap.push {cls:=.type "slice",data:=.fields #[n,m,.none]}} a o x v n m l u i.heap.objs.size Q N w (Heap.IsSliceOf.new ..) C B y);obtain⟨M,F,K⟩:=Z5 zq;exact tail_any F M K (O)
noncomputable def dZ(x:db)(c d:u8):db:=(x.drop<|HT.aZ x.length 0 c).take (HT.aZ x.length x.length d - HT.aZ x.length 0 c)
theorem D8(x:db)(c d:u8):(dZ x c d).length<=x.length:=by
 unfold dZ;rw[Xg,Yj];lia
def akD(K:Frag):V->u8->u8->Hp->VK->Prop:=λx c d H Q=>∃a s,x=.r a/\aA K H a s/\
 ¬(HT.aZ s.length 0 c=0/\HT.aZ s.length s.length d=s.length)/\∀p,H p=none->Q (.r p) (upd H p<|.t<|dZ s c d)
theorem aiI:Ai X (akD X.K):=by
 intro D s j H x v k u c d m Q I f i l p h;obtain⟨a,e,zq⟩:=Z2 h;obtain⟨rfl,g,w,q⟩:=YG zq;cases f;obtain⟨y,r,t,z⟩:=I.tuple g;have n:=WD▸r.length.symm;refine oG ("tuple") _ PyProof.Rows.slot_tuple_getitem.lookup t.typeIs (HT.Yc t i l p aH ?_ (Y4 (XX n) z));rw[n];refine⟨.r s.heap.objs.size,_,I.laid (λb o q=>KF _ q) (ZX _) ?_,O,q _<|I.ay.fresh<|ZX _⟩;exact qC (Y4 (D8 e c d) z) _ ((r.drop<|HT.aZ e.length 0 c).take<|HT.aZ e.length e.length d - HT.aZ e.length 0 c) (IsTup.new _ _)
def KR(K:Frag):R2:=λx y H Q=>∃a b c s,x=.r a/\y=.r b/\aA K H a c/\aA K H b s/\c≠ []/\c.length+s.length<=sizeLine/\
 (s=[]->Q (.r a) H)/\(s≠ []->∀p,H p=none->Q (.r p) (upd H p<|.t<|c++s))
theorem Wz.D9(r:Wz x u):u=[]↔x=[]:=by
 cases r with
 |nil=>simp
 |cons Y Y=>simp
theorem ahI:bj X (binaryOp .Add) (KR X.K):=by
 intro D s o H x y v u Q I g f h;obtain⟨a,b,A,t,zq⟩:=YC h;obtain⟨rfl,rfl,n,m,l,e,j,i⟩:=lI zq;cases g;cases f;obtain⟨C,d,p,Z⟩:=I.tuple n;obtain⟨Y,c,k,Z⟩:=I.tuple m;refine HT.X8 p k (λz=>l<|d.D9.mp z) (λz=>⟨.r a,H,I,O,j<|c.D9.mp z⟩) (λz=>?_) (by rw[<-d.length,<-c.length];exact e);refine⟨.r s.heap.objs.size,_,I.laid (λb B q=>KF _ q) (ZX _) ?_,O,i (λw=>z<|c.D9.mpr w) _<|I.ay.fresh<|ZX _⟩;exact⟨JB▸e,_,d.append c,IsTup.new _ _⟩
end
noncomputable def fZ(n:Nat)(i:Int):ww:=if 0<=i then (if i<n then some i.toNat else none) else if -(n:Int)<=i then some (i+n).toNat else none
def fF{a:Type}(x:List a)(i:Int):Option a:=(fZ x.length i).bind λj=>x[j]?
theorem KS(h:fZ n i=some j):seqIndex? i n=some j/\j<n/\ -(n:Int)<=i/\i<n:=by
 unfold fZ at h;by_cases b:0<=i;rw[GT b] at h;by_cases a:i<n;rw[GT a] at h;exact⟨by rw[seqIndex_of b a,(lF h)],aH,aH,a⟩;rw[Id a] at h;cases h;rw[Id b] at h;by_cases a: -(n:Int)<=i;rw[GT a] at h;exact⟨by rw[seqIndex_neg aH a,(lF h)],aH,a,aH⟩;rw[Id a] at h;cases h
theorem D_(h:fF x i=some v):∃j,seqIndex? i x.length=some j/\x[j]?=some v/\j<x.length/\ -(x.length:Int)<=i/\i<x.length:=by
 unfold fF at h;cases e:fZ x.length i with
 |none=>rw[e] at h;cases h
 |some j=>
  rw[e] at h;obtain⟨f,d,c,b⟩:=KS e;exact⟨j,f,h,d,c,b⟩
theorem bq{xs:List a}{j:Nat}(h:xs[j]?=some v):fF xs (j:Int)=some v:=by
 have b:=(ZS.mp h).1;have e:fZ xs.length (j:Int)=some j:=by
  unfold fZ;rw[GT (Wx _),GT aH];simp
 unfold fF;rw[e];exact h
theorem pY(x:List a)(v:a):fF (x++[v]) (-1)=some v:=by
 have h:(x++[v]).length=x.length+1:=by simp
 have e:fZ (x++[v]).length (-1)=some x.length:=by
  unfold fZ;rw[Id aH,GT aH];congr 1;lia
 unfold fF;rw[e];simp
def KU(b:Expr):Prop:= ∀o i,subscripted b false o i=operate [o,i] (getItem o i)
def mD(X:Cx)(r:R2):Prop:=
 ∀(a e:Expr)(D:gh)(s:Ev)(b:St)(H:Hp)(x y:V)(v u:EQ)(Q:VK),uP X D b H s->lA x v->lA y u->r x y H Q->
  subscripted e false v u=operate [v,u] (getItem v u)->wpAny (model X.prog X.w) X.A (subscriptTail a e v u) (EP X D b Q) X.xe s
def uN(X:Cx)(i:GE)(r:V->db->Hp->VK->Prop):Prop:=
 ∀(D:gh)(s:Ev)(a:St)(H:Hp)(x:V)(b:db)(v:EQ)(u:im)(Q:VK),uP X D a H s->lA x v->Wz b u->r x b H Q->
  wpAny (model X.prog X.w) X.A (call (.builtin i) (v::u)) (EP X D a Q) X.xe s
section
variable{X:Cx}{a b:Expr}{d g:TE}{pos:Pos}
theorem mD.or(h:mD X r)(i:mD X r'):mD X (λx y H Q=>r x y H Q\/r' x y H Q):=by
 intro e a D s b H x y v u Q I d c q f;rcases q with q|q
 exact h e a D s b H x y v u Q I d c q f;exact i e a D s b H x y v u Q I d c q f
theorem ahU(k:mD X r)(m:PE X a d)(l:PE X b g)(j:KU b):PE X (.Subscript a b pos) (gB r d g):=by
 intro D s c H Q I h;exact Subscript_<|DY m l I h λv u e x y o n i f q=>k a b D e c o x y v u Q n i f q (j _ _)
def KW(K:Frag):R2:=λx y H Q=>∃p s i v,x=.r p/\y=.i i/\ag K H p s/\fF s i=some v/\Q v H
def KY(K:Frag):R2:=λx y H Q=>∃p s i v,x=.r p/\y=.i i/\aA K H p s/\fF s i=some v/\Q v H
def KZ:R2:=λx y H Q=>∃z i c,x=.s z/\y=.i i/\z.length<=sizeLine/\fF z.cps.toList i=some c/\Q (.s ⟨#[c]⟩) H
theorem Yk:mD X (KW X.K):=by
 intro e b G s k H x y v u Q I n m h d;obtain⟨p,J,i,z,zq⟩:=YC h;obtain⟨rfl,rfl,o,B,q⟩:=Y7 zq;cases n;obtain⟨t,rfl⟩:=m;obtain⟨F,r,l,L⟩:=I.list o;obtain⟨j,a,E,N,D,C⟩:=D_ B;obtain⟨w,g,P⟩:=r.get E;have A:=r.length;have M:=rY;have Y:EP X G k Q w s:=⟨z,H,I,P,q⟩;by_cases f:0<=i;have c:=by
  rw[seqIndex_of f C] at a;exact lF a
 exact item_listR l.isList f aH (by rw[c];simpa using g) Y d;have c:(i+(F.toArray.size:Int)).toNat=j:=by
  rw[seqIndex_neg aH D] at a;rw[WD,<-A];exact lF a
 exact tA l.isList.typeIs slot_list_getitem.lookup
  (wpAny_getItem_list_neg l.isList aH (by rw[WD] <;>lia) aH (by rw[c];simpa using g) ⟨O,Y⟩) d
theorem aoN:mD X (KY X.K):=by
 intro e a D s b H x y v u Q I d c h f;obtain⟨p,A,i,z,zq⟩:=YC h;obtain⟨rfl,rfl,g,k,q⟩:=Y7 zq;cases d;obtain⟨t,rfl⟩:=c;obtain⟨J,r,l,B⟩:=I.tuple g;obtain⟨j,n,m,G,F,E⟩:=D_ k;obtain⟨w,o,P⟩:=r.get m;have C:=rY;have Y:EP X D b Q w s:=⟨z,H,I,P,q⟩;exact tA l.typeIs slot_tuple_getitem.lookup
  (getItem_tuple l aH aH (by rw[WD,<-r.length];exact n) (by simpa using o) ⟨O,Y⟩) f
theorem aoG:mD X KZ:=by
 intro e a E s w H x y v u Q I d r h f;obtain⟨z,i,c,zq⟩:=jR h;obtain⟨rfl,rfl,B,g,q⟩:=Y7 zq;obtain⟨t,rfl⟩:=d;obtain⟨A,rfl⟩:=r;obtain⟨j,zq⟩:=XM (D_ g);obtain⟨b,n,D,m,k⟩:=Y7 zq;have l:z.cps.toList.length=z.length:=O;rw[l] at b m k;have C:=rY;exact tail_any (typeIs_str s z t) slot_str_getitem.lookup (getItem_str (by
  have p:decide (i< -(2 ^ 63:Int))=false:=ZN aH;have o:decide (i≥2 ^ 63)=false:=ZN aH;rw[p,o,ZO]) (by rw[b];simpa using n) ⟨.s ⟨#[c]⟩,H,I.tok _,⟨_,O⟩,q⟩) f
theorem apU(a:im)(n j:Nat)(u:EQ):Obj.mapSeq (·.setIfInBounds j u) {cls:=.type "list",data:=.seq a.toArray n}={cls:=.type "list",data:=.seq (a.set j u).toArray n}:=by
 simp[Obj.mapSeq]
theorem uP.lst{b:St}{H:Hp}{s:Ev}{p:Do}{x:db}(I:uP X D b H s)(h:H p=some (.l x)):
  ∃(a:im)(n:Nat),Wz x a/\s.heap.get? p=some {cls:=.type "list",data:=.seq a.toArray n}/\x.length<=sizeLine:=by
 obtain⟨z,a,n,r,e⟩:=I.ay p _ h;exact⟨a,n,r,e,z⟩
theorem uP.Yo{c:St}{k:im}{a:Nat}(I:uP X D c H s)(h:H p=some (.l x))(o:s.heap.get? p=some {cls:=.type "list",data:=.seq k.toArray n})(d:f {cls:=.type "list",data:=.seq k.toArray n}={cls:=.type "list",data:=.seq i.toArray a})(r:Wz y i)(z:y.length<=sizeLine)(t:Nat):
  uP X D c (upd H p<|.l y) {s with heap:=s.heap.update p f,toks:=t}:=by
 have e:(s.heap.update p f).get? p=some {cls:=.type "list",data:=.seq i.toArray a}:=by
  rw[Pw f o (by rw[d] <;>rfl),d]
 refine I.write (by rw[h];trivial) (.inl O) (λb u g q=>(On _ _<|Ix g).trans q) ⟨_,e⟩ ?_;exact⟨z,i,a,r,e⟩
def Aj:V->V->V->Hp->(Hp->Prop)->Prop:=λo i v H Q=>∃p x k j,o=.r p/\i=.i k/\H p=some (.l x)/\fZ x.length k=some j/\Q (upd H p<|.l<|x.set j v)
theorem afG:J4 X Aj:=by
 intro K s C H o i v E F u Q I y z x h;obtain⟨p,D,k,j,zq⟩:=YC h;obtain⟨rfl,rfl,d,B,q⟩:=Y7 zq;cases y;obtain⟨t,rfl⟩:=z;obtain⟨m,n,r,b,A⟩:=I.lst d;obtain⟨a,J,f,e⟩:=YG (KS B);have l:=r.length;have G:=rY;have w:=
  I.Yo d b (apU m n j u) (r.set x j) (by rw[V1];exact A) s.toks
 by_cases g:0<=k;have c:=by
  rw[seqIndex_of g e] at a;exact lF a
 exact PySem.W.ki_setAt b g aH (by rw[WD,<-l];exact e) (by rw[c];exact⟨_,w,q⟩);have c:(k+(m.toArray.size:Int)).toNat=j:=by
  rw[seqIndex_neg aH f] at a;rw[WD,<-l];exact lF a
 exact PySem.W.ki_setBack b aH (by rw[WD,<-l];exact f) aH (by rw[c];exact⟨_,w,q⟩)
theorem Ea(l a:u8)(n:Nat):(sliceBounds l a none n).1=((HT.aZ n 0 l:Nat):Int)/\(sliceBounds l a none n).2.1=((HT.aZ n n a:Nat):Int)/\(sliceBounds l a none n).2.2=1:=by
 refine⟨?_,?_,O⟩;cases l with
 |none=>simp[sliceBounds,HT.aZ]
 |some i=>
  simp only[sliceBounds,HT.aZ,Option.getD_none,show(1:Int) >0 by lia,if_true];by_cases h:i<0;simp only[h,if_true] <;>lia
  simp only[h,SB] <;>lia
 cases a with
 |none=>simp[sliceBounds,HT.aZ]
 |some i=>
  simp only[sliceBounds,HT.aZ,Option.getD_none,show(1:Int) >0 by lia,if_true];by_cases h:i<0;simp only[h,if_true] <;>lia
  simp only[h,SB] <;>lia
theorem adE(a:im)(l h:u8):slicePick a.toArray l h none=((a.drop<|HT.aZ a.length 0 l).take<|HT.aZ a.length a.length h - HT.aZ a.length 0 l).toArray:=by
 obtain⟨d,c,b⟩:=Ea l h a.toArray.size;unfold slicePick;rw[d,c,b];simp only[sliceRange_one,pick_run,WD] <;>rfl
def Yq(K:Frag):V->u8->u8->Hp->VK->Prop:=λx o h H Q=>∃a s,x=.r a/\ag K H a s/\∀p,H p=none->Q (.r p) (upd H p<|.l<|dZ s o h)
theorem aqA:Ai X (Yq X.K):=by
 intro D s j H x v k u l i m Q I d g e p h;obtain⟨a,c,rfl,f,q⟩:=h;cases d;obtain⟨w,r,t,z⟩:=I.list f;have n:=r.length;refine oG ("list") _ slot_list_getitem.lookup t.isList.typeIs (wpAny_getItem_list_slice t.isList g e p .none aH ?_ (by rw[WD] <;>lia));rw[adE,<-n];refine⟨.r s.heap.objs.size,_,I.laid (λb o q=>KF _ q) (ZX _) ?_,O,q _<|I.ay.fresh<|ZX _⟩;exact sA (Y4 (D8 c l i) z) _ 0 ((r.drop<|HT.aZ c.length 0 l).take<|HT.aZ c.length c.length i - HT.aZ c.length 0 l) (Nr _ O)
noncomputable def iS:V->Gc
 |.a=>true
 |.b _=>true
 |.i _=>true
 |.s _=>true
 |_=>false
noncomputable def f_:V->V->Gc
 |.a,.a=>true
 |.b a,.b b=>a==b
 |.b a,.i b=>(if a then 1 else 0)==b
 |.i a,.b b=>a==(if b then 1 else 0)
 |.i a,.i b=>a==b
 |.s a,.s b=>a==b
 |_,_=>false
theorem Ys{s:Ev}(d:lA y u)(r:lA x v)(e:iS y=true)(f:iS x=true):SeqAt.EqAt A s u v (f_ y x):=by
 cases y with
 |a=>
  cases d;cases x with
  |a=>cases r;exact SeqAt.EqAt.same _
  |b b=>cases r;exact SeqAt.EqAt.none_bool b
  |i b=>obtain⟨t,rfl⟩:=r;exact SeqAt.EqAt.none_int b t
  |s b=>obtain⟨t,rfl⟩:=r;exact SeqAt.EqAt.none_str b t
  |_=>exact absurd (show false=true from f) Yi
 |b a=>
  cases d;cases x with
  |a=>cases r;exact SeqAt.EqAt.bool_none a
  |b b=>cases r;exact SeqAt.EqAt.bool_bool a b
  |i b=>obtain⟨t,rfl⟩:=r;exact SeqAt.EqAt.bool_int a b t
  |s b=>obtain⟨t,rfl⟩:=r;exact SeqAt.EqAt.bool_str a b t
  |_=>exact absurd (show false=true from f) Yi
 |i a=>
  obtain⟨c,rfl⟩:=d;cases x with
  |a=>cases r;exact SeqAt.EqAt.int_none a c
  |b b=>cases r;exact SeqAt.EqAt.int_bool a c b
  |i b=>obtain⟨t,rfl⟩:=r;exact SeqAt.EqAt.int_int a c b t
  |s b=>obtain⟨t,rfl⟩:=r;exact SeqAt.EqAt.int_str a c b t
  |_=>exact absurd (show false=true from f) Yi
 |s a=>
  obtain⟨c,rfl⟩:=d;cases x with
  |a=>cases r;exact SeqAt.EqAt.str_none a c
  |b b=>cases r;exact SeqAt.EqAt.str_bool a c b
  |i b=>obtain⟨t,rfl⟩:=r;exact SeqAt.EqAt.str_int a c b t
  |s b=>obtain⟨t,rfl⟩:=r;exact SeqAt.EqAt.str_str a c b t
  |_=>exact absurd (show false=true from f) Yi
 |_=>exact absurd (show false=true from e) Yi
def gF(x:V)(u:EQ):Gc:=match u with
 |.none=>f_ .a x
 |.bool b=>f_ (.b b) x
 |.int i _=>f_ (.i i) x
 |.str z _=>f_ (.s z) x
 |_=>false
theorem Eb(r:lA y u)(f:iS y=true):gF x u=f_ y x:=by
 cases y with
 |a=>cases r;rfl
 |b b=>cases r;rfl
 |i i=>obtain⟨t,rfl⟩:=r;rfl
 |s z=>obtain⟨t,rfl⟩:=r;rfl
 |_=>exact absurd (show false=true from f) Yi
theorem Ak:∀{s:db}{u:im},Wz s u->s.all iS=true->u.any (gF x)=s.any λy=>f_ y x:=by
 intro Y Y h;induction h with
 |nil=>exact λY=>O
 |cons r Y i=>
  intro f;rw[ZZ,WZ] at f;rw[XR,XR,Eb r f.1,i f.2]
theorem wY{s:Ev}(e:lA x v)(g:iS x=true):∀{b:db}{c:im},Wz b c->b.all iS=true->∀u∈c,SeqAt.EqAt A s u v (gF x u):=by
 intro Y Y h;induction h with
 |nil=>exact nofun
 |cons r Y i=>
  intro f d a;rw[ZZ,WZ] at f;rcases X9.mp a with rfl|a
  rw[Eb r f.1];exact Ys r e f.1 g;exact i f.2 d a
def df(x:V)(s:db):Gc:=s.any λy=>f_ y x
def Ec(K:Frag)(n:Gc):R2:=λx y H Q=>∃p s,y=.r p/\(ag K H p s\/aA K H p s)/\iS x=true/\s.all iS=true/\Q (.b (if n then !df x s else df x s)) H
theorem aoH:bj X (compareOp .In) (Ec X.K false):=by
 intro D s i H x y v u Q I d g h;obtain⟨p,j,zq⟩:=Z2 h;obtain⟨rfl,a,e,f,q⟩:=Y7 zq;cases g;rcases a with a|a
 obtain⟨k,r,l,z⟩:=I.list a;refine SeqAt.in_listAt (gF x) l.isList (λw c=>wY d e r f w (by simpa using c)) ⟨.b _,H,I,O,?_⟩;rw[show k.toArray.any (gF x)=k.any (gF x) by simp,Ak r f];exact q;obtain⟨k,r,l,z⟩:=I.tuple a;refine SeqAt.in_tupleAt (gF x) l (λw c=>wY d e r f w (by simpa using c)) ⟨.b _,H,I,O,?_⟩;rw[show k.toArray.any (gF x)=k.any (gF x) by simp,Ak r f];exact q
theorem alD:bj X (compareOp .NotIn) (Ec X.K true):=by
 intro D s i H x y v u Q I d g h;obtain⟨p,j,zq⟩:=Z2 h;obtain⟨rfl,a,e,f,q⟩:=Y7 zq;cases g;rcases a with a|a
 obtain⟨k,r,l,z⟩:=I.list a;refine SeqAt.notIn_listAt (gF x) l.isList (λw c=>wY d e r f w (by simpa using c)) ⟨.b _,H,I,O,?_⟩;rw[show k.toArray.any (gF x)=k.any (gF x) by simp,Ak r f];exact q;obtain⟨k,r,l,z⟩:=I.tuple a;refine SeqAt.notIn_tupleAt (gF x) l (λw c=>wY d e r f w (by simpa using c)) ⟨.b _,H,I,O,?_⟩;rw[show k.toArray.any (gF x)=k.any (gF x) by simp,Ak r f];exact q
theorem eG.or(h:eG X f r)(d:eG X f c):eG X f (λx H Q=>r x H Q\/c x H Q):=by
 intro D s a H x u Q I b q;rcases q with q|q
 exact h D s a H x u Q I b q;exact d D s a H x u Q I b q
theorem Yv:eG X (.type "list") (λx H Q=>∃p y,x=[.r p]/\(ag X.K H p y\/aA X.K H p y)/\∀l,H l=none->Q (.r l) (upd H l<|.l y)):=by
 intro D s B H x E Q I r h;obtain⟨p,y,rfl,g,q⟩:=h;obtain⟨u,rfl,C⟩:=ZI r;cases C;have Y:∀(k:im),Wz y k->y.length<=sizeLine->∀(a:FS)(d:Nat),(∀b A,s.heap.get? b=some A->a.get? b=some A)->
   a.get? s.heap.objs.size=some {cls:=.type "list",dict:=none,data:=.seq k.toArray d,slots:= #[]}->EP X D B Q (.ref s.heap.objs.size) {s with heap:=a}:=λk c z a d f e=>
  ⟨.r s.heap.objs.size,_,I.laid f (ZX _) (show cN X.prog X.w _ a _ (.l y) from⟨z,k,d,c,e⟩),O,q _<|I.ay.fresh<|ZX _⟩
 rcases g with g|g
 obtain⟨k,c,j,z⟩:=I.list g;have i:=c.length;obtain⟨o,m,v,n,t⟩:=j.isList;exact call_list_seq p (.inl O) m v t (λa d f e=>Y k c z a d f e) (by simp <;>lia);obtain⟨k,c,j,z⟩:=I.tuple g;have i:=c.length;obtain⟨o,m,v,n,t⟩:=j;exact call_list_seq p (.inr O) m v t (λa d f e=>Y k c z a d f e) (by simp <;>lia)
def sj(K:Frag)(T:GE)(x:V)(H:Hp):Prop:=match x with
 |.s _=>T="str"
 |.i _=>T="int"
 |.r p=>(T="list"/\∃b,ag K H p b)\/(T="tuple"/\∃o,K.lookup p=some o/\o.cls=.type "tuple"/\o.dict=none)\/
   (T="dict"/\((∃a,H p=some (.d a))\/∃a,H p=some (.T a)))\/(T="set"/\∃S n,H p=some (.s S n))
 |_=>False
theorem K0{j:St}(I:uP X D j H s)(r:lA x v)(y:sj X.K T x H):
  s.TypeIs v T/\∀a,v=.ref a->∃g,s.heap.get? a=some g/\g.dict=none:=by
 cases x with
 |s z=>
  obtain⟨t,rfl⟩:=r;cases (show T="str" from y);exact⟨typeIs_str s z t,λY e=>nomatch e⟩
 |i i=>
  obtain⟨t,rfl⟩:=r;cases (show T="int" from y);exact⟨typeIs_int s i t,λY e=>nomatch e⟩
 |r p=>
  cases r;rcases y with⟨rfl,u,q⟩|⟨rfl,o,h,k,d⟩|⟨rfl,h⟩|⟨rfl,S,n,h⟩
  obtain⟨w,zq⟩:=XM (I.list q);obtain⟨Y,l,Y⟩:=Z5 zq;refine⟨l.isList.typeIs,λa e=>?_⟩;cases e;obtain⟨o,n,e,c,d,Y⟩:=l;exact nS o e d;refine⟨nS o (I.dA p o h) k,λa e=>?_⟩;cases e;exact nS o (I.dA _ o h) d;have z:∃o,s.heap.get? p=some o/\o.ExactDict:=by
   rcases h with⟨m,h⟩|⟨m,h⟩
   obtain⟨Y,Y,Y,Y,o,Y,Y,e,b,Y⟩:=I.ay p _ h;exact nS o e b;obtain⟨Y,Y,Y,Y,o,Y,Y,e,b,Y⟩:=I.ay p _ h;exact nS o e b
  obtain⟨o,e,b⟩:=z;refine⟨nS o e b.1,λa f=>?_⟩;cases f;exact nS o e b.2.1;obtain⟨o,Y,Y,Y,zq⟩:=YC (I.ay p _ h);obtain⟨e,b,Y⟩:=Z5 zq;refine⟨nS o e b.1,λa f=>?_⟩;cases f;exact nS o e b.2.1
 |_=>exact False.elim y
def anL(K:Frag)(T:GE)(r:V->db->Hp->VK->Prop)(t:TE):TE:=λb H Q=>t b H λx a=>sj K T x a/\r x [] a Q
def alB(K:Frag)(T:GE)(r:V->db->Hp->VK->Prop)(o:TE)(t:TA):TE:=λa H Q=>o a H λx b=>sj K T x b/\t a b λs c=>r x s c Q
variable{o e:Expr}{f:tz}{k:TE}{t:TA}{j:Str}{l c:Pos}{T i:GE}{r:V->db->Hp->VK->Prop}
theorem aeY(p:PlainAttrs T)(t:Slot T j i)(z:typeOf (.builtin i)=pure (.type "method_descriptor"))(m:uN X i r)(f:PE X o k)(w:autoParam (attributeBase o j X.env (eval o X.env)=eval o X.env) cu)(E:autoParam ((l.endLine==c.line)=true) cu):PE X (.Call (.Attribute o j l) [] [] c) (anL X.K T r k):=by
 intro D s a H Q I h;refine wpAny_Call_method0_late w E<|aF (f D s a H _ I h) λv e ⟨x,u,d,b,y,q⟩=>?_;obtain⟨n,g⟩:=K0 d b y;exact oS T i p t z ⟨n,g,Calls.callWith_builtin O<|PySem.evalArgs_none<|m D e a u x [] v [] Q d b .nil q⟩
theorem apJ(B:PlainAttrs T)(a:Slot T j i)(V:typeOf (.builtin i)=pure (.type "method_descriptor"))(F:uN X i r)(E:PE X o k)(G:PA X (e::f) t)(U:autoParam (attributeBase o j X.env (eval o X.env)=eval o X.env) cu)(M:autoParam (((backTo c (starEach (e::f) X.env)).all (λx=> !x.1) && (backToKw c (keywordEach [] X.env)).all (λx=>x.1.isSome)
   && decide ((e::f).length+([]:List Keyword).length+(if ([]:List Keyword).isEmpty then 0 else 1) <30))=true) cu)(S:autoParam ((l.endLine==c.line)=true) cu)(C:autoParam (starEach (e::f) X.env=(false,eval e X.env)::starEach f X.env) cu)(Y:autoParam ((backTo c<|starEach f X.env).any (·.1)=false) cu):
  PE X (.Call (.Attribute o j l) (e::f) [] c) (alB X.K T r k t):=by
 intro D s b H Q I h;refine wpAny_Call_method_late U M S O<|aF (E D s b H _ I h) λv p ⟨x,R,g,d,y,z⟩=>?_;obtain⟨L,J⟩:=K0 g d y;refine oS T i B a V ⟨L,J,?_⟩;have A:=G c D p b R _ g z;rw[C] at A⊢;refine Calls.callWith_builtin (by show(false ||(backTo c<|starEach f X.env).any (·.1))=false;rw[Y] <;>rfl)<|Calls.evalArgs_plain ?_;exact aF A λu n ⟨m,P,N,q,w⟩=>F D n b P x m v u Q N d q w
end
theorem Wz.one:∀{x:V}{s:im},Wz [x] s->∃u,s=[u]/\lA x u:=by
 intro Y Y h;cases h with
 |cons r k=>cases k;exact⟨_,O,r⟩
theorem Wz.zero:∀{u:im},Wz [] u->u=[]
 |_,.nil=>O
theorem Wz.dropLast(h:Wz x u):Wz x.dropLast u.dropLast:=by
 induction h with
 |nil=>exact .nil
 |cons r t i=>
  cases t with
  |nil=>exact .nil
  |cons q a=>exact .cons r i
theorem Wz.rep(h:Wz x u):∀k:Nat,Wz (List.replicate k x).flatten (List.replicate k u).flatten
 | 0=>.nil
 |k+1=>by
  exact Wz.append h<|Wz.rep h k
theorem afM{c:Type}(l:List c):l.eraseIdx (l.length - 1)=l.dropLast:=by
 induction l with
 |nil=>rfl
 |cons a r i=>
  cases r with
  |nil=>rfl
  |cons b r=>
   have e:(a::b::r).length - 1=((b::r).length - 1)+1:=by
    have d:(a::b::r).length=r.length+2:=O;have h:(b::r).length=r.length+1:=O;lia
   rw[e,List.eraseIdx_cons_succ,i]
   all_goals rfl
theorem Bo(a:im):∀(k:Nat)(X:im),
  List.foldl (λb x=>b++x) X.toArray (List.replicate k a.toArray)=(X++(List.replicate k a).flatten).toArray
 | 0,X=>by simp
 |k+1,X=>by
  have e:X.toArray++a.toArray=(X++a).toArray:=by simp
  have c:(X++a)++(List.replicate k a).flatten=X++(List.replicate (k+1) a).flatten:=by
   rw[x9,zbN,Xm]
  rw[<-c,<-Bo a k (X++a),<-e,x9,k_]
section
variable{X:Cx}{a:gh}{c:St}{H:Hp}{s:Ev}{l b:Do}{g d zs:db}
theorem uP.Am{k:im}{f:sK->sK}(I:uP X a c H s)(o:H l=some (.l g))(e:s.heap.get? l=some {cls:=.type "list",data:=.seq k.toArray n})(j:f k.toArray=i.toArray)(v:Wz d i)(h:d.length<=sizeLine):
  uP X a c (upd H l<|.l d) {s with heap:=s.heap.update l (Obj.mapSeq f),toks:=t}:=by
 have q:=PySem.IsL.update e f;rw[j] at q;refine I.write (o▸trivial) (.inl O) (λp u m b=>(On s.heap (Obj.mapSeq f)<|Ix m).trans b) ⟨_,q⟩ ?_;exact⟨h,i,_,v,q⟩
theorem uP.K1(I:uP X a c H s)(v:Wz d k)(h:d.length<=sizeLine):
  uP X a c (upd H s.heap.objs.size<|.l d) {s with heap:=s.heap.push {cls:=.type "list",data:=.seq k.toArray},toks:=t}:=
 I.laid (λY Y q=>KF _ q) (ZX _) ⟨h,k,0,v,Nr _ O⟩
theorem uP.fresh(I:uP X a c H s):H s.heap.objs.size=none:=I.ay.fresh (ZX _)
theorem uP.pZ(I:uP X a c H s)(h:H l=some (.l g)):g.length<=sizeLine/\∃(k:im)(n:Nat),Wz g k/\g.length=k.length/\s.heap.get? l=some {cls:=.type "list",data:=.seq k.toArray n}:=by
 obtain⟨z,k,n,r,e⟩:=I.ay l _ h;exact⟨z,k,n,r,r.length,e⟩
theorem K2(h:n<=sizeLine):Builtin.List.listTooLong n=false:=by
 exact ZN (YF h)
end
section
variable{X:Cx}
def akM:V->db->Hp->VK->Prop:=λx v H Q=>∃l s y,x=.r l/\v=[y]/\H l=some (.l s)/\s.length<sizeLine/\Q .a (upd H l<|.l<|s++[y])
theorem YE:uN X "list.append" akM:=by
 intro D s g H x j v m Q I c d h;obtain⟨l,i,y,rfl,rfl,b,o,q⟩:=h;cases c;obtain⟨u,rfl,f⟩:=d.one;obtain⟨z,k,n,r,p,e⟩:=I.pZ b;refine PP sQ ⟨_,e,O⟩ F.entry_list_append (F.args_list_append_2 _ _) (PySem.list_append l k.toArray n u (by rw[WD];lia)) ⟨e,?_⟩;refine⟨.a,_,I.Am b e aP (r.append<|.cons f .nil) ?_,O,q⟩;rw[JB,Xy];exact XS o
def apT:V->db->Hp->VK->Prop:=λx v H Q=>∃l b s z,x=.r l/\v=[.r b]/\H l=some (.l s)/\H b=some (.l z)/\s.length+z.length<=sizeLine/\Q .a (upd H l<|.l<|s++z)
theorem afD:uN X "list.extend" apT:=by
 intro L s t H x C v D Q I g i h;obtain⟨l,b,A,w,zq⟩:=YC h;obtain⟨rfl,rfl,d,B,G,q⟩:=Xt zq;cases g;obtain⟨u,rfl,j⟩:=i.one;cases j;obtain⟨z,k,n,r,J,e⟩:=I.pZ d;obtain⟨y,f,o,m,K,p⟩:=I.pZ B;have c:k.toArray.size+f.toArray.size<=sizeLine:=by rw[WD,WD];lia
 have E:¬(!k.toArray.isEmpty && Builtin.List.listTooLong (k.toArray.size+f.toArray.size))=true:=by
  rw[K2 c,Bool.and_false];exact Yi
 refine PP F.slot_list_extend ⟨_,e,O⟩ F.entry_list_extend (F.args_list_extend_2 _ _)
  (AutoSeq1.list_extend_list_list_0 l k.toArray n b f.toArray o E (Y4 (Xw _ _) c) (WX c)) ⟨e,p,?_⟩
 refine⟨.a,_,I.Am d e aP (r.append m) ?_,O,q⟩;rw[JB];exact G
def aiC:V->db->Hp->VK->Prop:=λx v H Q=>∃l s y,x=.r l/\v=[]/\H l=some (.l s)/\s[s.length - 1]?=some y/\Q y (upd H l<|.l s.dropLast)
theorem aoP:uN X "list.pop" aiC:=by
 intro D s m H x p v t Q I c d h;obtain⟨l,o,y,zq⟩:=jR h;obtain⟨rfl,rfl,b,g,q⟩:=Y7 zq;cases c;have k:=d.zero;subst k;obtain⟨z,a,n,r,j,e⟩:=I.pZ b;obtain⟨u,i,f⟩:=r.get g;have w:=by
  show a.toArray[a.length - 1]?=some u;rw[<-Array.getElem?_toList,<-j];exact i
 refine PP F.slot_list_pop ⟨_,e,O⟩ F.entry_list_pop (F.args_list_pop_1 _) (MeetsSeq.list_pop_last l a.toArray n u w (by rw[WD];lia)) ⟨e,?_⟩;refine⟨y,_,I.Am b e ?_ r.dropLast ?_,f,q⟩;rw[WD,List.eraseIdxIfInBounds_toArray,afM];rw[WV];exact Y4 (V4 _ _) z
def anE:V->db->Hp->VK->Prop:=λx v H Q=>∃l s,x=.r l/\v=[]/\H l=some (.l s)/\Q .a (upd H l<|.l [])
theorem aeT:uN X "list.clear" anE:=by
 intro D s g H x j v u Q I c d h;obtain⟨l,i,rfl,rfl,b,q⟩:=h;cases c;have k:=d.zero;subst k;obtain⟨z,f,n,r,m,e⟩:=I.pZ b;refine PP F.slot_list_clear ⟨_,e,O⟩ F.entry_list_clear (F.args_list_clear_1 _) (AutoSeq1.list_clear_list_0 l f.toArray n (by rw[WD];lia)) ⟨e,?_⟩;exact⟨.a,_,I.Am b e O .nil<|Y_ _,O,q⟩
def K3:R2:=λx y H Q=>∃l b s z,x=.r l/\y=.r b/\H l=some (.l s)/\H b=some (.l z)/\s.length+z.length<=sizeLine/\∀p,H p=none->Q (.r p) (upd H p<|.l<|s++z)
theorem anH:bj X (binaryOp .Add) K3:=by
 intro E s m H x y v u Q I d c h;obtain⟨l,b,t,o,zq⟩:=YC h;obtain⟨rfl,rfl,i,B,A,q⟩:=Xt zq;cases d;cases c;obtain⟨z,a,n,r,C,e⟩:=I.pZ i;obtain⟨p,f,w,g,D,k⟩:=I.pZ B;refine PySem.P.add_list e k ?_ (by rw[WD,WD];lia);have j:a.toArray++f.toArray=(a++f).toArray:=by simp
 rw[j];exact⟨.r _,_,I.K1 (r.append g) (by rw[JB];exact A),O,q _ I.fresh⟩
def K4:R2:=λx y H Q=>∃l k s,x=.r l/\y=.i k/\H l=some (.l s)/\ -(2 ^ 63)<=k/\k<2 ^ 63/\s.length*k.toNat<=sizeLine/\
 ∀p,H p=none->Q (.r p) (upd H p<|.l (List.replicate k.toNat s).flatten)
theorem amA{a:Type}(x:List a)(k:Nat):(List.replicate k x).flatten.length=k*x.length:=by simp
theorem aeX:bj X (binaryOp .Mult) K4:=by
 intro L s G H x y v u Q I o j h;obtain⟨l,k,J,zq⟩:=jR h;obtain⟨rfl,rfl,w,B,A,d,q⟩:=AP zq;cases o;obtain⟨t,rfl⟩:=j;obtain⟨z,b,n,r,p,e⟩:=I.pZ w;have c:b.toArray.size*k.toNat<=sizeLine:=by rw[WD,<-p];exact d
 have N:¬b.toArray.size*k.toNat>(2 ^ 63 - 1) / 8:=by
  have:(sizeLine:Nat)<= (2 ^ 63 - 1) / 8:=by decide
  exact YF (Y4 c this)
 have D:¬(!Builtin.List.listFitsIndex k)=true:=by
  rw[fitsIndex_both B A];exact Yi
 have E:¬Builtin.List.listTooLong (b.toArray.size*k.toNat)=true:=by
  rw[K2 c];exact Yi
 have Y:List.foldl (λg f=>g++f) #[] (List.replicate (if b.toArray.isEmpty=true then 0 else k.toNat) b.toArray)=(List.replicate k.toNat b).flatten.toArray:=by
  have C:=λm=>by
   have:=Bo b m [];rw[yk] at this;exact this
  rw[C];cases b with
  |nil=>simp
  |cons a K=>rw[Id aP]
 refine wpAny_binaryOp_repeat_ref (O) ⟨_,e,O⟩ (λi=>typeIs_int i k t) noFill_list_mul F.fills_int_mul F.slot_int_rmul repeat_list F.slot_int_index.lookup
  (PP F.slot_int_rmul (typeIs_int s k t) F.entry_int_rmul (F.args_int_rmul_2 _ _) (int___rmul___int_list k t l b.toArray n)
   ⟨e,O,⟨_,e,O⟩,PP F.slot_list_mul ⟨_,e,O⟩ F.entry_list_mul (F.args_list_mul_2 _ _) (AutoListH.list___mul___list_int_3 l b.toArray n k t D N E) ⟨e,?_⟩⟩)
 rw[Y];exact⟨.r _,_,I.K1 (r.rep k.toNat) (by rw[amA,Nat.mul_comm];exact d),O,q _ I.fresh⟩
end
end
namespace K5
open PySem PySem.W PySem.Calls PyProof.Rows
theorem agO{h:FS}:∀(s:Ce)(v:im),WellAll P h v (s.map WData.int)->IntsAre v s:=by
 intro s;induction s with
 |nil=>
  intro v w;cases w;exact .nil
 |cons n s i=>
  intro v w;cases w with
  |cons a b=>
   cases a;exact .cons _ _<|i _ b
theorem YS{l:OpenLaw}(j:l.most=some n){h:FS}{v:im}(Y:l.row.toRowW.claim.pre s=true)(A:WellAll P h v s):
  ∃a g b,v=[Value.ref a]/\s=[WData.list<|b.map WData.int]/\h.get? a=some {cls:=.type "list",data:=.seq g.toArray}/\IntsAre g b/\b.length<=n:=by
 obtain⟨d,r,rfl,t,p⟩:=hasAllW_cons ((pre_splitW Y).1);obtain rfl:=hasAllW_nil p;obtain⟨x,rfl,k⟩:=hasW_list t;obtain⟨b,rfl⟩:=items_int k;have c:b.length<=n:=by
  have e:=by
   have e:=(holds_andW ((pre_splitW Y).2)).1;rw[j] at e;exact e
  have f:=condW_of e (w_not<|w_lt w_lit<|w_len_list<|w_arg O);refine Nat.le_of_not_lt λq=>?_
  first
   | (rw[W_ q'] at f;cases (O) f)
   | (simp at f;omega)
 cases A with
 |cons i w=>
  cases w;cases i with
  |list o m=>exact pE _ _ b O O o (agO b _ m) c
theorem anR(l:OpenLaw)(a:List WData):l.row.toRowW.claim.post a (.bool true) a=true:=
 postW_of
  (show WShape.has [] (.bool true) .bool=true by first|rfl|decide|simp)
  (show(WTm.eq .res<|.lit<|.bool true).value [] {args:=a,res:=some (.bool true),after:=a}=some (.bool<|true==true) from w_eq_bool (w_res O) w_lit) O
theorem YV{l:OpenLaw}{q:Fk}{e:ca}{X:(io)->FS->Prop}{P:Fa->FS->Prop}(I:l.most=some n)(z:d.params.defaults=[])(i:∀(w:Fa)(s U:Ev)(m u:io)(g:Do)(o:Obj)(t p c:EQ)(a:Do)(v:im)(k:Ce),
   Ground q e [] X w s m u U.heap->P w U.heap->
   U.heap.get? g=some o->o.data=.func (docDef d.name d.params d.body d.scope t p c)->U.heap.CodeRec p d.name->m d.name=some (.ref g)->
   U.heap.get? a=some {cls:=.type "list",data:=.seq v.toArray}->IntsAre v k->k.length<=n->U.gens= #[]->
   codeAny (model l.prog w) callerA (.call (.ref g) ⟨[.ref a],[]⟩) (λr j=>r=.ok (.ret (.bool true))/\OldK U.heap j.heap/\j.os=U.os/\AllBare j.gens) U):
  WalkO q e X P l.row.toRowW d [] (λf v=>PySem.call f v):=by
 intro w s U m u G Y g o t p c R V H L C D A K y x as B T E Z Ao;obtain rfl:R=.none:=Dflts.none D z;obtain rfl:V=.none:=Dflts.noKw D;obtain⟨a,v,k,zq⟩:=jR (YS I B Z);obtain⟨rfl,rfl,W,h,b⟩:=Y7 zq;refine enter_call<|Tl (i w s U m u g o t p c a v k G Y H (fd_plain L) C A W h b K) λr j F=>?_;obtain⟨rfl,Q,N,M⟩:=F;exact⟨.inl (pE (.bool true) (.bool true) [] O (λS=>O) (.bool true) (anR l _) (λS=> ⟨List.Pairwise.nil,λS J=>(nomatch J)⟩)),Q,N,M⟩
section
variable{prog:Fk}{w:Fa}{A:FM}{E:ge}{s:Ev}{K:Frag}
end
end K5
section
open PyProof.Rows
theorem alP:∀{v:im}{s:Ce},IntsAre v s->Wz (s.map V.i) v:=by
 intro Y Y h;induction h with
 |nil=>exact .nil
 |cons n t Y i=>exact .cons ⟨t,O⟩ i
def Ej(H:Hp):Prop:= ∀b,H b=none\/∃o x,H b=some (.b o<|.l x)
theorem adW{K:Frag}{y G:io}{p:im}{t:Ce}(KX:K.In U.heap)(Ap:U.heap.Ns mainGlobals y)(c:U.heap.Ns builtinsNs G)(YY:∀x:Str,x≠"__name__"->G x=bootBuiltins x)(YZ:U.heap.NoLimit)(hg:U.gens= #[])(B:U.heap.get? a=some {cls:=.type "list",data:=.seq p.toArray})(S:IntsAre p t)(R:t.length<=sizeLine)(hr:dJ k callerA)(F:∀g:FS,K.In g->g.Ns mainGlobals y->du P w K y g CX k J X [x] Q)(Y0:∀(s:Ev)(u:EQ),BindsTo s X ⟨[u],[]⟩ [(x,u)])(pV:∀H:Hp,Ej H->ag K H a (t.map V.i)->Q [.r a] H (λv _=>v=.b true) λ_ _ _=>False)(Ek:∀H e f,CX [] H U (λ_ _ _=>False) e f->False):
  codeAny (model P w) callerA (.call (.ref J) ⟨[.ref a],[]⟩) (λr f=>r=.ok (.ret<|.bool true)/\OldK U.heap f.heap/\f.os=U.os/\AllBare f.gens) U:=by
 have rv:=alP S;have j:∀H:Hp,Ej H->ag K H a (t.map V.i)->bX P w H U.heap->(∀b,H b≠none->b=a)->(H a≠none->K.lookup a=none)->
   codeAny (model P w) callerA (.call (.ref J) ⟨[.ref a],[]⟩) (λr f=>r=.ok (.ret<|.bool true)/\OldK U.heap f.heap/\f.os=U.os/\AllBare f.gens) U:=by
  intro H T hS Z W hK;have N:∀{b:Do}{o:Obj},U.heap.get? b=some o->H b=none->(nV U.heap H).get? b=some o:=λe n=>amZ e n;have wU:∀{b:Do}{o:Obj}{C:Array DictEntry}{D:Nat},U.heap.get? b=some o->o.data=.dict C D->H b=none:=λ{b o C D} e d=>by
   cases q:H b with
   |none=>rfl
   |some u=>
    have L:b=a:=W b aH;subst L;rw[B] at e;cases e;cases d
  have E:∀{b:Do}{m:io},U.heap.Ns b m->(nV U.heap H).Ns b m:=λ{b m} ⟨o,C,D,e,d,r⟩=>rP o C ⟨D,N e<|wU e d,d,r⟩;have K6:=λb o e=>N (KX b o e) (by
   cases q:H b with
   |none=>rfl
   |some u=>
    have L:b=a:=W b (by rw[q];simp);subst L;rw[hK aH] at e;cases e)
  have hM:Mod K y (nV U.heap H):=⟨K6,E Ap,nS G (E c) YY,let ⟨mc,h1,h2⟩:=YZ;(nS mc (E h1) h2)⟩;have e0:pU P w K y (nV U.heap H) callerA [] U H:=⟨O,hM,λb o e=>anY e,XX<|apD _ _,trivial,λb c=>absurd (show b∈ ([]:ii) from c) aP,Z,.of_eq hg⟩;refine Tl ((F _ K6<|E Ap).run callerA [] U H ⟨[.ref a],[]⟩ [.ref a] [.r a] _ _ hr e0 (Y0 U<|.ref a) (.cons O .nil)<|pV H T hS) λr f h=>?_;cases r with
  |error e=>exact(Ek H e f h).elim
  |ok fl=>
   cases fl with
   |next=>exact False.elim h
   |brk=>exact False.elim h
   |cont=>exact False.elim h
   |ret u=>
    obtain⟨v,H',zq⟩:=Z2 h;obtain⟨os,A,M,Y1,r',q⟩:=Xt zq;subst q;obtain rfl:u=Value.bool true:=r';refine⟨O,OldK.of_keep λb o e=>?_,os,A⟩;cases q:H b with
    |none=>exact M.keep b o e q (by intro z;exact absurd (show b∈ ([]:ii) from z) aP) aP
    |some u=>
     rcases T b with z|⟨ob,xs,z⟩
     rw[q] at z;cases z;obtain⟨Y,_⟩:=Z b _ z;obtain⟨e2,_⟩:=Y1 b _ (M.iC b ob _ z);rw[e] at Y;cases Y;exact e2
 cases I:K.lookup a with
 |some o=>
  have e:=KX a o I;rw[B] at e;cases e;refine j (λ_=>none) (λ_=>.inl O) (.inr (pE _ p.toArray _ I O O O ⟨by rw[WD,S.length];exact R,aH⟩)) (λb u z=>by lia) (λb z=>absurd O z) λz=>absurd O z
 |none=>
  refine j (λb=>if b=a then some (.b {cls:=.type "list",data:=.seq p.toArray}<|.l<|t.map V.i) else none) (λb=>?_) (.inl<|.inr ⟨{cls:=.type "list",data:=.seq p.toArray},GT O⟩) (λb u z=>?_) (λb z=>?_) λ_=>I;by_cases c:b=a;exact .inr (rP _ _ (GT c));exact .inl (Id c);by_cases c:b=a;cases ((GT c).symm.trans z);subst c;exact⟨B,sA (by rw[Wo];exact R) p _ rv B⟩;cases ((Id c).symm.trans z);by_cases c:b=a;exact c;exact absurd (Id c) z
theorem aoC{l:PySem.W.OpenLaw}{q:Fk}{m:ca}{XP:(io)->FS->Prop}{P:Fa->FS->Prop}{K:Params->Frag}{I:Fa->cP}{E:Fa->Sp}(R:l.most=some n)(N:n<=sizeLine)(J:d.params.defaults=[])(Q:dJ k callerA)(Z:∀(w:Fa)(h:FS),P w h->(K w.params).In h)(F:∀(w:Fa)(t:io)(z:Do)(h:FS),(K w.params).In h->h.Ns mainGlobals t->t d.name=some (.ref z)->
   ∃B:Go,(∀(s:Ev)(u:EQ),BindsTo s B ⟨[u],[]⟩ [(x,u)])/\
    ∀c:FS,(K w.params).In c->c.Ns mainGlobals t->du l.prog w (K w.params) t c (I w) k z B [x] (E w))(M:∀(w:Fa)(H:Hp)(a:Do)(y:Ce),y.length<=n->Ej H->ag (K w.params) H a (y.map V.i)->E w [.r a] H (λv O=>v=.b true) λO O O=>False)(Ek:∀(w:Fa)(H:Hp)(s:Ev)(e:EQ)(A:Ev),I w [] H s (λO O O=>False) e A->False):
  PySem.W.WalkO q m XP P l.row.toRowW d [] (λf C=>PySem.call f C):=by
 refine K5.YV R J λw D U' t mb z o pm cd a' a C y G Y ho hd mx L Ei p j S=>?_;have X:=Z w _ Y;obtain⟨B,U,hF⟩:=F w t z _ X G.T.g L;exact adW X G.T.g G.T.b G.T.builtins G.T.nolimit S Ei p (Y4 j N) Q hF U (λH hO hS=>M w H a y j hO hS) λH e A=>Ek w H U' e A
noncomputable def mU(s:Fr)(j:Nat):Fr:=match s with
 |.ClassDef _ _ _ b _ _ _ _ _ _ _=>b.getD j (.Pass ⟨0,0,0,0⟩)
 |_=>.Pass ⟨0,0,0,0⟩
noncomputable def jQ(s:Fr):Arguments:=match s with
 |.FunctionDef _ a _ _ _ _ _ _ _ _=>a
 |_=> {posonlyargs:=[],args:=[],vararg:=none,kwonlyargs:=[],kw_defaults:=[],kwarg:=none,defaults:=[]}
noncomputable def gQ(s:Fr):Cl:=match s with
 |.FunctionDef _ _ b _ _ _ _ _ _ _=>b
 |_=>[]
noncomputable def gT(s:Fr):Scope:=match s with
 |.FunctionDef _ _ _ _ _ _ c _ _ _=>c
 |_=> {kind:=.function,names:=[],isGenerator:=false,isCoroutine:=false}
abbrev xb:cP:=λ_ _ _ _ _ _=>False
abbrev E0:XK:=λ_ _ _=>False
structure sv(K:Frag)(x qual:Str)(st:Fr)(f:Do)(fd:Go):Prop where
 ex:∃(oc:EQ)(od:xz)(kV doc pm:EQ)(an:xz)(bF ct:EQ)(jO:Array AC),
  fd=PySem.W.fnOf x qual (jQ st) (gQ st) (gT st) .none kV doc pm an bF ct/\K.lookup f=some ⟨oc,od,.func fd,jO⟩/\PySem.W.codeIn K bF qual=true
 kp:PySem.W.keepIn K (.ref f)=true
section
variable{P:Fk}{w:Fa}{K:Frag}{mg:io}{base:FS}
theorem sv.binds{p:ca}(F:sv K x q s f e)(h:∀(k d m:EQ)(a:xz)(b c:EQ)(u:im),u.length=p.length->bindArgs (PySem.W.fnOf x q (jQ s) (gQ s) (gT s) .none k d m a b c) ⟨u,[]⟩=pure (p.zip u)):Y5 K e p []:=by
 obtain⟨g,o,k,d,m,a,b,c,j,zq⟩:=x5 F.ex;obtain⟨rfl,l,i⟩:=Z5 zq;exact .all<|h k d m a b c
theorem K7{f:Do}{e:EQ}{o a:xz}{j:Array AC}{V d p b t:EQ}(l:K.lookup f=some ⟨e,o,.func<|PySem.W.fnOf x q (jQ s) (gQ s) (gT s) .none V d p a b t,j⟩)(c:PySem.W.codeIn K b q=true)(k:PySem.W.keepIn K (.ref f)=true):sv K x q s f (PySem.W.fnOf x q (jQ s) (gQ s) (gT s) .none V d p a b t):=⟨rO e o V d p a b t ⟨j,O,l,c⟩,k⟩
end
theorem iU{B:Prop}(h:B):if false=true then A else B:=by lia
theorem gG{B:Prop}(h:A):if true=true then A else B:=by lia
theorem gH{B:Prop}[Decidable c](a:c->A)(h:¬c->B):if c then A else B:=by lia
def ar(H a:Hp):Prop:= ∀b o,H b=some o->a b=some o
theorem ar.refl(H:Hp):ar H H:=λY Y h=>h
theorem ar.trans(a:ar H e)(b:ar e d):ar H d:=λc o h=>b c o (a c o h)
theorem ar.free(e:ar H a)(h:a l=Option.none):H l=Option.none:=by
 cases q:H l with
 |none=>rfl
 |some o=>
  rw[e l o q] at h;cases h
theorem ar.seq{K:Frag}(e:ar H b)(h:ag K H a x):ag K b a x:=by
 rcases h with(h|⟨o,h⟩)|h
 exact .inl (.inl<|e _ _ h);exact .inl (.inr ⟨o,e _ _ h⟩);exact .inr h
section
variable{a:Type}[DecidableEq a]
noncomputable def dO(K:List (a×V))(k:a):sB:=(K.find? λv=>decide (v.1=k)).map (·.2)
noncomputable def iJ(K:List (a×V))(k:a)(v:V):List (a×V):=
 if (K.any λb=>decide (b.1=k))=true then K.map (λb=>if b.1=k then (b.1,v) else b) else K++[(k,v)]
theorem nZ{r:List (a×V)}(e:p.1=k):dO (p::r) k=some p.2:=by simp[dO,Z8,e]
theorem uO{r:List (a×V)}(e:¬p.1=k):dO (p::r) k=dO r k:=by simp[dO,Z8,e]
theorem El(k:a):∀K:List (a×V),(K.any λv=>decide (v.1=k))=(dO K k).isSome
 |[]=>O
 |p::r=>by
  rw[XR];by_cases e:p.1=k;simp only[nZ e,W_ e,Bool.true_or,Option.isSome_some];rw[uO e,ZN e];exact El k r
theorem Em(K:List (a×V))(k:a)(v:V):(iJ K k v).length<=K.length+1:=by
 unfold iJ;split;rw[Wo];exact XW _;rw[JB,Wt,Xp];exact ZX _
theorem aaC{k:a}(v:V)(h:dO K' k=none):iJ K' k v=K'++[(k,v)]:=by
 unfold iJ;rw[El,h];exact Id aP
theorem iB.xf(r:iB o u):o.isSome=u.isSome:=by
 cases o with
 |none=>cases u with
  |none=>rfl
  |some Y=>exact(show False from r).elim
 |some Y=>cases u with
  |none=>exact(show False from r).elim
  |some Y=>rfl
theorem KV.val(r:KV K' v)(k:a):iB (dO K' k) (valueAt v k):=by
 induction r with
 |nil=>exact True.intro
 | @cons p q g s h t i=>
  obtain⟨d,f⟩:=h;by_cases e:p.1=k;have c:=d.symm.trans e;have b:valueAt (q::s) k=some q.2:=by simp[valueAt,Z8,c]
  rw[nZ e,b];exact f;have c:¬q.1=k:=λz=>e (d.trans z);have b:valueAt (q::s) k=valueAt s k:=by simp[valueAt,Z8,c]
  rw[uO e,b];exact i
theorem KV.any(r:KV K' s)(k:a):(K'.any λv=>decide (v.1=k))=s.any λv=>decide (v.1=k):=by
 induction r with
 |nil=>rfl
 |cons h t i=>rw[XR,XR,i,h.1]
theorem KV.En(r:KV K' s)(k:a)(c:lA y u):
  KV (K'.map λv=>if v.1=k then (v.1,y) else v) (s.map λv=>if v.1=k then (v.1,u) else v):=by
 induction r with
 |nil=>exact .nil
 | @cons p q g f h t i=>
  rw[Ww,Ww];refine .cons ?_ i;obtain⟨b,d⟩:=h;by_cases e:p.1=k;rw[GT e,GT<|b.symm.trans e];exact⟨b,c⟩;rw[Id e,Id<|λz=>e<|b.trans z];exact⟨b,d⟩
theorem KV.put(r:KV K' v)(k:a)(b:lA y u):KV (iJ K' k y) (stored v k u):=by
 unfold iJ stored;rw[r.any k];by_cases e:(v.any λc=>decide (c.1=k))=true;rw[GT e,GT e];exact r.En k b;rw[Id e,Id e];exact SL r ⟨O,b⟩
theorem KV.length{v:List (a×EQ)}(r:KV K' v):K'.length=v.length:=KB r
end
theorem uQ(r:lA (kV k) u):(d_ P w).is k u=true:=by
 cases k with
 |inl i=>obtain⟨t,e⟩:=(show ∃t,u=Value.int i t from r);subst e;exact acB P w i t
 |inr x=>obtain⟨t,e⟩:=(show ∃t,u=Value.str x t from r);subst e;exact zM P w x t
theorem K8:∀{s:List gS}{u:im},Wz (s.map kV) u->ItemsAre (d_ P w) s u
 |[],_,r=>by cases r;exact .nil
 |k::s,_,r=>by
  cases r with
  |cons h t=>exact .cons (uQ h) (K8 t)
abbrev KT(H:Hp):zA->wP->Prop:=Paired λp q=>p.1=q.1/\H q.2.1=some (.t<|p.1.map kV)/\lA p.2 q.2.2
theorem KT.val{K:zA}(r:KT H K x)(k:List gS):iB (dO K k) ((atKey x k).map (·.2)):=by
 induction r with
 |nil=>exact True.intro
 | @cons p q f s h t i=>
  obtain⟨c,Y,d⟩:=h;by_cases e:p.1=k;have a:=c.symm.trans e;have b:atKey (q::s) k=some q.2:=by simp[atKey,Z8,a]
  rw[nZ e,b];exact d;have a:¬q.1=k:=λz=>e (c.trans z);have b:atKey (q::s) k=atKey s k:=by simp[atKey,Z8,a]
  rw[uO e,b];exact i
theorem KT.En{K:zA}(r:KT H K x)(k:List gS)(c:lA y u):
  KT H (K.map λv=>if v.1=k then (v.1,y) else v) (x.map<|putAt k u):=by
 induction r with
 |nil=>exact .nil
 | @cons p q f s h t i=>
  rw[Ww];refine .cons ?_ i;obtain⟨a,b,d⟩:=h;unfold putAt;by_cases e:p.1=k;rw[GT e,GT<|a.symm.trans e];exact⟨a,b,c⟩;rw[Id e,Id<|λz=>e<|a.trans z];exact⟨a,b,d⟩
theorem KT.put{K:zA}(r:KT H K x)(k:List gS)(h:H b=some (.t<|k.map kV))(a:lA y u):
  KT H (iJ K k y) (storedH x k b u):=by
 have e:(K.any λv=>decide (v.1=k))=(atKey x k).isSome:=by
  rw[El,(r.val k).xf,wM]
 unfold iJ storedH;rw[e];by_cases q:(atKey x k).isSome=true;rw[GT q,GT q];exact r.En k a;rw[Id q,Id q];exact SL r ⟨O,h,a⟩
theorem KT.keeps{K:zA}(r:KT H K x)(h:∀b y,H b=some (.t y)->a b=some (.t y)):KT a K x:=
 Paired.DJ r λY Y z=>⟨z.1,h _ _ z.2.1,z.2.2⟩
section
variable{P:Fk}{w:Fa}{H:Hp}{h:FS}{a:Do}
theorem K9(o:bX P w H h)(e:Rd H a u):cN P w H h a u:=e.ok o
theorem xg(o:bX P w H h)(e:Rd H a (.d K')):K'.length<=sizeLine/\(a==sysModules)=false/\∃v,KV K' v/\h.DictOf (d_ P w) a v:=
 show cN P w H h a (.d K') from K9 o e
theorem K_(o:bX P w H h)(e:H a=some (.d K')):K'.length<=sizeLine/\(a==sysModules)=false/\∃v,KV K' v/\h.DictOf (d_ P w) a v:=xg o (.inl e)
theorem xh(b:bX P w H h)(e:H a=some (.t<|k.map kV)):(tupleKind<|d_ P w).is h k a:=by
 obtain⟨Y,g,r,o,f,d,n,c⟩:=(show cN P w H h a (.t<|k.map kV) from b a _ e);exact qQ o g.toArray n f d c (by simpa using K8 r)
theorem xk(k:bX P w H h)(e:Rd H a (.T K')):K'.length<=sizeLine/\(a==sysModules)=false/\
  ∃s,KT H K' s/\h.DictOfH (tupleKind<|d_ P w) a s:=by
 obtain⟨z,y,s,r,o,u,v,n,j,g,f,d⟩:=(show cN P w H h a (.T K') from K9 k e);refine⟨z,y,s,r,o,u,v,n,j,g,f,λx b=>?_,d⟩;have c:∀{l:zA}{m:wP},KT H l m->∀x∈m,(tupleKind<|d_ P w).is h x.1 x.2.1:=by
  intro l m q;induction q with
  |nil=>intro x b;exact nomatch b
  | @cons p q B A C t i=>
   intro x b;rcases X9.mp b with e|b
   exact xh k aH;exact i x b
 exact c r x b
theorem aiF(o:bX P w H h)(e:H a=some (.T K')):K'.length<=sizeLine/\(a==sysModules)=false/\
  ∃x,KT H K' x/\h.DictOfH (tupleKind<|d_ P w) a x:=xk o (.inl e)
end
def eU(H:Hp)(a:Do)(y:V)(r:sB):Prop:=
 (∃K k,Rd H a (.d K)/\y=kV k/\r=dO K k)\/∃K k b,Rd H a (.T K)/\y=.r b/\H b=some (.t<|k.map kV)/\r=dO K k
def mF(H:Hp)(a:Do)(y v:V)(c:Hp):Prop:=
 (∃K k,H a=some (.d K)/\y=kV k/\K.length<sizeLine/\c=upd H a (.d<|iJ K k v))\/
 ∃K k b,H a=some (.T K)/\y=.r b/\H b=some (.t<|k.map kV)/\K.length<sizeLine/\c=upd H a (.T<|iJ K k v)
theorem eU.k{a:Do}{K:nH}{k:gS}(e:H a=some (.d K)):eU H a (kV k) (dO K k):=.inl ⟨K,k,.inl e,O,O⟩
theorem mF.k{a:Do}{K:nH}{k:gS}{v:V}(e:H a=some (.d K))(h:K.length<sizeLine):mF H a (kV k) v (upd H a<|.d<|iJ K k v):=.inl ⟨K,k,e,O,h,O⟩
section
variable{X:Cx}{d:gh}{f:St}{H:Hp}{s:Ev}{a:Do}{y v:V}{u r:EQ}{o:sB}{A:FM}{E:ge}
theorem uP.big(I:uP X d f H s):sysModules<s.heap.objs.size:=by
 exact YR aQ ((I.mod.glob.keeps I.bk).lt)
theorem aaF(x:A.units+1<cLine)(I:uP X d f H s)(g:eU H a y (some v))(q:lA y u)(h:∀c o,uP X d f H o->lA v c->Q c o):
  wpAny (model X.prog X.w) A (getItem (.ref a) u) Q E s:=by
 rcases g with⟨K,k,e,m,l⟩|⟨K,k,b,e,m,D,l⟩
 subst m;obtain⟨z,C,G,r,n⟩:=xg I.ay e;obtain⟨c,i,j⟩:=iB.some_of (l▸r.val k);exact wpAny_getItem_of (uQ q) n.mapOf i<|h c _ (I.tok _) j;subst m;cases (show u=Value.ref b from q);obtain⟨z,C,F,r,n⟩:=xk I.ay e;obtain⟨c,i,j⟩:=iB.some_of (v:=v) (l▸r.val k);obtain⟨p,B,t⟩:=WC.mp i;refine wpAny_getItem_heap (UV x) (xh I.ay D) n B ?_;rw[t];exact h c _ (I.tok _) j
theorem akE(p:A.units+1<cLine)(I:uP X d f H s)(g:eU H a y o)(n:lA y u)(h:∀m,uP X d f H m->Q (.bool o.isSome) m):
  wpAny (model X.prog X.w) A (compareOp .In u<|.ref a) Q E s:=by
 rcases g with⟨K,k,e,i,l⟩|⟨K,k,b,e,i,t,l⟩
 subst i;obtain⟨z,c,v,r,j⟩:=xg I.ay e;refine wpAny_in_of (uQ n) c j.mapOf ?_;rw[<-(r.val k).xf,<-l];exact h _<|I.tok _;subst i;cases (show u=Value.ref b from n);obtain⟨z,c,x,r,j⟩:=xk I.ay e;refine wpAny_in_heap (UV p) (xh I.ay t) c j ?_;have q:=(r.val k).xf;rw[wM] at q;rw[<-q,<-l];exact h _<|I.tok _
theorem anK(p:A.units+1<cLine)(I:uP X d f H s)(g:eU H a y o)(n:lA y u)(h:∀m,uP X d f H m->Q (.bool<|!o.isSome) m):
  wpAny (model X.prog X.w) A (compareOp .NotIn u<|.ref a) Q E s:=by
 rcases g with⟨K,k,e,i,l⟩|⟨K,k,b,e,i,t,l⟩
 subst i;obtain⟨z,c,v,r,j⟩:=xg I.ay e;refine wpAny_notIn_of (uQ n) c j.mapOf ?_;rw[<-(r.val k).xf,<-l];exact h _<|I.tok _;subst i;cases (show u=Value.ref b from n);obtain⟨z,c,x,r,j⟩:=xk I.ay e;refine wpAny_notIn_heap (UV p) (xh I.ay t) c j ?_;have q:=(r.val k).xf;rw[wM] at q;rw[<-q,<-l];exact h _<|I.tok _
theorem Eo{o:HO}(I:uP X d f H s)(m:wK (H a))(c:Heap.SameBut a s.heap h)(e:∃q,h.get? a=some q)(n:cN X.prog X.w (upd H a o) h a o):
  uP X d f (upd H a o) {s with heap:=h,toks:=t}:=
 I.write m (.inl O) (λb q g z=>(c.2 b g).trans z) e n
theorem La{K:nH}{v:wT}(z:K.length<=sizeLine)(b:(a==sysModules)=false)(r:KV K v)(c:h.DictOf (d_ P w) a v):
  cN P w H h a (.d K):=⟨z,b,v,r,c⟩
theorem afA{Q:AT}(P:A.units+1<cLine)(I:uP X d f H s)(g:mF H a y v Z)(D:lA y u)(F:lA v r)(h:∀C,uP X d f Z C->Q () C):
  wpAny (model X.prog X.w) A (setItem (.ref a) u r) Q E s:=by
 rcases g with⟨K,k,e,p,l,t⟩|⟨K,k,b,e,p,L,l,t⟩
 subst p t;obtain⟨z,o,vs,i,B⟩:=K_ I.ay e;have N:=i.length▸z;have n:(iJ K k v).length<=sizeLine:=by have:=Em K k v;omega
 refine wpAny_setItem_pairs (uQ D) B λG x m=>h _ ?_;have R:∃q,G.get? a=some q:=let ⟨q,_,_,j,_⟩:=x;⟨q,j⟩;exact Eo I (e▸True.intro) m R<|La n o (i.put k F) x;subst p t;cases (show u=Value.ref b from D);obtain⟨z,o,M,i,B⟩:=aiF I.ay e;have N:M.length<=sizeLine:=by rw[<-KB i];exact z
 have n:(iJ K k v).length<=sizeLine:=by have:=Em K k v;omega
 refine wpAny_setItem_heap (UV P) (xh I.ay L) B λG x m=>h _ ?_;obtain⟨q,W,Y,zq⟩:=jR x;obtain⟨j,V,U,T,O,S⟩:=Xt zq;refine Eo I (e▸True.intro) m ⟨q,j⟩ ⟨n,o,_,(i.put k L F).keeps λc ys J=>?_,q,W,Y,j,V,U,T,S⟩;rw[aw<|cj J e<|λz=>nomatch z];exact J
end
def Ep(i:Expr):Prop:= ∀o v,subscripted i false o v=operate [o,v] (getItem o v)
theorem Y8{w:Fa}{A:FM}{E:ge}{s:Ev}{T j:GE}{Q:ge}(l:typeLookup (.type T) "__getitem__"=pure (some<|.builtin j))(k:Ep e)(h:wpAny (model p w) A (eval v c) (λo U=>wpAny (model p w) A (eval e c) (λi Z=>Z.TypeIs o T/\wpAny (model p w) A (getItem o i) Q E Z) E U) E s):
  wpAny (model p w) A (eval (.Subscript v e g) c) Q E s:=by
 refine Subscript_<|KM h (λo U f=>KM f (λi Z a=>?_) λW W x=>x) λW W x=>x;obtain⟨m,a⟩:=a;refine GM (GM<|ST m l ?_);have Y:wpAny (model p w) A (subscripted e false o i) (λr b=>wpAny (model p w) A (letTemporaryGo v o r>>=λW=>pure r) Q E b) E Z:=by
  rw[k o i];exact wpAny_operating<|KM a (λr b d=>GM<|wpAny_letTemporaryGo<|IO d) λW W x=>x
 first
  |exact IO (GM Y)
  |exact GM (IO<|GM Y)
  |exact GM Y
theorem alE{c:St}(I:uP X D c H s)(g:eU H a y o):s.TypeIs (.ref a) "dict":=by
 rcases g with⟨K,k,e,Y,Y⟩|⟨K,k,b,e,Y,Y,Y⟩
 obtain⟨Y,Y,v,Y,d⟩:=xg I.ay e;exact d.typeIs;obtain⟨Y,Y,x,Y,d⟩:=xk I.ay e;exact d.typeIs
def Lb(d t:TE):TE:=λb H Q=>d b H λx e=>t b e λy c=>∃a v,x=.r a/\eU c a y (some v)/\Q v c
def Er(t e:TE):TE:=λc H Q=>t c H λy f=>e c f λx d=>∃a o,x=.r a/\eU d a y o/\Q (.b o.isSome) d
def Es(t e:TE):TE:=λc H Q=>t c H λy f=>e c f λx d=>∃a o,x=.r a/\eU d a y o/\Q (.b<|!o.isSome) d
def Lc(e t d:TE):TS:=λD b H=>d b H λv h=>e b h λx g=>t b g λy f=>∃a c,x=.r a/\mF f a y v c/\D.nx b c
section
variable{X:Cx}{o i e d:Expr}{f j D0:Pos}{b c k:TE}
theorem adZ(m:X.A.units+1<cLine)(p:PE X o b)(t:PE X i c)(n:Ep i):PE X (.Subscript o i f) (Lb b c):=by
 intro D s d H Q I h;refine Y8 PySem.F.slot_dict_getitem.lookup n<|aF (p D s d H _ I h) λu j ⟨x,E,B,k,l⟩=>aF (t D j d E _ B l) λL K ⟨y,C,e,r,a,v,w,g,q⟩=>?_;subst w;obtain rfl:u=Value.ref a:=k;exact⟨alE e g,aaF m e g r λG J z P=>⟨v,C,z,P,q⟩⟩
theorem aeU(k:X.A.units+1<cLine)(m:PE X i c)(l:PE X o b):PC X .In i o (Er c b):=by
 intro D s d H Q I h;refine aF (m D s d H _ I h) λF e ⟨y,B,w,r,j⟩=>aF (l D e d B _ w j) λu E ⟨x,z,t,f,a,v,n,g,q⟩=>?_;subst n;obtain rfl:u=Value.ref a:=f;exact akE k t g r λC p=>⟨.b v.isSome,z,p,O,q⟩
theorem ahJ(k:X.A.units+1<cLine)(m:PE X i c)(l:PE X o b):PC X .NotIn i o (Es c b):=by
 intro D s d H Q I h;refine aF (m D s d H _ I h) λF e ⟨y,B,w,r,j⟩=>aF (l D e d B _ w j) λu E ⟨x,z,t,f,a,v,n,g,q⟩=>?_;subst n;obtain rfl:u=Value.ref a:=f;exact anK k t g r λC p=>⟨.b<|!v.isSome,z,p,O,q⟩
theorem Zc(E:X.A.units+1<cLine)(G:PE X o b)(J:PE X i c)(C:PE X d k)(F:swapsWith d (some<|.Subscript o i j) f.line X.env=pure false):
  PS X (.Assign [.Subscript o i j] d f) (Lc b c k):=by
 intro l s e H D I h;refine wpAny_Assign_Subscript (aF (C l s e H _ I h) λr n ⟨v,S,P,t,B⟩=>aF (G l n e S _ P B) λu m ⟨x,R,N,q,z⟩=>aF (J l m e R _ N z) λV U ⟨y,W,M,p,a,Q,K,g,w⟩=>?_) F;subst K;obtain rfl:u=Value.ref a:=q;exact afA E M g p t λT L=>⟨e,Q,L,w⟩
end
theorem anB(h:FS)(b:sysModules<h.objs.size):cN P w H (h.push {cls:=.type "dict",data:=.dict #[]}) h.objs.size (.d []):=
 ⟨Y_ _,beq_eq_false_iff_ne.mpr<|Ix<|Ze b,[],.nil,Heap.DictOf.new h⟩
def afH:TE:=λ_ H Q=>∀p,H p=none->Q (.r p) (upd H p<|.T [])
def apF(H:Hp)(a:Do):Prop:=(∃K,Rd H a<|.d K)\/∃K,Rd H a (.T K)
def aoF(f t e:TE):TE:=λb H Q=>f b H λx d=>∃a,x=.r a/\apF d a/\t b d λy g=>e b g λz c=>∃o,eU c a y o/\Q (o.getD z) c
end
set_option maxHeartbeats 4000000
section
open PyProof.Rows
theorem uR:∀(s:zn)(n:Nat)(X:ut),cellsFrom n s X=cellsFrom n s []++X:=by
 intro s;induction s with
 |nil=>intros;rfl
 |cons y r i=>
  intro n X;obtain⟨e,k⟩:=y;unfold cellsFrom;split;rw[i (n+1) ((e,n)::X),i (n+1) [(e,n)],Xm];rfl;exact i n X
theorem agB{c:Do}:∀(s:zn)(n:Nat),(x,c)∈cellsFrom n s []->(x,NameKind.cell)∈s:=by
 intro s;induction s with
 |nil=>intro n h;cases h
 |cons y r i=>
  intro n h;obtain⟨e,k⟩:=y;unfold cellsFrom at h;split at h;rename_i a;rw[uR] at h;rcases Z4.mp h with h|h
  exact Wb _ (i _ h);cases Ya.mp h;rw[show k=.cell by lia];exact Wu;exact Wb _ (i _ h)
theorem Ld:∀(l:ut),(x,c)∈l->∃c,l.lookup x=some c:=by
 intro l;induction l with
 |nil=>intro h;cases h
 |cons y r i=>
  intro h;rw[Y6];cases e:x==y.1 with
  |true=>exact⟨_,O⟩
  |false=>
   rcases X9.mp h with h|h
   rw[<-h] at e;simp at e;exact i h
theorem Le:∀(s:zn)(n:Nat),(x,NameKind.cell)∈s->∃c,(x,c)∈cellsFrom n s []:=by
 intro s;induction s with
 |nil=>intro n h;cases h
 |cons y r i=>
  intro n h;obtain⟨e,k⟩:=y;unfold cellsFrom;split;rw[uR];rcases X9.mp h with h|h
  cases h;exact⟨n,cQ _<|.head _⟩;obtain⟨c,b⟩:=i (n+1) h;exact⟨c,Zh _ b⟩;rename_i a;rcases X9.mp h with h|h
  cases h;cases a O;exact i n h
theorem Zi{A:FM}{E:ge}{s:Ev}{g:Do}{c:ut}{Q:Env->Ev->Prop}(j:∀h,h.Ns s.heap.objs.size (λY=>none)->(∀b o,s.heap.get? b=some o->h.get? b=some o)->CellsOk h (s.heap.objs.size+1) (cellsFrom (s.heap.objs.size+1) a.names [])->
   Q (newEnv a s.heap.objs.size g (cellsFrom (s.heap.objs.size+1) a.names c) q none .none (some r) builtinsNs) {s with heap:=h}):
  wpAny M A (newFunctionEnv a g c [] q none .none<|some r) Q E s:=by
 simp only[newFunctionEnv,Option.isSome_some,if_true];refine GM<|wpAny_alloc (GM<|wpAny_layCells _ (λn i f=>O) _ _ _ _ ?_);rw[show({s with heap:=s.heap.push {cls:=.type "dict",data:=.dict #[]}}:Ev).heap.objs.size=s.heap.objs.size+1 from Sc ..];have k:=cellsFrom_ok a.names (s.heap.push {cls:=.type "dict",data:=.dict #[]}) (s.heap.objs.size+1) [] ⟨λY Y m=>(nomatch m),List.Pairwise.nil⟩ aP;rw[Sc] at k;exact GM (IO<|IO<|j _ ((Heap.Ns.new s.heap<|.type "dict").keeps<|pushCells_keeps _ _) (λb o e=>pushCells_keeps _ _ b o<|KF _ e) k)
section
variable{X:Cx}{d:gh}{f:St}{H:Hp}{s:Ev}{a:Do}{o:HO}
theorem uP.Ar(I:uP X d f H s)(A:H a=none)(B:X.S.heap.objs.size<=a)(L:a≠X.env.locals)(C:∀x c,X.env.cells.lookup x=some c->c≠a)(y:∀p∈X.n++d,p.1≠a)(i:cN X.prog X.w (upd H a o) s.heap a o):uP X d f (upd H a o) s:=by
 have Z:∀b u,X.S.heap.get? b=some u->b≠a:=λb u e=>Ze (ZP (IN e) B);have g:∀b u,H b=some u->b≠a:=λb u e=>aJ e A;refine⟨I.ok,I.os,I.E,⟨I.base.keep,I.base.slot,λb u e n v=>?_,I.base.there,λb h e=>?_,λb u h e=>?_,λb t e=>?_⟩,I.G,I.cell,?_,λx c e=>?_,λp q=>?_,λb u e=>?_,I.len⟩;rw[aw<|Z b u e];exact I.base.free b u e n v;have z:=I.base.bx b h e;rw[aw<|g b _ z];exact z;have z:=I.base.iC b u h e;rw[aw<|g b _ z];exact z;obtain⟨m,z⟩:=I.base.iP b t e;exact⟨m,by rw[aw<|g b _ z];exact z⟩;rw[aw<|Ix L];exact I.free;rw[aw<|C x c e];exact I.P x c e;obtain⟨r,l,k⟩:=I.pin p q;exact⟨r,by rw[aw<|y p q];exact l,k⟩;by_cases j:b=a;subst j;rw[aj] at e;cases e;exact i;rw[aw j] at e;exact(I.ay b u e).mr (λY Y Y q=>q) (λc q=>by rw[aw<|g c _ q];exact q) λc h q=>by rw[aw<|g c _ q];exact q
end
noncomputable def dn(c:ut):zn->ut->ut
 |[],X=>X
 |(n,k)::r,X=>dn c r (if k=.free then (n,(c.lookup n).getD 0)::X else X)
theorem Lf(v:Env):∀(s:zn)(X:ut),(∀y∈s,y.2=.free->∃c,v.cells.lookup y.1=some c)->
  (forIn s X (fun(x:Str×NameKind)(j:ut)=>match x with
   |(b,d)=>if (d==NameKind.free)=true then do let a <-cellOf v b;pure (ForInStep.yield ((b,a)::j)) else pure (ForInStep.yield j)):Sem ut)=pure (dn v.cells s X)
 |[],X,_=>O
 |(n,k)::r,X,h=>by
  have i:=λm=>Lf v r m λy l=>h y (Wb _ l);by_cases f:k=.free;subst f;obtain⟨c,e⟩:=h (n,.free) Wu O;have p:cellOf v n=pure c:=by unfold cellOf;rw[e]
  have g:dn v.cells ((n,.free)::r) X=dn v.cells r ((n,c)::X):=by simp[dn,e]
  rw[g,<-i];simp[p];have o:=by simpa using f
  have g:dn v.cells ((n,k)::r) X=dn v.cells r X:=by simp[dn,f]
  rw[g,<-i];simp[o]
theorem amF(h:∀y∈s.names,y.2=.free->∃c,e.cells.lookup y.1=some c):closureFor s e=pure (dn e.cells s.names []):=by
 have:=Lf e s.names [] h;simp only[closureFor];rw[<-this];simp
theorem Lg:∀(s:zn)(X:ut)(x:Str)(c:Do),(dn a s X).lookup x=some c->(X.lookup x=some c)\/((x,.free)∈s/\(a.lookup x).getD 0=c)
 |[],X,x,c,h=>.inl h
 |(n,k)::r,X,x,c,h=>by
  rcases Lg r _ x c h with z|⟨f,e⟩
  by_cases d:k=.free;subst d;simp at z;rw[Y6] at z;by_cases b:x==n;simp only[b] at z;have Z:=eq_of_beq b;subst Z;exact .inr ⟨Wu,lF z⟩;have J:(x==n)=false:=by lia
  simp only[J] at z;exact .inl z;simp only[Id d] at z;exact .inl z;exact .inr ⟨Wb _ f,e⟩
theorem Et:∀(s:zn)(X:ut)(x:Str),((x,NameKind.free)∈s\/∃c,X.lookup x=some c)->∃c,(dn cells s X).lookup x=some c
 |[],X,x,h=>by
  rcases h with h|h
  cases h;exact h
 |(n,k)::r,X,x,h=>by
  refine Et r _ x ?_;rcases h with h|⟨c,h⟩
  rcases X9.mp h with e|h
  cases e;refine .inr ?_;simp;exact .inl h;refine .inr ?_;by_cases a:k=.free;simp only[GT a,Y6];cases b:x==n;exact⟨c,h⟩;exact⟨_,O⟩;simp only[Id a];exact⟨c,h⟩
theorem Eu{env:Env}:∀(s:zn)(x:Str),
  (s.map fun(n,k)=>if (k==NameKind.free && env.scope.kind==.function && env.kindOf n==some .cell) then (n,NameKind.cell) else (n,k)).lookup x=
   (s.lookup x).map λk=>if (k==NameKind.free && env.scope.kind==.function && env.kindOf x==some .cell) then NameKind.cell else k
 |[],_=>O
 |(n,k)::r,x=>by
  have i:=Eu (env:=env) r x;show List.lookup x ((if (k==NameKind.free && env.scope.kind==.function && env.kindOf n==some .cell)=true then (n,NameKind.cell) else (n,k))::_)=_;cases a:x==n with
  |true=>
   have e:=eq_of_beq a;subst e;by_cases h:(k==NameKind.free && env.scope.kind==.function && env.kindOf x==some .cell)=true;rw[GT h];simp only[Y6,beq_self_eq_true,Wr];rw[GT h];rw[Id h];simp only[Y6,beq_self_eq_true,Wr];rw[Id h]
  |false=>
   by_cases h:(k==NameKind.free && env.scope.kind==.function && env.kindOf n==some .cell)=true;rw[GT h];simp only[Y6,a];exact i;rw[Id h];simp only[Y6,a];exact i
section
variable{a:Fk}{w:Fa}{A:FM}{R:Result->Ev->Prop}{s:Ev}
theorem aoK{q:tz}{C X:EQ}(I:Nat->Ev->Prop)(l:∀n s,I n s->wpAny (model a w) A (pyNext C) (λr U=>match r with
   |none=>R (.ok .next) U
   |some v=>wpAny (model a w) A (letOwnedTupleGo t C v) (λY L=>wpAny (model a w) A (assign t e v) (λY Z=>
     wpAny (model a w) A (forIn q true λc r=>if r=true then do let o <-isTrue c e (eval c e);pure (ForInStep.yield o) else pure (ForInStep.yield r)) (λo b=>
      if o=true then wpAny (model a w) A (eval D e) (λx g=>
       wpAny (model a w) A (call (.builtin "list.append") [X,x]) (λY f=>∃m,m<n/\I m f) (λY Y=>False) g) (λY Y=>False) b
      else ∃m,m<n/\I m b) (λY Y=>False) Z) (λY Y=>False) L) (λY Y=>False) U) (λY Y=>False) s)(n:Nat)(h:I n s):codeAny (model a w) A (.compLoop (.ListComp D [⟨t,p,q,0⟩] k B) 0 C X e) R s:=by
 refine codeAny_loop O I (λn s E=>wpAny_noted (GM<|Tk<|GM<|KM (l n s E) (λr U j=>?_) λY Y d=>d.elim)) n h;cases r with
 |none=>exact IO j
 |some v=>
  refine GM<|KM j (λY L F=>GM<|KM F (λY Z z=>GM<|KM z (λo b i=>?_) λY Y d=>d.elim) λY Y d=>d.elim) λY Y d=>d.elim;cases o with
  |false=>exact IO ⟨O,i⟩
  |true=>
   exact GM<|GM<|KM i (λx g y=>GM<|KM y (λY f u=>IO<|IO ⟨O,u⟩) λY Y d=>d.elim) λY Y d=>d.elim
end
def iW(X:Cx)(e:Scope)(N:ca)(a:ii)(C:Do)(s:Ev)(H:Hp):Cx where
 prog:=X.prog
 w:=X.w
 K:=X.K
 mg:=X.mg
 base:=X.base
 A:=X.A
 N:=N
 S:=s
 H:=H
 env:=compEnvC e (cellsFrom (C+1) e.names<|dn X.env.cells e.names []) C X.env
 r:=X.stack
 stack:=X.stack
 ex:=a
 fn:=λx=>decide (e.names.lookup x=some .cell)
 calm:=X.calm
 n:=[]
 xe:=λ_ _=>False
structure kZ(X:Cx)(scope:Scope)(ln:ca)(fv:v0):Prop where
 kind:scope.kind=.function
 own:∀y∈scope.names,y.2=.cell->scope.names.lookup y.1=some .cell
 locals:∀y∈scope.names,y.2=.local->scope.names.lookup y.1=some .local
 free:∀y∈scope.names,y.2=.free->(X.env.kindOf y.1=some .cell\/X.env.kindOf y.1=some .free)
 Zp:∀p∈fv,X.N[p.2]?=some p.1/\scope.names.lookup p.1=some .free
noncomputable def bG(a:St)(f:v0):St:=f.map λp=>(a[p.2]?).join
def iE(K:Frag):ww->V->Hp->(db->Prop)->Prop
 |none,x,_,Q=>Q [x]
 |some n,x,H,Q=>if n=102 then ∃a s,x=.r a/\ag K H a s/\s.length=2/\Q s else ∃a s,x=.r a/\aA K H a s/\s.length=n/\Q s
theorem Zq{K:Frag}(h:iE K (some n) x H P)(k:∀s,P s->Q s):iE K (some n) x H Q:=by
 by_cases e:n=102;have h:if n=102 then ∃a s,x=.r a/\ag K H a s/\s.length=2/\P s else ∃a s,x=.r a/\aA K H a s/\s.length=n/\P s:=h
 show if n=102 then ∃a s,x=.r a/\ag K H a s/\s.length=2/\Q s else ∃a s,x=.r a/\aA K H a s/\s.length=n/\Q s
 rw[GT e] at h⊢;obtain⟨a,s,d,c,b,q⟩:=h;exact oS a s d c b (k _ q);have h:if n=102 then ∃a s,x=.r a/\ag K H a s/\s.length=2/\P s else ∃a s,x=.r a/\aA K H a s/\s.length=n/\P s:=h
 show if n=102 then ∃a s,x=.r a/\ag K H a s/\s.length=2/\Q s else ∃a s,x=.r a/\aA K H a s/\s.length=n/\Q s
 rw[Id e] at h⊢;obtain⟨a,s,d,c,b,q⟩:=h;exact oS a s d c b (k _ q)
def js:Option TT->TT
 |none=>λ_ H k=>k true H
 |some t=>t
def sy(K:Frag)(w:TI)(t:ww)(v:v0)(j:Option TT)(h:TE):TE:=λd H Q=>
 w d H λJ n=>∃W:Nat->Nat->db->Hp->Prop,(∃m,W 0 m [] n)/\∀i m s a,W i m s a->
  (J.stop i a/\∀p,a p=none->Q (.r p) (upd a p<|.l s))\/
  (J.go i a/\∀x e,J.eE i a x e->iE K t x e λf=>
   js j (f.map some++bG d v) e λb g=>
    if b=true then h (f.map some++bG d v) g λy k=>s.length<sizeLine/\∃c,c<m/\W (i+1) c (s++[y]) k
    else ∃c,c<m/\W (i+1) c s g)
section
variable{X:Cx}{A:gh}{s:St}{H:Hp}{f j:Ev}{a:Scope}{g:ca}{n:v0}{w:ii}{B:FS}{D C:Do}{m:io}{t:Nat}
theorem kZ.cells(S:kZ X a g n)(I:uP X A s H f)(h:(dn X.env.cells a.names []).lookup x=some c):X.env.cells.lookup x=some c/\(x,NameKind.free)∈a.names:=by
 rcases Lg _ _ _ _ h with z|⟨d,b⟩
 cases z;obtain⟨i,e⟩:=I.ok.has x (S.free _ d O);rw[e] at b;subst b;exact⟨e,d⟩
theorem kZ.Li(S:kZ X a g n)(I:uP X A s H f):closureFor a X.env=pure (dn X.env.cells a.names []):=
 amF λy h k=>I.ok.has y.1 (S.free y h k)
theorem apE(S:kZ X a g n)(I:uP X A s H f)(f2:∀b∈w,ka X A H b)(uS:∀b∈w,∃o,f.heap.get? b=some o)(os:j.os=f.os)(a':j.gens=f.gens)(W:∀b o,f.heap.get? b=some o->j.heap.get? b=some o)(Y:D=f.heap.objs.size)(h3:j.heap.objs.size=f.heap.objs.size+1)(Z:C=j.heap.objs.size)(k4:∀b o,j.heap.get? b=some o->B.get? b=some o)(Ap:B.Ns C m)(N:CellsOk B (C+1) (cellsFrom (C+1) a.names [])):
  uP (iW X a (g++n.map (·.1)) (D::w) C j H) [] (g.map (λ_=>none)++bG s n) H {j with heap:=B,toks:=t}:=by
 have M:∀{x c},(dn X.env.cells a.names []).lookup x=some c->X.env.cells.lookup x=some c:=λh=>(S.cells I h).1;have Ew:∀{x c},(dn X.env.cells a.names []).lookup x=some c->c<f.heap.objs.size:=λh=>by
  obtain⟨v,q⟩:=I.cell _ _ (M h);exact q.lt
 have Zs:∀b∈w,b<f.heap.objs.size:=λb F=>by obtain⟨o,e⟩:=uS b F;exact IN e
 have Lj:∀b∈D::w,b<=f.heap.objs.size:=λb F=>by
  rcases X9.mp F with e|F
  rw[e,Y];exact ZX _;exact Zb (Zs b F)
 have Lk:∀x,(relabel a X.env).names.lookup x=(a.names.lookup x).map λk=>if (k==NameKind.free && X.env.scope.kind==.function && X.env.kindOf x==some .cell) then NameKind.cell else k:=λx=>Eu a.names x
 have Zt:∀x,a.names.lookup x=some .free->((relabel a X.env).names.lookup x=some .cell\/(relabel a X.env).names.lookup x=some .free):=λx e=>by
  rw[Lk,e];simp only[Wr];split;exact .inl O;exact .inr O
 have Zu:∀x,((relabel a X.env).names.lookup x=some .cell\/(relabel a X.env).names.lookup x=some .free)->(x,NameKind.free)∈a.names\/(x,NameKind.cell)∈a.names:=λx e=>by
  rw[Lk] at e;cases q:a.names.lookup x with
  |none=>rw[q] at e;rcases e with e|e<;>cases e
  |some k=>
   rw[q] at e;have hm:(x,k)∈a.names:=NE q;simp only[Wr] at e;by_cases Q:k=.free;rw[Q] at hm;exact .inl hm;have F:(k==NameKind.free)=false:=by simpa using Q
   simp only[F,Bool.false_and,WW,SB] at e;rcases e with e|e
   rw[lF e] at hm;exact .inr hm;exact absurd (lF e) Q
 have V:∀{x c},(cellsFrom (C+1) a.names<|dn X.env.cells a.names []).lookup x=some c->(x,c)∈cellsFrom (C+1) a.names []\/(dn X.env.cells a.names []).lookup x=some c:=λ{x c} h=>by
  rw[uR,Yz] at h;cases e:(cellsFrom (C+1) a.names []).lookup x with
  |none=>rw[e] at h;exact .inr h
  |some d=>rw[e] at h;cases h;exact .inl (NE e)
 have lo:∀{x c},(x,NameKind.cell)∈a.names->(cellsFrom (C+1) a.names<|dn X.env.cells a.names []).lookup x=some c->(x,c)∈cellsFrom (C+1) a.names []:=λ{x c} K h=>by
  obtain⟨d,L⟩:=Le a.names (C+1) K;obtain⟨d',e⟩:=Ld _ L;rw[uR,Yz,e] at h;cases h;exact NE e
 have lh:∀{x},(x,NameKind.free)∈a.names\/(x,NameKind.cell)∈a.names->∃c,(cellsFrom (C+1) a.names<|dn X.env.cells a.names []).lookup x=some c:=λ{x} K=>by
  rw[uR,Yz];cases e:(cellsFrom (C+1) a.names []).lookup x with
  |some d=>exact oM d O
  |none=>
   rcases K with K|K
   exact Et _ _ x (.inl K);obtain⟨d,L⟩:=Le a.names (C+1) K;obtain⟨d',e'⟩:=Ld _ L;rw[e] at e';cases e'
 have lf:∀{x c},a.names.lookup x=some .free->(dn X.env.cells a.names []).lookup x=some c->(cellsFrom (C+1) a.names<|dn X.env.cells a.names []).lookup x=some c:=λ{x c} K h=>by
  rw[uR,Yz];cases e:(cellsFrom (C+1) a.names []).lookup x with
  |none=>exact h
  |some d=>
   have:=S.own _ (agB _ _<|NE e) O;rw[K] at this;cases this
 have sC:f.heap.objs.size<C:=by rw[Z,h3];exact XA _
 refine⟨⟨I.ok.mod,S.kind,I.ok.glob,I.ok.blt,XX Z.symm,λx y c h1 h2=>?_,λx K=>lh (Zu x K),λx c h e=>?_,I.ok.hd,I.ok.frames,.inl O,λb F=>⟨?_,λx c e=>?_⟩,λb o e=>⟨W b o (I.bs b o e).1,(I.bs b o e).2⟩,?_,λb o e F=>?_,λb F hf=>?_,?_,I.zT⟩,
  rfl,?_,Un.kept λb u e=>k4 b u e,nS m Ap (λi x v e1 J e3=>?_),λx c e=>?_,I.ay.fresh ?_,λx c e=>(V e).elim (λz=>I.ay.fresh (Zb (ZP sC (XE (N.empty x c z).2)))) λz=>I.P x c (M z),λp hp=>absurd (show p∈ ([]:gh) from hp) aP,I.ay.kept λb u e=>k4 b u (W b u e),?_⟩
 rcases V h1 with T|T<;>rcases V h2 with R|R
 exact PySem.name_of_addr N.apart T R;exact absurd (YR (Ew R) sC) (Nat.not_lt_of_le<|XE (N.empty _ _ T).2);exact absurd (YR (Ew T) sC) (Nat.not_lt_of_le<|XE (N.empty _ _ R).2);exact I.ok.inj x y c (M T) (M R);exact Y4 (XX Z.symm) (XE (N.empty x c<|lo (NE<|Os h) e).2);show b≠C;have:=Lj b F;rw[Z,h3];exact Ze (Nat.lt_succ_of_le this);rcases V e with e|e
 exact XF (yF (Lj b F)<|ZP sC<|XE (N.empty x c e).2);have q1:=Ew e;rcases X9.mp F with z|z
 rw[z,Y];exact Ze q1;exact(f2 b z).2.2.2.2.1 x c (M e);show X.base.objs.size<=j.heap.objs.size;have:=Y4 I.ok.rQ I.sz;lia;have J:=(I.bs b o e).1;have Ex:b∈D::w:=F;rcases X9.mp Ex with z|z
 have:=IN J;rw[z,Y] at this;exact Xx _ this;rcases (f2 b z).2.2.2.1 with q|q
 exact I.ok.zQ b o e q;exact absurd (ZP (IN (I.ok.bs b o e).1) q) (Xx _);have Ll:b∈bA X.stack:=hf;have Ex:b∈D::w:=F;rcases X9.mp Ex with z|z
 rcases X9.mp (I.zS b Ll) with q|q
 have:=I.lt;rw[<-q,z,Y] at this;exact Xx _ this;exact I.JG (by rw[z,Y];exact ZX _) q;rcases X9.mp (I.zS b Ll) with q|q
 exact(f2 b z).2.1 q;exact(f2 b z).2.2.1 q;exact PySem.Heap.FunFrames.of_keeps (λb o e _=>nS o (W b o e) O) I.stack;show AllBare j.gens;rw[a'];exact I.E;have hi:g.length<=i:=by
  by_cases hi:i<g.length;exfalso;rw[Yb (by simpa using hi),Z_] at J;cases q:g[i]? with
  |none=>rw[q] at J;cases J
  |some y=>rw[q] at J;cases J
  exact Z6 hi
 have U:(g++n.map (·.1))[i]?=some x:=e1;rw[Wf hi,Z_] at U;rw[Wf (by simpa using hi),Wo] at J;unfold bG at J;rw[Z_] at J;cases q:n[i - g.length]? with
 |none=>rw[q] at U;cases U
 |some p=>
  rw[q] at U J;have ex:p.1=x:=lF U;have ev:(s[p.2]?).join=some v:=lF J;obtain⟨g1,g2⟩:=S.Zp p (YK q);rw[ex] at g1 g2;have Zv:s[p.2]?=some (some v):=by
   cases z:s[p.2]? with
   |none=>rw[z] at ev;cases ev
   |some o=>rw[z] at ev;rw[show o=some v from ev]
  have Q:=S.free _ (NE g2) O;obtain⟨m2,kb,hl⟩:=I.G;obtain⟨u,r,l⟩:=hl p.2 x v g1 Zv (by rcases Q with k|k;exact .inr (.inl k);exact .inr (.inr k));refine nS u r (.inr ?_);rcases l with⟨k,_⟩|⟨_,c,ec,z⟩
  rcases Q with k'|k'<;>(rw[k] at k';cases k')
  refine qC (Zt x g2) c ?_ ?_;obtain⟨c',e'⟩:=Et (cells:=X.env.cells) a.names [] x (.inl<|NE g2);have:=M e';rw[ec] at this;cases this;exact lf g2 e';obtain⟨o,ho,L⟩:=z;exact nS o (k4 c o<|W c o ho) L
 rcases V e with e|e
 exact oM none ((N.empty x c e).1);obtain⟨v,o,ho,L⟩:=I.cell x c (M e);exact o3 v o (k4 c o<|W c o ho) L;rw[Z,h3];exact XW _;show(g.map (λ_=>none)++bG s n).length=(g++n.map (·.1)).length;simp[bG]
end
structure Lm(Φ:Cx->Prop)(P:Fk)(w:Fa)(K:Frag)(tg:Expr)(J:It)(fp:ii)(it:Do)(tn:Nat->FS->Prop):Prop where
 mem:it∈fp
 obj:∀i h,tn i h->∀b∈fp,∃o,h.get? b=some o/\∀v,o.data≠ .cell v
 keep:∀i h h',tn i h->(∀b∈fp,∀o,h.get? b=some o->h'.get? b=some o)->tn i h'
 item:∀(X:Cx),X.prog=P->X.w=w->X.K=K->Φ X->∀(i:Nat)(D':gh)(s:Ev)(σ:St)(H:Hp)(E:ge),uP X D' σ H s->(∀b∈fp,ka X D' H b)->tn i s.heap->J.go i H->
  wpAny (model P w) X.A (pyNext (.ref it)) (λr s1=>∃u,r=some u/\
   wpAny (model P w) X.A (letOwnedTupleGo tg (.ref it) u) (λ_ s2=>∃x H',uP X D' σ H' s2/\lA x u/\J.eE i H x H'/\tn (i+1) s2.heap/\∀b∈fp,H' b=none) E s1) E s
 done:∀(X:Cx),X.prog=P->X.w=w->X.K=K->Φ X->∀(i:Nat)(D':gh)(s:Ev)(σ:St)(H:Hp)(E:ge),uP X D' σ H s->(∀b∈fp,ka X D' H b)->tn i s.heap->J.stop i H->
  wpAny (model P w) X.A (pyNext<|.ref it) (λr s1=>r=none/\uP X D' σ H s1) E s
 self:∀(A:FM)(i:Nat)(s:Ev)(Q:ge)(E:ge),tn i s.heap->Q (.ref it) s->wpAny (model P w) A (pyIter<|.ref it) Q E s
def Ey(g:Cx->Prop)(X:Cx)(j i:Expr)(h:TI):Prop:=
 ∀(D:gh)(s:Ev)(a:St)(H:Hp)(R:It->Hp->Prop),uP X D a H s->h a H R->
  wpAny (model X.prog X.w) X.A (eval i X.env) (λv k=>wpAny (model X.prog X.w) X.A (pyIter v) (λr d=>
   ∃(e:Do)(f:ii)(t:Nat->FS->Prop)(J:It)(c:Hp),r=.ref e/\uP X D a c d/\Lm g X.prog X.w X.K j J f e t/\t 0 d.heap/\(∀b∈f,ka X D c b)/\R J c) X.xe k) X.xe s
abbrev aeW(X:Cx):Prop:=X.calm=true
theorem PI.p{t i:Expr}{w:TI}(h:PI X t i w):Ey aeW X t i w:=λD s a H R I q=>
 aF (h D s a H R I q) λv m d=>aF d λo l ⟨c,g,n,J,k,e,j,T,b,f,r⟩=>pR c g n J k e j ⟨T.mem,T.obj,T.keep,T.item,T.done,T.self⟩ b f r
section
variable{X:Cx}{G:gh}{A:St}{H:Hp}{w:Ev}{a:Scope}{l:ca}{f:v0}{Y K N:Expr}{B:tz}{d:Pos}{J:It}{j:ii}{R:Do}{P:Nat->FS->Prop}{L:ww}{M:Option TT}{U:TE}{k:VK}{Z:EQ->Do->Result->Ev->Prop}{E:ge}
def Ez(e:Hp->Prop)(X:Cx)(a:Scope)(l:ca)(f:v0)(K:Expr)(L:ww):Prop:=
 ∀(h:ii)(C:Do)(s:Ev)(H:Hp),e H->∃g,PG (iW X a (l++f.map (·.1)) h C s H) K g/\
  ∀(x:V)(p c:St)(b:Hp)(Q:Db),p.length=l.length->iE X.K L x b (λd=>d.length=l.length->Q (d.map some++c) b)->g x (p++c) b Q
def xl(X:Cx)(a:Scope)(l:ca)(f:v0)(K:Expr)(L:ww):Prop:=
 ∀(e:ii)(C:Do)(s:Ev)(H:Hp),∃g,PG (iW X a (l++f.map (·.1)) e C s H) K g/\
  ∀(x:V)(p c:St)(b:Hp)(Q:Db),p.length=l.length->iE X.K L x b (λd=>d.length=l.length->Q (d.map some++c) b)->g x (p++c) b Q
def xp(X:Cx)(a:Scope)(N:ca)(B:tz)(M:Option TT):Prop:=
 match M with
 |none=>B=[]
 |some t=>∃c,B=[c]/\∀(e:ii)(C:Do)(s:Ev)(H:Hp),PT (iW X a N e C s H) c t
theorem Ln(S:kZ X a l f)(hc:∀Xc:Cx,Xc.A=X.A->Xc.calm=X.calm->Xc.H=H->Φ Xc)(k':Ψ H)(hg:Ez Ψ X a l f K L)(ht:xp X a (l++f.map (·.1)) B M)
  (he:∀(ex:ii) (C:Do) (s:Ev) (H:Hp),PE (iW X a (l++f.map (·.1)) ex C s H) Y U)
  (I:uP X G A H w) (T:Lm Φ X.prog X.w X.K K J j R P) (st:P 0 w.heap) (f2:∀b∈j,ka X G H b)
  (h:∃W:Nat->Nat->db->Hp->Prop,(∃m,W 0 m [] H)/\∀i m ys H2,W i m ys H2->
   (J.stop i H2/\∀p,H2 p=none->k (.r p) (upd H2 p<|.l ys))\/
   (J.go i H2/\∀x H3,J.eE i H2 x H3->iE X.K L x H3 λxs=>
    js M (xs.map some++bG A f) H3 λb H5=>
     if b=true then U (xs.map some++bG A f) H5 λy H6=>ys.length<sizeLine/\∃m',m'<m/\W (i+1) m' (ys++[y]) H6
     else ∃m',m'<m/\W (i+1) m' ys H5))
  (Zw:∀D C H' s' m,uP X G A H' s'->s'.heap.Ns C m->H' C=none->C≠X.env.locals->X.S.heap.objs.size<=C->(∀x c,X.env.cells.lookup x=some c->c≠C)->(∀p∈X.n++G,p.1≠C)->k (.r D) H'->Z (.ref D) C (.ok .next) s'):
  wpAny (model X.prog X.w) X.A (newList []) (λX' Q=>wpAny (model X.prog X.w) X.A (newFunctionEnv a X.env.globals (dn X.env.cells a.names []) [] X.env.qual none .none (some X.env)) (λLo a'=>
   codeAny (model X.prog X.w) X.A (.compStart (.ListComp Y [⟨K,N,B,0⟩] a d) 0 (.ref R) X' {Lo with scope:=relabel a X.env}) (Z X' Lo.locals) a') E Q) E w:=by
 obtain⟨W,⟨m0,w0⟩,h'⟩:=h;refine Tm<|Zi λb' As Au ck=>?_
 dsimp only at As Au ck⊢
 generalize n_:({w with heap:=w.heap.push {cls:=.type "list",dict:=none,data:=.seq ([]:im).toArray}}:Ev)=Q
 have xq:w.heap.push {cls:=.type "list",dict:=none,data:=.seq ([]:im).toArray}=Q.heap:=by rw[<-n_]
 rw[xq] at As Au ck⊢;have Lq:Q.os=w.os:=by rw[<-n_]
 have Zx:Q.gens=w.gens:=by rw[<-n_]
 have sD:Q.heap.objs.size=w.heap.objs.size+1:=by rw[<-xq,Sc]
 have k3:∀b o,w.heap.get? b=some o->Q.heap.get? b=some o:=λb o e=>by rw[<-xq];exact KF _ e
 have k4:=Au;have gD:Q.heap.get? w.heap.objs.size=some {cls:=.type "list",dict:=none,data:=.seq ([]:im).toArray}:=by rw[<-xq];exact Nr _ O
 generalize eD:w.heap.objs.size=D at gD;generalize eC:Q.heap.objs.size=C at As Au ck⊢;have Av:D≠C:=by rw[<-eD,<-eC,sD];exact Ze (XA _)
 have uS:∀b∈j,∃o,w.heap.get? b=some o:=λb V=>by obtain⟨o,e,_⟩:=T.obj 0 _ st b V;exact oM o e
 have Lr:∀b∈j,b≠D:=λb V=>by obtain⟨o,e⟩:=uS b V;rw[<-eD];exact Ze (IN e)
 have Zy:∀b∈j,b≠C:=λb V=>by
  obtain⟨o,e⟩:=uS b V;have:=IN e;rw[<-eC,sD];exact Ze (Xh this)
 generalize eX:iW X a (l++f.map (·.1)) (D::j) C Q H=Xc;have I4:∀t,uP Xc [] (l.map (λ_=>none)++bG A f) H {Q with heap:=b',toks:=t}:=λt=>by
  rw[<-eX];exact apE S I f2 uS Lq Zx k3 eD.symm sD eC.symm k4 As ck
 have xL:Xc.env.locals=C:=by rw[<-eX];rfl
 have xr:Xc.ex=D::j:=by rw[<-eX];rfl
 have Zz:Xc.fs=bA X.stack:=by rw[<-eX];rfl
 have xP:Xc.prog=X.prog:=by rw[<-eX];rfl
 have xw:Xc.w=X.w:=by rw[<-eX];rfl
 have xK:Xc.K=X.K:=by rw[<-eX];rfl
 have xA:Xc.A=X.A:=by rw[<-eX];rfl
 have xc:Φ Xc:=hc Xc xA (by rw[<-eX];rfl) (by rw[<-eX];rfl)
 have Ls:Xc.n=[]:=by rw[<-eX];rfl
 have EA:Xc.xe=λ_ _=>False:=by rw[<-eX];rfl
 have EB:Xc.env=compEnvC a (cellsFrom (C+1) a.names<|dn X.env.cells a.names []) C X.env:=by rw[<-eX];rfl
 have cF:∀x c,Xc.env.cells.lookup x=some c->∀b∈D::j,c≠b:=λx c e b V=>((I4 0).ok.JF b (by rw[xr];exact V)).2 x c e
 have sF:∀b∈D::j,b∉Xc.fs:=λb V hf=>by
  have:=(I4 0).ok.zR b (by rw[xr];exact V)
  exact this hf
 have rV:∀{H':Hp}{oD:Obj},(∀b∈j,H' b=none)->∀b∈j,ka Xc [(D,oD)] H' b:=λhn b V=>
  ⟨hn b V,by rw[xL];exact Zy b V,sF b (Wb _ V),.inl (by rw[xr];exact Wb _ V),λx c e=>cF x c e b (Wb _ V),λp hp=>by
   rw[Ls] at hp;rcases Ya.mp (show p∈ [(D,_)] from hp) with rfl
   exact(Lr b V).symm⟩
 have d':∀a':Ev,a'={Q with heap:=b'}->
   codeAny (model X.prog X.w) X.A (.compLoop (.ListComp Y [⟨K,N,B,0⟩] a d) 0 (.ref R) (.ref D)<|compEnvC a (cellsFrom (C+1) a.names<|dn X.env.cells a.names []) C X.env) (Z (.ref D) C) a':=by
  rintro a' rfl;refine aoK (λn s'=>Wq λi c' ys ak nn H'=>Ws (uP Xc [(D,{cls:=.type "list",data:=.seq (List.toArray ak) nn})] (c'++bG A f) H' s') (c'.length=l.length) (P i s'.heap) (∀b∈j,H' b=none) (Wz ys ak) (ys.length<=sizeLine) (W i n ys H')) ?_ m0
   ⟨0,l.map<|λ_=>none,[],[],0,H,(I4 _).uH<|λp hp=>?_,by simp,T.keep 0 _ _ st<|λb _ o e=>k4 b o<|k3 b o e,λb V=>(f2 b V).1,.nil,Y_ _,w0⟩
  rotate_left
  ·have uT:=Ya.mp hp;subst uT;refine⟨k4 _ _ gD,I.ay.fresh<|XX eD,by rw[xL];exact Av,sF D Wu,λv z=>by cases z⟩
  rintro n s' ⟨i,c',ys,ak,nn,H',I',nY,eF,Lu,hv,hz,w'⟩;have l':=I'.pin (D,_) (cQ _ Wu);rcases h' i n ys H' w' with⟨i',qn⟩|⟨go,j'⟩
  ·have td:=T.done Xc xP xw xK xc i _ s' _ H' (λ_ _=>False) I' (rV Lu) eF i';rw[xA] at td;refine aF td λr s1 ⟨hr,I1⟩=>?_;subst hr;have EC:=I1.pin (D,_) (cQ _ Wu);have b1:=I1.base;rw[Zz,xr] at b1;have Lv:Xc.S=Q:=by rw[<-eX];rfl
   have ZA:Xc.H=H:=by rw[<-eX];rfl
   rw[Lv,ZA] at b1;have nD:∀b o,w.heap.get? b=some o->b∉j->b∉D::j:=λb o e V hm=>by
    rcases X9.mp hm with z|z
    ·have:=IN e;rw[z,eD] at this;exact Xx _ this
    ·exact V z
   have un:Un (bA X.stack) j H H' w.heap s1.heap:=⟨λb o e nb V hx=>b1.keep b o (k3 b o e) nb V (nD b o e hx),λb o e nb V hx=>b1.slot b o (k3 b o e) nb V (nD b o e hx),λb o e nb hx=>b1.free b o (k3 b o e) nb (nD b o e hx),
    λb o e hx=>b1.there b o (k3 b o e) (nD b o e hx),b1.bx,b1.iC,b1.iP⟩
   have ZC:s1.os=w.os:=by rw[I1.os,Lv,Lq]
   have Lw:=I1.ay;rw[xP,xw] at Lw;have J1:uP X G A H' s1:=I.DN ZC un Lw I1.E λb V=>⟨(f2 b V).2.2.2.1,(f2 b V).2.1,(f2 b V).2.2.2.2.1,(f2 b V).2.2.2.2.2⟩;have ZD:∀x c,X.env.cells.lookup x=some c->c≠D:=λx c e=>by
    obtain⟨v,q⟩:=I.cell x c e;rw[<-eD];exact Ze q.lt
   have ZE:∀x c,X.env.cells.lookup x=some c->c≠C:=λx c e=>by
    obtain⟨v,q⟩:=I.cell x c e;rw[<-eC,sD];exact Ze (Xh q.lt)
   have pD:∀p∈X.n++G,p.1≠D:=λp hp=>by rw[<-eD];exact Ze (IN (I.pin p hp).1)
   have pC:∀p∈X.n++G,p.1≠C:=λp hp=>by
    rw[<-eC,sD];exact Ze (Xh<|IN (I.pin p hp).1)
   have lD:D≠X.env.locals:=by rw[<-eD];exact XF I.lt
   have lC:C≠X.env.locals:=by
    rw[<-eC,sD];exact XF (Xh I.lt)
   have J2:uP X G A (upd H' D<|.l ys) s1:=uP.Ar J1 EC.2.1 (by rw[<-eD];exact I.sz) lD ZD pD (sA hz ak nn hv EC.1)
   obtain⟨mC,Lx,_⟩:=I1.G;rw[xL] at Lx;have fC:H' C=none:=by have:=I1.free;rw[xL] at this;exact this
   exact Zw D C _ s1 mC J2 Lx (by rw[aw<|Ix Av];exact fC) lC (by rw[<-eC,sD];exact Nat.le_succ_of_le I.sz) ZE pC<|qn D EC.2.1
  ·have ti:=T.item Xc xP xw xK xc i _ s' _ H' (λ_ _=>False) I' (rV Lu) eF go;rw[xA] at ti;refine aF ti λr s4 ⟨u,hr,h4⟩=>?_;subst hr;refine aF h4 λ_ s5 ⟨x,H5,I5,r5,y5,rW,DX⟩=>?_;have wO:=I5.pinned (rV DX) (T.obj _ _ rW);obtain⟨g,pg,gq⟩:=hg (D::j) C Q H k';rw[eX] at pg;have rd:=j' x H5 y5;have Ly:=pg _ s5 _ H5 x u (λg' H6=>CC λ(xs:db)=>WS (g'=xs.map some++bG A f) (xs.length=l.length) (H6=H5) (js M (xs.map some++bG A f) H5 λb H5=>
     if b=true then U (xs.map some++bG A f) H5 λy H6=>ys.length<sizeLine/\∃m',m'<n/\W (i+1) m' (ys++[y]) H6
     else ∃m',m'<n/\W (i+1) m' ys H5)) wO r5 (gq x c' (bG A f) H5 _ nY (by
      cases L with
      |none=>exact λhl=>⟨_,O,hl,O,rd⟩
      |some k0=>exact Zq rd λxs rd hl=>⟨xs,O,hl,O,rd⟩))
   rw[xA,xP,xw,EA,EB] at Ly;refine aF Ly λ_ s6 ⟨g',H6,I6,xs,e6,gU,eH,Lz⟩=>?_;subst e6 eH;have LA:∀{H7:Hp}{f':St}{s7:Ev},uP Xc ([(D,{cls:=.type "list",data:=.seq (List.toArray ak) nn})]++uK j s5.heap) f' H7 s7->P (i+1) s7.heap/\(∀b∈j,H7 b=none)/\s7.heap.get? D=some {cls:=.type "list",data:=.seq (List.toArray ak) nn}/\H7 D=none:=λ{H7 f' s7} I7=>by
    refine⟨T.keep _ _ _ rW λb V o e=>(I7.pin (b,o)<|cQ _<|cQ _<|z6 V e).1,λb V=>?_,?_,?_⟩
    ·obtain⟨o,e,d0⟩:=T.obj _ _ rW b V;exact(I7.pin (b,o)<|cQ _<|cQ _<|z6 V e).2.1
    ·exact(I7.pin (D,_)<|cQ _<|Zh _ Wu).1
    ·exact(I7.pin (D,_)<|cQ _<|Zh _ Wu).2.1
   have e':wpAny (model X.prog X.w) X.A (forIn B true λc r=>if r=true then do let ok <-isTrue c (compEnvC a (cellsFrom (C+1) a.names<|dn X.env.cells a.names []) C X.env) (eval c<|compEnvC a (cellsFrom (C+1) a.names<|dn X.env.cells a.names []) C X.env);pure (ForInStep.yield ok) else pure (ForInStep.yield r))
     (λok s7=>∃H7,uP Xc ([(D,{cls:=.type "list",data:=.seq (List.toArray ak) nn})]++uK j s5.heap) (xs.map some++bG A f) H7 s7/\
      if ok=true then U (xs.map some++bG A f) H7 λy H6=>ys.length<sizeLine/\∃m',m'<n/\W (i+1) m' (ys++[y]) H6
      else ∃m',m'<n/\W (i+1) m' ys H7) (λ_ _=>False) s6:=by
    cases M with
    |none=>
     have uU:B=[]:=ht;subst uU;exact wpAny_tests_nil (nS _ I6 Lz)
    |some t=>
     obtain⟨c,uU,pt⟩:=(show ∃c,B=[c]/\∀(ex:ii) (C:Do) (s:Ev) (H:Hp),PT (iW X a (l++f.map (·.1)) ex C s H) c t from ht)
     subst uU;have LB:=pt (D::j) C Q H;rw[eX] at LB;have q:=LB _ s6 _ _ _ I6 Lz;rw[xA,xP,xw,EA,EB] at q;exact wpAny_tests_one<|aF q λb s7 ⟨H7,I7,q7⟩=>nS H7 I7 q7
   refine aF e' λok s7 ⟨H7,I7,q7⟩=>?_;cases ok with
   |false=>
    simp only[WW,SB] at q7⊢
    obtain⟨m',hm,w7⟩:=q7;obtain⟨t7,f7,d7,n7⟩:=YG (LA I7);refine nS m' hm ⟨i+1,xs.map some,ys,ak,nn,H7,I7.uH<|λp hp=>?_,by simpa using gU,t7,f7,hv,hz,w7⟩
    exact I7.pin p<|cQ _<|Zh _ hp
   |true=>
    simp only[if_true] at q7⊢
    have q:=he (D::j) C Q H;rw[eX] at q;have q:=q _ s7 _ H7 _ I7 q7;rw[xA,xP,xw,EA,EB] at q;refine aF q λuy s8 ⟨y,H8,I8,r8,aB,m',hm,w8⟩=>?_;obtain⟨t8,f8,d8,n8⟩:=YG (LA I8);have hl:=hv.length;refine PP sQ (nS _ d8 O) F.entry_list_append (F.args_list_append_2 _ _) (PySem.list_append D ak.toArray nn uy (by rw[WD];lia)) ⟨d8,?_⟩
    have I9:∀t,uP Xc [] (xs.map some++bG A f) H8 {s8 with heap:=s8.heap.update D (Obj.mapSeq (·.push uy)),toks:=t}:=λt=>
     (I8.uH (pins':=[])<|λp hp=>absurd hp (by simp)).turned (i:=D) (C:=t) (λb o V e=>(On s8.heap (Obj.mapSeq (·.push uy))<|Ix V).trans e) n8 (by rw[xL];exact Av) (.inl (by rw[xr];exact Wu)) (λx c e=>cF x c e D Wu)
      (λp hp=>by rw[Ls] at hp;exact absurd hp (by simp))
    have g9:=PySem.IsL.update d8 (·.push uy);obtain⟨n9,ZF⟩:∃n9,(s8.heap.update D (Obj.mapSeq (·.push uy))).get? D=some {cls:=.type "list",data:=.seq (ak++[uy]).toArray n9}:=
     oM _ (by rw[show(ak++[uy]).toArray=ak.toArray.push uy by simp];exact g9)
    refine nS m' hm ⟨i+1,xs.map some,ys++[y],ak++[uy],n9,H8,(I9 _).uH<|λp hp=>?_,by simpa using gU,?_,f8,hv.append<|.cons r8 .nil,?_,w8⟩
    ·have uT:=Ya.mp hp;subst uT;exact⟨ZF,n8,by rw[xL];exact Av,sF D Wu,λv z=>by cases z⟩
    ·exact T.keep _ _ _ t8 λb V o e=>(On s8.heap (Obj.mapSeq (·.push uy))<|Ix<|Lr b V).trans e
    ·rw[JB,Xy];exact XS aB
 have ZH:P 0 b':=T.keep 0 _ _ st λb _ o e=>k4 b o (k3 b o e);have e4:({w with heap:=b'}:Ev)={Q with heap:=b'}:=by rw[<-n_]
 exact codeAny_compStart_list (d' _ e4)<|T.self X.A 0 _ _ _ ZH<|d' _ e4
end
section
variable{X:Cx}{c:Scope}{f:ca}{d:v0}{l g j:Expr}{n:tz}{w:Pos}{p:TI}{r:ww}{t:Option TT}{u:TE}
theorem alQ(S:kZ X c f d)(Y:∀H,y H->∀i:Cx,i.A=X.A->i.calm=X.calm->i.H=H->E i)(a:∀B k H s,uP X B k H s->y H)(U:Ey E X g j p)(V:Ez y X c f d g r)(L:xp X c (f++d.map (·.1)) n t)(W:∀(ex:ii)(C:Do)(s:Ev)(H:Hp),PE (iW X c (f++d.map (·.1)) ex C s H) l u)(M:∀x,foldedSetIterable j X.env x=pure x:=by intro _;rfl):
  PE X (.ListComp l [⟨g,j,n,0⟩] c w) (sy X.K p r d t u):=by
 intro B s k H Q I h;refine wpAny_comprehension_free O M (S.Li I) S.kind S.locals<|aF (U B s k H _ I h) λv s1 h1=>aF h1 λrT s2 h2=>?_;obtain⟨it,fp,tn,J,H2,zq⟩:=YH h2;obtain⟨e,z,T,N,f2,hW⟩:=Xt zq;subst e;refine Ln S (Y H2<|a _ _ _ _ z) (a _ _ _ _ z) V L W z T N f2 hW ?_;intro D C H' s' m I' G R hL h0 Aw P q;exact⟨m,G,λh' F=>⟨.r D,H',I'.turned (λb o Z e=>F.extBut b o Z e) R hL (.inr h0) Aw P,O,q⟩⟩
theorem agP(hN:X.N.Nodup)(eV:X.N[i]?=some y)(hy:Yx X.env.scope y)(ED:swapsWith (.ListComp l [⟨g,j,n,0⟩] c w) (some<|.Name y Q) P.line X.env=pure true)(S:kZ X c f d)(hc:∀H,G H->∀F:Cx,F.A=X.A->F.calm=X.calm->F.H=H->Φ F)(B:∀M E H s,uP X M E H s->G H)(hi:Ey Φ X g j p)(hg:Ez G X c f d g r)(ht:xp X c (f++d.map (·.1)) n t)(he:∀(ex:ii)(C:Do)(s:Ev)(H:Hp),PE (iW X c (f++d.map (·.1)) ex C s H) l u)(hs:∀x,foldedSetIterable j X.env x=pure x:=by intro V;rfl)(hf:autoParam (X.fn y=true\/X.env.scope.names.lookup y=some .local) bd):
  PS X (.Assign [.Name y Q] (.ListComp l [⟨g,j,n,0⟩] c w) P) (kS (sy X.K p r d t u)<|gA i):=by
 intro M s E H D I h;rw[exec_Assign_Name_used _ _ _ _ ED];refine GM<|Tk<|GM ?_;refine GM (KM (wpAny_comprehension_free O hs (S.Li I) S.kind S.locals
  (aF (hi M s E H _ I h) λv s1 h1=>aF h1 λrT s2 h2=>?_)) (λV Z hq=>IO (IO hq)) λV V e=>e)
 obtain⟨it,fp,tn,J,H2,zq⟩:=YH h2;obtain⟨e,L,T,W,f2,hW⟩:=Xt zq;subst e;refine Ln (k:=λx H1=>gA i x E H1 D.nx) S (hc H2<|B _ _ _ _ L) (B _ _ _ _ L) hg ht he L T W f2 hW ?_;intro Da C H' Z m I' ns hn R h0 U hp q;refine wpAny_assign_Name<|JK I' hN eV hy (v:=.r Da) O (λs4 I4 ⟨a,Y,ha⟩=>?_) hf;have ZK:C≠a:=by
  rcases ha with z|z
  rw[z];exact R;exact Ix (U _ _ z)
 exact nS m (ns.sameBut Y ZK) (λh' ZM=>o3 _ H' (I4.turned (λb o hb e=>ZM.extBut b o hb e) hn R (.inr h0) U hp) q)
theorem afC(S:kZ X c f d)(o:X.calm=true)(i:PI X g j p)(k:xl X c f d g r)(h:xp X c (f++d.map (·.1)) n t)(m:∀(a:ii)(C:Do)(s:Ev)(H:Hp),PE (iW X c (f++d.map (·.1)) a C s H) l u)(b:autoParam (∀x,foldedSetIterable j X.env x=pure x) di):
  PE X (.ListComp l [⟨g,j,n,0⟩] c w) (sy X.K p r d t u):=
 alQ S (λY Y q Y e Y=>e.trans o) (λY Y Y Y Y=>trivial) i.p (λa C s H Y=>k a C s H) h m b
theorem aoD(D:X.N.Nodup)(V:X.N[i]?=some y)(k:Yx X.env.scope y)(E:swapsWith (.ListComp l [⟨g,j,n,0⟩] c w) (some<|.Name y h) b.line X.env=pure true)(S:kZ X c f d)(B:X.calm=true)(q:PI X g j p)(v:xl X c f d g r)(m:xp X c (f++d.map (·.1)) n t)(A:∀(a:ii)(C:Do)(s:Ev)(H:Hp),PE (iW X c (f++d.map (·.1)) a C s H) l u)(o:autoParam (∀x,foldedSetIterable j X.env x=pure x) di)(z:autoParam (X.fn y=true\/X.env.scope.names.lookup y=some .local) bd):
  PS X (.Assign [.Name y h] (.ListComp l [⟨g,j,n,0⟩] c w) b) (kS (sy X.K p r d t u)<|gA i):=
 agP D V k E S (λY Y F Y e Y=>e.trans B) (λY Y Y Y Y=>trivial) q.p (λa C s H Y=>v a C s H) m A o z
end
section
variable{X:Cx}{c:Scope}{m:v0}
theorem aeL(h:c.names.lookup x=some .cell):(relabel c e).names.lookup x=some .cell:=(Eu c.names x).trans (by rw[h];rfl)
theorem apG(l:Yx c x)(A:(x::m.map (·.1)).Nodup):xl X c [x] m (.Name x b) none:=by
 intro e C s H;have Z:Yx (iW X c ([x]++m.map (·.1)) e C s H).env.scope x:=l.imp Wp aeL;refine⟨gA 0,zX A O Z<|l.elim (λl=>.inr<|Wp l) λl=>.inl (W_ l),λv p f g Q d h=>?_⟩;obtain⟨a,rfl⟩:∃a,p=[a]:=by
  match p,d with
  |[a],_=>exact⟨a,O⟩
 exact h O
theorem aeS(D:X.calm=true)(A:c.names.lookup x=some .local)(z:c.names.lookup y=some .local)(P:(x::y::m.map (·.1)).Nodup):xl X c [x,y] m (.Tuple [.Name x n,.Name y l] k g) (some 2):=by
 intro E C s H;generalize eX:iW X c ([x,y]++m.map (·.1)) E C s H=d;have j:d.N=x::y::m.map (·.1):=eX▸O;have t:d.calm=true:=eX▸D;have r:d.env.scope.names.lookup x=some .local:=eX▸Wp A;have o:d.env.scope.names.lookup y=some .local:=eX▸Wp z;have w:PG d (.Name x n) (gA 0):=zX aH (j▸O) (.inl r) (.inr r);have u:PG d (.Name y l) (gA 1):=zX aH (j▸O) (.inl o) (.inr o);have J:d.K=X.K:=eX▸O;refine nS (J6 d.K 2<|zY (gA 0)<|zY (gA 1) DS) (J7 t<|DT w<|DT u J5) (λv p I M Q B h=>?_);obtain⟨a,b,rfl⟩:∃a b,p=[a,b]:=by
  match p,B with
  |[a,b],_=>exact rP a b O
 obtain⟨G,i,rfl,L,F,q⟩:=h;obtain⟨f,e,rfl⟩:∃f e,i=[f,e]:=by
  match i,F with
  |[f,e],_=>exact rP f e O
 exact o4 G _ O aH O f _ O e _ O O (q O)
theorem bj.imp(h:bj X f r)(i:∀x y H Q,a x y H Q->r x y H Q):bj X f a:=λD s b H x y v u Q I d c q=>h D s b H x y v u Q I d c (i _ _ _ _ q)
theorem eG.imp(h:eG X f r)(i:∀x H Q,a x H Q->r x H Q):eG X f a:=λD s b H x u Q I v q=>h D s b H x u Q I v (i _ _ _ q)
def LC(K:Frag):R2:=λx y H Q=>match x,y with
 |.i i,.i j=>Q (.i<|i+j) H
 |.s i,.s j=>i.length+j.length<=sizeLine/\Q (.s<|i++j) H
 |.r l,.r b=>K3 (.r l) (.r b) H Q\/KR K (.r l) (.r b) H Q
 |_,_=>False
theorem amH:bj X (binaryOp .Add) (LC X.K):=by
 refine bj.imp ((aeR.or alA).or<|anH.or ahI) λx y H Q h=>?_;cases x<;>cases y<;>first
  |exact False.elim h
  |exact .inl (.inl ⟨_,_,O,O,h⟩)
  |exact .inl (.inr ⟨_,_,O,O,h⟩)
  |exact .inr h
def mH(C:Int->Int->Prop)(g:Int->Int->V):R2:=λx y H Q=>match x,y with
 |.i i,.i j=>C i j/\Q (g i j) H
 |_,_=>False
theorem EE(x y:V)(H:Hp)(Q:VK)(h:mH C g x y H Q):rI C g x y H Q:=by
 cases x<;>cases y<;>first
  |exact False.elim h
  |exact⟨_,_,O,O,h⟩
theorem xv(x y:V)(H:Hp)(Q:VK)(h:mH (λY Y=>True) g x y H Q):nW g x y H Q:=by
 cases x<;>cases y<;>first
  |exact False.elim h
  |exact⟨_,_,O,O,h.2⟩
def LD:R2:=λx y H Q=>match x,y with
 |.i i,.i j=>uL i j/\Q (.i<|i*j) H
 |.r l,.i k=>K4 (.r l) (.i k) H Q
 |_,_=>False
theorem ZU:bj X (binaryOp .Mult) LD:=by
 refine bj.imp (alG.or aeX) λx y H Q h=>?_;cases x<;>cases y<;>first
  |exact False.elim h
  |exact .inl ⟨_,_,O,O,h⟩
  |exact .inr h
def og(K:Frag):Operator->R2
 |.Add=>LC K
 |.Sub=>mH (λ_ _=>True) λi j=>.i (i - j)
 |.Mult=>LD
 |.FloorDiv=>mH Kk λi j=>.i (i / j)
 |.Mod=>mH (λ_ j=>0<j) λi j=>.i (i % j)
 |.Pow=>mH Kl λi j=>.i (i ^ j.toNat)
 |_=>λ_ _ _ _=>False
theorem aoV(o:Operator):bj X (binaryOp o) (og X.K o):=by
 cases o<;>first
  |exact amH
  |exact bj.imp akA xv
  |exact ZU
  |exact bj.imp anW EE
  |exact bj.imp apK EE
  |exact bj.imp afN EE
  |exact λY Y Y Y Y Y Y Y Y Y Y Y h=>False.elim h
mutual
def Is(H:Hp):PyData->V->Prop
 |.none,v=>v=.a
 |.bool b,v=>v=.b b
 |.int i,v=>v=.i i
 |.str x,v=>v=.s x
 |.list xs,v=>∃a vs,v=.r a/\H a=some (.l vs)/\IsL H xs vs
 |.tuple xs,v=>∃a vs,v=.r a/\H a=some (.t vs)/\IsL H xs vs
 |.dict _,_=>False
def IsL(H:Hp):List PyData->db->Prop
 |[],vs=>vs=[]
 |d::ds,vs=>∃v r,vs=v::r/\Is H d v/\IsL H ds r
end
mutual
theorem Is.reads{D':gh}{σ:St}{H:Hp}{s:Ev}(I:uP X D' σ H s):∀(d:PyData)(v:V)(u:EQ),Is H d v->lA v u->∃as,Reads s.heap u d as
 |.none,v,u,h,r=>by rw[show v=.a from h] at r;rw[show u=.none from r];exact⟨_,.none⟩
 |.bool b,v,u,h,r=>by rw[show v=.b b from h] at r;rw[show u=.bool b from r];exact⟨_,.bool b⟩
 |.int i,v,u,h,r=>by rw[show v=.i i from h] at r;obtain⟨t,e⟩:=r;rw[e];exact⟨_,.int i t⟩
 |.str x,v,u,h,r=>by rw[show v=.s x from h] at r;obtain⟨t,e⟩:=r;rw[e];exact⟨_,.str x t⟩
 |.list xs,v,u,h,r=>by
  obtain⟨a,vs,e,hH,hl⟩:=(show ∃a vs,v=.r a/\H a=some (.l vs)/\IsL H xs vs by simpa only[Is] using h);rw[e] at r;rw[show u=.ref a from r];obtain⟨Y,ak,n,hv,hg⟩:=I.ay a _ hH;obtain⟨as,q⟩:=IsL.reads I xs vs ak hl hv;exact⟨_,.list hg rfl rfl (by simpa using q)⟩
 |.tuple xs,v,u,h,r=>by
  obtain⟨a,vs,e,hH,hl⟩:=(show ∃a vs,v=.r a/\H a=some (.t vs)/\IsL H xs vs by simpa only[Is] using h);rw[e] at r;rw[show u=.ref a from r];obtain⟨Y,ak,hv,o,hg,hc,n,hd⟩:=I.ay a _ hH;obtain⟨as,q⟩:=IsL.reads I xs vs ak hl hv;exact⟨_,.tuple hg hc hd (by simpa using q)⟩
 |.dict _,v,u,h,r=>by simp only[Is] at h
theorem IsL.reads{D':gh}{σ:St}{H:Hp}{s:Ev}(I:uP X D' σ H s):∀(ds:List PyData)(vs:db)(us:im),IsL H ds vs->Wz vs us->∃as,ReadsAll s.heap us ds as
 |[],vs,us,h,r=>by
  rw[show vs=[] from h] at r;cases r;exact⟨_,.nil⟩
 |d::ds,vs,us,h,r=>by
  obtain⟨v,q,e,h1,h2⟩:=(show ∃v r,vs=v::r/\Is H d v/\IsL H ds r by simpa only[IsL] using h);rw[e] at r;cases r with
  |cons r1 r2=>
   obtain⟨as,q1⟩:=Is.reads I d v _ h1 r1;obtain⟨bs,q2⟩:=IsL.reads I ds q _ h2 r2;exact⟨_,.cons q1 q2⟩
end
noncomputable def aoA:V->Gc
 |.pS _=>false
 |.h _=>false
 |_=>true
def abB:R2:=λx y H Q=>∃a b s,x=.r a/\y=.r b/\H a=some (.l s)/\H b=some (.l s)/\s.all aoA=true/\Q (.b true) H
def oh(n:Gc):R2:=λx y H Q=>match mB x y with
 |true=>Q (.b<|n ^^ decide (x=y)) H
 |false=>∃d e,Is H d x/\Is H e y/\SeqAt.shaped d=true/\SeqAt.shaped e=true/\Q (.b<|n ^^ PyData.eqv d e) H
def anQ:R2:=λx y H Q=>oh false x y H Q\/abB x y H Q
theorem anP(j:X.A.units+64<cLine):bj X (compareOp .Eq) (oh false):=by
 intro D s f H x y v u Q I a r h;unfold oh at h;by_cases c:mB x y=true;rw[c] at h;simp at h;exact aeK D s f H x y v u Q I a r ⟨c,h⟩;rw[show mB x y=false by lia] at h;obtain⟨d,e,zq⟩:=Z2 h;obtain⟨n,m,l,k,q⟩:=Y7 zq;rw[WG] at q;obtain⟨p,i⟩:=Is.reads I d x v n a;obtain⟨o,g⟩:=Is.reads I e y u m r;exact eq_dataH i g l k j ⟨.b _,H,I,O,q⟩
theorem anO(j:X.A.units+64<cLine):bj X (compareOp .NotEq) (oh true):=by
 intro D s f H x y v u Q I a r h;unfold oh at h;by_cases c:mB x y=true;rw[c] at h;simp at h;exact apH D s f H x y v u Q I a r ⟨c,h⟩;rw[show mB x y=false by lia] at h;obtain⟨d,e,zq⟩:=Z2 h;obtain⟨n,m,l,k,q⟩:=Y7 zq;rw[yE] at q;obtain⟨p,i⟩:=Is.reads I d x v n a;obtain⟨o,g⟩:=Is.reads I e y u m r;exact ne_dataH i g l k j ⟨.b _,H,I,O,q⟩
def an_(K:Frag)(H:Hp)(a:Do):Prop:=(∃x,ag K H a x)\/(∃x,aA K H a x)\/∃b,H a=some (.d b)
def Ay(K:Frag)(n:Gc):R2:=λx y H Q=>match y with
 |.s j=>∃i,x=.s i/\Q (.b (if n then !(!(Builtin.Str.occurrences j i 0 j.length 1).isEmpty) else !(Builtin.Str.occurrences j i 0 j.length 1).isEmpty)) H
 |.r p=>match x with
  |.r _=>False
  |x=>Ec K n x (.r p) H Q
 |_=>False
theorem apZ(f:X.A.units+64<cLine):bj X (compareOp .In) (Ay X.K false):=by
 intro D s b H x y v u Q I d c h;cases y with
 |s j=>
  obtain⟨i,e,q⟩:=h;exact Xq D s b H x _ v u Q I d c (oG i j e O q)
 |r p=>
  cases x with
  |r a=>exact False.elim h
  |_=>exact aoH D s b H _ _ v u Q I d c h
 |_=>exact False.elim h
theorem ahQ(f:X.A.units+64<cLine):bj X (compareOp .NotIn) (Ay X.K true):=by
 intro D s b H x y v u Q I d c h;cases y with
 |s j=>
  obtain⟨i,e,q⟩:=h;exact ahA D s b H x _ v u Q I d c (oG i j e O q)
 |r p=>
  cases x with
  |r a=>exact False.elim h
  |_=>exact alD D s b H _ _ v u Q I d c h
 |_=>exact False.elim h
theorem anT{A:FM}{E:ge}{Q:ge}{v:EQ}{d:Gc}(a:∀i,v≠ .builtin i)(h:Q (.bool<|v==.bool d) s):wpAny M A (compareOp .Is v<|.bool d) Q E s:=by
 cases v<;>first|exact IO h|exact absurd O (a _)
theorem adF{A:FM}{E:ge}{Q:ge}{v:EQ}{d:Gc}(a:∀i,v≠ .builtin i)(h:Q (.bool<|!(v==.bool d)) s):wpAny M A (compareOp .IsNot v<|.bool d) Q E s:=by
 cases v<;>first|exact IO h|exact absurd O (a _)
def LF:R2:=λx y H Q=>match y with
 |.b b=>Q (.b<|decide<|x=.b b) H
 |_=>y=.a/\Q (.b<|decide<|x=.a) H
def LG:R2:=λx y H Q=>match y with
 |.b b=>Q (.b<|!decide (x=.b b)) H
 |_=>y=.a/\Q (.b<|!decide (x=.a)) H
theorem ahP:bj X (compareOp .Is) LF:=by
 intro D s d H x y v u Q I r c h;cases y with
 |b b=>
  cases c;have n:∀i,v≠ .builtin i:=λi z=>by
   subst z;cases x<;>first
    | (obtain⟨t,e⟩:=r;cases e)
    | (cases r)
  refine anT n<|cC I (show Q (.b<|decide<|x=.b b) H from h) ?_;cases x<;>first
   | (cases r;rfl)
   | (obtain⟨t,rfl⟩:=r;rfl)
   | (cases r;rename_i a;cases a<;>cases b<;>rfl)
 |_=>exact adC D s d H x _ v u Q I r c h
theorem ahK:bj X (compareOp .IsNot) LG:=by
 intro D s d H x y v u Q I r c h;cases y with
 |b b=>
  cases c;have n:∀i,v≠ .builtin i:=λi z=>by
   subst z;cases x<;>first
    | (obtain⟨t,e⟩:=r;cases e)
    | (cases r)
  refine adF n<|cC I (show Q (.b<|!decide (x=.b b)) H from h) ?_;cases x<;>first
   | (cases r;rfl)
   | (obtain⟨t,rfl⟩:=r;rfl)
   | (cases r;rename_i a;cases a<;>cases b<;>rfl)
 |_=>exact aoU D s d H x _ v u Q I r c h
def dh(K:Frag):CmpOp->R2
 |.Eq=>oh false
 |.NotEq=>oh true
 |.Lt=>mH (λ_ _=>True) λi j=>.b (decide<|i<j)
 |.LtE=>mH (λ_ _=>True) λi j=>.b (decide<|i<=j)
 |.Gt=>mH (λ_ _=>True) λi j=>.b (decide<|j<i)
 |.GtE=>mH (λ_ _=>True) λi j=>.b (decide<|j<=i)
 |.In=>Ay K false
 |.NotIn=>Ay K true
 |.Is=>LF
 |.IsNot=>LG
theorem Az(h:X.A.units+64<cLine)(o:CmpOp):bj X (compareOp o) (dh X.K o):=by
 cases o with
 |Eq=>exact anP h
 |NotEq=>exact anO h
 |Lt=>exact bj.imp aeV xv
 |LtE=>exact bj.imp Xn xv
 |Gt=>exact bj.imp Xo xv
 |GtE=>exact bj.imp anV xv
 |In=>exact apZ h
 |NotIn=>exact ahQ h
 |Is=>exact ahP
 |IsNot=>exact ahK
inductive Ty where|i|s|b|l|t|d
 deriving DecidableEq
noncomputable def Ty.nm:Ty->GE
 |.i=> "int" |.s=> "str" |.b=> "bool" |.l=> "list" |.t=> "tuple" |.d=> "dict"
def cp(T:Ty)(x:V)(H:Hp)(Q:Gc->Prop):Prop:=match x with
 |.a=>Q false
 |.b _=>Q (T==.b ||T==.i)
 |.i _=>Q (T==.i)
 |.s _=>Q (T==.s)
 |.r a=>match H a with
  |some (.l _)=>Q (T==.l)
  |some (.b _<|.l _)=>Q (T==.l)
  |some (.t _)=>Q (T==.t)
  |some (.d _)=>Q (T==.d)
  |some (.T _)=>Q (T==.d)
  |_=>False
 |_=>False
theorem p_(K:Frag)(S T:Ty):kitOne K (.type S.nm) (.type T.nm)=some (S==T ||(S==.b && T==.i)):=by
 cases S<;>cases T<;>rfl
theorem aoT(K:Frag)(T:Ty):kitOne K (.type "NoneType") (.type T.nm)=some false:=by
 cases T<;>rfl
theorem alR(e:X.calm=true):eG X (.builtin "sum") (λx H Q=>∃(p:Do)(n:Ce),x=[.r p]/\ag X.K H p (n.map V.i)/\Q (.i n.sum) H):=by
 intro D s m H x o Q I r h;obtain⟨p,n,rfl,d,q⟩:=h;obtain⟨u,rfl,c⟩:=ZI r;cases c;obtain⟨j,v,l,z⟩:=I.list d;have b:=Aq v;obtain⟨x,a⟩:=b.allInts.items;refine sum_intListG (I.ok.hd e) (a ▸ l.isList) λy w t k=>?_;have g:n=x.toList.map (·.1):=by
  rw[<-nums_intItems,<-a];exact(show numsOf j.toArray.toList=n from b.numsOf).symm
 have f:preSum (numAt x) x.size=n.sum:=by
  rw[preSum_eq,Wc aP,g]
 rw[f];exact⟨.i n.sum,H,I.kept k,⟨t,O⟩,q⟩
theorem LH:∀{a:ca}{u:im},Wz (a.map V.s) u->∃l:List (Str×Tok),u=strValues l/\l.map (·.1)=a
 |[],_,.nil=>⟨[],O,O⟩
 |x::a,_,.cons ⟨t,e⟩ r=>by
  obtain⟨l,c,b⟩:=LH r;subst e c;exact⟨(x,t)::l,O,by simp[b]⟩
def akG(K:Frag):V->db->Hp->VK->Prop:=λx v H Q=>∃(a:Str)(p:Do)(t:ca),x=.s a/\v=[.r p]/\ag K H p (t.map V.s)/\JoinOk a t=true/\Q (.s<|Txt.join a t) H
theorem aoB:uN X "str.join" (akG X.K):=by
 intro D s i H x m v n Q I c r h;obtain⟨b,p,o,zq⟩:=jR h;obtain⟨rfl,rfl,f,j,q⟩:=Y7 zq;obtain⟨t,rfl⟩:=c;obtain⟨u,rfl,d⟩:=ZI r;cases d;obtain⟨w,r,e,z⟩:=I.list f;obtain⟨l,rfl,g⟩:=LH r;exact SC.join e.isList g j λa k=>⟨.s _,H,I.tok k,⟨a,O⟩,q⟩
def adD:V->db->Hp->VK->Prop:=λx v H Q=>∃z y,x=.s z/\v=[.s y]/\z.length<=sizeLine/\Q (.s<|Txt.lstripChars z y) H
theorem aaa:uN X "str.lstrip" adD:=by
 intro D s e H x f v g Q I r c h;obtain⟨z,y,rfl,rfl,d,q⟩:=h;obtain⟨t,rfl⟩:=r;obtain⟨u,rfl,⟨a,rfl⟩⟩:=ZI c;exact call_gives F.slot_str_lstrip (typeIs_str _ _ _) F.entry_str_lstrip (F.args_str_lstrip_2 _ _) (gives_str_lstrip_chars z y t a)<|post_val_or_made (λY=>fits_stripped _ _ _ d) λb k=>⟨.s _,H,I.tok k,⟨b,O⟩,q⟩
noncomputable def oi{a:Type}(x:List a)(l h:u8):List a:=(x.drop<|HT.aZ x.length 0 l).take (HT.aZ x.length x.length h - HT.aZ x.length 0 l)
def oj(z:Str)(l h:u8):Str:=⟨(oi z.cps.toList l h).toArray⟩
theorem aab(z:Str)(l h:u8):((Builtin.Str.strSliceIndices l h 1 z.length).filterMap (z.cps[·]?))=oi z.cps.toList l h:=by
 obtain⟨d,c,b⟩:=Ea l h z.length;have e:Builtin.Str.strSliceIndices l h 1 z.length=sliceRange (sliceBounds l h none z.length).1 (sliceBounds l h none z.length).2.1 (sliceBounds l h none z.length).2.2:=O;have a:z.cps.toList.length=z.length:=O;rw[e,d,c,b,sliceRange_one,pick_run];unfold oi;rw[a]
def AA(K:Frag)(n:Gc):R2:=λx y H Q=>∃p a d s,y=.r p/\ag K H p a/\Is H d x/\IsL H s a/\SeqAt.shaped d=true/\d.depth<=60/\(∀e∈s,SeqAt.shaped e=true)/\Q (.b<|n ^^ s.any λe=>PyData.eqv e d) H
open Classical in
end
noncomputable def sE:HO:=.e λ_=>True
structure AB(ob:Obj)(cls:EQ)(vs:sK):Prop where
 cls:ob.cls=cls
 data:ob.data=.fields vs
 aoa:vs[2]?=some .none
 dict:ob.dict=none
def vA(H:Hp)(e D:Do):Prop:= ∃o v,H e=some (.b o sE)/\AB o (.ref D) v
structure EF(K:Frag)(D:Do):Prop where
 hga:PySem.W.findIn K (.ref D) "__getattribute__"=some (some<|.builtin "BaseException.__getattribute__")
 hgn:PySem.W.findIn K (.ref D) "__getattr__"=some none
 hk:(PySem.W.clsIn K D).isSome=true
 ha:PySem.W.findIn K (.ref D) "__class__"=some (some<|.builtin "object.__class__")
 hn:specialIn K (.builtin "object.__class__") "__get__"=some (some<|.builtin "getset_descriptor.__get__")
 D1:takesIn K (.builtin "object.__class__")=some true
 hm:mroIn K D (.type "object")=some true
 hb:mroIn K D (.type "BaseException")=some true
noncomputable def apM:V->EQ
 |.r a=>.ref a
 |.t n=>.type n
 |_=>.none
def LI(K:Frag):db->Hp->VK->Prop
 |[.r e,c],H,Q=>∃D b,vA H e D/\EF K D/\((∃C,c=.r C)\/∃n,c=.t n)/\kitOne K (.ref D) (apM c)=some b/\Q (.b b) H
 |_,_,_=>False
def XH(s:Sp)(h:xz)(t:TA):TE:=λb H Q=>t b H λv a=>(∃e D,h=some e/\vA a e D)/\s v a Q E0
def EG(C:Do)(E:XK)(t:TA):TS:=λ_ a H=>t a H λv b=>v.length<=sizeLine/\E (.ref C) none b
def LJ(K:Frag)(C:Do)(i n:Nat)(t:Do->TS)(D:WH):XK:=λc _ H=>exmOne K c (.ref C)=some true/\
 ∀(e:Do)(o:Obj)(v:sK)(V:St),H e=none->V.length=n->AB o c v->t e {nx:=λ_ _=>False,r:=D.r} (V.set i<|some<|.r e) (upd H e<|.b o sE)
def AD(K:Frag)(C:Do)(i n:Nat)(b:XK->TS)(t:Do->TS):TS:=λD a H=>b (LJ K C i n t D) {nx:=D.nx,r:=D.r} a H
def aad(K:Frag)(C:Do)(i:Nat)(t:Do->TS)(D:WH)(a:St):XK:=λc _ H=>exmOne K c (.ref C)=some true/\
 ∀(e:Do)(o:Obj)(v:sK),H e=none->AB o c v->t e {nx:=λ_ _=>False,r:=D.r} (a.set i<|some<|.r e) (upd H e<|.b o sE)
def aae(K:Frag)(C:Do)(i k:Nat)(p:Sp)(b:TA)(t:Do->TS):TS:=λD a H=>b a H λs d=>p s d (λv c=>D.nx (a.set k<|some v) c) (aad K C i t D a)
inductive om where|l|m|max|s|i|t|e|abs
 deriving DecidableEq
inductive iX where|a|p|e|j|l|s|r|c|i|f|t|LK|xx
 deriving DecidableEq
inductive IK where|l|tup|f|s|z|enm|txt|aag|aah
 deriving DecidableEq
inductive RE where
 |v (i:Nat)|c (x:V)|g (j:Nat)
 |b (h:Operator)(a b:RE)|n (a:RE)
 |p (h:CmpOp)(a b:RE)|xy (h Z:CmpOp) (a b d:RE)|LL (h Z W:CmpOp) (a b d f:RE)
 |d (e:List RE)|o (e:List RE)|N (a:RE)|k (t a b:RE)
 |l (j:Nat)(e:List RE)|t (b:om) (e:List RE)|G (T:Ty) (a:RE)
 |Q (m:iX)(o:RE)(e:List RE)
 |i (a b:RE)|s (a:RE) (I J:Option RE)
 |T (e:List RE)|L (e:List RE)
 |C (H:ww)(M:v0)(k:IK)(R:List RE)(u:Option RE)(y:RE)
 |LN (a c:RE)|wrd (j:Nat) (a:RE)|dct|same (a b:RE)
 |aak|P (a b:RE)|K (a b:RE)|q (a b:RE)|aal (o a b:RE)|inD (a b:RE)|LO (a b:RE)
 |x (T:Frag->TA->TE)(e:List RE)|xm (T:Frag->TE->TA->TE) (o:RE) (e:List RE)
 |f (o:RE)(f:Str)|a (j:Nat) (m:Str) (o:RE) (e:List RE)|m (j:Nat) (e:List RE)
abbrev wn:=List RE
structure ba where
 K:Frag
 fs:Nat->Sp
 gv:Nat->V
 E:XK
 sd:Do->nH->Prop
 ms:Nat->Do×Sp
 kt:Nat->Do×Sp
 ex:Nat->Do
 hs:Nat->Sp
 h:xz
abbrev ba.calm(a:ba):ba:={a with E:=E0}
inductive RS where
 |a (i:Nat)(e:RE)|uV (i:Nat) (e:RE)|s (o B e:RE)
 |d (e:RE)|r (e:RE)|aam
 |i (c:RE)(t e:List RS)
 |g (i:Nat)(k:IK)(v:wn)(b:List RS)
 |k (h:bn)(k:IK)(v:wn)(b:List RS)
 |R (c:RE)(b:List RS)
 |pass|brk|c|n
 |aan (o A C e:RE)|f (o:RE) (f:Str) (e:RE)
 |q (h:bn)(e:RE)|t (o i e:RE)|j (j:Nat) (m:wn)|EH (n i j:Nat) (b u:List RS)|aao (k i j f:Nat) (m:wn) (u:List RS)
 |xs (T:ba->TS)
abbrev jp:=List RS
def qe(K:Frag)(x:V)(H:Hp)(Q:Gc->Prop):Prop:=match x with
 |.a=>Q false
 |.b b=>Q b
 |.i i=>Q (i !=0)
 |.s y=>y.length<=sizeLine/\Q ((y.length:Int) !=0)
 |.r p=>(∃c,ag K H p c/\Q (!c.isEmpty))\/(∃c,aA K H p c/\Q (!c.isEmpty))\/∃e,H p=some (.d e)/\Q (!e.isEmpty)
 |_=>False
theorem LP{K:Frag}(h:qe K x H Q):∃k,Kq K x H k/\Q k:=by
 cases x with
 |a=>exact nS _ O h
 |b b=>exact nS _ O h
 |i i=>exact nS _ O h
 |s y=>exact nS _ ⟨h.1,O⟩ h.2
 |r p=>
  rcases h with⟨c,e,d⟩|⟨c,e,d⟩|⟨c,e,d⟩
  exact nS _ (.inl (nS c e O)) d;exact nS _ (.inr<|.inl ⟨c,e,O⟩) d;exact nS _ (.inr<|.inr ⟨c,e,O⟩) d
 |_=>exact False.elim h
def jv(K:Frag)(t:TE):TT:=λc H Q=>t c H λx a=>qe K x a λb=>Q b a
def EI(K:Frag)(t:TE):TE:=λc H Q=>t c H λx a=>qe K x a λb=>Q (.b<|!b) a
def LQ:V->Hp->VK->Prop:=λx H Q=>match x with|.i i=>Q (.i<|-i) H|_=>False
def xa(K:Frag)(x:V)(H:Hp)(Q:Nat->Prop):Prop:=match x with
 |.s y=>y.length<=sizeLine/\Q y.length
 |.r p=>(∃a,ag K H p a/\Q a.length)\/∃a,aA K H p a/\Q a.length
 |_=>False
noncomputable def YU(x:Str):db:=x.cps.toList.map λc=>V.s ⟨#[c]⟩
def aap:TE:=λ_ H Q=>∀p,H p=none->Q (.r p) (upd H p<|.d [])
def ou(K:Frag):om->db->Hp->VK->Prop
 |.l,[x],H,Q=>xa K x H λn=>Q (.i n) H
 |.m,[.i i,.i j],H,Q=>Q (.i (if j<i then j else i)) H
 |.m,[.r p],H,Q=>∃a:Ce,ag K H p (a.map V.i)/\a≠ []/\∀m:Int,m∈a->(∀n∈a,m<=n)->Q (.i m) H
 |.s,[.r p],H,Q=>∃a:Ce,ag K H p (a.map V.i)/\Q (.i a.sum) H
 |.i,[.i i],H,Q=>Q (.i i) H
 |.i,[.b k],H,Q=>Q (.i (if k then 1 else 0)) H
 |.t,[.r p],H,Q=>∃y,(ag K H p y\/aA K H p y)/\∀l,H l=none->Q (.r l) (upd H l<|.l y)
 |.t,[.s x],H,Q=>x.length<=sizeLine/\∀l,H l=none->Q (.r l) (upd H l<|.l<|YU x)
 |_,_,_,_=>False
def AE(T:Ty):db->Hp->VK->Prop
 |[x,.t n],H,Q=>n=T.nm/\cp T x H λb=>Q (.b b) H
 |_,_,_=>False
def sI(K:Frag):iX->V->db->Hp->VK->Prop
 |.a,.r l,[y],H,Q=>∃x,H l=some (.l x)/\x.length<sizeLine/\Q .a (upd H l<|.l<|x++[y])
 |.p,.r l,[],H,Q=>∃x y,H l=some (.l x)/\x[x.length - 1]?=some y/\Q y (upd H l<|.l x.dropLast)
 |.e,.r l,[.r b],H,Q=>∃x f,H l=some (.l x)/\H b=some (.l f)/\x.length+f.length<=sizeLine/\Q .a (upd H l<|.l<|x++f)
 |.j,.s d,[.r p],H,Q=>∃t:ca,ag K H p (t.map V.s)/\JoinOk d t=true/\Q (.s<|Txt.join d t) H
 |.l,.s z,[.s y],H,Q=>z.length<=sizeLine/\Q (.s<|Txt.lstripChars z y) H
 |.c,.r l,[],H,Q=>∃x,H l=some (.l x)/\Q .a (upd H l<|.l [])
 |.xx,.r l,[y],H,Q=>∃x,ag K H l x/\iS y=true/\x.all iS=true/\df y x=true/\Q (.i (x.findIdx (λz=>f_ z y):Nat)) H
 |_,_,_,_,_=>False
noncomputable def uW:iX->GE
 |.j|.l|.s|.f|.t=> "str"
 |_=> "list"
def uX(K:Frag)(m:iX)(o:TE)(t:TA):TE:=λa H Q=>o a H λx b=>sj K (uW m) x b/\t a b λs c=>sI K m x s c Q
def uY(K:Frag):V->u8->u8->Hp->VK->Prop:=λx o h H Q=>match x with
 |.s z=>z.length<=sizeLine/\Q (.s<|oj z o h) H
 |.r a=>(∃b,ag K H a b/\∀p,H p=none->Q (.r p) (upd H p<|.l<|dZ b o h))\/
  (∃b,aA K H a b/\ ¬(HT.aZ b.length 0 o=0/\HT.aZ b.length b.length h=b.length)/\∀p,H p=none->Q (.r p) (upd H p<|.t<|dZ b o h))
 |_=>False
noncomputable def ox(K:nH)(k:gS):sB:=(K.find? λv=>decide (v.1=k)).map (·.2)
def LR(s:Do->nH->Prop):R2:=λx y H Q=>∃p K k v,x=.r p/\y=kV k/\s p K/\ox K k=some v/\Q v H
def qf(K:Frag)(s:Do->nH->Prop):R2:=λx y H Q=>KW K x y H Q\/KY K x y H Q\/KZ x y H Q\/LR s x y H Q
def Tr(r n m:R2)(l j i t:TE):TT:=λa H Q=>l a H λx v=>j a v λy s=>r x y s λz f=>∃k,z=.b k/\
 (if k=true then i a f λw q=>n y w q λh e=>∃d,h=.b d/\(if d=true then t a e λu p=>m w u p λg o=>∃c,g=.b c/\Q c o else Q false e) else Q false f)
def jw(K:Frag)(a b:Do):It:=
  ⟨λi H=>∃s y,ag K H a s/\ag K H b y/\i<s.length/\i<y.length,
   λi H x c=>∃T,H T=none/\x=.r T/\∀s y u v,ag K H a s->ag K H b y->s[i]?=some u->y[i]?=some v->c=upd H T (.t [u,v]),
   λi H=>∃s y,ag K H a s/\ag K H b y/\i=min s.length y.length⟩
def Itn(K:Frag)(a:Do):It:=
  ⟨λi H=>∃s,ag K H a s/\i<s.length,
   λi H x b=>∃T,H T=none/\x=.r T/\∀s u,ag K H a s->s[i]?=some u->b=upd H T (.t [.i (i:Nat),u]),
   λi H=>∃s,ag K H a s/\i=s.length⟩
def aas(K:Frag)(t:TA):TI:=λc H R=>t c H λv b=>∃a,v=[.r a]/\(∃x,ag K b a x)/\R (Itn K a) b
def EK(K:Frag)(t:TA):TI:=λd H R=>t d H λv c=>∃a b,v=[.r a,.r b]/\(∃x,ag K c a x)/\(∃y,ag K c b y)/\R (jw K a b) c
def aat(K:Frag)(a b:Do):It:=
  ⟨λi H=>∃s y,aA K H a s/\aA K H b y/\i<s.length/\i<y.length,
   λi H x c=>∃T,H T=none/\x=.r T/\∀s y u v,aA K H a s->aA K H b y->s[i]?=some u->y[i]?=some v->c=upd H T (.t [u,v]),
   λi H=>∃s y,aA K H a s/\aA K H b y/\i=min s.length y.length⟩
def aau(K:Frag)(t:TA):TI:=λd H R=>t d H λv c=>∃a b,v=[.r a,.r b]/\(∃x,aA K c a x)/\(∃y,aA K c b y)/\R (aat K a b) c
noncomputable def Ee(z:Str):It:=⟨λi _=>i<z.length,λi H x a=>a=H/\∃c,z.cps[i]?=some c/\x=.s ⟨#[c]⟩,λi _=>i=z.length⟩
def aaw(t:TE):TI:=λa H R=>t a H λx b=>∃z,x=.s z/\R (Ee z) b
noncomputable def ZR(l c:Int)(n:Nat):It:=⟨λi _=>i<n,λi H x a=>a=H/\x=.i (l+i*c),λi _=>n<=i⟩
def QQ(t:TA):TI:=λa H R=>t a H λv b=>∃(i j c:Int)(n:Nat),v=[.i i,.i j,.i c]/\c≠0/\Builtin.Range.small i j c=true/\Builtin.divisionGoesByPylong (j - i) c=false/\Builtin.Range.rangeSize i j c=n/\R (ZR i c n) b
mutual
def af(Γ:ba):RE->TE
 |.v i=>DO i
 |.c x=>tC x
 |.g j=>tC (Γ.gv j)
 |.b op a b=>gB (og Γ.K op) (af Γ a) (af Γ b)
 |.n a=>Ki LQ (af Γ a)
 |.p op a b=>gB (dh Γ.K op) (af Γ a) (af Γ b)
 |.xy op hZ a b d=>z_ (dh Γ.K op) (dh Γ.K hZ) (af Γ a) (af Γ b) (af Γ d)
 |.LL _ _ _ _ _ _ _=>λ_ _ _=>False
 |.d as=>LS Γ as
 |.o as=>LU Γ as
 |.N a=>EI Γ.K (af Γ a)
 |.k t a b=>JV (a_ Γ t) (af Γ a) (af Γ b)
 |.l j as=>D2 (Γ.fs j) [] Γ.E (aR Γ as)
 |.t b as=>iR (ou Γ.K b) (aR Γ as)
 |.G T a=>iR (AE T) (fX (af Γ a)<|fX (tC<|.t T.nm) kW)
 |.Q m o as=>uX Γ.K m (af Γ o) (aR Γ as)
 |.i a b=>gB (qf Γ.K Γ.sd) (af Γ a) (af Γ b)
 |.s a lo hi=>D7 (uY Γ.K) (af Γ a) (qg Γ lo) (qg Γ hi)
 |.T as=>Ky (aR Γ as)
 |.L as=>Kz (aR Γ as)
 |.C tk fv k ak cond elt=>sy Γ.K (iY Γ k ak) tk fv (AF Γ.calm cond) (af Γ.calm elt)
 |.LN a c=>iR (LI Γ.K) (fX (af Γ a)<|fX (af Γ c) kW)
 |.dct=>aap
 |.same a b=>gB anQ (af Γ a) (af Γ b)
 |.inD a b=>gB (AA Γ.K false) (af Γ a) (af Γ b)
 |.LO a b=>gB (AA Γ.K true) (af Γ a) (af Γ b)
 |.aak=>afH
 |.P a b=>Lb (af Γ a) (af Γ b)
 |.K a b=>Er (af Γ a) (af Γ b)
 |.q a b=>Es (af Γ a) (af Γ b)
 |.aal o a b=>aoF (af Γ o) (af Γ a) (af Γ b)
 |.x T as=>T Γ.K (aR Γ as)
 |.xm T o as=>T Γ.K (af Γ o) (aR Γ as)
 |.wrd j a=>XH (Γ.hs j) Γ.h (fX (af Γ a) kW)
 |.f o f=>Ab Γ.K (af Γ o) f
 |.a j m o as=>r9 (Γ.ms j).1 m (Γ.ms j).2 [] Γ.E (af Γ o) (aR Γ as)
 |.m j as=>D3 (Γ.kt j).1 (Γ.kt j).2 [] Γ.E (aR Γ as)
def a_(Γ:ba):RE->TT
 |.N a=>JT (a_ Γ a)
 |.inD a b=>uM (gB (AA Γ.K false) (af Γ a)<|af Γ b)
 |.LO a b=>uM (gB (AA Γ.K true) (af Γ a)<|af Γ b)
 |.K a b=>tB (Er (af Γ a)<|af Γ b)
 |.q a b=>tB (Es (af Γ a)<|af Γ b)
 |.d as=>LV Γ as
 |.o as=>LW Γ as
 |.p op a b=>uM (gB (dh Γ.K op) (af Γ a)<|af Γ b)
 |.xy op hZ a b d=>uM (z_ (dh Γ.K op) (dh Γ.K hZ) (af Γ a) (af Γ b)<|af Γ d)
 |.LL op hZ LM a b d f=>Tr (dh Γ.K op) (dh Γ.K hZ) (dh Γ.K LM) (af Γ a) (af Γ b) (af Γ d) (af Γ f)
 |.v i=>jv Γ.K (DO i)
 |.l j as=>jv Γ.K (D2 (Γ.fs j) [] Γ.E<|aR Γ as)
 |.G T a=>jv Γ.K (iR (AE T)<|fX (af Γ a)<|fX (tC<|.t T.nm) kW)
 |.LN a c=>jv Γ.K (iR (LI Γ.K)<|fX (af Γ a)<|fX (af Γ c) kW)
 |.Q m o as=>jv Γ.K (uX Γ.K m (af Γ o)<|aR Γ as)
 |.i a b=>jv Γ.K (gB (qf Γ.K Γ.sd) (af Γ a)<|af Γ b)
 |.b op a b=>jv Γ.K (gB (og Γ.K op) (af Γ a)<|af Γ b)
 |.f o f=>jv Γ.K (Ab Γ.K (af Γ o) f)
 |.x T as=>jv Γ.K (T Γ.K<|aR Γ as)
 |.xm T o as=>jv Γ.K (T Γ.K (af Γ o)<|aR Γ as)
 |.a j m o as=>jv Γ.K (r9 (Γ.ms j).1 m (Γ.ms j).2 [] Γ.E (af Γ o)<|aR Γ as)
 |_=>λ_ _ _=>False
def aR(Γ:ba):wn->TA
 |[]=>kW
 |a::r=>fX (af Γ a) (aR Γ r)
def LS(Γ:ba):wn->TE
 |[]=>λ_ _ _=>False
 |[a]=>af Γ a
 |a::r=>JU (af Γ a) (LS Γ r)
def LU(Γ:ba):wn->TE
 |[]=>λ_ _ _=>False
 |[a]=>af Γ a
 |a::r=>Wv (af Γ a) (LU Γ r)
def LV(Γ:ba):wn->TT
 |[]=>λ_ _ _=>False
 |[a]=>a_ Γ a
 |a::r=>JR (a_ Γ a) (LV Γ r)
def LW(Γ:ba):wn->TT
 |[]=>λ_ _ _=>False
 |[a]=>a_ Γ a
 |a::r=>JS (a_ Γ a) (LW Γ r)
def qg(Γ:ba):Option RE->TO
 |none=>wX
 |some a=>si (af Γ a)
def AF(Γ:ba):Option RE->Option TT
 |none=>none
 |some a=>some (a_ Γ a)
def iY(Γ:ba)(k:IK):wn->TI
 |[]=>λ_ _ _=>False
 |a::r=>match k with
  |.l=>DV Γ.K (af Γ a)
  |.tup=>amU Γ.K (af Γ a)
  |.f=>Kd (fX (af Γ a)<|aR Γ r)
  |.s=>Ke (fX (af Γ a)<|aR Γ r)
  |.z=>EK Γ.K (fX (af Γ a)<|aR Γ r)
  |.enm=>aas Γ.K (fX (af Γ a)<|aR Γ r)
  |.txt=>aaw (af Γ a)
  |.aag=>aau Γ.K (fX (af Γ a)<|aR Γ r)
  |.aah=>QQ (fX (af Γ a)<|aR Γ r)
end
structure cZ where
 N:ca
 sc:Scope
 fn:ca
 gn:ca
 bl:ca
 mn:ca
 kn:ca
 en:ca
 hn:ca
 m:Nat
noncomputable def Xf(s:Scope)(x:Str):Gc:=match s.names.lookup x with
 |some .local=>true|some .cell=>true|some .free=>true|_=>false
noncomputable def Wn(s:Scope)(x:Str):Gc:=match s.names.lookup x with
 |some .local=>true|some .cell=>true|_=>false
noncomputable def qi(s:Scope)(x:Str):Gc:=match s.names.lookup x with
 |some .globalImplicit=>true|_=>false
theorem aaz(h:Xf s x=true):zO s x:=by
 unfold Xf at h;unfold zO;cases e:s.names.lookup x with
 |none=>rw[e] at h;cases h
 |some k=>rw[e] at h;cases k<;>first|exact .inl O|exact .inr (.inl O)|exact .inr (.inr O)|cases h
theorem EL(h:Wn s x=true):Yx s x:=by
 unfold Wn at h;unfold Yx;cases e:s.names.lookup x with
 |none=>rw[e] at h;cases h
 |some k=>rw[e] at h;cases k<;>first|exact .inl O|exact .inr O|cases h
theorem RR(h:qi s x=true):s.names.lookup x=some .globalImplicit:=by
 unfold qi at h;cases e:s.names.lookup x with
 |none=>rw[e] at h;cases h
 |some k=>rw[e] at h;cases k<;>first|rfl|cases h
structure xB where
 elt:Expr
 tg:Expr
 i:Expr
 ifs:tz
 sc:Scope
noncomputable def om.nm:om->Str
 |.l=> "len" |.m=> "min" |.max=> "max" |.s=> "sum" |.i=> "int" |.t=> "list" |.e=> "tuple" |.abs=> "abs"
noncomputable def iX.nm:iX->Str
 |.a=> "append" |.p=> "pop" |.e=> "extend" |.j=> "join" |.l=> "lstrip" |.s=> "startswith" |.r=> "reverse" |.c=> "clear" |.i=> "index" |.f=> "find" |.t=> "count" |.LK=> "count" |.xx=> "index"
noncomputable def qj:Expr->Gc
 |.Call (.Name _ _) [] [] _=>false
 |_=>true
noncomputable def Xj:Expr->Gc
 |.Starred ..=>false
 |_=>true
noncomputable def xC:Expr->Gc
 |.Set ..=>false
 |_=>true
noncomputable def EM(L s:Scope):Scope:=
 {L with names:=L.names.map fun(n,k)=>if (k==.free && s.kind==.function && s.names.lookup n==some .cell) then (n,.cell) else (n,k)}
noncomputable def uZ(t:ww)(g:Expr):Option ca:=match t,g with
 |none,.Name x _=>some [x]
 |some 2,.Tuple [.Name x _,.Name y _] _ _=>some [x,y]
 |_,_=>none
def LY(S:cZ)(c:xB)(l:ca)(f:v0):cZ:={S with N:=l++f.map (·.1),sc:=EM c.sc S.sc,en:=[],m:=if S.m=0 then 0 else 2}
def EN(S:cZ)(c:xB)(l:ca)(f:v0):Gc:=
 decide (c.sc.kind=.function) && c.sc.names.all (λy=>decide (y.2≠ .cell)||decide (c.sc.names.lookup y.1=some .cell)) && c.sc.names.all (λy=>decide (y.2≠ .local)||decide (c.sc.names.lookup y.1=some .local))
 && c.sc.names.all (λy=>decide (y.2≠ .free)||decide (S.sc.names.lookup y.1=some .cell)||decide (S.sc.names.lookup y.1=some .free))
 && f.all (λp=>decide (S.N[p.2]?=some p.1) && decide (c.sc.names.lookup p.1=some .free))
 && l.all (λx=>decide (c.sc.names.lookup x=some .local)||(decide (l.length=1) && decide (c.sc.names.lookup x=some .cell))) && decide ((l++f.map (·.1)).Nodup) && xC c.i
theorem aaB{K:Frag}{N:tz}{z B j g f Z Y:Do}(D:ZipApart z B j g f Z Y)(dl:Z≠B/\Y≠B):
  jS P w K (.Tuple N k c') (jw K Z Y) [z,B,j,g,f] z
   (λi h=>IsZip h z B j .none/\IsPair h B (.ref g) (.ref f)/\(∃a b,IsPair h j a b)/\h.IsListIter g Z i/\h.IsListIter f Y i) where
 mem:=by simp
 obj:=λi h C b d=>by
  obtain⟨F,L,⟨a,b',J⟩,⟨o1,e1,c1,d1⟩,⟨o2,e2,c2,d2⟩⟩:=C;simp only[X9,Yy,M2] at d;rcases d with rfl|rfl|rfl|rfl|rfl
  exact nS _ F (λv q=>by cases q);exact nS _ L (λv q=>by cases q);exact nS _ J (λv q=>by cases q);exact nS _ e1 (λv q=>by rw[d1] at q;cases q);exact nS _ e2 (λv q=>by rw[d2] at q;cases q)
 keep:=λi h h' C y=>by
  obtain⟨F,L,⟨a,b',J⟩,h1,h2⟩:=C;exact⟨y z aP _ F,y B aP _ L,rP a b' (y j aP _ J),h1.at λo e=>y g aP o e,h2.at λo e=>y f aP o e⟩
 item:=by
  intro X hP hw hK l i D' s σ H E I M C hg;subst hP hw hK;obtain⟨xs,ys,hx,hy,LZ,p'⟩:=hg;obtain⟨U,r1,p1,z1⟩:=I.list hx;obtain⟨fY,r2,p2,z2⟩:=I.list hy;have cK:=r1.length;have d4:=r2.length;have W:=WalksT.zip2 (prog:=X.prog) (w:=X.w) (A:=X.A) (I.ok.hd l) z B j g f Z Y D U.toArray fY.toArray;obtain⟨F,L,J,h1,h2⟩:=Y7 (id C);have hn:i<min U.toArray.size fY.toArray.size:=by simp only[WD];lia
  refine W.item i s _ _ hn ⟨F,L,J,h1,h2,p1.isList,p2.isList⟩ λT m' h' tk hv hT k' f' y=>?_;refine nS (.ref T) O ?_;refine W.go N k c' i T _ _ _ f' λAG l' L0=>?_;obtain⟨u,v,zq⟩:=Z2 hv;obtain⟨eu,ev,rfl⟩:=Z5 zq;have S:∀b∈ [z,j,g,f],b∈ [z,B,j,g,f]:=λb d=>by
   simp only[X9,Yy,M2] at d⊢;rcases d with rfl|rfl|rfl|rfl<;>simp
  have kk:=λb o d e=>L0 b o d (y b o d e);have I1:uP X D' σ H {s with heap:=AG,toks:=tk}:=by
   refine I.step (g':=s.gens) (d':=s.drawn) (ch:=[z,j,g,f]) (λb d=>?_) (λb o _ _ l e _=>kk b o l e) (λb o _ _ l e _=>oM o.slots (kk b o l e)) (λ_ _ _ _ n=>n)
    (λb o l e=>oM o (kk b o l e)) (λ_ _ e=>e) (λ_ _ _ e=>e) (λb ps e=>oM (#[]) (by rw[e];simp)) (λm hm=>?_) (λb o e=>?_) I.E
   obtain⟨f0,f1,f2,f3,f4,f5⟩:=Xt (M b (S b d));exact⟨f3,f1,f4,f5⟩;obtain⟨o,es,ep,ho,r⟩:=hm;exact rP o es ⟨ep,kk _ o (λd=>(M _<|S _ d).2.1 O) ho,r⟩;have nb:∀c o',H c=some o'->c∉ [z,j,g,f]:=λc o' e d=>by
    rw[(M c<|S c d).1] at e;cases e
   refine(I.ay b o e).mr (λc q R G=>kk c q ?_ G) (λ_ q=>q) λ_ _ q=>q;rcases R with rfl|R
   exact nb _ _ e;exact nb _ _ R
  have V:s.heap.objs.size<=T:=hT;have fT:H T=none:=I.ay.fresh V;have aT:T∉ [z,j,g,f]:=W.apart i T h' f';have tT:AG.IsTuple T #[u,v]:=by
   obtain⟨o,ho,q⟩:=k';exact nS o (L0 T o aT ho) q
  obtain⟨a,j',ra⟩:∃a,xs[i]?=some a/\lA a u:=by
   have e:U[i]?=some u:=by simpa using eu
   have:i<xs.length:=LZ
   obtain⟨u',G,r'⟩:=r1.get (i:=i) (x:=xs[i]) (by simp[this]);rw[e] at G;cases G;exact nS (xs[i]) (by simp[this]) r'
  obtain⟨b,i',rb⟩:∃b,ys[i]?=some b/\lA b v:=by
   have e:fY[i]?=some v:=by simpa using ev
   have:i<ys.length:=p'
   obtain⟨u',G,r'⟩:=r2.get (i:=i) (x:=ys[i]) (by simp[this]);rw[e] at G;cases G;exact nS (ys[i]) (by simp[this]) r'
  have n':=I.sz;have I2:uP X D' σ (upd H T<|.t [a,b]) {s with heap:=AG,toks:=tk}:=by
   refine uP.Ar I1 fT (Y4 I.sz V) (XF<|ZP I.lt V) (λx c e q=>?_) (λp hp q=>?_) (qC (by show 2<=sizeLine;decide) [u,v] (.cons ra<|.cons rb .nil) tT);obtain⟨v',q'⟩:=I.cell x c e;have:=q'.lt;rw[q] at this;exact absurd (ZP this V)<|Xx _;have:=IN (I.pin p hp).1;rw[q] at this;exact absurd (ZP this V)<|Xx _
  refine oS (.r T) _ I2 O (nT T fT O (λbh dP a' b' bJ wZ ea eb=>?_)) ⟨?_,λc R=>?_⟩;rw[I.DP bJ hx,j'] at ea;rw[I.DP wZ hy,i'] at eb;cases ea;cases eb;rfl;obtain⟨q1,q2,q3,q4,q5,_⟩:=Xt l';exact⟨q1,q2,q3,q4,q5⟩;have n0:=(M c R).1;have:c≠T:=λq=>by
   obtain⟨o,e,_⟩:∃o,s.heap.get? c=some o/\True:=by
    obtain⟨F,L,⟨a',b',J⟩,⟨o1,e1,_⟩,⟨o2,e2,_⟩⟩:=C;simp only[X9,Yy,M2] at R;rcases R with rfl|rfl|rfl|rfl|rfl
    exact nS _ F trivial;exact nS _ L trivial;exact nS _ J trivial;exact nS _ e1 trivial;exact nS _ e2 trivial
   have:=IN e;rw[q] at this;exact absurd (ZP this V)<|Xx _
  rw[aw this];exact n0
 done:=by
  intro X hP hw hK l i D' s σ H E I M C hg;subst hP hw hK;obtain⟨xs,ys,hx,hy,hi⟩:=hg;obtain⟨U,r1,p1,z1⟩:=I.list hx;obtain⟨fY,r2,p2,z2⟩:=I.list hy;have cK:=r1.length;have d4:=r2.length;have W:=WalksT.zip2 (prog:=X.prog) (w:=X.w) (A:=X.A) (I.ok.hd l) z B j g f Z Y D U.toArray fY.toArray;obtain⟨F,L,J,h1,h2⟩:=Y7 (id C);have hn:i=min U.toArray.size fY.toArray.size:=by simp only[WD];lia
  subst hn;refine W.done s _ _ ⟨F,L,J,h1,h2,p1.isList,p2.isList⟩ λh' tk y=>⟨O,?_⟩;have S:∀b∈ [z,j,g,f],b∈ [z,B,j,g,f]:=λb d=>by
   simp only[X9,Yy,M2] at d⊢;rcases d with rfl|rfl|rfl|rfl<;>simp
  refine I.step (g':=s.gens) (d':=s.drawn) (ch:=[z,j,g,f]) (λb d=>?_) (λb o _ _ l e _=>y b o l e) (λb o _ _ l e _=>oM o.slots (y b o l e)) (λ_ _ _ _ n=>n)
   (λb o l e=>oM o (y b o l e)) (λ_ _ e=>e) (λ_ _ _ e=>e) (λb ps e=>oM (#[]) (by rw[e];simp)) (λm hm=>?_) (λb o e=>?_) I.E
  obtain⟨f0,f1,f2,f3,f4,f5⟩:=Xt (M b (S b d));exact⟨f3,f1,f4,f5⟩;obtain⟨o,es,ep,ho,r⟩:=hm;exact rP o es ⟨ep,y _ o (λd=>(M _<|S _ d).2.1 O) ho,r⟩;have nb:∀c o',H c=some o'->c∉ [z,j,g,f]:=λc o' e d=>by
   rw[(M c<|S c d).1] at e;cases e
  refine(I.ay b o e).mr (λc q R G=>y c q ?_ G) (λ_ q=>q) λ_ _ q=>q;rcases R with rfl|R
  exact nb _ _ e;exact nb _ _ R
 self:=λA i s Q E C hQ=>wpAny_pyIter_zip C.1 hQ
theorem zD:bootBuiltins "zip"=some (.type "zip"):=O
theorem aaG{g:tz}{V:Pos}(N:Gl X "zip")(L:X.mg "zip"=none)(P:PA X [a,b] t)(J:starEach [a,b] X.env=(false,eval a X.env)::starEach [b] X.env)(E:(backTo d<|starEach [b] X.env).any (·.1)=false):
  PI X (.Tuple g k V) (.Call (.Name "zip" p) [a,b] [] d) (EK X.K t):=by
 intro W s y H R I h;refine Call_<|my I N L zD<|Pi (aF (P d W s y H _ I h) λus c ⟨vs,x,i,B,C⟩=>?_) J E;obtain⟨n,m,e,⟨xs,G⟩,⟨ys,F⟩,q⟩:=C;subst e;obtain⟨u,v,rfl,A,z⟩:=X3 B;cases A;cases z;obtain⟨lq,AH,l,Z⟩:=i.list G;obtain⟨fY,AI,j,Y⟩:=i.list F;refine call_zip_2 l.isList j.isList λh' w U T S Q a6 M=>?_;refine wpAny_pyIter_zip w ?_;have EO: @LT.lt Nat _ n c.heap.objs.size:=by obtain⟨_,e,_⟩:=l.isList;exact IN e
 have ER: @LT.lt Nat _ m c.heap.objs.size:=by obtain⟨_,e,_⟩:=j.isList;exact IN e
 have D:ZipApart (c.heap.objs.size+4) (c.heap.objs.size+2) (c.heap.objs.size+3) c.heap.objs.size (c.heap.objs.size+1) n m:=by
  constructor<;>(lia)
 refine pR _ _ _ _ x O (i.kept M) (aaB D ⟨aH,aH⟩) ⟨w,U,rP _ _ T,S,Q⟩ (λr o=>?_) q;have f:c.heap.objs.size<=r:=by
  simp at o;rcases o with rfl|rfl|rfl|rfl|rfl
  exact Xw _ _;exact Xw _ _;exact Xw _ _;exact ZX _;exact Xw _ _
 have:=i.DU (b:=r) (H':=x) f (i.ay.fresh f);exact this
end
set_option maxHeartbeats 400000
section
open PyProof.Rows
end
set_option maxHeartbeats 1000000
set_option maxHeartbeats 400000
section
open PyProof.Rows
inductive bS(J:Ev->Prop){b:Type}:Sem b->Prop
 |p (a:b):bS J (.pure a)
 |r (e:EQ):bS J (.raise e)
 |u (w:GE):bS J (.unsupported w)
 |R {t:GE}{k:Unit->Sem b}:bS J (k ())->bS J (.rule t k)
 |l {a:Do}{p:AC}{k:Obj->Sem b}:(∀o,bS J<|k o)->bS J (.load a p k)
 |U {a:Do}{p:AC}{f:Obj->Obj}{k:Unit->Sem b}:(∀s,J s->J {s with heap:=s.heap.update a f})->bS J (k ())->bS J (.update a p f k)
 |c {o:Obj}{k:Do->Sem b}:(∀s,J s->J {s with heap:=s.heap.push o})->(∀a,bS J<|k a)->bS J (.alloc o k)
 |s {k:List (Code×Pos)->Sem b}:(∀t,bS J<|k t)->bS J (.stack k)
theorem aaH{t:Sem b}(k:bS J t):∀{Q:b->Pos->Ev->Prop}{E:EQ->Pos->Ev->Prop}{p:Pos}{s:Ev},J s->Sem.wp M d t Q E p s->
  Sem.wp M d t (λa p s=>Q a p s/\J s) (λe p s=>E e p s/\J s) p s:=by
 induction k with
 |p a=>intro Q E p s j h;exact⟨h,j⟩
 |r e=>intro Q E p s j h;rw[Sem.wp] at h⊢;exact⟨h,j⟩
 |u w=>intro Q E p s j h;cases h
 |R Y i=>intro Q E p s j h;exact i j h
 |l Y i=>intro Q E p s j h;obtain⟨o,e,h⟩:=h;exact⟨o,e,i o j h⟩
 |U f Y i=>intro Q E p s j h;exact⟨h.1,i (f _ j) h.2⟩
 |c f Y i=>intro Q E p s j h;exact i _ (f _ j) h
 |s Y i=>intro Q E p s j h;rw[Sem.wp] at h⊢;exact i _ j h
theorem xD{A:FM}{t:Sem c}{Q:c->Ev->Prop}{E:ge}(k:bS J t)(j:J s)(h:wpAny M A t Q E s):
  wpAny M A t (λa s=>Q a s/\J s) (λe s=>E e s/\J s) s:=λd p b=>aaH k j (h d p b)
def fA(e:Do)(s:Ev):Prop:= ∃o v,s.heap.get? e=some o/\o.data=.fields v/\v[2]?=some .none/\o.dict=none
theorem I_(f:sK->sK)(o:Obj):(Obj.mapFields f o).dict=o.dict:=by
 unfold Obj.mapFields;split<;>rfl
theorem aaJ{v:EQ}(k:i≠2)(s:Ev)(j:fA e s):fA e {s with heap:=s.heap.update a (Obj.mapFields (·.setIfInBounds i v))}:=by
 obtain⟨o,g,f,c,b,h⟩:=j;by_cases z:a=e;subst z;have d:=Obj.data_mapFields c (·.setIfInBounds i v);exact oS _ _ (Pw _ f<|Obj.isFreed_of_fields d) d (by rw[Array.getElem?_setIfInBounds_ne k];exact b) ((I_ _ _).trans h);exact oS o g ((On _ _ z).trans f) c b h
theorem aaK(h:∀o,(f o).data=o.data/\(f o).dict=o.dict)(s:Ev)(j:fA e s):fA e {s with heap:=s.heap.update a f}:=by
 obtain⟨o,v,g,b,d,c⟩:=j;by_cases z:a=e;subst z;exact oS _ v (Pw _ g<|Obj.isFreed_of_fields<|(h o).1.trans b) ((h o).1.trans b) d ((h o).2.trans c);exact oS o v ((On _ _ z).trans g) b d c
theorem aaL(s:Ev)(j:fA e s):fA e {s with heap:=s.heap.push b}:=by
 obtain⟨o,v,zq⟩:=Z2 j;obtain⟨d,c,a,h⟩:=YG zq;exact⟨o,v,KF _ d,c,a,h⟩
theorem bS.bind{t:Sem b}{f:b->Sem d}(k:bS J t)(h:∀a,bS J<|f a):bS J (t>>=f):=by
 induction k with
 |p a=>exact h a
 |r e=>exact .r e
 |u w=>exact .u w
 |R Y i=>exact .R i
 |l Y i=>exact .l i
 |U g Y i=>exact .U g i
 |c g Y i=>exact .c g i
 |s Y i=>exact .s i
section
variable{e:Do}
theorem ES{a:Do}:bS (fA e) (load a):=.l λo=>.p o
theorem ET(h:i≠2):bS (fA e) (setField v i x):=by
 unfold setField;split;refine ES.bind λo=>?_;split;split;exact .U (λs j=>aaJ h s j) (.p ());exact .u _;exact .u _;exact .u _
theorem aaM:bS (fA e) (fieldsOf v):=by
 unfold fieldsOf;split;refine ES.bind λo=>?_;split;exact .p _;exact .u _;exact .u _
theorem AJ:bS (fA e) (field v i):=by
 refine aaM.bind λs=>?_;split;exact .p _;exact .u _
theorem EU{f:xz}:bS (fA e) (setFlight v f):=by
 refine AJ.bind λt=>?_;split;exact ET (XF (XA _));exact .p _
theorem EV:bS (fA e) stack:=.s λt=>.p t
theorem aaN{v:im}:bS (fA e) (newFields t v):=by
 show bS (fA e) (if v.toArray.size>sizeLine+2 then (unsupported "record:memory" >>=_) else _);split;exact .u _;exact bS.bind (.c (λs j=>aaL s j) λa=>.p a) λa=>.p _
theorem aaO{b:Gc}:bS (fA e) (entryPlaceOf f b):=by
 refine EV.bind λa=>?_;split;exact .p _;exact .p _
theorem L1:∀l:Al,bS (fA e) (readyFrames l)
 |[]=>.p _
 |v::r=>by
  unfold readyFrames;split;refine ES.bind λo=>?_;split;exact .p _;refine bS.bind ?_ λi=>bS.bind ?_ λb=>bS.bind (.U (λs j=>aaK aH s j)<|.p ()) λY=>L1 r;unfold behindIsImport;split;exact .p _;split;exact .p _;exact AJ.bind λY=>.p _;unfold keptBack;split;split;exact .p _;exact bS.bind (EV.bind λY=>.p _) λY=>.p _;exact .p _;exact .u _
theorem aaP:bS (fA e) (PySem.frameOf v):=by
 refine bS.bind (EV.bind λY=>.p _) λl=>bS.bind ?_ λr=>?_;unfold frameObject;split;exact .p _;exact(L1 _).bind λY=>.p _;split;exact .p _;exact .u _
theorem L3:bS (fA e) (noteFrame v c):=by
 unfold noteFrame;split;rename_i x d hq;refine AJ.bind λh=>?_;have t:bS (fA e) (do let a <-PySem.frameOf c;let l <-entryPlaceOf d (h !=.none);let b <-EntryCells.newEntry h a .none (rawInt d) .none l;setField v 1 b):=
  aaP.bind λa=>aaO.bind λl=>bS.bind aaN λb=>ET (Ze (XA _))
 split;refine AJ.bind λx=>?_;split;exact .p _;exact(ET (XF (XA _))).bind λY=>t;exact t;exact .u _
theorem L4:bS (fA e) (leaving a v):=by
 exact L3.bind λY=>EU
end
end
set_option maxHeartbeats 4000000
section
open PyProof.Rows
theorem cN.AK(x:cN P w H h a o):∃c,h.get? a=some c:=by
 cases o with
 |l g=>obtain⟨Y,Y,Y,Y,e⟩:=x;exact⟨_,e⟩
 |t g=>obtain⟨Y,Y,Y,c,e,Y⟩:=x;exact⟨_,e⟩
 |d K=>obtain⟨Y,Y,Y,Y,o,Y,Y,e,Y⟩:=x;exact⟨_,e⟩
 |T K=>obtain⟨Y,Y,Y,Y,o,Y,Y,e,Y⟩:=x;exact⟨_,e⟩
 |s S n=>obtain⟨o,Y,Y,Y,e,Y⟩:=YC x;exact⟨_,e⟩
 |i C z j=>obtain⟨Y,Y,Y,e,Y⟩:=Y7 x;exact⟨_,e⟩
 |o y=>obtain⟨Y,e⟩:=x;exact⟨_,e⟩
 |xd j=>obtain⟨Y,⟨Y,Y,Y,e,Y⟩,Y⟩:=x;exact⟨_,e⟩
 |fk r v=>obtain⟨Y,Y,Y,e⟩:=x;exact⟨_,e⟩
 |b c u=>obtain⟨e,Y⟩:=x;exact⟨_,e⟩
 |q p=>exact⟨_,(show h.get? a=some _ from x)⟩
 |m f y=>exact⟨_,(show h.get? a=some _ from x)⟩
 |e k=>obtain⟨Y,⟨Y,e⟩,Y⟩:=x;exact⟨_,e⟩
theorem bX.EW(f:bX P w H h)(k:∀b u,H b≠none->h.get? b=some u->d.get? b=some u):bX P w H d:=λa o e=>
 (f a o e).mr (λb u c g=>k b u (by
  rcases c with rfl|c
  rw[e];exact Option.some_ne_none _;rw[c];exact Option.some_ne_none _) g) (λY z=>z) (λY Y z=>z)
def gX(P:Fk)(w:Fa):cP:=λr H s E e a=>∃(f:Do)(c:EQ)(t:Do)(B:FS)(d:Hp),
 e=.ref f/\a.os=s.os/\AllBare a.gens/\Un (bA r) [] H d s.heap a.heap/\bX P w d a.heap/\Heap.FlyingW B r f c (.ref t) a.heap/\fA f a/\d f=none/\
 (∀b,d b≠none->∀o,a.heap.get? b=some o->B.get? b=some o)/\(∀b o,s.heap.get? b=some o->b∉bA r->∀g,a.heap.get? b=some g->B.get? b=some g)/\E c none d
theorem L5(h:gX P w o H s E0 e a):False:=by
 obtain⟨Y,Y,Y,Y,Y,zq⟩:=YH h;obtain⟨Y,Y,Y,Y,Y,Y,Y,Y,Y,Y,h⟩:=zU zq;exact h
section
variable{P:Fk}{w:Fa}{K:Frag}{i:io}{j:FS}{N:ca}{d:Str}{g:Scope}{f:Do}{h:EQ}{A:FM}{a:Al}{c:Ev}{k:Hp}{E:XK}
theorem aaQ:hV (gX P w) (sf (gX P w) P w K i j N d g f h A a c k E) E:=by
 intro D' σ H s e V I hx;obtain⟨ea,M,t,B,H',zq⟩:=YH hx;obtain⟨rfl,os,R,u,ay,fl,xE,oy,c1,c2,hE⟩:=zU zq;have nL:∀b o,c.heap.get? b=some o->b∉bA a->b∉bA (envOfC d g c.heap.objs.size f h::a):=λb o l r S=>by
  rcases X9.mp S with rfl|z
  cases Nat.not_lt.mpr I.ok.above (IN l);exact r z
 have kQ:∀b∈bA (envOfC d g c.heap.objs.size f h::a),H' b=none:=λb l=>by
  obtain⟨o,y,_⟩:=(I.stack.mem l).2;exact u.free b o y (I.zT b l) Yy
 refine KM (xD L4 xE<|wpAny_leaves_onW (Q:=λ_ iQ=>∃G,iQ={V with heap:=G}/\Heap.FlyingW B a ea M (.ref t) G/\V.heap.UpToSlots G) (E:=λ_ _=>False) I.ok.frames O fl λG L T=>nT G O L T)
  (λ_ iQ hq=>?_) (λ_ _ z=>z.1.elim)
 obtain⟨⟨G,rfl,L,T⟩,EX⟩:=hq;have p:=λb o l r X Y=>L.1 b X (c2 b o l r X Y);have cO:=λb o l y=>L.1 b o (c1 b l o y);have iZ:∀b∈bA (envOfC d g c.heap.objs.size f h::a),∀o,V.heap.get? b=some o->∃U,G.get? b=some {o with slots:=U}:=λb l o y=>by
  obtain⟨C,jx,hd⟩:=(fl.2.2.1.mem l).2;rw[y] at jx;cases jx;exact T b o y hd
 refine pR ea M t B H' O (os.trans I.os) R ⟨λb o q n r _=>?_,λb o q n r _=>?_,λb o q n _=>?_,λb o q _=>?_,λb Z q=>u.bx b Z (I.base.bx b Z q),λb o v q=>u.iC b o v (I.base.iC b o v q),λb ps q=>?_⟩ (ay.EW (λb o l y=>cO b o l y)) ⟨L,EX,oy,λb l o y=>?_,λb o q r X Y=>?_,hE⟩
 have m:=I.base.keep b o q n r Yy;have D:=nL b o q r;exact p b o m D o<|u.keep b o m (I.base.free b o q n Yy) D Yy;obtain⟨U,m⟩:=I.base.slot b o q n r Yy;have D:b∈bA (envOfC d g c.heap.objs.size f h::a):=Wb _ r;obtain⟨wV,x⟩:=u.slot b _ m (I.base.free b o q n Yy) D Yy;obtain⟨EY,W⟩:=iZ b D _ x;exact oM EY W;obtain⟨C,m⟩:=I.base.there b o q Yy;exact u.free b C m (I.base.free b o q n Yy) Yy;obtain⟨C,m⟩:=I.base.there b o q Yy;obtain⟨F,x⟩:=u.there b C m Yy;by_cases S:b∈bA (envOfC d g c.heap.objs.size f h::a);obtain⟨U,W⟩:=iZ b S F x;exact oM _ W;exact oM F (p b C m S F x);obtain⟨m1,e1⟩:=I.base.iP b ps q;obtain⟨m2,e2⟩:=u.iP b _ e1;exact oM (m1++m2) (by rw[e2,Array.append_assoc]);obtain⟨gE,hH⟩:=vV.mp l;obtain⟨F,x⟩:=(ay b gE hH).AK;have J:=y;rw[(cO b F l x)] at J;cases J;exact c1 b l _ x;obtain⟨C,m⟩:=I.base.there b o q Yy;obtain⟨F,x⟩:=u.there b C m Yy;have D:=nL b o q r;have J:=Y;rw[(p b C m D F x)] at J;cases J;exact c2 b C m D _ x
def x3(X:Cx)(E:XK):Prop:= ∀(D:gh)(a:St)(H:Hp)(s:Ev)(h:FS)(e:Do)(c:EQ)(v:im),uP X D a H s->Heap.MadeExcOf s.heap h e c v->E c none H->X.xe (.ref e) {s with heap:=h}
theorem aaR:x3 (sf (gX P w) P w K i j N d g f h A a c k E) E:=by
 intro D' σ H s Y e D vs I J hE;have T:∀b o,c.heap.get? b=some o->b∉bA a->b∉bA (envOfC d g c.heap.objs.size f h::a):=λb o m p B=>by
  rcases X9.mp B with rfl|z
  cases Nat.not_lt.mpr I.ok.above (IN m);exact p z
 have oz:∀x∈ (envOfC d g c.heap.objs.size f h::a),∀b,x.frame=some b->b∈bA (envOfC d g c.heap.objs.size f h::a):=λx he b m=>Wg.mpr (nS x he m);have xE:fA e {s with heap:=Y}:=by
  obtain⟨t,ht,_,_⟩:=J.there;exact oS _ _ ht O O O
 refine KM (xD L4 xE (wpAny_leaves_madeW (Q:=λ_ X=>∃v t,X={s with heap:=v}/\Heap.FlyingW (hideAll s.heap (bA (envOfC d g c.heap.objs.size f h::a))) a e D (.ref t) v/\Y.UpToSlots v) (E:=λ_ _=>False)
  I.ok.frames O (λb o q=>of_hideAll _ q) (PySem.W.funFrames_hide I.stack oz) J λv t G _ _ L=>oG v t O G L)) (λ_ X hq=>?_) (λ_ _ z=>z.1.elim)
 obtain⟨⟨v,t,rfl,G,L⟩,EX⟩:=hq;have l:=λb o m p=>G.1 b o (hideAll_get _ m p);have Z:∀b,H b≠none->b∉bA (envOfC d g c.heap.objs.size f h::a):=λb m B=>m (I.zT b B);have V:∀b∈bA (envOfC d g c.heap.objs.size f h::a),∀o,s.heap.get? b=some o->∃M,v.get? b=some {o with slots:=M}:=λb m o r=>by
  obtain⟨y,U,hd⟩:=(I.stack.mem m).2;rw[r] at U;cases U;exact L b o (J.keeps b o r) hd
 refine pR e D t _ H O I.os I.E ⟨λb o q n p _=>?_,λb o q n p _=>?_,λb o q n _=>I.base.free b o q n Yy,λb o q _=>?_,I.base.bx,I.base.iC,I.base.iP⟩ (I.ay.EW (λb o m r=>l b o r (Z b m))) ⟨G,EX,?_,λb m o r=>?_,λb o q p o' eQ=>?_,hE⟩
 exact l b o (I.base.keep b o q n p Yy) (T b o q p);obtain⟨M,u⟩:=I.base.slot b o q n p Yy;obtain⟨EY,R⟩:=V b (Wb _ p) _ u;exact oM EY R;obtain⟨y,u⟩:=I.base.there b o q Yy;by_cases B:b∈bA (envOfC d g c.heap.objs.size f h::a);obtain⟨M,R⟩:=V b B y u;exact oM _ R;exact oM y (l b y u B);cases q:H e with
 |none=>rfl
 |some r=>
  obtain⟨S,C⟩:=(I.ay e r q).AK;rw[J.new] at C;cases C
 obtain⟨gE,hH⟩:=vV.mp m;obtain⟨S,C⟩:=(I.ay b gE hH).AK;have F:=r;rw[(l b S C (Z b m))] at F;cases F;exact hideAll_get _ C<|Z b m;obtain⟨y,u⟩:=I.base.there b o q Yy;have gI:=T b o q p;have F:=eQ;rw[(l b y u gI)] at F;cases F;exact hideAll_get _ u gI
end
section
variable{X:Cx}
theorem aaS{C:Do}{P:im}{B n S:GE}{c:tz}(hc:X.calm=true)(a:OwnCls x C P n X.mg X.base)(R:ExcBaseFacts B n S P)(E1:Gl X x)(hd:(x==("__debug__":Str))=false)(ha:PA X (e::c) t)(J:starEach (e::c) X.env=(false,eval e X.env)::starEach c X.env)(h1:(backTo i<|starEach c X.env).any (·.1)=false)(hR:x3 X E):
  PS X (.Raise (some<|.Call (.Name x u) (e::c) [] i) none p) (EG C E t):=by
 intro m s g H D I h;obtain⟨tl,N,w,q,M,b,o,d,Q,l,L,G,F,A,z,y,mN,hC,hN,AL,T⟩:=a.obj;have hg:PE X (.Name x u) (tC<|.r C):=JP E1 a.bound O hd;refine wpAny_Raise_call_subT (C:=C) (nm:=w) (q:=q) (N:=N) (bs:=M) (hdct:=b) (sn:=o) (sub:=d) (ab:=Q) (col:=l) (dd:=L) (k0:=G) (k1:=F) (k2:=A) (k3:=z) (k5:=y)
  R (T.hasType R.hasBase) (I.ok.hd hc) (by rw[J];show(false ||(backTo i<|starEach c X.env).any (·.1))=false;rw[h1];rfl) AL
  (aF (hg m s g H (λv k=>v=.r C/\EG C E t D g k) I ⟨O,h⟩) λf V ⟨v,k,I1,Y,ev,q1⟩=>?_)
 subst ev;obtain rfl:f=Value.ref C:=Y;refine⟨O,?_⟩;have K:=ha i m V g k _ I1 q1;rw[J] at K⊢;refine Calls.evalArgs_plain<|aF K λus U ⟨vs,H2,j,W,hl,Z⟩=>⟨O,?_,j.bk _ _ hC,hN.keeps j.bk,T.keeps j.bk,λh' e' hm=>hR m g H2 U h' e' _ _ j hm Z⟩;have:=W.length;lia
end
theorem L7{j B:FS}(u:Un (bA l) [] H k h g)(C:bX P w k g)(J:g.FunFrames B l)(A:∀b,k b≠none->∀o,g.get? b=some o->B.get? b=some o)(z:∀b o,h.get? b=some o->b∉bA l->∀d,g.get? b=some d->B.get? b=some d)(t:B.StaysIn j)(D:g.UpToSlots j):
  Un (bA l) [] H k h j/\bX P w k j/\(∀b,k b≠none->∀o,j.get? b=some o->B.get? b=some o)/\(∀b o,h.get? b=some o->b∉bA l->∀d,j.get? b=some d->B.get? b=some d):=by
 have y:=λb o a e=>t b o (A b a o e);have i:=λb o a c d Q=>t b d (z b o a c d Q);have Z:∀b∈bA l,∀o,g.get? b=some o->∃s,j.get? b=some {o with slots:=s}:=λb a o e=>by
  obtain⟨p,x,F⟩:=(J.mem a).2;rw[e] at x;cases x;exact D b o e F
 refine⟨⟨λb o q n c Y=>i b o q c o<|u.keep b o q n c Yy,λb o q n c Y=>?_,u.free,λb o q Y=>?_,u.bx,u.iC,u.iP⟩,C.EW<|λb o a e=>y b o a e,λb a o e=>?_,λb o q c d Q=>?_⟩;obtain⟨s,m⟩:=u.slot b o q n c Yy;obtain⟨V,f⟩:=Z b c _ m;exact⟨V,f⟩;obtain⟨p,m⟩:=u.there b o q Yy;by_cases v:b∈bA l;obtain⟨s,E⟩:=Z b v p m;exact⟨_,E⟩;exact⟨p,i b o q v p m⟩;obtain⟨I,G⟩:=vV.mp a;obtain⟨r,f⟩:=(C b I G).AK;rw[(y b r a f)] at e;cases e;exact A b a _ f;obtain⟨r,f⟩:=u.there b o q Yy;rw[(i b o q c r f)] at Q;cases Q;exact z b o q c _ f
noncomputable def Cx.alt(X:Cx)(A:FM)(c:Gc)(p:gh)(x:ge):Cx:={X with A:=A,calm:=c,n:=p,xe:=x}
theorem uP.alt{a:St}{calm':Gc}(I:uP X D a H s)(f:A'.frames=X.A.frames)(c:calm'=true->A'.handled=none)(b:∀p∈pn'++pins',p∈X.n++D):
  uP (X.alt A' calm' pn' d) pins' a H s where
 ok:=⟨I.ok.mod,I.ok.kind,I.ok.glob,I.ok.blt,I.ok.above,I.ok.inj,I.ok.has,I.ok.zP,c,f.trans I.ok.frames,I.ok.kQ,I.ok.JF,I.ok.bs,I.ok.rQ,I.ok.zQ,I.ok.zR,I.ok.kR,I.ok.uG⟩
 os:=I.os
 E:=I.E
 base:=I.base
 G:=I.G
 cell:=I.cell
 free:=I.free
 P:=I.P
 pin:=λp h=>I.pin p (b p h)
 ay:=I.ay
 len:=I.len
theorem uP.E3{d:St}(o:X.Ok)(I:uP (X.alt A c b f) a d H s)(e:∀p∈X.n++D,p∈b++a):
  uP X D d H s where
 ok:=o
 os:=I.os
 E:=I.E
 base:=I.base
 G:=I.G
 cell:=I.cell
 free:=I.free
 P:=I.P
 pin:=λp h=>I.pin p (e p h)
 ay:=I.ay
 len:=I.len
theorem aaT(a:h.get? e=some o):cN P w H h e (.b o sE):=
 ⟨a,trivial,⟨o,a⟩,λY Y Y Y=>trivial⟩
theorem bX.more(k:bX P w H h)(d:H a=none)(x:cN P w (upd H a o) h a o):bX P w (upd H a o) h:=λb u e=>by
 by_cases z:b=a;subst z;rw[aj] at e;cases e;exact x;rw[aw z] at e;exact(k b u e).mr (λY Y Y q=>q) (λc q=>by rw[aw<|aJ q d];exact q) (λc s q=>by rw[aw<|aJ q d];exact q)
def L8(A:FM)(H:Hp):Prop:= ∃e D,A.handled=some (.ref e)/\vA H e D
def alT(X:Cx):Prop:=L8 X.A X.H
structure u9(k:Nat)(A:FM):Prop where
 dp:A.depth+3*k+5<recursionLimit
 un:A.units+16*k+200<cLine
 gd:A.guards=some []:=by rfl
theorem dJ.h(r:dJ k A):u9 k A:=⟨r.dp,r.un,r.gd⟩
theorem u9.mark(r:u9 k A)(v:AC):u9 k (A.mark v):=⟨r.dp,r.un,r.gd⟩
def CRH(o:Al)(P:Fk)(w:Fa)(H:Hp)(s:Ev)(Q:VK)(r:Result)(a:Ev):Prop:=
 match r with
 |.ok (.ret u)=>CE o P w H s Q u a
 |_=>False
structure L9(P:Fk)(w:Fa)(K:Frag)(mg:io)(base:FS)(k:Nat)(f:Do)(fd:Go)(ps:ca)(sp:Sp):Prop where
 len:∀vs H Q E,sp vs H Q E->vs.length=ps.length
 run:∀(A:FM)(outer:Al)(s:Ev)(H:Hp)(args:Args)(us:im)(vs:db)(Q:VK),u9 k A->L8 A H->pU P w K mg base A outer s H->BindsTo s fd args (ps.zip us)->Wz vs us->sp vs H Q E0->
  codeAny (model P w) A (.call (.ref f) args) (CRH outer P w H s Q) s
def L_(C:cP)(X:Cx)(x:Str)(s:Sp):Prop:=
 ∃k f d p,du X.prog X.w X.K X.mg X.base C k f d p s/\dJ k X.A/\X.mg x=some (.ref f)/\PySem.W.keepIn X.K (.ref f)=true/\Y5 X.K d p []
def AM(a:cP)(X:Cx)(C:Do)(m:Str)(s:Sp):Prop:=
 gP X.K C/\∃k f d p,wW X.K C m f/\du X.prog X.w X.K X.mg X.base a k f d p s/\dJ k X.A/\Y5 X.K d p []
def Ma(a:cP)(X:Cx)(x:Str)(C:Do)(s:Sp):Prop:=
 ∃k f d p,Mk X.K C f/\du X.prog X.w X.K X.mg X.base a k f d p s/\dJ (k+1) X.A/\X.mg x=some (.ref C)/\Y5 X.K d p []
def Mb(X:Cx)(x:Str)(s:Sp):Prop:=
 ∃k f d p,L9 X.prog X.w X.K X.mg X.base k f d p s/\u9 k X.A/\X.mg x=some (.ref f)/\PySem.W.keepIn X.K (.ref f)=true/\Y5 X.K d p []
def Mc(X:Cx)(x:Str)(C:Do):Prop:= ∃b B n u,OwnCls x C b n X.mg X.base/\ExcBaseFacts B n u b
structure Good(CX:cP)(S:cZ)(Γ:ba)(X:Cx):Prop where
 N:X.N=S.N
 sc:X.env.scope=S.sc
 K:X.K=Γ.K
 calm:S.m=0->X.calm=true
 units:X.A.units+64<cLine
 gd:X.A.guards=some []
 l:S.m=0->∀j x,S.fn[j]?=some x->L_ CX X x (Γ.fs j)
 fG:∀j x,S.gn[j]?=some x->∃u,X.mg x=some u/\lA (Γ.gv j) u
 gY:∀x,S.bl.contains x=true->X.mg x=none
 P:hV CX X Γ.E
 oA:∀outer H s e s',CX outer H s E0 e s'->False
 q:∀p K',Γ.sd p K'->∀h:FS,X.K.In h->∃vs,KV K' vs/\h.DictOf (d_ X.prog X.w) p vs
 qm:S.m=0->∀j m,S.mn[j]?=some m->AM CX X (Γ.ms j).1 m (Γ.ms j).2
 sJ:S.m=0->∀j x,S.kn[j]?=some x->Ma CX X x (Γ.kt j).1 (Γ.kt j).2
 xG:∀j x,S.en[j]?=some x->Mc X x (Γ.ex j)
 sL:∀j x,S.hn[j]?=some x->Mb X x (Γ.hs j)
 u_:∀e,Γ.h=some e->X.A.handled=some (.ref e)
 xH:S.m=1->alT X
theorem AN{S:cZ}(h:(if S.m=0 then 0 else 2)=0):S.m=0:=by lia
section
variable{d:cP}{S:cZ}{g:ba}{X:Cx}
theorem Good.inner(G:Good d S g X)(c:xB)(n:ca)(f:v0)(b:ii)(C:Do)(s:Ev)(H:Hp):
  Good d (LY S c n f) g.calm (iW X c.sc (n++f.map (·.1)) b C s H) where
 N:=O
 sc:=by
  show relabel c.sc X.env=EM c.sc S.sc;rw[<-G.sc];rfl
 K:=G.K
 calm:=λh=>G.calm (AN h)
 units:=G.units
 gd:=G.gd
 l:=λm j x h=>G.l (AN m) j x h
 fG:=G.fG
 gY:=G.gY
 P:=λY Y Y Y Y Y Y h=>(G.oA _ _ _ _ _ h).elim
 oA:=G.oA
 q:=G.q
 qm:=λz j m h=>G.qm (AN z) j m h
 sJ:=λz j x h=>G.sJ (AN z) j x h
 xG:=λj x h=>by simp[LY] at h
 sL:=λj x h=>G.sL j x h
 u_:=λe h=>G.u_ e h
 xH:=λh=>by
  have a:(if S.m=0 then 0 else 2)=1:=h;split at a<;>cases a
theorem Good.gl(G:Good d S g X)(h:qi S.sc x=true):Gl X x:=by
 show X.env.scope.names.lookup x=_;rw[G.sc];exact RR h
theorem eJ{s:tz}(h:Xj e=true):starEach (e::s) v=(false,eval e v)::starEach s v:=by
 cases e<;>first|rfl|cases h
theorem sq(h:qj o=true):attributeBase o x e (eval o e)=eval o e:=by
 unfold attributeBase;split;cases h;rfl
theorem AO(h:xC e=true):∀x,foldedSetIterable e v x=pure x:=by
 intro x;cases e<;>first|rfl|cases h
def iG(e:tz):Gc:=e.all Xj
theorem mI(v:Env)(p:Pos):∀(s:tz),iG s=true->(backTo p<|starEach s v).any (·.1)=false
 |[],h=>O
 |e::s,h=>by
  simp only[iG,ZZ,WZ] at h;rw[eJ h.1];show(false ||(backTo p<|starEach s v).any (·.1))=false;rw[(mI v p s h.2)];rfl
theorem E4(v:Env)(p:Pos):∀(s:tz),iG s=true->(backTo p<|starEach s v).all (λx=> !x.1)=true
 |[],h=>O
 |e::s,h=>by
  simp only[iG,ZZ,WZ] at h;rw[eJ h.1];show(!false && (backTo p<|starEach s v).all (λx=> !x.1))=true;rw[(E4 v p s h.2)];rfl
theorem fH{s:tz}(h:iG (e::s)=true):Xj e=true/\iG s=true:=by
 simp only[iG,ZZ,WZ] at h;exact h
theorem Md(G:Good d S g X)(h:EN S c l f=true):
  kZ X c.sc l f/\(∀x∈l,if l.length=1 then Yx c.sc x else c.sc.names.lookup x=some .local)/\(l++f.map (·.1)).Nodup/\xC c.i=true:=by
 simp only[EN,WZ,KK,m_,Bool.or_eq_true] at h;obtain⟨⟨⟨⟨⟨⟨⟨u,t⟩,s⟩,r⟩,q⟩,o⟩,n⟩,m⟩:=h;refine⟨⟨u,λy a b=>(t y a).resolve_left λz=>z b,λy a b=>?_,λy a k=>?_,λp j=>?_⟩,λx e=>?_,n,m⟩;rcases s y a with z|z
 cases z b;exact z;show X.env.scope.names.lookup y.1=_\/X.env.scope.names.lookup y.1=_;rw[G.sc];rcases r y a with(z|z)|z
 cases z k;exact .inl z;exact .inr z;rw[G.N];exact q p j;rcases o x e with z|z
 split;exact .inl z;exact z;rw[GT z.1];exact .inr z.2
theorem Me(d:X.calm=true){c:xB}{f:v0}(h:uZ t c.tg=some l)(a:∀x∈l,if l.length=1 then Yx c.sc x else c.sc.names.lookup x=some .local)(n:(l++f.map (·.1)).Nodup):
  xl X c.sc l f c.tg t:=by
 unfold uZ at h;split at h;rename_i x p he;cases h;rw[he];exact apG (a x aP) n;rename_i x p y q k b he;cases h;rw[he];exact aeS d (a x aP) (a y aP) n;cases h
theorem aaV{K:Frag}(h:ou K .i x H Q):(∃i,x=[.i i]/\Q (.i i) H)\/∃k,x=[.b k]/\Q (.i (if k then 1 else 0)) H:=by
 match x,h with
 |[.i i],h=>exact .inl ⟨i,O,h⟩
 |[.b k],h=>exact .inr ⟨k,O,h⟩
theorem aaW{K:Frag}(h:xa K x H Q):∃n,Kt K x H n/\Q n:=by
 match x,h with
 |.s y,h=>exact⟨_,⟨h.1,O⟩,h.2⟩
 |.r p,.inl ⟨c,a,b⟩=>exact⟨_,.inl ⟨c,a,O⟩,b⟩
 |.r p,.inr ⟨c,a,b⟩=>exact⟨_,.inr ⟨c,a,O⟩,b⟩
inductive aaX(X:Cx)(b:om):Prop where
 |fn (i:GE)(h:bootBuiltins b.nm=some (.builtin i))(c:eG X (.builtin i) (ou X.K b))
 |ty (T:GE)(h:bootBuiltins b.nm=some (.type T))(c:eG X (.type T) (ou X.K b))
theorem ahM:bootBuiltins "min"=some (.builtin "min"):=O
theorem ahL:bootBuiltins "max"=some (.builtin "max"):=O
theorem anZ:bootBuiltins "abs"=some (.builtin "abs"):=O
theorem Yd:bootBuiltins "sum"=some (.builtin "sum"):=O
theorem aaY:bootBuiltins "isinstance"=some (.builtin "isinstance"):=O
theorem aaZ:bootBuiltins "int"=some (.type "int"):=O
theorem E5:bootBuiltins "list"=some (.type "list"):=O
theorem aa0:bootBuiltins "tuple"=some (.type "tuple"):=O
theorem Mf(f:Nat->Int)(l:Nat->Nat->Gc)(h:∀i j,l i j=decide (f i<f j)):∀n,argBest l n<=n/\∀i,i<=n->f (argBest l n)<=f i
 | 0=>⟨ZX _,λi c=>by
   obtain rfl:i=0:=XZ c (Y_ _)
   exact ZT _⟩
 |n+1=>by
  obtain⟨a,b⟩:=Mf f l h n;have e:argBest l (n+1)=if l (n+1) (argBest l n)=true then n+1 else argBest l n:=O
  rw[e,h];split;refine⟨ZX _,λi c=>?_⟩;by_cases z:i=n+1;rw[z];exact ZT _;have:=b i (Yu (Xs c z));lia;refine⟨(WX a),λi c=>?_⟩;by_cases z:i=n+1;lia;exact b i (Yu (Xs c z))
theorem Mg(h:i<x.size):numAt x i=x[i].1:=by
 unfold numAt;rw[Y2 h];rfl
theorem aa1(h:i<x.size):numAt x i∈x.toList.map (·.1):=by
 rw[Mg h];exact X_.mpr ⟨x[i],aP,O⟩
theorem HI(h:n∈x.toList.map (·.1)):∃i,i<x.size/\n=numAt x i:=by
 obtain⟨y,a,rfl⟩:=X_.mp h;obtain⟨i,b,rfl⟩:=List.getElem_of_mem a;have e:=by simpa using b
 exact⟨i,e,by rw[Mg e];simp⟩
theorem aa3{b:St}{n:Ce}(I:uP X D b H s)(q:ag X.K H p (n.map V.i)):∃x:Array (Int×Tok),s.heap.IsList p (intItems x)/\n=x.toList.map (·.1):=by
 obtain⟨k,r,l,z⟩:=I.list q;have a:=Aq r;obtain⟨x,h⟩:=a.allInts.items;refine⟨x,h ▸ l.isList,?_⟩;rw[<-nums_intItems,<-h];exact(show numsOf k.toArray.toList=n from a.numsOf).symm
theorem aa4(g:X.calm=true):eG X (.builtin "min") (λx H Q=>∃(p:Do)(a:Ce),x=[.r p]/\ag X.K H p (a.map V.i)/\a≠ []/\∀m:Int,m∈a->(∀n∈a,m<=n)->Q (.i m) H):=by
 intro F s w H x A Q I r h;obtain⟨p,a,rfl,e,y,q⟩:=h;obtain⟨u,rfl,c⟩:=ZI r;cases c;obtain⟨x,l,rfl⟩:=aa3 I e;have b:0<x.size:=Nat.pos_of_ne_zero λz=>y (by rw[Array.eq_empty_of_size_eq_zero z];rfl);refine min_intList (I.ok.hd g) l b λv D B d k=>?_;obtain⟨t,rfl⟩:=intItems_at d;obtain⟨E,o⟩:=Mf (numAt x) (λi j=>decide<|numAt x i<numAt x j) (λY Y=>O) (x.size - 1);refine⟨.i _,H,I.kept k,⟨t,O⟩,q _ (aa1 aH) λn f=>?_⟩;obtain⟨i,C,rfl⟩:=HI f;exact o i aH
theorem aa5{X:sK}(h:ItemsOf (SignAt x) X x.cps.size):Wz (YU x) X.toList:=by
 have o:∀(l:bn)(a:im),a.length=l.length->(∀(j:Nat)(v:EQ),a[j]?=some v->∃(c:Nat)(t:Tok),l[j]?=some c/\v=Value.str ⟨#[c]⟩ t)->Wz (l.map λc=>V.s ⟨#[c]⟩) a:=by
  intro l;induction l with
  |nil=>
   intro a b Y;rw[Xa.mp b];exact .nil
  |cons c l k=>
   intro a b g;cases a with
   |nil=>cases b
   |cons u a=>
    obtain⟨q,t,f,e⟩:=g 0 u O;have A:=by simpa using f
    subst A;exact .cons (oM t e) (k a (by simpa using b) λj v d=>by
     obtain⟨p,i,n,m⟩:=g (j+1) v (by simpa using d);exact o3 p i (by simpa using n) m)
 refine o x.cps.toList X.toList ?_ λj v d=>?_;have:=h.1;simpa using this;obtain⟨c,t,f,e⟩:=h.2 j v (by simpa using d);exact o3 c t (by simpa using f) e
theorem aa6(x:Str):(YU x).length=x.length:=by simp[YU,Str.length]
theorem aa7(c:X.calm=true):eG X (.type "list") (λa H Q=>∃x,a=[.s x]/\x.length<=sizeLine/\∀l,H l=none->Q (.r l) (upd H l<|.l<|YU x)):=by
 intro D s g H a j Q I r h;obtain⟨x,rfl,b,q⟩:=h;obtain⟨u,rfl,t,rfl⟩:=ZI r;exact call_list_str (I.ok.hd c) x t (λd n m f k e i=>⟨.r s.heap.objs.size,_,I.laid k (ZX _) (show cN X.prog X.w _ d _ (.l<|YU x) from⟨by rw[aa6];exact b,m.toList,f,(aa5 i),by simpa using e⟩),O,q _<|I.ay.fresh<|ZX _⟩) b
theorem aa8(f:X.calm=true)(b:om):aaX X b:=by
 cases b with
 |l=>exact .fn "len" boot_len (eG.imp agA λa H Q h=>by
   rcases a with Y|⟨x,Y|⟨Y,Y⟩⟩ <;>(try exact False.elim h)
   obtain⟨n,d,c⟩:=aaW (Q:=λn=>Q (.i n) H) h;exact oG x n O d c)
 |m=>exact .fn "min" ahM (eG.imp ((Xz f).or (aa4 f)) λa H Q h=>by
   match a,h with
   |[.i i,.i j],h=>exact .inl (o3 i j O h)
   |[.r p],⟨g,d,c,q⟩=>exact .inr (oS p g O d c q))
 |max=>exact .fn "max" ahL λY Y Y Y a Y Y Y Y h=>by rcases a with Y|⟨y,Y|⟨k,Y⟩⟩ <;>first|exact False.elim h| (cases y<;>exact False.elim h)
 |s=>exact .fn "sum" Yd (eG.imp (alR f) λa H Q h=>by
   rcases a with Y|⟨x,Y|⟨Y,Y⟩⟩ <;>(try exact False.elim h) <;>cases x<;>(try exact False.elim h)
   obtain⟨g,d,c⟩:=h;exact oG _ g O d c)
 |abs=>exact .fn "abs" anZ λY Y Y Y a Y Y Y Y h=>by rcases a with Y|⟨y,Y|⟨k,Y⟩⟩ <;>first|exact False.elim h| (cases y<;>exact False.elim h)
 |i=>exact .ty "int" aaZ (eG.imp akF λa H Q h=>aaV h)
 |t=>exact .ty "list" E5 (eG.imp (Yv.or (aa7 f)) λa H Q h=>by
   rcases a with Y|⟨x,Y|⟨Y,Y⟩⟩ <;>(try exact False.elim h) <;>cases x<;>(try exact False.elim h)
   exact .inr (nT _ O h.1 h.2);obtain⟨o,d,c⟩:=h;exact .inl (oG _ o O d c))
 |e=>exact .ty "tuple" aa0 λY Y Y Y a Y Y Y Y h=>by rcases a with Y|⟨y,Y|⟨k,Y⟩⟩ <;>first|exact False.elim h| (cases y<;>exact False.elim h)
structure aa9(X:Cx)(m:iX)(id:GE):Prop where
 pa:PlainAttrs (uW m)
 slot:Slot (uW m) m.nm id
 ty:typeOf (.builtin id)=pure (.type "method_descriptor")
 mt:uN X id (sI X.K m)
theorem aba{f:wT}(r:KV K' f)(k:gS)(h:ox K' k=some v):∃u,valueAt f k=some u/\lA v u:=by
 induction r with
 |nil=>cases h
 | @cons p q c s j t i=>
  obtain⟨g,l⟩:=j;by_cases e:p.1=k;have d:=g.symm.trans e;have b:valueAt (q::s) k=some q.2:=by simp[valueAt,Z8,d]
  have a:ox (p::c) k=some p.2:=by simp[ox,Z8,e]
  rw[a] at h;cases h;exact⟨_,b,l⟩;have d:¬q.1=k:=λz=>e (g.trans z);have b:valueAt (q::s) k=valueAt s k:=by simp[valueAt,Z8,d]
  have a:ox (p::c) k=ox c k:=by simp[ox,Z8,e]
  rw[a] at h;rw[b];exact i h
theorem abb(E:∀p a,f p a->∀h:FS,X.K.In h->∃b,KV a b/\h.DictOf (d_ X.prog X.w) p b):mD X (LR f):=by
 intro e c D s t H x y v u Q I i g h l;obtain⟨p,a,k,z,zq⟩:=YC h;obtain⟨rfl,rfl,m,n,q⟩:=Y7 zq;cases i;obtain⟨b,r,d⟩:=E p a m s.heap I.dA;obtain⟨w,o,j⟩:=aba r k n;exact tA d.mapOf.typeIs PySem.F.slot_dict_getitem.lookup
  (wpAny_getItem_of (uQ g) d.mapOf o ⟨O,z,H,I.tok _,j,q⟩) l
theorem abc(E:∀p a,s p a->∀h:FS,X.K.In h->∃v,KV a v/\h.DictOf (d_ X.prog X.w) p v):mD X (qf X.K s):=Yk.or (aoN.or<|aoG.or<|abb E)
theorem abd:uN X "list.index" (λx b H Q=>∃(l:Do)(y:V)(a:db),x=.r l/\b=[y]/\ag X.K H l a/\iS y=true/\a.all iS=true/\df y a=true/\Q (.i (a.findIdx (λz=>f_ z y):Nat)) H):=by
 intro D' s Z H x b v us Q I B C h;obtain⟨l,y,a,zq⟩:=jR h;obtain⟨rfl,rfl,L,S,m,G,q⟩:=AP zq;cases B;obtain⟨u,rfl,D⟩:=ZI C;obtain⟨k,r,⟨⟨W,U,t,A⟩,n,o,R,N,P⟩,hz⟩:=I.list L;subst R P;have c:=r.length;have e:∀j (g:j<k.length) (f:j<a.length),gF y k[j]=f_ a[j] y:=λj g f=>by
  obtain⟨w,T,E⟩:=r.get (i:=j) (x:=a[j]) aP;have p:=XB g;rw[T] at p;rw[<-lF p];exact Eb E<|m_.mp m _<|List.getElem_mem f
 have d:=List.findIdx_lt_length.mpr (List.any_eq_true.mp G);have hn:=rY;refine PP PySem.F.slot_list_index ⟨_,o,O⟩ PySem.F.entry_list_index (PySem.F.args_list_index_2 _ _)
  (PySem.SeqAt.list_indexAt l k.toArray n U A u (gF y) (a.findIdx λz=>f_ z y) bc aH ?_ ?_) ⟨o,λz J=>wY D S r m z (by simpa using J),⟨.i _,H,I.tok _,⟨_,O⟩,q⟩⟩
 show gF y k[a.findIdx λz=>f_ z y]=true;rw[e _ (ZP d (XX c)) d];exact List.findIdx_getElem (w:=d);intro j M Y;show gF y k[j]=false;rw[e j M (YR Y d)];simpa using List.not_of_lt_findIdx Y
theorem Mh(m:iX):∃G,aa9 X m G:=by
 cases m with
 |a=>exact oM _ ⟨P3,sQ,F.type_list_append,λD s g H x b v u Q I k n h=>by
   cases x<;>(try exact False.elim h) <;>rcases b with Y| ⟨d,Y| ⟨Y,Y⟩⟩ <;>(try exact False.elim h)
   obtain ⟨z,q,o,w⟩:=h;exact YE D s g H _ _ v u Q I k n (pE _ z _ O O q o w)⟩
 |p=>exact oM _ ⟨P3,F.slot_list_pop,F.type_list_pop,λD s g H x b v u Q I k n h=>by
   cases x<;>(try exact False.elim h) <;>rcases b with Y| ⟨Y,Y⟩ <;>(try exact False.elim h)
   obtain ⟨z,y,q,o,w⟩:=h;exact aoP D s g H _ _ v u Q I k n (pE _ z y O O q o w)⟩
 |e=>exact oM _ ⟨P3,F.slot_list_extend,F.type_list_extend,λD s g H x b v u Q I k n h=>by
   cases x<;>(try exact False.elim h) <;>rcases b with Y| ⟨d,Y| ⟨Y,Y⟩⟩ <;>(try exact False.elim h) <;>cases d<;>(try exact False.elim h)
   obtain ⟨C,z,zq⟩:=Z2 h;obtain ⟨q,o,w,B⟩:=YG zq;exact afD D s g H _ _ v u Q I k n (oT _ _ C z O O q o w B)⟩
 |j=>exact oM _ ⟨TD,F.slot_str_join,F.type_str_join,λD s g H x b v u Q I k n h=>by
   cases x<;>(try exact False.elim h) <;>rcases b with Y| ⟨d,Y| ⟨Y,Y⟩⟩ <;>(try exact False.elim h) <;>cases d<;>(try exact False.elim h)
   obtain ⟨E,q,o,w⟩:=h;exact aoB D s g H _ _ v u Q I k n (pE _ _ E O O q o w)⟩
 |l=>exact oM _ ⟨TD,F.slot_str_lstrip,F.type_str_lstrip,λD s g H x b v u Q I k n h=>by
   cases x<;>(try exact False.elim h) <;>rcases b with Y| ⟨d,Y| ⟨Y,Y⟩⟩ <;>(try exact False.elim h) <;>cases d<;>(try exact False.elim h)
   obtain ⟨q,o⟩:=h;exact aaa D s g H _ _ v u Q I k n (oS _ _ O O q o)⟩
 |s=>exact oM _ ⟨TD,F.slot_str_startswith,F.type_str_startswith,λY Y Y Y x b Y Y Y Y Y Y h=>by cases x<;>rcases b with Y| ⟨d,Y| ⟨A,Y⟩⟩ <;>first|exact False.elim h| (cases d<;>exact False.elim h)⟩
 |f=>exact oM _ ⟨TD,F.slot_str_find,F.type_str_find,λY Y Y Y x b Y Y Y Y Y Y h=>by cases x<;>rcases b with Y| ⟨d,Y| ⟨A,Y⟩⟩ <;>first|exact False.elim h| (cases d<;>exact False.elim h)⟩
 |t=>exact oM _ ⟨TD,F.slot_str_count,F.type_str_count,λY Y Y Y x b Y Y Y Y Y Y h=>by cases x<;>rcases b with Y| ⟨d,Y| ⟨A,Y⟩⟩ <;>first|exact False.elim h| (cases d<;>exact False.elim h)⟩
 |r=>exact oM _ ⟨P3,F.slot_list_reverse,F.type_list_reverse,λY Y Y Y x b Y Y Y Y Y Y h=>by cases x<;>rcases b with Y| ⟨d,Y| ⟨A,Y⟩⟩ <;>first|exact False.elim h| (cases d<;>exact False.elim h)⟩
 |i=>exact oM _ ⟨P3,F.slot_list_index,F.type_list_index,λY Y Y Y x b Y Y Y Y Y Y h=>by cases x<;>rcases b with Y| ⟨d,Y| ⟨A,Y⟩⟩ <;>first|exact False.elim h| (cases d<;>exact False.elim h)⟩
 |LK=>exact oM _ ⟨P3,F.slot_list_count,F.type_list_count,λY Y Y Y x b Y Y Y Y Y Y h=>by cases x<;>rcases b with Y| ⟨d,Y| ⟨A,Y⟩⟩ <;>first|exact False.elim h| (cases d<;>exact False.elim h)⟩
 |xx=>exact oM _ ⟨P3,F.slot_list_index,F.type_list_index,λD s g H x b v u Q I k n h=>by
   cases x<;>(try exact False.elim h) <;>rcases b with Y| ⟨d,Y| ⟨Y,Y⟩⟩ <;>(try exact False.elim h)
   obtain ⟨z,zq⟩:=XM h;obtain ⟨q,o,w,B,J⟩:=Y7 zq;exact abd D s g H _ _ v u Q I k n (p4 _ _ z O O q o w B J)⟩
 |c=>exact oM _ ⟨P3,F.slot_list_clear,F.type_list_clear,λD s g H x b v u Q I k n h=>by
   cases x<;>(try exact False.elim h) <;>rcases b with Y| ⟨Y,Y⟩ <;>(try exact False.elim h)
   obtain ⟨z,q,o⟩:=h;exact aeT D s g H _ _ v u Q I k n (oS _ z O O q o)⟩
theorem abf{p:St}{Q:ge}{E:ge}(I:uP X D p H s)(c:lA x u)(h:cp T x H n)(g:∀b k,n b->Q (.bool b) {s with toks:=k}):wpAny (model X.prog X.w) X.A (call (.builtin "isinstance") [u,.type T.nm]) Q E s:=by
 match x,c,h with
 |.a,c,h=>exact nX I c (.au) (aoT _ T) λk=>g _ _ h
 |.b b,c,h=>exact nX I c (.bl b) (p_ X.K .b T) λk=>g _ _ (by cases T<;>exact h)
 |.i i,c,h=>exact nX I c (.int i) (p_ X.K .i T) λk=>g _ _ (by cases T<;>exact h)
 |.s i,c,h=>exact nX I c (.str i) (p_ X.K .s T) λk=>g _ _ (by cases T<;>exact h)
 |.r a,c,h=>
  cases e:H a with
  |none=>simp only[cp,e] at h
  |some o=>
   match o,e with
   |.l j,e=>simp only[cp,e] at h;exact nX I c (.lst e) (p_ X.K .l T) λk=>g _ _ aH
   |.b f (.l j),e=>simp only[cp,e] at h;exact nX I c (.bV e) (p_ X.K .l T) λk=>g _ _ aH
   |.t j,e=>simp only[cp,e] at h;exact nX I c (.tup e) (p_ X.K .t T) λk=>g _ _ aH
   |.d j,e=>simp only[cp,e] at h;exact nX I c (.dK e) (p_ X.K .d T) λk=>g _ _ aH
   |.T j,e=>simp only[cp,e] at h;exact nX I c (.dT e) (p_ X.K .d T) λk=>g _ _ aH
   |.s _ _,e=>simp only[cp,e] at h
   |.i _ _ _,e=>simp only[cp,e] at h
   |.o _,e=>simp only[cp,e] at h
   |.xd _,e=>simp only[cp,e] at h
   |.m _ _,e=>simp only[cp,e] at h
   |.fk _ _,e=>simp only[cp,e] at h
   |.q _,e=>simp only[cp,e] at h
   |.e _,e=>simp only[cp,e] at h
   |.b f (.t j),e=>simp only[cp,e] at h
   |.b f (.d j),e=>simp only[cp,e] at h
   |.b f (.T j),e=>simp only[cp,e] at h
   |.b f (.s _ _),e=>simp only[cp,e] at h
   |.b f (.i _ _ _),e=>simp only[cp,e] at h
   |.b f (.o _),e=>simp only[cp,e] at h
   |.b f (.xd _),e=>simp only[cp,e] at h
   |.b f (.m _ _),e=>simp only[cp,e] at h
   |.b f (.fk _ _),e=>simp only[cp,e] at h
   |.b f (.q _),e=>simp only[cp,e] at h
   |.b f (.e _),e=>simp only[cp,e] at h
   |.b f (.b _ _),e=>simp only[cp,e] at h
theorem abg(T:Ty):bootBuiltins (Str.ofString T.nm)=some (.type T.nm):=by cases T<;>decide+kernel
theorem abh(T:Ty):eG X (.builtin "isinstance") (AE T):=by
 intro D s f H a g Q I r h;match a,r,h with
 |[x,.t n],r,⟨e,h⟩=>
  subst e;obtain⟨u,w,rfl,c,j⟩:=X3 r;cases j;exact abf I c h λb k d=>⟨.b b,H,I.tok k,O,d⟩
theorem abi(e:PE X a c)(d:Xj a=true)(g:Gl X "isinstance")(m:X.mg "isinstance"=none)(b:Gl X (Str.ofString T.nm))(h:X.mg (Str.ofString T.nm)=none):
  PE X (.Call (.Name "isinstance" p) [a,.Name (Str.ofString T.nm) q] [] s) (iR (AE T)<|fX c<|fX (tC<|.t T.nm) kW):=by
 have f:PE X (.Name (Str.ofString T.nm) q) (tC<|.t T.nm):=agL b h (abg T) O (by cases T<;>decide) (by cases T<;>decide);exact KL (abh T) g m aaY (pT e (pT f wQ O)<|eJ d) aQ (O) (eJ d) O
theorem abl:Ai X (uY X.K):=by
 intro G s y H x v m j o b A Q I c q n p h;match x,c,h with
 |.r a,c,.inl ⟨g,f,d⟩=>exact aqA G s y H _ v m j o b A Q I c q n p (oG a g O f d)
 |.r a,c,.inr ⟨g,f,d,M⟩=>exact aiI G s y H _ v m j o b A Q I c q n p (oS a g O f d M)
 |.s z,c,⟨f,d⟩=>
  obtain⟨t,rfl⟩:=c;obtain⟨l,P,C⟩:∃l:Option (Int×Tok),m=partValue l/\l.map (·.1)=o:=by
   cases n with
   |none=>exact nS none O O
   |int i t=>exact nS (some (i,t)) O O
  obtain⟨u,N,B⟩:∃u:Option (Int×Tok),j=partValue u/\u.map (·.1)=b:=by
   cases p with
   |none=>exact nS none O O
   |int i t=>exact nS (some (i,t)) O O
  subst P N;refine oG ("str") _ F.slot_str_getitem.lookup (typeIs_str _ _ _) ?_;refine wpAny_getItem_str_slice (l:=l) (u:=u) (st:=none) q O ?_;obtain⟨U,T,S⟩:=Ea o b z.length;have L:slicePicked z l u none=(List.range<|HT.aZ z.length z.length b - HT.aZ z.length 0 o).map (HT.aZ z.length 0 o+ ·):=by
   show Builtin.Str.strSliceIndices (l.map (·.1)) (u.map (·.1)) 1 z.length=_;rw[C,B];have R:Builtin.Str.strSliceIndices o b 1 z.length=sliceRange (sliceBounds o b none z.length).1 (sliceBounds o b none z.length).2.1 (sliceBounds o b none z.length).2.2:=O;rw[R,U,T,S,sliceRange_one]
  have E:((slicePicked z l u none).filterMap (z.cps[·]?))=oi z.cps.toList o b:=by
   show(Builtin.Str.strSliceIndices (l.map (·.1)) (u.map (·.1)) 1 z.length).filterMap (z.cps[·]?)=_;rw[C,B,aab]
  have D:z.cps.toList.length=z.length:=by simp[Str.length]
  have Z:=HT.D6 z.length 0 (Y_ _) o;have Y:=HT.D6 z.length z.length (ZX _) b;unfold sliceMade;refine post_val_or_made (λ_=>?_) λJ k=>?_;show(List.toArray ((slicePicked z l u none).filterMap (z.cps[·]?))).size<=sizeLine;rw[E,WD];have:(oi z.cps.toList o b).length<=z.cps.toList.length:=by unfold oi;simp only[Xg,Yj];lia
  lia;have e:(if (((none:Option (Int×Tok)).map (·.1)).getD 1==1 && (slicePicked z l u none).length==z.length)=true then z else ⟨((slicePicked z l u none).filterMap (z.cps[·]?)).toArray⟩)=oj z o b:=by
   split;rename_i hq;simp only[WZ,Uf] at hq;have w:=hq.2;rw[L,Wo,Zd] at w;have W:HT.aZ z.length 0 o=0:=by lia
   have V:HT.aZ z.length z.length b=z.length:=by lia
   unfold oj oi;rw[D,W,V,<-D,Zf,Zg,Hd];rw[E];rfl
  rw[e];exact⟨.s _,H,I.tok k,oM J O,d⟩
theorem abn:z7 X (unaryOp .USub) LQ:=by
 intro D s a H x v Q I r h;match x,r,h with
 |.i i,r,h=>exact aoL D s a H _ v Q I r ⟨i,O,h⟩
theorem abo(g:PE X a t):PE X (.UnaryOp .Not a p) (EI X.K t):=by
 intro D s d H Q I h;exact UnaryOp_<|aF (g D s d H _ I h) λv e ⟨x,k,j,r,f⟩=>not_of (aF (Ks D e d k x v (λb c=>Q (.b<|!b) c) j r<|LP f) λb l ⟨c,i,q⟩=>⟨.b<|!b,c,i,O,q⟩)
theorem Mi(d:PE X a t)(e:∀w,isTrue a X.env w=(do let v <-w;standAt a.pos;holding [v] (truthy v))):PT X a (jv X.K t):=by
 intro D s b H Q I h;exact isTrue_plain (aF (d D s b H _ I h) λv c ⟨x,g,f,r,q⟩=>Ks D c b g x v Q f r (LP q))<|e _
theorem abp{s:tz}(c:PE X o b)(f:PA X (e::s) t)(d:qj o=true)(l:(a.endLine==I.line)=true)(n:(e::s).length<29)(h:starEach (e::s) X.env=(false,eval e X.env)::starEach s X.env)(i:(backTo I<|starEach s X.env).any (·.1)=false)(g:(backTo I<|starEach (e::s) X.env).all (λx=> !x.1)=true):
  PE X (.Call (.Attribute o m.nm a) (e::s) [] I) (uX X.K m b t):=by
 obtain⟨j,M⟩:=Mh m;exact apJ M.pa M.slot M.ty M.mt c f (sq d) (by
  rw[g];show(true && true && decide ((e::s).length+0+0<30))=true;rw[W_ aH];rfl) l h i
theorem abq(h:PE X o t)(b:qj o=true)(l:(a.endLine==e.line)=true):
  PE X (.Call (.Attribute o m.nm a) [] [] e) (uX X.K m t kW):=by
 obtain⟨i,M⟩:=Mh m;exact aeY M.pa M.slot M.ty M.mt h (sq b) l
theorem Mj{a:tz}{Q:ge}{E:ge}{A:FM}{s:Ev}{g:Fk}{w:Fa}(q:qj o=true)(k:(b.endLine==p.line)=true)(y:a.length<29)(n:(backTo p<|starEach a v).all (λx=> !x.1)=true)(h:wpAny (model g w) A (eval o v) (λi d=>∀j,wpAny (model g w) A (getMethod i m j) (λf c=>wpAny (model g w) A (callWith p f.1 f.2 (backTo p<|starEach a v)<|backToKw p<|keywordEach [] v) Q E c) E d) E s):
  wpAny (model g w) A (eval (.Call (.Attribute o m b) a [] p) v) Q E s:=by
 have r:methodCallForm (a.length+0) (backTo p<|starEach a v) (backToKw p<|keywordEach [] v)=true:=by
  show((backTo p<|starEach a v).all (λx=> !x.1) && true && decide (a.length+0+0<30))=true;rw[n,W_ aH];rfl
 have l:methodCallPos true o v b p=pure p:=by unfold methodCallPos;simp[k]
 rw[arm_eval_Call,sq q];refine GM<|KM h (λi d u=>GM<|Tk ?_) λY Y e=>e;unfold methodCall;rw[show([]:List Keyword).length=0 from O,r];exact GM<|No<|KM (u _) (λf c t=>GM<|wpAny_of_eq l t) λY Y e=>e
theorem abt{g:tz}(M:AM d X C m n)(K:hV d X E)(P:PE X o j)(U:PA X (e::g) t)(T:qj o=true)(S:(b.endLine==p.line)=true)(R:(e::g).length<29)(L:starEach (e::g) X.env=(false,eval e X.env)::starEach g X.env)(W:(backTo p<|starEach g X.env).any (·.1)=false)(V:(backTo p<|starEach (e::g) X.env).all (λx=> !x.1)=true):
  PE X (.Call (.Attribute o m b) (e::g) [] p) (r9 C m n [] E j t):=by
 obtain⟨c,k,f,fd,ps,w,F,N,A⟩:=M;intro D s i H Q I h;refine Mj T S R V<|aF (P D s i H _ I h) λu B ⟨x,H1,z,G,a,dx,fs,Y,Z,l,q⟩=>λpl=>?_;subst Y;obtain rfl:u=Value.ref a:=G;exact Kw z Z c w l (callWith_K I.ok.mod.wL w.kp (aF (U p D B i H1 _ z q) λus s2 ⟨v,H2,y,r,J⟩=>⟨y.dA,D4 (vs:=.r a::v) F N A .nil K y (.cons O r) J⟩) L W)
theorem abu{g:Sp}(M:AM d X C m g)(w:hV d X E)(z:PE X o t)(B:qj o=true)(A:(b.endLine==p.line)=true):
  PE X (.Call (.Attribute o m b) [] [] p) (r9 C m g [] E t kW):=by
 obtain⟨c,k,f,S,N,i,F,y,n⟩:=M;intro J s j H Q I h;refine Mj B A aP O<|aF (z J s j H _ I h) λu L ⟨x,U,e,v,a,T,R,D,G,l,q⟩=>λP=>?_;subst D;obtain rfl:u=Value.ref a:=v;exact Kw e G c i l (PySem.W.callWith_K0 e.dA i.kp<|D4 (vs:=[.r a]) F y n .nil w e (.cons O .nil) q)
variable{a:Fk}{w:Fa}{A:FM}{E:ge}{s:Ev}
theorem Ml{l:Do}{b:sK}(j:l≠t):∀(n i:Nat)(s:Ev)(Q:im->Ev->Prop),s.heap.IsListIter t l i->s.heap.IsList l b->i+n<=b.size->
  (∀e,e.IsListIter t l (i+n)->Heap.SameBut t s.heap e->Q ((b.toList.drop i).take n) {s with heap:=e})->wpAny (model a w) A (draw (.ref t) n) Q E s
 | 0,i,s,Q,h,_,_,d=>by
  exact IO (by simpa using d s.heap h (Heap.SameBut.refl ..))
 |n+1,i,s,Q,h,g,k,d=>by
  have B:i<b.size:=by lia
  refine GM<|wpAny_pyNext_list_item h g (x:=b[i]) aP λf o Z=>?_;refine GM<|No<|Ml j n (i+1) _ _ o (g.extBut Z.extBut j) aH λc v S=>IO ?_;have m:b.toList.drop i=b[i]::b.toList.drop (i+1):=by simp[Z3,B]
  have:=d c aH (Z.trans S);rw[m] at this;exact this
theorem abw{i:sK}{Q:im->Ev->Prop}(l:A.handled=none)(d:s.heap.IsList t i)(n:∀j,Heap.ExtBut s.heap.objs.size s.heap j->Q i.toList {s with heap:=j}):wpAny (model a w) A (unpackItems (.ref t) i.size none) Q E s:=by
 have B:t≠s.heap.objs.size:=by obtain⟨o,k,Y⟩:=d;exact Ze (IN k)
 refine GM ?_;refine GM<|ST d.typeIs slot_list_iter.lookup ?_;refine IO ?_;refine GM<|No<|wpAny_pyIter_list d (GM<|No<|Ml B i.size 0 _ _ ⟨_,Nr _ O,O,O⟩ (d.push _) (XX (Yn _ _)) λf p Z=>?_);have m:List.take i.size (List.drop 0 i.toList)=i.toList:=by
  exact Wc aP
 rw[m];rw[Id aP];refine GM<|No<|wpAny_pyNext_list_end l p ((d.push _).extBut Z.extBut B) aP λc h=>?_;refine IO<|n c λb o g e=>h b o g (Z.extBut b o g<|KF _ e)
theorem abz{e:tz}{t:Do}{i:sK}{Q:AT}(f:A.handled=none)(d:s.heap.IsList t i)
  (n:(assignEach e v).length=i.size) (b:(assignEach e v).findIdx? (·.1)=none)
  (h:∀c,Heap.ExtBut s.heap.objs.size s.heap c->wpAny (model a w) A (assignInOrder ((assignEach e v).map (·.2)) i.toList) Q E {s with heap:=c}):
  wpAny (model a w) A (assign (.Tuple e x p) v<|.ref t) Q E s:=by
 refine GM<|Tk ?_;unfold unpack;rw[n,b];exact GM<|No<|abw f d h
end
def oB(K:Frag)(n:Nat)(t:mz):TG:=λv b H Q=>∃a x,v=.r a/\(aA K H a x\/ag K H a x)/\x.length=n/\t x b H Q
theorem Mm(g:X.calm=true)(h:uJ X c t)(f:(assignEach c X.env).length=n)(V:(assignEach c X.env).findIdx? (·.1)=none):PG X (.Tuple c k p) (oB X.K n t):=by
 intro D s d H v u Q I r w;obtain⟨a,x,i,q,l,w⟩:=w;rcases q with q|q
 exact J7 g h f V D s d H v u Q I r (oS a x i q l w);subst i;cases r;obtain⟨B,j,y,z⟩:=I.list q;refine abz (I.ok.hd g) y.isList (by simp[f,<-l,j.length]) V λA m=>?_;exact h D _ d H x _ Q (I.kept λb o e=>m b o (Ze<|IN e) e) aH w
def mK:bn->mz
 |[]=>DS
 |i::r=>zY (gA i) (mK r)
def gSl(t:TE)(f h:TO):TG:=λv d H Q=>t d H λo k=>f d k λi g=>h d g λj e=>∃l b x y a c,o=.r l/\v=.r b/\i=some a/\j=some c/\e l=some (.l x)/\e b=some (.l y)/\l≠b/\
 0<=a/\a<=c/\c<=x.length/\x.length+y.length<=sizeLine/\Q d (upd e l<|.l<|x.take a.toNat++y++x.drop c.toNat)
mutual
def dC(Γ:ba):RS->TS
 |.a i e=>kS (af Γ e) (gA i)
 |.uV i e=>kS (af Γ e) (gA i)
 |.s o ix e=>kS (af Γ e) (J8 (af Γ o) (af Γ ix) Aj)
 |.t o i e=>Lc (af Γ o) (af Γ i) (af Γ e)
 |.d e=>JZ (af Γ e)
 |.r e=>J0 (af Γ e)
 |.aam=>WI
 |.i c t e=>J3 (a_ Γ c) (av Γ t) (av Γ e)
 |.g i k ak body=>zZ (iY Γ k ak) (gA i) (av Γ body)
 |.k is k ak body=>zZ (iY Γ k ak) (oB Γ.K is.length<|mK is) (av Γ body)
 |.R c body=>J_ (a_ Γ c) (av Γ body)
 |.pass=>DQ
 |.brk=>afK
 |.c=>JY
 |.n=>aiG
 |.aan o lo hi e=>kS (af Γ e) (gSl (af Γ o) (si<|af Γ lo)<|si<|af Γ hi)
 |.f o f e=>Ac Γ.K (af Γ o) (af Γ e) f
 |.q is e=>kS (af Γ e) (oB Γ.K is.length<|mK is)
 |.j j as=>EG (Γ.ex j) Γ.E (aR Γ as)
 |.EH n i j body su=>λD σ H=>∃C,Γ.gv j=.r C/\AD Γ.K C i n (λE=>av {Γ with E:=E} body) (λea=>av {Γ with E:=E0,h:=some ea} su) D σ H
 |.aao k i j f as su=>λD σ H=>∃C,Γ.gv j=.r C/\aae Γ.K C i k (Γ.fs f) (aR {Γ with E:=E0} as) (λea=>av {Γ with E:=E0,h:=some ea} su) D σ H
 |.xs T=>T Γ
def av(Γ:ba):jp->TS
 |[]=>DQ
 |s::r=>JW (dC Γ s) (av Γ r)
end
noncomputable def xJ:Expr->Gc
 |.Slice ..=>false|_=>true
noncomputable def xM:Expr->Gc
 |.ListComp ..=>false|.SetComp ..=>false|.DictComp ..=>false|_=>true
noncomputable def Mn(c:Scope)(x:Str)(l:Nat)(s:Scope)(p:Pos):Gc:=
 decide (c.kind=.function) && decide (c.names.lookup x=some .local) && (l==p.line) && !(s.names.any fun(n,k)=>n==x && (k==.local ||k==.cell))
def sM(N:ca)(c:Scope):bn->ca->Gc
 |[],s=>s.isEmpty
 |i::r,s=>match s with
  |[]=>false
  |x::t=>decide (N[i]?=some x) && Wn c x && sM N c r t
structure dQ(CX:cP)(S:cZ)(Γ:ba)(X:Cx):Prop extends Good CX S Γ X where
 nd:S.N.Nodup
 qo:∀x,X.fn x=true
 own:PassesOwn (model X.prog X.w) X.A X.env X.xe
 va:X.env.scope.kind=.function
 rs:∀(j:Nat)(x:Str),S.en[j]?=some x->x3 X Γ.E
 kQ:X.stack=X.env::X.r
 iZ:X.env.frame=some X.env.locals
 vb:X.ex=[]
 vc:CX=gX X.prog X.w
def qV(S:cZ)(i:Nat)(x:Str):Gc:=decide (S.N[i]?=some x) && Xf S.sc x && !(x==("__debug__":Str)) && !(x==("__classdict__":Str))
def kG(S:cZ)(j:Nat)(x:Str):Gc:=decide (S.gn[j]?=some x) && qi S.sc x && !(x==("__debug__":Str))
def kF(S:cZ)(j:Nat)(x:Str):Gc:=decide (S.fn[j]?=some x) && qi S.sc x && !(x==("__debug__":Str))
def kK(S:cZ)(j:Nat)(x:Str):Gc:=decide (S.kn[j]?=some x) && qi S.sc x && !(x==("__debug__":Str))
def kB(S:cZ)(x y:Str):Gc:=decide (x=y) && qi S.sc x && S.bl.contains x
def kM(o:Expr)(m:Str)(x:Str)(n:Nat)(a c:Pos):Gc:=decide (x=m) && qj o && (a.endLine==c.line) && decide (n<29)
def kL(S:cZ)(i:Nat)(x:Str):Gc:=decide (S.N[i]?=some x) && Wn S.sc x
section
variable{w:cP}{S:cZ}{g:ba}{X:Cx}{e D a b c d:Expr}{n:tz}{x:Str}{p q B:Pos}{r l z E:RE}{A:wn}{i j:Nat}
theorem aM(G:Good w S g X)(h:autoParam (qV S i x=true) ei):PE X (.Name x p) (af g<|.v i):=by
 simp only[qV,WZ,KK,Ot] at h;exact apW (G.N▸h.1.1.1) (G.sc▸aaz h.1.1.2) h.1.2 h.2
theorem gZ:PE X (.Constant (.int v) k p) (af g<|.c<|.i v):=aaU
theorem oC:PE X (.Constant (.str v) k p) (af g<|.c<|.s v):=aqB
theorem E8:PE X (.Constant (.bool v) k p) (af g<|.c<|.b v):=apY
theorem E9:PE X (.Constant .none k p) (af g<|.c .a):=apN
theorem d_g(G:Good w S g X)(h:autoParam (kG S j x=true) ei):PE X (.Name x p) (af g<|.g j):=by
 simp only[kG,WZ,KK,Ot] at h;obtain⟨u,m,r⟩:=G.fG j x h.1.1;exact JP (G.gl h.1.2) m r h.2
theorem xO(G:Good w S g X)(c:PE X a (af g l))(h:PE X b (af g z)):PE X (.BinOp a o b p) (af g<|.b o l z):=by
 show PE X _ (gB (og g.K o) (af g l)<|af g z);rw[<-G.K];exact aeZ (aoV o) c h
theorem abD(h:PE X a (af g l)):PE X (.UnaryOp .USub a p) (af g<|.n l):=W0 abn h
theorem Mo(G:Good w S g X)(d:PE X a (af g l))(c:PE X b (af g z))(h:autoParam (behindInMarks o b=false) ei):PE X (.Compare a [o] [b] p) (af g<|.p o l z):=by
 show PE X _ (gB (dh g.K o) (af g l)<|af g z);rw[<-G.K];exact akL (Az G.units o) d c h
theorem abE(G:Good w S g X)(f:PE X a (af g l))(e:PE X b (af g z))(d:PE X c (af g E))(m:autoParam (lastMarks [o,h] [b,c]=false) ei):PE X (.Compare a [o,h] [b,c] p) (af g<|.xy o h l z E):=by
 show PE X _ (z_ (dh g.K o) (dh g.K h) (af g l) (af g z)<|af g E);rw[<-G.K];exact aiB (Az G.units o) (Az G.units h) f e d m
theorem abF(h:PE X e (af g r)):PE X (.BoolOp .And [e] p) (af g<|.d [r]):=alK h
theorem abG(h:PE X e (af g r))(t:PE X (.BoolOp .And (D::n) p) (af g<|.d (r2::A))):PE X (.BoolOp .And (e::D::n) p) (af g<|.d (r::r2::A)):=akK h t
theorem abH(G:Good w S g X)(h:PE X a (af g l)):PE X (.UnaryOp .Not a p) (af g<|.N l):=by
 show PE X _ (EI g.K<|af g l);rw[<-G.K];exact abo h
theorem abI(h:PT X c (a_ g E))(e:PE X a (af g l))(d:PE X b (af g z)):PE X (.IfExp c a b p) (af g<|.k E l z):=acC h e d
theorem c6:PA X [] (aR g []):=wQ
theorem b_(h:PE X e (af g r))(t:PA X n (aR g A))(s:autoParam (Xj e=true) ei):PA X (e::n) (aR g (r::A)):=pT h t (eJ s)
theorem lG(G:Good w S g X)(o:PA X (e::n) (aR g (r::A)))(h:autoParam (kF S j x=true) ei)(a:autoParam (iG (e::n)=true) ei)(q:autoParam (S.m=0) cu):PE X (.Call (.Name x p) (e::n) [] B) (af g<|.l j (r::A)):=by
 simp only[kF,WZ,KK,Ot] at h;obtain⟨k,f,t,s,zq⟩:=YC (G.l q j x h.1.1);obtain⟨F,b,c,d,i⟩:=Y7 zq;exact aoE F b (G.gl h.1.2) c d i .nil G.P o h.2 (eJ (fH a).1)<|mI _ _ n (fH a).2
theorem Mp(G:Good w S g X)(i:PA X (e::n) (aR g (r::A)))(h:autoParam (kK S j x=true) ei)(a:autoParam (iG (e::n)=true) ei)(q:autoParam (S.m=0) cu):PE X (.Call (.Name x p) (e::n) [] B) (af g<|.m j (r::A)):=by
 simp only[kK,WZ,KK,Ot] at h;obtain⟨k,f,l,s,zq⟩:=YC (G.sJ q j x h.1.1);obtain⟨M,F,b,c,d⟩:=Y7 zq;exact X0 M F b (G.gl h.1.2) c d .nil G.P i h.2 (eJ (fH a).1)<|mI _ _ n (fH a).2
theorem oE(G:Good w S g X)(f:PA X (e::n) (aR g (r::A)))(h:autoParam (kB S x t.nm=true) ei)(a:autoParam (iG (e::n)=true) ei)(q:autoParam (S.m=0) cu):PE X (.Call (.Name x p) (e::n) [] B) (af g<|.t t (r::A)):=by
 simp only[kB,WZ,KK] at h;obtain⟨⟨rfl,j⟩,i⟩:=h;have d:t.nm≠"__name__":=by cases t<;>decide
 have b:(t.nm==("__debug__":Str))=false:=by cases t<;>decide
 show PE X _ (iR (ou g.K t)<|aR g (r::A));rw[<-G.K];cases aa8 (G.calm q) t with
 |fn k v c=>exact KL c (G.gl j) (G.gY _ i) v f d b (eJ (fH a).1) (mI _ _ n (fH a).2)
 |ty T v c=>exact anD c (G.gl j) (G.gY _ i) v f d b (eJ (fH a).1) (mI _ _ n (fH a).2)
theorem Vj(G:Good w S g X)(d:PE X a (af g l))(h:autoParam (kB S x "isinstance"=true) ei)(b:autoParam (kB S y (Str.ofString T.nm)=true) ei)(s:autoParam (Xj a=true) ei):PE X (.Call (.Name x p) [a,.Name y q] [] B) (af g<|.G T l):=by
 simp only[kB,WZ,KK] at h b;obtain⟨⟨rfl,f⟩,e⟩:=h;obtain⟨⟨rfl,c⟩,k⟩:=b;exact abi d s (G.gl f) (G.gY _ e) (G.gl c)<|G.gY _ k
theorem Mq{a:Pos}(G:Good w S g X)(b:PE X o (af g r))(h:autoParam (kM o m.nm x 0 a B=true) ei):PE X (.Call (.Attribute o x a) [] [] B) (af g<|.Q m r []):=by
 simp only[kM,WZ,KK] at h;obtain⟨⟨⟨rfl,d⟩,c⟩, -⟩:=h;show PE X _ (uX g.K m (af g r) kW);rw[<-G.K];exact abq b d c
theorem Mr{a:RE}(G:Good w S g X)(c:PE X o (af g a))(d:PA X (e::n) (aR g (r::A)))(h:autoParam (kM o m.nm x (n.length+1) p B=true) ei)(b:autoParam (iG (e::n)=true) ei):PE X (.Call (.Attribute o x p) (e::n) [] B) (af g<|.Q m a (r::A)):=by
 simp only[kM,WZ,KK] at h;obtain⟨⟨⟨rfl,j⟩,i⟩,f⟩:=h;show PE X _ (uX g.K m (af g a)<|aR g (r::A));rw[<-G.K];exact abp c d j i f (eJ (fH b).1) (mI _ _ n (fH b).2)<|E4 _ _ (e::n) b
theorem xQ(G:Good w S g X)(o:PE X a (af g r))(h:autoParam (qj a=true) ei):PE X (.Attribute a f p) (af g<|.f r f):=by
 show PE X _ (Ab g.K (af g r) f);rw[<-G.K];exact alC o<|sq h
theorem E_(G:Good w S g X)(b:PE X o (af g r))(h:autoParam ((kM o m m 0 p B && decide (S.mn[j]?=some m))=true) ei)(q:autoParam (S.m=0) cu):PE X (.Call (.Attribute o m p) [] [] B) (af g<|.a j m r []):=by
 simp only[kM,WZ,KK] at h;obtain⟨⟨⟨⟨-,e⟩,d⟩, -⟩,c⟩:=h;exact abu (G.qm q j _ c) G.P b e d
theorem xR{c:RE}(G:Good w S g X)(d:PE X o (af g c))(f:PA X (e::n) (aR g (r::A)))(h:autoParam ((kM o m m (n.length+1) p B && decide (S.mn[j]?=some m))=true) ei)(b:autoParam (iG (e::n)=true) ei)(q:autoParam (S.m=0) cu):PE X (.Call (.Attribute o m p) (e::n) [] B) (af g<|.a j m c (r::A)):=by
 simp only[kM,WZ,KK] at h;obtain⟨⟨⟨⟨-,s⟩,l⟩,k⟩,i⟩:=h;exact abt (G.qm q j _ i) G.P d f s l k (eJ (fH b).1) (mI _ _ n (fH b).2)<|E4 _ _ (e::n) b
theorem abK(h:xJ b=true):KU b:=λo i=>by cases b<;>first|rfl|cases h
theorem qp(G:Good w S g X)(d:PE X a (af g l))(c:PE X b (af g z))(h:autoParam (xJ b=true) ei):PE X (.Subscript a b p) (af g<|.i l z):=by
 show PE X _ (gB (qf g.K g.sd) (af g l)<|af g z);rw[<-G.K];exact ahU (abc G.q) d c<|abK h
theorem abL(h:xJ b=true):Ep b:=λo i=>by cases b<;>first|rfl|cases h
theorem vd(G:Good w S g X)(d:PE X a (af g l))(c:PE X b (af g z))(h:autoParam (xJ b=true) ei):PE X (.Subscript a b p) (af g<|.P l z):=
 adZ (by have:=G.units;lia) d c (abL h)
theorem Ms(G:Good w S g X)(d:PE X a (af g l))(c:PE X b (af g z))(h:autoParam (behindInMarks .In b=false) ei):PT X (.Compare a [.In] [b] p) (a_ g<|.K l z):=
 JQ (aeU (by have:=G.units;lia) d c) h
theorem abM(G:Good w S g X)(d:PE X a (af g l))(c:PE X b (af g z))(h:autoParam (behindInMarks .NotIn b=false) ei):PT X (.Compare a [.NotIn] [b] p) (a_ g<|.q l z):=
 JQ (ahJ (by have:=G.units;lia) d c) h
theorem Mt{i:Option Expr}{r:Option RE}(G:Good w S g X)(d:PE X a (af g l))(b:PO X o (qg g r))(c:PO X i (qg g h)):PE X (.Subscript a (.Slice o i none q) p) (af g<|.s l r h):=by
 show PE X _ (D7 (uY g.K) (af g l) (qg g r)<|qg g h);rw[<-G.K];exact amG abl d b c
theorem Mu:PO X none (qg g none):=Ag
theorem Mv(h:PE X a (af g l)):PO X (some a) (qg g<|some l):=Ah h
theorem abN(h:PA X n (aR g A)):PE X (.Tuple n k p) (af g<|.T A):=alO h
theorem sN(h:PA X n (aR g A)):PE X (.List n p) (af g<|.L A):=afJ h
def xS(w:cP)(S:cZ)(g:ba)(c:Option RE)(i:tz):Prop:=match c with
 |none=>i=[]
 |some r=>∃e,i=[e]/\∀X,Good w S g X->PT X e (a_ g r)
theorem ve:xS w S g none []:=O
theorem Mw(h:∀X,Good w S g X->PT X e (a_ g r)):xS w S g (some r) [e]:=⟨e,O,h⟩
def kC(S:cZ)(t:ww)(g i:Expr)(s:Scope)(k:IK)(l:ca)(f:v0):Gc:=decide (uZ t g=some l) && (decide (k≠ .z)||t.isSome) && EN S ⟨.Constant .none 0 ⟨0,0,0,0⟩,g,i,[],s⟩ l f
abbrev cS(S:cZ)(s:Scope)(l:ca)(f:v0):cZ:={S with N:=l++f.map (·.1),sc:=EM s S.sc,en:=[],m:=if S.m=0 then 0 else 2}
theorem AQ{j:wn}{c:Option RE}{e:RE}{i:Expr}{b:tz}{a:Scope}(G:Good w S g X)(h:kC S tk t i a k ln f=true)(A:PI X t i (iY g k j))(n:xS w (cS S a ln f) g.calm c b)(B:∀X,Good w (cS S a ln f) g.calm X->PE X o (af g.calm e))(d:autoParam (S.m=0) cu):PE X (.ListComp o [⟨t,i,b,0⟩] a p) (af g<|.C tk f k j c e):=by
 simp only[kC,WZ,KK] at h;obtain⟨⟨E,I⟩,D⟩:=h;obtain⟨z,y,v,u⟩:=YG (Md G D);show PE X _ (sy g.K (iY g k j) tk f (AF g.calm c)<|af g.calm e);rw[<-G.K];refine afC z (G.calm d) A (Me (G.calm d) E y v) ?_ (λx C s H=>B _<|G.inner ⟨.Constant .none 0 ⟨0,0,0,0⟩,t,i,[],a⟩ ln f x C s H)<|AO u;cases c with
 |none=>exact n
 |some r=>
  obtain⟨F,q,d⟩:=n;exact⟨F,q,λx C s H=>d _<|G.inner ⟨.Constant .none 0 ⟨0,0,0,0⟩,t,i,[],a⟩ ln f x C s H⟩
theorem abO{d:wn}{c:Option RE}{e:RE}{l i:Expr}{b:Scope}(G:Good w S g X)(j:PI X t i (iY g k d))(o:xS w (cS S b ((uZ tk t).getD []) f) g.calm c s)(n:∀X,Good w (cS S b ((uZ tk t).getD []) f) g.calm X->PE X l (af g.calm e))(h:autoParam (kC S tk t i b k ((uZ tk t).getD []) f=true) ei)(q:autoParam (S.m=0) cu):PE X (.ListComp l [⟨t,i,s,0⟩] b p) (af g<|.C tk f k d c e):=AQ G h j o n q
theorem abP(h:PT X a (a_ g l)):PT X (.UnaryOp .Not a p) (a_ g<|.N l):=agM h
theorem abQ(h:PT X e (a_ g r)):PW X (.BoolOp .And [e] p) (a_ g<|.d [r]):=adY h
theorem abR(h:PT X e (a_ g r))(t:PW X (.BoolOp .And (D::n) p) (a_ g<|.d (r2::A))):PW X (.BoolOp .And (e::D::n) p) (a_ g<|.d (r::r2::A)):=aoY h t
theorem abS(h:PT X e (a_ g r)):PW X (.BoolOp .Or [e] p) (a_ g<|.o [r]):=amD h
theorem abT(h:PT X e (a_ g r))(t:PW X (.BoolOp .Or (D::n) p) (a_ g<|.o (r2::A))):PW X (.BoolOp .Or (e::D::n) p) (a_ g<|.o (r::r2::A)):=amE h t
theorem vf(G:Good w S g X)(d:PE X a (af g l))(c:PE X b (af g z))(h:autoParam (behindInMarks o b=false) ei):PT X (.Compare a [o] [b] p) (a_ g<|.p o l z):=by
 show PT X _ (uM<|gB (dh g.K o) (af g l)<|af g z);rw[<-G.K];exact anU (Az G.units o) d c h
theorem E6(G:Good w S g X)(h:PE X (.Call a n [] p) (af g<|.l j A)):PT X (.Call a n [] p) (a_ g<|.l j A):=by
 show PT X _ (jv g.K<|af g<|.l j A);rw[<-G.K];exact Mi h λY=>O
theorem abV(G:Good w S g X)(h:PE X (.Call a n [] p) (af g<|.G T l)):PT X (.Call a n [] p) (a_ g<|.G T l):=by
 exact Mi h λY=>O
theorem AR(G:Good w S g X)(h:PE X a (af g l)):PI X t a (iY g .l [l]):=by
 show PI X t a (DV g.K<|af g l);rw[<-G.K];exact alS h
theorem Fb(G:Good w S g X)(b:PE X a (af g l))(h:autoParam (kB S x "range"=true) ei)(s:autoParam (Xj a=true) ei):PI X t (.Call (.Name x p) [a] [] B) (iY g .f [l]):=by
 simp only[kB,WZ,KK] at h;obtain⟨⟨rfl,d⟩,c⟩:=h;exact aqD (G.gl d) (G.gY _ c) (pT b wQ<|eJ s)<|eJ s
theorem Mx(G:Good w S g X)(e:PE X a (af g l))(d:PE X b (af g z))(h:autoParam (kB S x "range"=true) ei)(c:autoParam (Xj a=true) ei)(k:autoParam (Xj b=true) ei):PI X t (.Call (.Name x p) [a,b] [] B) (iY g .s [l,z]):=by
 simp only[kB,WZ,KK] at h;obtain⟨⟨rfl,i⟩,f⟩:=h;exact apV (G.gl i) (G.gY _ f) (pT e (pT d wQ<|eJ k)<|eJ c) (by rw[eJ c,eJ k];rfl)<|eJ k
theorem My{t:tz}{c:Pos}(G:Good w S g X)(e:PE X a (af g l))(d:PE X b (af g z))(h:autoParam (kB S x "zip"=true) ei)(n:autoParam (iG [a,b]=true) ei):PI X (.Tuple t k c) (.Call (.Name x p) [a,b] [] B) (iY g .z [l,z]):=by
 simp only[kB,WZ,KK] at h;obtain⟨⟨rfl,i⟩,f⟩:=h;show PI X _ _ (EK g.K<|fX (af g l)<|aR g [z]);rw[<-G.K];exact aaG (G.gl i) (G.gY _ f) (pT e (pT d wQ<|eJ (fH (fH n).2).1)<|eJ (fH n).1) (eJ (fH n).1)<|mI _ _ _ (fH n).2
end
section
variable{g:cP}{S:cZ}{d:ba}{X:Cx}{e a b c v:Expr}{z:tz}{x:Str}{p q pos:Pos}{r n A D:RE}{i j:Nat}{I:Fr}{J:Cl}{s:RS}{L t u:jp}
theorem AS{t:Option Expr}{e:Env}(h:xM v=true):swapsWith v t l e=pure false:=by
 cases v<;>first|rfl|cases h
theorem abW{e:Env}(h:e.kindOf x=some .cell):swapsWith v (some<|.Name x p) l e=pure false:=by
 cases v<;>first
  |rfl
  |(unfold swapsWith;simp only[h];have q:(some NameKind.cell==some NameKind.local)=false:=O;simp only[q,Bool.and_false,Bool.false_and])
theorem MA{i:Expr}:swapsWith v (some<|.Subscript o i p) l env=pure false:=by
 cases v<;>rfl
theorem abX{i:Expr}{e:Env}:swappedStores [.Subscript o i p] v e=pure none:=O
theorem dQ.name(G:dQ g S d X)(h:kL S i x=true):PG X (.Name x p) (gA i):=by
 simp only[kL,WZ,KK] at h;exact zX (G.N▸G.nd) (G.N▸h.1) (G.sc▸EL h.2)<|.inl<|G.qo x
theorem ib:eT X [] (av d []):=JX
theorem bR(h:PS X I (dC d s))(t:eT X J (av d L)):eT X (I::J) (av d (s::L)):=akB h t
theorem lH(G:dQ g S d X)(e:PE X v (af d r))(h:autoParam (kL S i x=true) ei)(c:autoParam ((xM v ||decide (S.sc.names.lookup x=some .cell))=true) ei):PS X (.Assign [.Name x p] v q) (dC d<|.a i r):=by
 simp only[kL,WZ,KK,Bool.or_eq_true] at h c;refine ahN (G.N▸G.nd) (G.N▸h.1) (G.sc▸EL h.2) e ?_<|.inl<|G.qo x;rcases c with b|b
 exact AS b;exact abW (by show X.env.scope.names.lookup x=_;rw[G.sc];exact b)
theorem Fc{c:Option RE}{e:RE}{A t:Expr}{j:tz}{b:Scope}(G:dQ g S d X)(u:kL S i x=true)(n:Mn S.sc x p.line b l=true)(h:kC S y t a b k ln f=true)(I:PI X t a (iY d k w))(z:xS g (cS S b ln f) d.calm c j)(J:∀X,Good g (cS S b ln f) d.calm X->PE X A (af d.calm e))(o:autoParam (S.m=0) cu):PS X (.Assign [.Name x p] (.ListComp A [⟨t,a,j,0⟩] b l) q) (dC d<|.uV i<|.C y f k w c e):=by
 simp only[kC,kL,Mn,WZ,KK,Uf,Ot] at h u n;obtain⟨⟨M,T⟩,L⟩:=h;obtain⟨F,E,D,B⟩:=YG (Md G.toGood L);show PS X _ (kS (sy d.K (iY d k w) y f (AF d.calm c)<|af d.calm e)<|gA i);rw[<-G.K];refine aoD (G.N▸G.nd) (G.N▸u.1) (G.sc▸EL u.2) ?_ F (G.calm o) I (Me (G.calm o) M E D) ?_ (λv C s H=>J _<|G.toGood.inner ⟨.Constant .none 0 ⟨0,0,0,0⟩,t,a,[],b⟩ ln f v C s H) (AO B)<|.inl<|G.qo x;have Q:X.env.kindOf x=some .local:=by show X.env.scope.names.lookup x=_;rw[G.sc];exact n.1.1.2
 have P:X.env.blockKind=.function:=by unfold Env.blockKind;rw[G.va];rfl
 unfold swapsWith;simp only[Q,P,n.1.2,n.2];show pure (true && true && (l.line==l.line) && !false)=pure true;rw[beq_self_eq_true];rfl;cases c with
 |none=>exact z
 |some r=>
  obtain⟨R,q,o⟩:=z;exact⟨R,q,λv C s H=>o _<|G.toGood.inner ⟨.Constant .none 0 ⟨0,0,0,0⟩,t,a,[],b⟩ ln f v C s H⟩
theorem Fd(e:PE X v (af d r))(f:PE X a (af d n))(c:PE X b (af d A))(h:autoParam (xJ b=true) ei):PS X (.Assign [.Subscript a b p] v q) (dC d<|.s n A r):=
 J9 e (WM f c afG (by intro w;cases b<;>first|rfl|cases h)) (by exact MA (o:=a) (i:=b) (p:=p) (l:=q.line) (env:=X.env)) abX O
theorem MB(G:dQ g S d X)(h:PE X v (af d r))(e:PE X a (af d n))(c:PE X b (af d A)):PS X (.Assign [.Subscript a b p] v q) (dC d<|.t n A r):=
 Zc (by have:=G.toGood.units;lia) e c h (by exact MA)
theorem MC(G:dQ g S d X)(o:PE X a (af d n))(e:PE X v (af d r))(h:autoParam (xM v=true) ei):PS X (.Assign [.Attribute a f p] v q) (dC d<|.f n f r):=by
 show PS X _ (Ac d.K (af d n) (af d r) f);rw[<-G.K];exact Kx o e<|AS h
theorem AU(e:PE X v (af d r))(h:autoParam (xM v=true) ei):PS X (.Expr v p) (dC d<|.d r):=amV e (AS h)
theorem sO(h:PE X v (af d r)):PS X (.Return (some v) p) (dC d<|.r r):=afE h
theorem AV(h:PT X c (a_ d D))(a:eT X as (av d t))(b:eT X bs (av d u)):PS X (.If c as bs p) (dC d<|.i D t u):=alF h a b
theorem Fe(G:dQ g S d X)(h:PT X c (a_ d D))(a:eT X as (av d t)):PS X (.While c as [] p) (dC d<|.R D t):=apR G.own h a
theorem MD{b:wn}{r:Expr}{a:Cl}(G:dQ g S d X)(e:PI X (.Name x p) r (iY d k b))(f:eT X a (av d t))(h:autoParam (kL S i x=true) ei)(s:autoParam (xC r=true) ei)(c:autoParam (S.m=0) cu):PS X (.For (.Name x p) r a [] q) (dC d<|.g i k b t):=
 Kf G.own (G.calm c) e (G.name h) f (AO s)
theorem Ff(G:dQ g S d X):∀(s:bn)(x:List (Str×Pos)),sM S.N S.sc s (x.map (·.1))=true->
  uJ X (x.map λy=>.Name y.1 y.2) (mK s)/\(assignEach (x.map λy=>Expr.Name y.1 y.2) X.env).length=s.length/\(assignEach (x.map λy=>Expr.Name y.1 y.2) X.env).findIdx? (·.1)=none
 |[],x,h=>by
  simp only[sM,List.isEmpty_iff,List.map_eq_nil_iff] at h;subst h;exact⟨J5,O,O⟩
 |i::r,[],h=>by cases h
 |i::r,y::t,h=>by
  simp only[Ww,sM,WZ] at h;obtain⟨c,b,a⟩:=Ff G r t h.2;refine⟨DT (G.name (by simp only[kL,WZ];exact h.1)) c O,?_,?_⟩;show(assignEach _ X.env).length+1=r.length+1;rw[b];show List.findIdx? (·.1) ((false,assign (.Name y.1 y.2) X.env)::assignEach _ X.env)=none;rw[List.findIdx?_cons,a];rfl
theorem ME{a:wn}{i:Expr}{e:Cl}{b}(x:List (Str×Pos))(G:dQ g S d X)(o:PI X (.Tuple (x.map λy=>.Name y.1 y.2) b p) i (iY d k a))(r:eT X e (av d t))(h:autoParam (sM S.N S.sc is (x.map (·.1))=true) ei)(n:autoParam (xC i=true) ei)(c:autoParam (S.m=0) cu):
  PS X (.For (.Tuple (x.map λy=>.Name y.1 y.2) b p) i e [] q) (dC d<|.k is k a t):=by
 obtain⟨l,j,f⟩:=Ff G is x h;show PS X _ (zZ (iY d k a) (oB d.K is.length<|mK is)<|av d t);rw[<-G.K];exact Kf G.own (G.calm c) o (Mm (G.calm c) l j f) r<|AO n
noncomputable def abY:Expr->Gc
 |.Tuple ..=>false|_=>true
theorem MF{t:Pos}(x:List (Str×Pos))(G:dQ g S d X)(j:PE X v (af d r))(h:autoParam (sM S.N S.sc is (x.map (·.1))=true) ei)(c:autoParam ((xM v && abY v)=true) ei)(f:autoParam (S.m=0) cu):
  PS X (.Assign [.Tuple (x.map λy=>.Name y.1 y.2) k t] v q) (dC d<|.q is r):=by
 simp at c;obtain⟨e,b,a⟩:=Ff G is x h;show PS X _ (kS (af d r)<|oB d.K is.length<|mK is);rw[<-G.K];refine J9 j (Mm (G.calm f) e b a) (by show swapsWith v (some<|.Tuple (x.map λy=>Expr.Name y.1 y.2) k t) q.line X.env=pure false;exact AS c.1) ?_ O;cases v<;>first|rfl|cases c.2
def kX(S:cZ)(j:Nat)(x:Str):Gc:=decide (S.en[j]?=some x) && qi S.sc x && !(x==("__debug__":Str))
theorem abZ{I:Pos}(G:dQ g S d X)(A:PA X (e::z) (aR d (r::rs)))(h:autoParam (kX S j x=true) ei)(b:autoParam (iG (e::z)=true) ei)(q:autoParam (S.m=0) cu):PS X (.Raise (some<|.Call (.Name x p) (e::z) [] I) none pos) (dC d<|.j j (r::rs)):=by
 simp only[kX,WZ,KK,Ot] at h;obtain⟨c,B,n,u,a,F⟩:=YC (G.xG j x h.1.1);exact aaS (G.calm q) a F (G.gl h.1.2) h.2 A (eJ (fH b).1) (mI _ _ z (fH b).2)<|G.rs j x h.1.1
abbrev tS(S:cZ):cZ:={S with en:=[]}
abbrev hS(S:cZ):cZ:={S with en:=[],m:=2}
theorem dQ.ab0(G:dQ g S d X)(p:gh)(x:ge)(E:XK)(o:PassesOwn (model X.prog X.w) X.A X.env x)(a:hV (gX X.prog X.w) (X.alt X.A X.calm p x) E):
  dQ g (tS S) {d with E:=E} (X.alt X.A X.calm p x):=
 {N:=G.N,sc:=G.sc,K:=G.K,calm:=G.calm,units:=G.units,gd:=G.gd,l:=G.l,fG:=G.fG,gY:=G.gY,P:=G.vc▸a,oA:=G.oA,q:=G.q,qm:=G.qm,sJ:=G.sJ,
  xG:=λY Y h=>(by simp at h),sL:=G.sL,u_:=G.u_,xH:=G.xH,nd:=G.nd,qo:=G.qo,own:=o,va:=G.va,rs:=λY Y h=>(by simp at h),kQ:=G.kQ,iZ:=G.iZ,vb:=G.vb,vc:=G.vc}
theorem dQ.held(G:dQ g S d X)(a:Do)(n:gh):
  dQ g (hS S) {d with E:=E0,h:=some a} (X.alt (X.A.mark<|some<|.ref a) false n λY Y=>False):=
 {N:=G.N,sc:=G.sc,K:=G.K,calm:=λh=>(nomatch h),units:=G.units,gd:=G.gd,l:=λh=>(nomatch h),fG:=G.fG,gY:=G.gY,P:=λY Y Y Y Y Y Y h=>(G.oA _ _ _ _ _ h).elim,oA:=G.oA,q:=G.q,qm:=λh=>(nomatch h),sJ:=λh=>(nomatch h),
  xG:=λY Y h=>(by simp at h),sL:=λj x h=>(by
   obtain⟨k,f,b,p,zq⟩:=YC (G.sL j x h);obtain⟨F,r,m⟩:=Z5 zq;exact rP k f ⟨b,p,F,r.mark _,m⟩),
  u_:=λe h=>(by cases h;rfl),xH:=λh=>(nomatch h),nd:=G.nd,qo:=G.qo,own:=PassesOwn.never,va:=G.va,rs:=λY Y h=>(by simp at h),kQ:=G.kQ,iZ:=G.iZ,vb:=G.vb,vc:=G.vc}
theorem MG:PS X (.Continue p) (dC d .c):=aqC
end
section
variable{P:Fk}{w:Fa}{K:Frag}{a:io}{d:FS}
def mL(P:Fk)(w:Fa)(K:Frag)(a:io)(d:FS)(k:Nat)(x:Str)(s:Sp):Prop:=
 ∃f b p,du P w K a d (gX P w) k f b p s/\a x=some (.ref f)/\PySem.W.keepIn K (.ref f)=true/\Y5 K b p []
theorem mL.mono(h:mL P w K a d j x s)(b:j<=k):mL P w K a d k x s:=by
 obtain⟨f,c,p,F,r⟩:=h;exact⟨f,c,p,F.mono b,r⟩
def qq(t:wr)(j:Nat):Sp:=match t[j]? with
 |some p=>p.2
 |none=>λ_ _ _ _=>False
noncomputable def AW(t:on)(j:Nat):V:=match t[j]? with
 |some p=>p.2
 |none=>.a
structure Fh(a:io)(p:Str×V):Prop where
 ex:∃u,a p.1=some u/\lA p.2 u
noncomputable def mM(t:List (Str×Do×Sp))(j:Nat):Do×Sp:=match t[j]? with
 |some p=>p.2
 |none=>(0,λ_ _ _ _=>False)
noncomputable def AX(t:ut)(j:Nat):Do:=match t[j]? with
 |some p=>p.2
 |none=>0
abbrev aG(K:Frag)(t:wr)(g:on)(d:List (Do×nH):=[])(m k:List (Str×Do×Sp):=[])(et:ut:=[])(a:wr:=[])(E:XK:=E0):ba:=
 {K:=K,fs:=qq t,gv:=AW g,E:=E,sd:=λp b=>(p,b)∈d,ms:=mM m,kt:=mM k,ex:=AX et,hs:=qq a,h:=none}
def mO(P:Fk)(w:Fa)(K:Frag)(a:io)(d:FS)(k:Nat)(p:Str×Do×Sp):Prop:=
 gP K p.2.1/\∃f b s,wW K p.2.1 p.1 f/\du P w K a d (gX P w) k f b s p.2.2/\Y5 K b s []
def sP(P:Fk)(w:Fa)(K:Frag)(a:io)(d:FS)(k:Nat)(p:Str×Do×Sp):Prop:=
 ∃j f b s,j+1<=k/\Mk K p.2.1 f/\du P w K a d (gX P w) j f b s p.2.2/\a p.1=some (.ref p.2.1)/\Y5 K b s []
theorem mO.mono(h:mO P w K a d j p)(e:j<=k):mO P w K a d k p:=by
 obtain⟨c,f,g,s,m,F,b⟩:=h;exact⟨c,f,g,s,m,F.mono e,b⟩
theorem sP.mono(h:sP P w K a d j p)(b:j<=k):sP P w K a d k p:=by
 obtain⟨i,f,c,s,m,r⟩:=YC h;exact rP i f ⟨c,s,Y4 m b,r⟩
def AY(P:Fk)(w:Fa)(K:Frag)(q:Do×nH):Prop:= ∀h:FS,K.In h->∃v,KV q.2 v/\h.DictOf (d_ P w) q.1 v
abbrev AZ(N:ca)(s:Scope)(t:ca)(g:ca)(b:ca)(n k:ca:=[])(e h:ca:=[])(d:Nat:=0):cZ:={N:=N,sc:=s,fn:=t,gn:=g,bl:=b,mn:=n,kn:=k,en:=e,hn:=h,m:=d}
def A5(a:io)(d:FS)(p:Str×Do):Prop:= ∃b B n u,OwnCls p.1 p.2 b n a d/\ExcBaseFacts B n u b
def Fi(P:Fk)(w:Fa)(K:Frag)(a:io)(d:FS)(k:Nat)(x:Str)(s:Sp):Prop:=
 ∃f b p,L9 P w K a d k f b p s/\a x=some (.ref f)/\PySem.W.keepIn K (.ref f)=true/\Y5 K b p []
theorem X2{V:Sp}(F:sv K x c' U f fd)(S:wR N W (gT U))(t:wr)(R:on)(bl:ca)(z D:List (Str×Do×Sp))(T:ut)(L:wr)(n:jp)(hm:∀{CX:cP}{Γ:ba}{X:Cx},dQ CX (AZ N (gT U) (t.map (·.1)) (R.map (·.1)) bl (z.map (·.1)) (D.map (·.1)) (T.map (·.1)) (L.map (·.1))) Γ X->eT X (gQ U) (av Γ n))(Fj:∀p∈t,mL P w K a d k p.1 p.2)(Fm:∀p∈R,Fh a p)(xT:∀y∈bl,a y=none)(dk:List (Do×nH))(Fn:∀q∈dk,AY P w K q)(Fo:∀p∈z,mO P w K a d k p)(Fp:∀p∈D,sP P w K a d k p)(a':∀p∈T,A5 a d p)(Fq:∀p∈L,Fi P w K a d k p.1 p.2)(Z:∀v H Q E,V v H Q E->v.length=W.length)(Fs:∀v H Q E,V v H Q E->av (aG K t R dk z D T L E) n {nx:=λ_ H'=>Q .a H',r:=Q} (WR N v) H):du P w K a d (gX P w) (k+1) f fd W V:=by
 obtain⟨oc,od,kV,d',pm,an,bF,ct,jO,zq⟩:=x5 F.ex;obtain⟨rfl,lk,mx⟩:=Z5 zq;refine akJ lk mx S Z λA Y s H v Q E M pV=>nS _ (hm (CX:=gX P w) ?_) (Fs v H Q E pV);refine {N:=O,sc:=O,K:=O,calm:=λ_=>O,units:=M.units,gd:=M.gd,l:=λ_ j y g=>?_,fG:=λj y g=>?_,gY:=λy hy=>?_,P:=aaQ,oA:=λ_ _ _ _ _ h=>L5 h,q:=λp K' h=>Fn _ h,qm:=λ_ j y g=>?_,sJ:=λ_ j y g=>?_,xG:=λj y g=>?_,sL:=λj y g=>?_,u_:=λ_ h=>(nomatch h),xH:=λh=>(nomatch h),nd:=S.nd,qo:=λ_=>O,own:=PassesOwn.leaving,va:=S.kind,rs:=λ_ _ _=>aaR,kQ:=O,iZ:=O,vb:=O,vc:=O};have b:=g;rw[Z_] at b;cases q:t[j]? with
 |none=>rw[q] at b;cases b
 |some p=>
  rw[q] at b;have e:p.1=y:=lF b;obtain⟨G,o,B,zq⟩:=jR (Fj p (YK q));obtain⟨J,C,k',I⟩:=YG zq;have m:qq t j=p.2:=by unfold qq;rw[q]
  show L_ (gX P w) _ y (qq t j);rw[m,<-e];exact n4 k G o B J M C k' I
 have b:=g;rw[Z_] at b;cases q:R[j]? with
 |none=>rw[q] at b;cases b
 |some p=>
  rw[q] at b;have e:p.1=y:=lF b;obtain⟨u,h1,h2⟩:=(Fm p<|YK q).ex;have m:AW R j=p.2:=by unfold AW;rw[q]
  show ∃u,a y=some u/\lA (AW R j) u;rw[m,<-e];exact nS u h1 h2
 exact xT y (by simpa using hy);have b:=g;rw[Z_] at b;cases q:z[j]? with
 |none=>rw[q] at b;cases b
 |some p=>
  rw[q] at b;have e:p.1=y:=lF b;obtain⟨c,G,o,B,C,J,I⟩:=Fo p (YK q);have m:mM z j=p.2:=by unfold mM;rw[q]
  show AM (gX P w) _ (mM z j).1 y (mM z j).2;rw[m,<-e];exact⟨c,pF k G o B C J M I⟩
 have b:=g;rw[Z_] at b;cases q:D[j]? with
 |none=>rw[q] at b;cases b
 |some p=>
  rw[q] at b;have e:p.1=y:=lF b;obtain⟨i,G,o,B,zq⟩:=YC (Fp p (YK q));obtain⟨hi,C,J,g',I⟩:=Y7 zq;have m:mM D j=p.2:=by unfold mM;rw[q]
  show Ma (gX P w) _ y (mM D j).1 (mM D j).2;rw[m,<-e];exact n4 i G o B C J (M.mono hi) g' I
 have b:=g;rw[Z_] at b;cases q:T[j]? with
 |none=>rw[q] at b;cases b
 |some p=>
  rw[q] at b;have e:p.1=y:=lF b;have m:AX T j=p.2:=by unfold AX;rw[q]
  show Mc _ y (AX T j);rw[m,<-e];exact a' p<|YK q
 have b:=g;rw[Z_] at b;cases q:L[j]? with
 |none=>rw[q] at b;cases b
 |some p=>
  rw[q] at b;have e:p.1=y:=lF b;obtain⟨G,o,B,zq⟩:=jR (Fq p (YK q));obtain⟨J,C,k',I⟩:=YG zq;have m:qq L j=p.2:=by unfold qq;rw[q]
  show Mb _ y (qq L j);rw[m,<-e];exact n4 k G o B J M.h C k' I
variable{x qual:Str}{st:Fr}{f:Do}{b:Go}{N c:ca}{k:Nat}{g:Sp}
theorem du.top(F:du P w K a d (gX P w) k f b c g):du P w K a d xb k f b c (λv H Q Y=>g v H Q E0):=
 ⟨λv H Q E h=>F.len v H Q E0 h,λA o s H i u v Q E m q n j l=>Tl (F.run A o s H i u v Q E0 m q n j l) λr t h=>by
  cases r with
  |error e=>exact(L5 h).elim
  |ok p=>cases p<;>exact h⟩
end
section
variable{c:ba}{D:WH}{d:St}{H:Hp}{r:jp}{Q:VK}
theorem MH(h:af c e d H λx b=>av c r D (d.set i<|some x) b):av c (.a i e::r) D d H:=h
theorem MI(h:aR c a d H λv e=>ou c.K b v e Q):af c (.t b a) d H Q:=h
theorem MJ{Q:db->Hp->Prop}(h:af c a d H λx b=>Q [x] b):aR c [a] d H Q:=h
end
end
variable{H Z t u:Hp}{F:St}{Y:bi}{W:ba}{a C L lo be lg dx i1 i2 l1 l2:PySem.Addr}{i N n j:Nat}{Q:VK}{xs B:db}{r bN:bn}{v:V}{D:WH}{body:jp}{fv:List (PySem.Str×Nat)}{M:List PySem.Addr}{o:RE}{y:PySem.Str}
section
open PyProof.Rows
noncomputable def oF:ca:=["thing"]
noncomputable def MK:jp:=
 [.r<|.d [(.G .i<|.v 0),(.N<|.G .b<|.v 0)]]
noncomputable def ae:ca:=[]
noncomputable def ML:ca:=["isinstance","int","bool"]
noncomputable def Ft:ca:=["thing","words"]
noncomputable def Fu:jp:=
 [.r<|.d [(.G .s<|.v 0),(.p .In (.v 0)<|.v 1)]]
noncomputable def MM:ca:=["isinstance","str"]
noncomputable def Fv:jp:=
 [.r<|.d [(.G .s<|.v 0),(.p .Eq (.Q .l (.v 0) [.g 0])<|.c<|.s "")]]
noncomputable def ab2:ca:=["SIGNS"]
noncomputable def A_:jp:=
 [.i (.o [(.N (.G .t (.v 0))),(.p .NotEq (.t .l [.v 0]) (.c (.i 2)))]) [.r (.c (.b false))] [],
 .i (.l 0 [(.i (.v 0)<|.c<|.i 0),(.T [(.c<|.s "keep")])]) [.r<|.d [(.l 1 [(.i (.v 0)<|.c<|.i 1)]),(.p .GtE (.i (.v 0)<|.c<|.i 1)<|.c<|.i 1)]] [],
 .r (.d [(.l 0 [(.i (.v 0) (.c (.i 0))),(.T [(.c (.s "cut")),(.c (.s "put"))])]),(.l 2 [(.i (.v 0) (.c (.i 1)))]),(.p .NotEq (.i (.v 0) (.c (.i 1))) (.c (.s "")))])]
noncomputable def ab3:ca:=["is_word","is_whole","is_text"]
noncomputable def ab4:ca:=["isinstance","tuple","len"]
noncomputable def MN:ca:=["word","ahead"]
noncomputable def MO:jp:=
 [.r<|.d [(.p .NotEq (.v 0)<|.v 1),(.N<|.d [(.p .Eq (.v 1)<|.c<|.s "cut"),(.p .Eq (.v 0)<|.c<|.s "put")])]]
noncomputable def MP:ca:=["change","ahead","part"]
noncomputable def MQ:jp:=
 [.i (.N (.G .l (.v 0))) [.j 0 [(.c (.s "a change is a list"))]] [],
 .a 1 (.c<|.s ""),
 .g 2 .l [.v 0] [.i (.N (.l 0 [.v 2])) [.j 0 [(.c (.s "a part is a keep of 1 sign or more, or a cut or put of a text that is not empty"))]] [],
  .i (.N<|.l 1 [(.i (.v 2)<|.c<|.i 0),.v 1]) [.j 0 [(.c<|.s "neighbours have two words, and no put stands right behind a cut")]] [],
  .a 1 (.i (.v 2) (.c (.i 0)))]]
noncomputable def ab5:ca:=["is_part","may_follow"]
noncomputable def ab6:ca:=["isinstance","list"]
noncomputable def ab7:ca:=["BadChange"]
noncomputable def MR:ca:=["part"]
noncomputable def MS:jp:=
 [.r<|.k (.p .Eq (.i (.v 0)<|.c<|.i 0)<|.c<|.s "keep") (.i (.v 0)<|.c<|.i 1)<|.t .l [(.i (.v 0)<|.c<|.i 1)]]
noncomputable def jT:ca:=["len"]
noncomputable def MT:ca:=["change","over","gives"]
noncomputable def MU:jp:=
 [.d (.l 0 [.v 0]),
 .a 1 (.t .s [(.C none [] .l [.v 0] (some<|.p .NotEq (.i (.v 0)<|.c<|.i 0)<|.c<|.s "put")<|.l 1 [.v 0])]),
 .a 2 (.t .s [(.C none [] .l [.v 0] (some<|.p .NotEq (.i (.v 0)<|.c<|.i 0)<|.c<|.s "cut")<|.l 1 [.v 0])]),
 .r (.T [.v 1,.v 2])]
noncomputable def ab8:ca:=["need_change","part_size"]
noncomputable def KE:ca:=["sum"]
noncomputable def MV:ca:=["change","size"]
noncomputable def MW:jp:=
 [.i (.d [(.p .Gt (.t .l [.v 0]) (.c (.i 0))),(.p .Eq (.i (.i (.v 0) (.n (.c (.i 1)))) (.c (.i 0))) (.c (.s "keep")))]) [.a 1 (.b .Add (.v 1) (.i (.Q .p (.v 0) []) (.c (.i 1))))] [],
 .d (.Q .a (.v 0) [(.T [(.c (.s "keep")),.v 1])])]
noncomputable def MZ:ca:=["change","puts","cuts","put","cut"]
noncomputable def M0:jp:=
 [.a 3 (.Q .j (.c (.s "")) [.v 1]),
 .a 4 (.Q .j (.c<|.s "") [.v 2]),
 .i (.p .NotEq (.v 3)<|.c<|.s "") [.d<|.Q .a (.v 0) [(.T [(.c<|.s "put"),.v 3])]] [],
 .i (.p .NotEq (.v 4) (.c (.s ""))) [.d (.Q .a (.v 0) [(.T [(.c (.s "cut")),.v 4])])] []]
noncomputable def M1:ca:=["parts","change","puts","cuts","word","what"]
noncomputable def M3:jp:=
 [.a 1 (.L []),
 .a 2 (.L []),
 .a 3 (.L []),
 .k [4,5] .l [.v 0] [.i (.p .Eq (.v 4) (.c (.s "put"))) [.d (.Q .a (.v 2) [.v 5])] [.i (.p .Eq (.v 4) (.c (.s "cut"))) [.d (.Q .a (.v 3) [.v 5])] [.i (.p .Gt (.v 5) (.c (.i 0))) [.d (.l 0 [.v 1,.v 2,.v 3]),
     .a 2 (.L []),
     .a 3 (.L []),
     .d (.l 1 [.v 1,.v 5])] []]]],
 .d (.l 0 [.v 1,.v 2,.v 3]),
 .r (.v 1)]
noncomputable def ab_:ca:=["add_texts","add_keep"]
noncomputable def M4:ca:=["change"]
noncomputable def M5:jp:=
 [.d (.l 0 [.v 0]),
 .r (.l 1 [(.C (some 2) [] .l [.v 0] none (.T [(.i (.g 0) (.v 0)),.v 1]))])]
noncomputable def CL:ca:=["need_change","neat"]
noncomputable def acb:ca:=["WAYS_BACK"]
noncomputable def M6:ca:=["_law_script","_law_k"]
noncomputable def M7:jp:=
 [.i (.p .Lt (.v 1) (.t .l [.v 0])) [.r (.i (.v 0) (.v 1))] [],
 .r (.c (.i 0))]
noncomputable def M8:ca:=["_law_cell","_law_k","_law_number"]
noncomputable def M9:jp:=
 [.a 2 (.b .Mod (.b .Add (.b .Add (.b .Mult (.v 0) (.c (.i 48271))) (.b .Mult (.c (.i 7919)) (.v 1))) (.c (.i 11))) (.c (.i 1000003))),
 .r (.b .Mod (.b .Mult (.b .Mod (.b .Mult (.v 2) (.v 2)) (.c (.i 1000003))) (.v 2)) (.c (.i 1000003)))]
noncomputable def M_:ca:=["_law_cell","_law_size_here","_law_some"]
noncomputable def Na:jp:=
 [.a 2 (.c (.s " !\"#$&'()*+,-./0123456789:;<=>?@ABCDEFGHIJKLMNOPQRSTUVWXYZ[\\]^_`")),
 .a 2 (.b .Add (.v 2)<|.c<|.s "abcdefghijklmnopqrstuvwxyz{|}~\n"),
 .i (.p .Eq (.b .Mod (.v 0)<|.c<|.i 3)<|.c<|.i 0) [.a 2<|.c<|.s "ab\n"] [],
 .r (.Q .j (.c (.s "")) [(.C none [("_law_some",2),("_law_cell",0)] .f [.v 1] none (.i (.v 1) (.b .Mod (.b .FloorDiv (.l 0 [.v 2,.v 0]) (.c (.i 7))) (.t .l [.v 1]))))])]
noncomputable def acd:ca:=["_law_mixed"]
noncomputable def jz:ca:=["range","len"]
noncomputable def Nb:ca:=["_law_cell"]
noncomputable def Nc:jp:=
 [.i (.p .Eq (.b .Mod (.v 0) (.c (.i 8))) (.c (.i 1))) [.r (.b .Mod (.b .FloorDiv (.v 0) (.c (.i 8))) (.c (.i 401)))] [],
 .r (.b .Mod (.b .FloorDiv (.v 0) (.c (.i 8))) (.c (.i 25)))]
noncomputable def Nd:ca:=["_law_cell","_law_text_here","_law_many","_law_parts_here","_law_at","_law_k","_law_number","_law_size_here","_law_left"]
noncomputable def Nf:jp:=
 [.a 3 (.L []),
 .a 4 (.c<|.i 0),
 .g 5 .f [.v 2] [.a 6 (.l 0 [.v 0,(.b .Add (.c (.i 50)) (.v 5))]),
  .a 7 (.i (.L [(.c<|.i 1),(.c<|.i 2),(.c<|.i 0),(.c<|.i 3),(.c<|.i 5),(.c<|.i 40)])<|.b .Mod (.b .FloorDiv (.v 6)<|.c<|.i 4)<|.c<|.i 6),
  .a 8 (.t .m [.v 7,(.b .Sub (.t .l [.v 1])<|.v 4)]),
  .i (.p .Eq (.b .Mod (.v 6)<|.c<|.i 4)<|.c<|.i 3) [.d<|.Q .a (.v 3) [(.T [(.c<|.s "put"),(.l 1 [.v 6,.v 7])])]] [.i (.p .Eq (.b .Mod (.v 6)<|.c<|.i 4)<|.c<|.i 2) [.d<|.Q .a (.v 3) [(.T [(.c<|.s "cut"),(.s (.v 1) (some<|.v 4)<|some<|.b .Add (.v 4)<|.v 8)])]] [.d<|.Q .a (.v 3) [(.T [(.c<|.s "keep"),.v 8])]]],
  .i (.p .Lt (.b .Mod (.v 6) (.c (.i 4))) (.c (.i 3))) [.a 4 (.b .Add (.v 4) (.v 8))] []],
 .r (.b .Add (.v 3) (.L [(.T [(.c (.s "keep")),(.b .Sub (.t .l [.v 1]) (.v 4))])]))]
noncomputable def ace:ca:=["_law_mixed","_law_text"]
noncomputable def acf:ca:=["range","min","len"]
noncomputable def Ng:ca:=["_law_parts_here","_law_rows","_law_word","_law_thing","_law_found","_law_put","_law_cut","_law_keep","_law_some"]
noncomputable def Nh:jp:=
 [.a 1 (.L [(.L [(.c (.s "")),(.c (.s "")),(.c (.i 0))])]),
 .k [2,3] .l [.v 0] [.i (.p .Eq (.v 2) (.c (.s "keep"))) [.s (.i (.v 1) (.n (.c (.i 1)))) (.c (.i 2)) (.b .Add (.i (.i (.v 1) (.n (.c (.i 1)))) (.c (.i 2))) (.v 3))] [.i (.p .NotEq (.v 3) (.c (.s ""))) [.i (.p .Gt (.i (.i (.v 1) (.n (.c (.i 1)))) (.c (.i 2))) (.c (.i 0))) [.d (.Q .a (.v 1) [(.L [(.c (.s "")),(.c (.s "")),(.c (.i 0))])])] [],
    .s (.i (.v 1) (.n (.c (.i 1)))) (.t .i [(.p .Eq (.v 2) (.c (.s "cut")))]) (.b .Add (.i (.i (.v 1) (.n (.c (.i 1)))) (.t .i [(.p .Eq (.v 2) (.c (.s "cut")))])) (.v 3))] []]],
 .a 4 (.L []),
 .k [5,6,7] .l [.v 1] [.a 8 (.L [(.T [(.c (.s "put")),.v 5]),(.T [(.c (.s "cut")),.v 6]),(.T [(.c (.s "keep")),.v 7])]),
  .a 4 (.b .Add (.v 4) (.C none [] .l [.v 8] (some (.d [(.p .NotEq (.i (.v 0) (.c (.i 1))) (.c (.s ""))),(.p .NotEq (.i (.v 0) (.c (.i 1))) (.c (.i 0)))])) (.v 0)))],
 .r (.v 4)]
noncomputable def acg:ca:=["int"]
noncomputable def Ni:ca:=["_law_cell","_law_text_here","_law_many"]
noncomputable def Nj:jp:=
 [.r<|.l 0 [(.l 1 [.v 0,.v 1,.v 2])]]
noncomputable def ach:ca:=["_law_neat","_law_parts"]
noncomputable def Nk:ca:=["_law_found","_law_due","_law_part","_law_other"]
noncomputable def Nl:jp:=
 [.i (.o [(.N (.G .l (.v 0))),(.p .NotEq (.t .l [.v 0]) (.t .l [.v 1]))]) [.r (.c (.b false))] [],
 .k [2,3] .z [.v 0,.v 1] [.i (.o [(.N (.G .t (.v 2))),(.p .NotEq (.t .l [.v 2]) (.c (.i 2))),(.N (.G .s (.i (.v 2) (.c (.i 0))))),(.p .NotEq (.i (.v 2) (.c (.i 0))) (.i (.v 3) (.c (.i 0))))]) [.r (.c (.b false))] [],
  .i (.o [(.p .NotEq (.G .s<|.i (.v 3)<|.c<|.i 1)<|.G .s<|.i (.v 2)<|.c<|.i 1),(.p .NotEq (.i (.v 2)<|.c<|.i 1)<|.i (.v 3)<|.c<|.i 1)]) [.r<|.c<|.b false] [],
  .i (.d [(.N (.G .s (.i (.v 3) (.c (.i 1))))),(.N (.l 0 [(.i (.v 2) (.c (.i 1)))]))]) [.r (.c (.b false))] []],
 .r (.c (.b true))]
noncomputable def aci:ca:=["_law_whole"]
noncomputable def Hq:ca:=["isinstance","list","len","zip","tuple","str"]
noncomputable def Fw:ca:=["_law_text_here","_law_change_here","_law_found_here","_law_at","_law_word_here","_law_thing"]
noncomputable def Nm:jp:=
 [.a 2 (.c (.s "")),
 .a 3 (.c<|.i 0),
 .k [4,5] .l [.v 1] [.i (.p .Eq (.v 4) (.c (.s "put"))) [.a 2 (.b .Add (.v 2) (.v 5))] [.i (.p .Eq (.v 4) (.c (.s "cut"))) [.a 3 (.b .Add (.v 3) (.t .l [.v 5]))] [.a 2 (.b .Add (.v 2) (.s (.v 0) (some (.v 3)) (some (.b .Add (.v 3) (.v 5))))),
    .a 3 (.b .Add (.v 3) (.v 5))]]],
 .r (.v 2)]
noncomputable def Nn:ca:=["thing","least","most"]
noncomputable def Np:jp:=
 [.r<|.d [(.l 0 [.v 0]),(.xy .LtE .LtE (.v 1) (.v 0)<|.v 2)]]
noncomputable def Nq:ca:=["is_whole"]
noncomputable def Fx:ca:=["_law_found_here"]
section
variable{X:Cx}
end
section
variable{X:Cx}
end
end
namespace Nt
open PySem PySem.W PyProof.Rows
section
variable{n:Nat}{lt:Nat->Nat->Gc}{p:Array Nat}
variable{cmp:Nat->Nat->(Gc->Ev->Prop)->Ev->Prop}{R:Ev->Prop}
end
end Nt
section
open PyProof.Rows PySem.W
end
section
open PyProof.Rows
def xU:List (TE×TE)->St->Hp->(Ch->Hp->Prop)->Prop
 |[],_,H,Q=>Q [] H
 |(k,v)::r,F,H,Q=>k F H λx t=>v F t λy u=>xU r F u λp a=>Q ((x,y)::p) a
abbrev VV:Ch->List (EQ×EQ)->Prop:=Paired λp q=>lA p.1 q.1/\lA p.2 q.2
def qr(X:Cx)(p:Pos)(k:List (Option Expr))(v:tz)(o:List (TE×TE)):Prop:=
 ∀(D:gh)(s:Ev)(F:St)(H:Hp)(Q:Ch->Hp->Prop),uP X D F H s->xU o F H Q->
  wpAny (model X.prog X.w) X.A (evalPairs<|pairTrees k v X.env p) (λb c=>∃a Z,uP X D F Z c/\VV a b/\Q a Z) X.xe s
theorem ack:qr X p [] [] []:=λD s F H Q I h=>pairTrees_nil_walk ⟨[],H,I,.nil,h⟩
theorem acm{v:Expr}{a:tz}{o:List (TE×TE)}(z:PE X k c)(n:PE X v b)(w:qr X p d a o):
  qr X p (some k::d) (v::a) ((c,b)::o):=λD s F H Q I h=>
 pairTrees_cons_walk (aF (z D s F H _ I h) λK f ⟨x,t,C,i,l⟩=>aF (n D f F t _ C l) λJ e ⟨y,u,B,g,j⟩=>
  aF (w D e F u _ B j) λG L ⟨m,E,A,r,q⟩=>oG ((x,y)::m) E A (.cons ⟨i,g⟩ r) q)
def iH(K m:nH):nH:=m.foldl (λX k=>iJ X k.1 k.2) K
theorem KV.merge:∀{m:nH}{s:wT}{K:nH}{v:wT},KV m s->KV K v->KV (iH K m) (merged v s):=by
 intro m s K v r;induction r generalizing K v with
 |nil=>intro q;exact q
 | @cons p q c b h t i=>
  intro a;have e:KV (iJ K p.1 p.2) (stored v q.1 q.2):=by
   have:=a.put p.1 h.2;rw[<-h.1];exact this
  exact i e
theorem Nu:∀(m K:nH),(iH K m).length<=K.length+m.length
 |[],K=>by show K.length<=K.length+0;exact ZX _
 |p::r,K=>by
  have a:=Nu r (iJ K p.1 p.2);have h:=Em K p.1 p.2;show(iH (iJ K p.1 p.2) r).length<=_;rw[Wt];lia
theorem Nv:∀{K:nH}{d:List (EQ×EQ)},VV (K.map λk=>(kV k.1,k.2)) d->∃s,Carries (d_ P w) d s/\KV K s
 |[],_,r=>by cases r;exact⟨[],True.intro,.nil⟩
 |p::K,_,r=>by
  cases r with
  | @cons a b i f h t=>
   obtain⟨s,c,q⟩:=Nv t;obtain⟨g,e⟩:=b;exact⟨(p.1,e)::s,⟨uQ h.1,O,c⟩,.cons ⟨O,h.2⟩ q⟩
def Fy(o:List (TE×TE)):TE:=λF H Q=>∀p,H p=none->xU o F (upd H p<|.d []) λs u=>u p=some (.d [])/\∃K:nH,s=K.map (λk=>(kV k.1,k.2))/\K.length<=15/\Q (.r p) (upd u p<|.d<|iH [] K)
theorem Pv{v:tz}{o:List (TE×TE)}(h:qr X p k v o)(m:k.all (·.isSome)=true)(A:k.length=v.length)(E:k≠ [])(a:k.length<=15):PE X (.Dict k v p) (Fy o):=by
 intro M s F H Q I q;refine wpAny_Dict_walk (knd:=d_ X.prog X.w) m A E a<|aF (h M _ F _ _ (I.laid (λY Y q=>KF _ q) (ZX _) (anB s.heap I.big))<|q _ (I.ay.fresh (ZX s.heap.objs.size))) λN P ⟨R,u,b,l,e,K,J,S,j⟩=>?_;subst J;obtain⟨f,c,g⟩:=Nv l;obtain⟨z,C,d,i,L⟩:=K_ b.ay e;cases i;refine⟨f,c,L,λG x t=>⟨.r s.heap.objs.size,_,?_,O,j⟩⟩;have n:(iH [] K).length<=sizeLine:=by
  have D:=Nu K [];rw[Xp] at D;rw[sizeLine_eq];lia
 have B:∃q,G.get? s.heap.objs.size=some q:=let ⟨q,_,_,y,_⟩:=x;⟨q,y⟩;exact Eo b (e▸True.intro) t B<|La n C (g.merge .nil) x
def sR:nH->db
 |[]=>[]
 |k::r=>kV k.1::k.2::sR r
noncomputable def sS:Ch->db
 |[]=>[]
 |p::r=>p.1::p.2::sS r
def oH:Frag->TA->TE:=λ_ t F H Q=>∀p,H p=none->t F (upd H p<|.d []) λv u=>u p=some (.d [])/\∃K:nH,v=sR K/\K.length<=15/\Q (.r p) (upd u p<|.d<|iH [] K)
def qt(W:ba):wn->List (TE×TE)
 |a::b::r=>(af W a,af W b)::qt W r
 |_=>[]
theorem Fz:∀(s:wn)(H:Hp)(Q:db->Hp->Prop),s.length % 2=0->aR W s F H Q=xU (qt W s) F H λp u=>Q (sS p) u
 |[],H,Q,_=>O
 |[a],H,Q,e=>absurd e aP
 |a::b::r,H,Q,e=>by
  have d:r.length % 2=0:=by
   have:(r.length+1+1) % 2=0:=e;lia
  show(af W a F H λx t=>af W b F t λy u=>aR W r F u λv c=>Q (x::y::v) c)=af W a F H λx t=>af W b F t λy u=>xU (qt W r) F u λp c=>Q (x::y::sS p) c;congr 1;funext x t;congr 1;funext y u;exact Fz r u (λv c=>Q (x::y::v) c) d
theorem Ba:∀(s:Ch)(K:nH),sS s=sR K↔s=K.map λk=>(kV k.1,k.2)
 |[],[]=>⟨λY=>O,λY=>O⟩
 |[],k::r=>⟨nofun,nofun⟩
 |p::s,[]=>⟨nofun,nofun⟩
 |p::s,k::r=>by
  constructor;intro h;have b:=(YJ h).1;have a:=(YJ (YJ h).2).1;rw[((Ba s r).mp (YJ (YJ h).2).2),Ww,<-b,<-a];intro h;obtain⟨b,a⟩:=YJ h;show p.1::p.2::sS s=kV k.1::k.2::sR r;rw[(Ba s r).mpr a,b]
theorem acp{K:Frag}(b:wn)(e:b.length % 2=0):oH K (aR W b)=Fy (qt W b):=by
 funext F H Q;apply propext;constructor;intro h p c;have:=h p c;rw[Fz b _ _ e] at this;have f:(fun(s:Ch)(u:Hp)=>u p=some (.d [])/\∃a:nH,sS s=sR a/\a.length<=15/\Q (.r p) (upd u p<|.d<|iH [] a))=λs u=>u p=some (.d [])/\∃a:nH,s=a.map (λk=>(kV k.1,k.2))/\a.length<=15/\Q (.r p) (upd u p<|.d<|iH [] a):=by
  simp only[Ba]
 rw[f] at this;exact this;intro h p c;have:=h p c;rw[Fz b _ _ e];have f:(fun(s:Ch)(u:Hp)=>u p=some (.d [])/\∃a:nH,sS s=sR a/\a.length<=15/\Q (.r p) (upd u p<|.d<|iH [] a))=λs u=>u p=some (.d [])/\∃a:nH,s=a.map (λk=>(kV k.1,k.2))/\a.length<=15/\Q (.r p) (upd u p<|.d<|iH [] a):=by
  funext s u;simp only[Ba]
 rw[f];exact this
section
variable{CX:cP}{S:cZ}{W:ba}{X:Cx}{c:Pos}{k v:Expr}{d:List (Option Expr)}{e:tz}{f g:RE}{b:wn}
theorem FA:qr X c [] [] (qt W []):=ack
theorem sT(i:PE X k (af W f))(a:PE X v (af W g))(h:qr X c d e (qt W b)):qr X c (some k::d) (v::e) (qt W (f::g::b)):=acm i a h
noncomputable def Nw(k:List (Option Expr))(v:tz)(b:wn):Gc:=k.all (·.isSome) && decide (k.length=v.length) && decide (k.length≠0) && decide (k.length<=15) && decide (b.length % 2=0)
theorem FC(p:qr X c d e (qt W b))(h:autoParam (Nw d e b=true) ei):PE X (.Dict d e c) (af W<|.x oH b):=by
 simp only[Nw,WZ,KK] at h;obtain⟨⟨⟨⟨j,i⟩,g⟩,f⟩,a⟩:=h;show PE X _ (oH W.K<|aR W b);rw[acp b a];exact Pv p j i (λz=>g (z▸O)) f
end
noncomputable def oI(xs:db)(lo h s:u8):db:=(sliceRange (sliceBounds lo h s xs.length).1 (sliceBounds lo h s xs.length).2.1 (sliceBounds lo h s xs.length).2.2).filterMap (xs[·]?)
def qu(K:Frag):V->u8->u8->u8->Hp->VK->Prop:=λx lo h s H Q=>∃a xs,x=.r a/\ag K H a xs/\s≠some 0/\∀p,H p=none->Q (.r p) (upd H p<|.l<|oI xs lo h s)
theorem Ny{u:im}(r:Wz xs u):∀(s:bn),Wz (s.filterMap (xs[·]?)) (s.filterMap (u.toArray[·]?))
 |[]=>.nil
 |i::s=>by
  have b:=Ny r s;by_cases h:i<xs.length;obtain⟨w,d,c⟩:=r.get (i:=i) (x:=xs[i]) aP;have a:xs[i]?=some xs[i]:=by simp
  have e:u.toArray[i]?=some w:=by simpa using d
  rw[zW a,zW e];exact .cons c b;have l:=r.length;have a:xs[i]?=none:=by simp;exact Z6 h
  have e:u.toArray[i]?=none:=by simp;lia
  rw[List.filterMap_cons_none a,List.filterMap_cons_none e];exact b
section
variable{X:Cx}{e f el g:Expr}{d m c:TE}{p2 pos:Pos}
theorem acq{v l u d:EQ}{lo i k:u8}{f:Do}(I:uP X E F H s)(j:lA x v)(B:s.heap.IsSliceOf f l u d)(o:IsPart l lo)(p:IsPart u i)(m:IsPart d k)(h:qu X.K x lo i k H Q):
  ∃T y,typeLookup (.type T) "__getitem__"=pure (some<|.builtin y)/\s.TypeIs v T/\wpAny (model X.prog X.w) X.A (getItem v<|.ref f) (EP X E F Q) X.xe s:=by
 obtain⟨a,xs,zq⟩:=Z2 h;obtain⟨rfl,z,D,q⟩:=YG zq;cases j;obtain⟨c,r,t,J⟩:=I.list z;have n:=r.length;refine oG ("list") _ slot_list_getitem.lookup t.isList.typeIs (wpAny_getItem_list_slice t.isList B o p m D ?_ (by rw[WD] <;>lia));have C:=slicePick_size_le c.toArray lo i k;refine⟨.r s.heap.objs.size,_,I.laid (λb G q=>KF _ q) (ZX _) ?_,O,q _<|I.ay.fresh<|ZX _⟩;have g:=Ny r (sliceRange (sliceBounds lo i k xs.length).1 (sliceBounds lo i k xs.length).2.1 (sliceBounds lo i k xs.length).2.2);have e:(slicePick c.toArray lo i k)=((sliceRange (sliceBounds lo i k xs.length).1 (sliceBounds lo i k xs.length).2.1 (sliceBounds lo i k xs.length).2.2).filterMap (c.toArray[·]?)).toArray:=by
  unfold slicePick;rw[WD,<-n]
 refine sA ?_ _ 0 g (e▸Nr _ O);have:=g.length;unfold oI;rw[this,<-WD];have L:c.toArray.size=c.length:=WD;lia
def FD(K:Frag)(d:TE)(m h c:TO):TE:=λF H Q=>d F H λx t=>m F t λl u=>h F u λa e=>c F e λk b=>qu K x l a k b Q
theorem Nz{lo i:Option Expr}{o a c:TO}(S:PE X f d)(P:PO X lo o)(L:PO X i a)(N:PO X (some g) c):PE X (.Subscript f (.Slice lo i (some g) p2) pos) (FD X.K d o a c):=by
 intro D s F H Q I h;refine Subscript_<|aF (S D s F H _ I h) λv w ⟨x,t,I1,y,C⟩=>wpAny_Slice<|aF (P D w F t _ I1 C) λn r ⟨l,u,Z,G,B⟩=>aF (L D r F u _ Z B) λj p ⟨u0,H3,Y,E,A⟩=>aF (N D p F H3 _ Y A) λm e ⟨k,H4,W,J,z⟩=>?_;have V:uP X D F H4 {e with heap:=e.heap.push {cls:=.type "slice",data:=.fields #[n,j,m]}}:=W.kept λb ob q=>KF _ q;obtain⟨T,id,zq⟩:=Z2 (acq V y (Heap.IsSliceOf.new ..) G E J z);obtain⟨U,M,R⟩:=Z5 zq;exact tail_any M U R (O)
end
def mQ(lo:u8)(k:Int):Frag->TA->TE:=λK a F H Q=>a F H λv t=>match v with
 |[x]=>qu K x lo none (some k) t Q
 |_=>False
theorem acr{K:Frag}{r:RE}{i:Int}(l:∀F H Q,af W rl F H Q=Q (.i i) H)(s:∀F H Q,af W rs F H Q=Q (.i k) H):mQ (some i) k K (aR W [r])=FD K (af W r) (si<|af W rl) wX (si<|af W rs):=by
 funext F H Q;show(af W r F H λx t=>qu K x (some i) none (some k) t Q)=af W r F H λx t=>af W rl F t λy u=>∃b,y=V.i b/\af W rs F u λz c=>∃a,z=V.i a/\qu K x (some b) none (some a) c Q;congr 1;funext x t;rw[l];apply propext;constructor;intro h;refine⟨i,O,?_⟩;rw[s];exact⟨k,O,h⟩;rintro⟨b,e,h⟩;cases e;rw[s] at h;obtain⟨a,e,h⟩:=h;cases e;exact h
theorem acs{K:Frag}{r:RE}(b:∀F H Q,af W s F H Q=Q (.i k) H):mQ none k K (aR W [r])=FD K (af W r) wX wX (si<|af W s):=by
 funext F H Q;show(af W r F H λx t=>qu K x none none (some k) t Q)=af W r F H λx t=>af W s F t λz c=>∃a,z=V.i a/\qu K x none none (some a) c Q;congr 1;funext x t;rw[b];apply propext;constructor;intro h;exact⟨k,O,h⟩;rintro⟨a,e,h⟩;cases e;exact h
section
variable{d:cP}{S:cZ}{W:ba}{X:Cx}{a:Expr}{b:RE}{p q e c f:Pos}
theorem FE{i:Int}{f}(G:Good d S W X)(h:PE X a (af W b))(l:PE X (.Constant (.int i) g e) (af W<|.c<|.i i))(j:PE X (.Constant (.int k) f c) (af W<|.c<|.i k)):PE X (.Subscript a (.Slice (some<|.Constant (.int i) g e) none (some<|.Constant (.int k) f c) q) p) (af W<|.x (mQ (some i) k) [b]):=by
 show PE X _ (mQ (some i) k W.K<|aR W [b]);rw[acr (rl:=.c (.i i)) (rs:=.c (.i k)) (λY Y Y=>O)<|λY Y Y=>O,<-G.K];exact Nz h (Ah l) Ag<|Ah j
theorem acu{e}(G:Good d S W X)(g:PE X a (af W b))(j:PE X (.UnaryOp .USub (.Constant (.int k) e c) f) (af W<|.n<|.c<|.i k)):PE X (.Subscript a (.Slice none none (some<|.UnaryOp .USub (.Constant (.int k) e c) f) q) p) (af W<|.x (mQ none<|-k) [b]):=by
 show PE X _ (mQ none (-k) W.K<|aR W [b]);rw[acs ?_,<-G.K];exact Nz g Ag Ag (Ah j);intro F H Q;apply propext;constructor;intro h;exact h;intro h;exact h
end
theorem acv:typeLookup (.type "list_reverseiterator") "__len__"=pure none:=O
theorem acw:typeLookup (.type "list_reverseiterator") "__length_hint__"=pure (some<|.builtin "list_reverseiterator.__length_hint__"):=O
section
variable{c:Fk}{w:Fa}{A:FM}{E:ge}{s:Ev}
theorem acx{Q:Gc->Ev->Prop}(T:s.TypeIs (.ref I) "list_reverseiterator")(h:Q false s):wpAny (model c w) A (Builtin.List.listLengthHint<|.ref I) Q E s:=by
 refine GM<|ST T acv (GM<|ST T acw ?_);generalize NA:("list_reverseiterator.__length_hint__":GE)=i;subst NA;refine GM<|wpAny_isInstance T (O) (WF (λe=>absurd e aQ)<|λY=>?_);refine WF (λY=>WF (λe=>absurd e aQ)<|λY=>?_)<|λe=>absurd (O) e;exact IO h
theorem acz{Q:ge}{I l:Do}{items:sK}(hh:A.handled=none)(hit:s.heap.IsRevIter I l ((items.size:Int) - 1))(hl:s.heap.IsList l items)(jy:l≠I)(hn:items.size<=sizeLine)(hQ:∀h' tk mG c',(∀b o,b≠I->s.heap.get? b=some o->h'.get? b=some o)->
   h'.get? s.heap.objs.size=some {cls:=.type "list",dict:=none,data:=.seq mG c',slots:= #[]}->ItemsOf (λi v=>items[items.size - 1 - i]?=some v) mG items.size->Q (.ref s.heap.objs.size) {s with heap:=h',toks:=tk}):
  wpAny (model c w) A (call (.type "list") [.ref I]) Q E s:=by
 have hI:I<s.heap.objs.size:=by obtain⟨o,ho,Y⟩:=hit;exact IN ho
 have aB:l<s.heap.objs.size:=by obtain⟨o,ho,Y⟩:=hl;exact IN ho
 refine callType_codes (Q₁:=λobj U'=>obj=.ref s.heap.objs.size/\U'={s with heap:=s.heap.push {cls:=.type "list",data:=.seq #[]}}) F.called_list (F.typeCall_list_1 _) F.entry_list_init
  (code_list_new _ ⟨rfl,rfl⟩) λobj U' h₁=>?_
 obtain⟨rfl,rfl⟩:=h₁;have hS:(s.heap.push {cls:=.type "list",data:=.seq #[]}).get? s.heap.objs.size=some {cls:=.type "list",data:=.seq #[]}:=Nr _ rfl;refine⟨⟨_,hS,rfl⟩,F.args_list_init_2 _ _,?_⟩;have acA:(s.heap.push {cls:=.type "list",data:=.seq #[]}).IsRevIter I l ((items.size:Int) - 1):=hit.at λo e=>KF _ e;have cK:(s.heap.push {cls:=.type "list",data:=.seq #[]}).IsList l items:=hl.at λo e=>KF _ e;have kp1:∀b o,s.heap.get? b=some o->(s.heap.push {cls:=.type "list",data:=.seq #[]}).get? b=some o:=λb o e=>KF _ e;have NB:∀b o,s.heap.get? b=some o->b≠s.heap.objs.size:=λb o e=>Ze (IN e);generalize hS0:s.heap.objs.size=S at*;generalize s.heap.push {cls:=.type "list",data:=.seq #[]}=h1 at*;refine GM ?_;unfold Builtin.List.listItems;refine GM<|WP hS rfl<|IO ?_;refine GM<|UF hS rfl ?_;have vg:=Pw (Obj.mapSeq<|λY=>(#[]:sK)) hS rfl;have ic:∀b o,b≠S->h1.get? b=some o->(h1.update S<|Obj.mapSeq<|λY=>(#[]:sK)).get? b=some o:=
  λb o hb e=>(On _ _<|Ix hb).trans e
 have FF:I≠S:=Ze hI;have NC:l≠S:=Ze aB;have FG:=acA.at λo e=>ic I o FF e;have d4:=cK.at λo e=>ic l o NC e;refine GM<|wpAny_letGo ?_;generalize h1.update S (Obj.mapSeq<|λY=>(#[]:sK))=h2 at*;have hT:=FG.typeIs (s:={s with heap:=h2});unfold Builtin.List.listExtendWith;refine GM<|wpAny_typeOf hT ?_;have dv:Builtin.List.listSameRef (.ref S) (.ref I)=false:=by simp[Builtin.List.listSameRef,Ix FF]
 have i_:(Value.type "list_reverseiterator"==Value.type "list")=false:=by decide
 have h3':(Value.type "list_reverseiterator"==Value.type "tuple")=false:=by decide
 simp only[dv,i_,h3',ZO,WW,SB];refine GM<|wpAny_pyIter_revIter FG ?_;refine GM<|No<|acx hT ?_;have W1:=(Walks.listRev (prog:=c) (w:=w) (A:=A.in1.in1) hh I l jy items).toS;have hSf:S∉ [I,l]:=λhm=>by
  rcases X9.mp hm with e|hm
  exact FF e.symm;exact NC (Ya.mp hm).symm
 refine WF (λe9=>absurd e9 aQ)<|λY=>IO ⟨plainId_quiet F.plain_extend_loop _,?_⟩;refine codeAny_extend_loopS W1 hn S hSf _ items.size 0 _ #[] _ rfl (Y_ _) ⟨Y_ _,?_,d4⟩ vg (ItemsOf.nil _) λs' mG c' hm qv ia=>?_;have e:(items.size:Int) - 1 - ((0:Nat):Int)=(items.size:Int) - 1:=by lia
 rw[e];exact FG;rw[Moved.eq_with hm];refine⟨rfl,hQ s'.heap s'.toks mG c' (λb o hb e=>hm.heap b o (λFH=>?_)<|ic b o (NB b o e)<|kp1 b o e) qv ia⟩;rcases X9.mp FH with e'|FH
 exact NB b o e e';exact hb (Ya.mp FH)
end
theorem acE{a:EQ}(r:lA x a):∀{xs:db}{u:im},Wz xs u->Wz (xs++[x]) (u++[a]):=λh=>Wz.append h (.cons r .nil)
theorem acF:∀{xs:db}{u:im},Wz xs u->Wz xs.reverse u.reverse:=by
 intro Y Y h;induction h with
 |nil=>exact .nil
 |cons r Y i=>rw[XT,XT];exact acE r i
theorem acG{a:im}{X:sK}(h:ItemsOf (λi v=>a.toArray[a.toArray.size - 1 - i]?=some v) X a.toArray.size):X.toList=a.reverse:=by
 obtain⟨c,d⟩:=h;refine tF λi=>?_;by_cases b:i<a.length;have s:i<X.size:=by rw[c];simpa using b
 rw[List.getElem?_reverse b];have e:X.toList[i]?=some X[i]:=by simp
 rw[e];simpa using (d i X[i] (Y2 s)).symm;have s:X.toList.length=a.length:=by simpa using c
 rw[XC aH,XC (by rw[V_];exact Z6 b)]
def Bb(K:Frag):db->Hp->VK->Prop:=λxs H Q=>∃p B,xs=[.r p]/\ag K H p B/\∀l,H l=none->Q (.r l) (upd H l<|.l B.reverse)
def FI:Frag->TA->TE:=λK t=>iR (Bb K) t
theorem aaD:bootBuiltins "reversed"=some (.type "reversed"):=O
section
variable{CX:cP}{S:cZ}{W:ba}{X:Cx}{e:Expr}{es:tz}{x y:Str}{p d f c:Pos}{r:RE}{rs:wn}
theorem acH(M:X.calm=true)(S:Gl X "list")(z:X.mg "list"=none)(R:Gl X "reversed")(y:X.mg "reversed"=none)(N:PA X [e] t0)(E:starEach [e] X.env=[(false,eval e X.env)]):
  PE X (.Call (.Name "list" p) [.Call (.Name "reversed" d) [e] [] c] [] f) (iR (Bb X.K) t0):=by
 intro V s F H Q I h;refine Ps<|my I S z E5 ?_ aQ (O);refine Pi (Zj (Ps<|my I R y aaD ?_ aQ (O))) O O;refine Pi (aF (N c V s F H _ I h) λY k ⟨W,t,g,m,n⟩=>?_) E O;obtain⟨l,B,rfl,J,q⟩:=n;obtain⟨Z,rfl,u⟩:=ZI m;cases u;obtain⟨ak,v,x,D⟩:=g.list J;have a:=x.isList;have U:l<k.heap.objs.size:=by obtain⟨o,L,j⟩:=a;exact IN L
 refine call_reversed_list a (YT ?_);have Bc:=v.length;refine acz (I.ok.hd M) (nT _ (Nr _ O) O O) (a.push _) (Ze U) bc λP tk G T A e C=>?_;refine⟨.r _,_,g.laid (λb o i=>A b o (Ze (IN i)) (KF _ i)) aP
  (show cN X.prog X.w _ P _ (.l B.reverse) from(sA (by rw[V_];exact D) G.toList T ((acG C)▸acF v) (by simpa using e))),O,q _ (g.ay.fresh aP)⟩
theorem acI(G:Good CX S W X)(A:PA X [e] (aR W [r]))(h:autoParam (kB S x "list"=true) ei)(a:autoParam (kB S y "reversed"=true) ei)(n:autoParam (iG [e]=true) ei)(q:autoParam (S.m=0) cu):PE X (.Call (.Name x p) [.Call (.Name y d) [e] [] c] [] f) (af W<|.x FI [r]):=by
 simp only[kB,WZ,KK] at h a;obtain⟨⟨rfl,j⟩,i⟩:=h;obtain⟨⟨rfl,g⟩,b⟩:=a;show PE X _ (iR (Bb W.K)<|aR W [r]);rw[<-G.K];exact acH (G.calm q) (G.gl j) (G.gY _ i) (G.gl g) (G.gY _ b) A<|eJ (fH n).1
end
noncomputable def ND:ca:=["changes","pairs"]
noncomputable def NF:jp:=
 [.R (.p .Gt (.t .l [.v 0]) (.c (.i 1))) [.uV 1 (.C (some 2) [] .z [(.x (mQ (some 0) 2) [.v 0]),(.x (mQ (some 1) 2) [.v 0])] none (.l 0 [.v 0,.v 1])),
  .a 0 (.b .Add (.v 1) (.s (.v 0) (some (.b .Mult (.c (.i 2)) (.t .l [.v 1]))) none))],
 .r (.i (.v 0) (.c (.i 0)))]
noncomputable def acJ:ca:=["then"]
noncomputable def acK:ca:=["len","zip"]
noncomputable def NG:ca:=["self","size"]
noncomputable def NH:jp:=
 [.i (.o [(.N (.l 0 [.v 1])),(.p .Lt (.v 1) (.c (.i 0)))]) [.j 0 [(.c (.s "a text has no such number of signs"))]] [],
 .f (.v 0) "here" (.c<|.i 0),
 .f (.v 0) "lengths" (.L [.v 1]),
 .f (.v 0) "parents" (.L [.c .a]),
 .f (.v 0) "edges" (.L [.c .a]),
 .f (.v 0) "below" (.L [(.L [])]),
 .f (.v 0) "last_gone" (.L [.c .a])]
noncomputable def acL:ca:=["NoPlace"]
noncomputable def mS:ca:=["self","node"]
noncomputable def NI:jp:=
 [.i (.N<|.l 0 [.v 1,(.c<|.i 0),(.b .Sub (.a 0 "many" (.v 0) [])<|.c<|.i 1)]) [.j 0 [(.c<|.s "there is no such node")]] []]
noncomputable def acM:ca:=["is_between"]
noncomputable def acN:ca:=["many"]
noncomputable def Be:ca:=["NoNode"]
noncomputable def Bf:ca:=["self","change"]
noncomputable def NJ:jp:=
 [.i (.p .NotEq (.i (.l 0 [.v 1])<|.c<|.i 0)<|.i (.f (.v 0) "lengths")<|.f (.v 0) "here") [.j 0 [(.c<|.s "the change is over a text of another number of signs")]] []]
noncomputable def NK:ca:=["sizes"]
noncomputable def xV:ca:=["BadFit"]
noncomputable def mT:ca:=["self"]
noncomputable def NL:jp:=
 [.r<|.t .l [(.f (.v 0) "parents")]]
noncomputable def NM:jp:=
 [.d (.a 0 "need_node" (.v 0) [.v 1]),
 .r (.i (.f (.v 0) "parents") (.v 1))]
noncomputable def FJ:ca:=["need_node"]
noncomputable def NN:jp:=
 [.d (.a 0 "need_node" (.v 0) [.v 1]),
 .r (.i (.f (.v 0) "lengths") (.v 1))]
noncomputable def NO:ca:=["self","change","node"]
noncomputable def NP:jp:=
 [.d (.a 0 "need_over" (.v 0) [.v 1]),
 .a 2 (.a 1 "many" (.v 0) []),
 .d (.Q .a (.f (.v 0) "parents") [(.f (.v 0) "here")]),
 .d (.Q .a (.f (.v 0) "edges") [(.t .t [.v 1])]),
 .d (.Q .a (.f (.v 0) "lengths") [(.i (.l 0 [.v 1])<|.c<|.i 1)]),
 .d (.Q .a (.f (.v 0) "below") [(.L [])]),
 .d (.Q .a (.f (.v 0) "last_gone") [.c .a]),
 .d (.Q .a (.i (.f (.v 0) "below")<|.f (.v 0) "here") [.v 2]),
 .f (.v 0) "here" (.v 2),
 .r (.v 2)]
noncomputable def FK:ca:=["list"]
noncomputable def acO:ca:=["need_over","many"]
noncomputable def NQ:ca:=["self","node","other"]
noncomputable def NR:jp:=
 [.r<|.k (.p .Eq (.i (.f (.v 0) "parents")<|.v 2)<|.v 1) (.i (.f (.v 0) "edges")<|.v 2)<|.l 0 [(.i (.f (.v 0) "edges")<|.v 1)]]
noncomputable def acP:ca:=["back"]
noncomputable def NT:jp:=
 [.i (.p .Eq (.f (.v 0) "here") (.c (.i 0))) [.j 0 [(.c (.s "the root has no parent"))]] [],
 .r (.a 0 "along" (.v 0) [(.L [(.f (.v 0) "here"),(.i (.f (.v 0) "parents") (.f (.v 0) "here"))])])]
noncomputable def NU:ca:=["along"]
noncomputable def NV:ca:=["self","child"]
noncomputable def NW:jp:=
 [.a 1 (.i (.f (.v 0) "last_gone") (.f (.v 0) "here")),
 .i (.p .Is (.v 1)<|.c .a) [.j 0 [(.c<|.s "this node has no child")]] [],
 .r (.a 0 "along" (.v 0) [(.L [(.f (.v 0) "here"),.v 1])])]
noncomputable def NX:jp:=
 [.r<|.a 0 "along" (.v 0) [(.a 1 "way" (.v 0) [(.f (.v 0) "here"),.v 1])]]
noncomputable def acQ:ca:=["along","way"]
noncomputable def NY:ca:=["self","node","row"]
noncomputable def NZ:jp:=
 [.a 2 (.L [.v 1]),
 .R (.p .NotEq (.i (.v 2)<|.n<|.c<|.i 1)<|.c<|.i 0) [.d<|.Q .a (.v 2) [(.i (.f (.v 0) "parents")<|.i (.v 2)<|.n<|.c<|.i 1)]],
 .r (.v 2)]
noncomputable def N1:ca:=["self","one","other","ups","downs"]
noncomputable def FL:jp:=
 [.d (.a 0 "need_node" (.v 0) [.v 1]),
 .d (.a 0 "need_node" (.v 0) [.v 2]),
 .a 3 (.a 1 "upward" (.v 0) [.v 1]),
 .a 4 (.a 1 "upward" (.v 0) [.v 2]),
 .R (.d [(.p .Gt (.t .l [.v 3]) (.c (.i 1))),(.p .Gt (.t .l [.v 4]) (.c (.i 1))),(.p .Eq (.i (.v 3) (.n (.c (.i 2)))) (.i (.v 4) (.n (.c (.i 2)))))]) [.d (.Q .p (.v 3) []),
  .d (.Q .p (.v 4) [])],
 .r (.b .Add (.v 3) (.x FI [(.s (.v 4) none (some (.n (.c (.i 1)))))]))]
noncomputable def acR:ca:=["len","list","reversed"]
noncomputable def acS:ca:=["need_node","upward"]
noncomputable def N2:ca:=["self","node","above"]
noncomputable def N3:jp:=
 [.a 2 (.k (.p .Eq (.v 1) (.c (.i 0))) (.L []) (.L [(.i (.f (.v 0) "parents") (.v 1))])),
 .r (.b .Add (.v 2) (.i (.f (.v 0) "below") (.v 1)))]
structure fI(K:Frag)(C:Do):Prop where
 cl:gP K C
 i:gC K C "here"
 vh:gC K C "lengths"
 m:gC K C "parents"
 vi:gC K C "edges"
 xW:gC K C "below"
 Bg:gC K C "last_gone"
end
theorem acT(n:Nat):sliceRange ((n:Int) - 1) (-1) (-1)=(List.range n).map λk=>n - 1 - k:=by
 unfold sliceRange;have a:¬((-1:Int) >0):=by lia
 simp only[a,SB];have e:(if (n:Int) - 1> -1 then ((n:Int) - 1 - -1 - -1 - 1) / (- -1) else 0).toNat=n:=by
  by_cases z:n=0;subst z;rfl;rw[GT aH];have:((n:Int) - 1 - -1 - -1 - 1) / (- -1)=n:=by
   have h:(n:Int) - 1 - -1 - -1 - 1=n:=by lia
   rw[h];exact Int.ediv_one _
  lia
 rw[e];refine Xb λk b=>?_;lia
theorem acU(xs:db):oI xs none none (some<|-1)=xs.reverse:=by
 show(sliceRange ((xs.length:Int) - 1) (-1)<|-1).filterMap (xs[·]?)=xs.reverse;rw[acT,XY];refine tF λi=>?_;have e:(List.range xs.length).filterMap ((λx=>xs[x]?)∘λk=>xs.length - 1 - k)=xs.reverse:=by
  have:∀m,m<=xs.length->(List.range m).filterMap ((λx=>xs[x]?)∘λk=>xs.length - 1 - k)=xs.reverse.take m:=by
   intro m;induction m with
   |zero=>intro Y;rfl
   |succ m h=>
    intro a;rw[jN,List.filterMap_append,h (XE a),Wa,List.getElem?_reverse (BF a)];rfl
  rw[this xs.length<|ZX _,Wc aP]
 rw[e]
noncomputable def dD:db->db
 |[]=>[]
 |[x]=>[x]
 |x::_::r=>x::dD r
theorem N4(a n:Nat)(c:a<=n):sliceRange (a:Int) (n:Int) 2=(List.range<|(n - a+1) / 2).map λk=>a+2*k:=by
 unfold sliceRange;have h:(2:Int) >0:=by lia
 simp only[h,if_true];have e:(if (a:Int) < (n:Int) then ((n:Int) - (a:Int)+2 - 1) / 2 else 0).toNat=(n - a+1) / 2:=by
  by_cases z:a<n;lia;lia
 rw[e];refine Xb λk b=>?_;lia
theorem FN:∀(xs:db),((List.range<|(xs.length+1) / 2).map λk=>2*k).filterMap (xs[·]?)=dD xs
 |[]=>O
 |[x]=>by
  simp[dD]
 |x::y::r=>by
  have e:((x::y::r).length+1) / 2=(r.length+1) / 2+1:=by
   show(r.length+1+1+1) / 2=_;lia
  rw[e,Xe,Ww,Y3];show x::List.filterMap _ _=x::dD r;rw[<-(FN r),XY,XY];congr 1
theorem acV(xs:db):oI xs (some 0) none (some 2)=dD xs:=by
 unfold oI;have e:sliceBounds (some 0) none (some 2) xs.length=(((0:Nat):Int),(xs.length:Int),2):=by
  unfold sliceBounds;simp;lia
 rw[e];rw[N4 0 _<|Y_ _,<-FN xs];congr 1;refine Xb λk Y=>?_;exact Yn _ _
theorem acW(xs:db):oI xs (some 1) none (some 2)=dD (xs.drop 1):=by
 unfold oI;cases xs with
 |nil=>rfl
 |cons x r=>
  have e:sliceBounds (some 1) none (some 2) (x::r).length=(((1:Nat):Int),((x::r).length:Int),2):=by
   unfold sliceBounds;simp;lia
  rw[e];rw[N4 1 _ aP];show _=dD r;rw[<-FN r,XY,XY];congr 1;funext k;show(x::r)[1+2*k]?=r[2*k]?;rw[Nat.add_comm 1<|2*k,Zl]
section
open PyProof.Rows
def bI(H Z:Hp):Prop:= ∀b xs,H b=some (.t xs)->Z b=some (.t xs)
theorem bB(h:ar H Z):bI H Z:=λb xs e=>h b _ e
theorem bI.trans(a:bI H t)(b:bI t u):bI H u:=λc xs e=>b c xs (a c xs e)
theorem V3{o:HO}(h:H p=none):ar H (upd H p o):=λb u e=>by rw[aw<|aJ e h];exact e
def aE(c:Do)(H Z:Hp):Prop:= ∀b o,H b=some o->b≠c->Z b=some o
theorem aE.upd{o:HO}:aE c H (upd H c o):=λb u e n=>by rw[aw n];exact e
theorem aE.trans(a:aE c H t)(b:aE c t u):aE c H u:=λd o e n=>b d o (a d o e n) n
theorem aE.same(a:aE c H t)(b:ar t u):aE c H u:=λd o e n=>b d o (a d o e n)
theorem sameBut(a:ar H t)(b:aE c t u):aE c H u:=λd o e n=>b d o (a d o e) n
theorem qw(a:ar H t)(h:H c=none)(b:aE c t u):ar H u:=λd o e=>b d o (a d o e) (aJ e h)
theorem aE.bx(h:aE c H Z)(a:H c=some (.l xs)):bI H Z:=λb B e=>h b _ e (λz=>by lia)
theorem iF{B:Prop}(q:B)(h:c=false:=by first|rfl|decide):if c=true then A else B:=by lia
theorem iT{B:Prop}(q:A)(h:c=true:=by first|rfl|decide):if c=true then A else B:=by lia
inductive Pt where|k (n:Int)|p (s:Str)|c (s:Str)
 deriving DecidableEq
noncomputable def Pt.word:Pt->Str|.k _=> "keep" |.p _=> "put" |.c _=> "cut"
noncomputable def Pt.val:Pt->V|.k n=>.i n|.p s=>.s s|.c s=>.s s
def jA(H:Hp)(v:V)(p:Pt):Prop:= ∃a,v=.r a/\H a=some (.t [.s p.word,p.val])
abbrev aD(H:Hp):db->List Pt->Prop:=Paired (jA H)
theorem jA.mono(t:bI H Z)(h:jA H v p):jA Z v p:=by
 obtain⟨a,e,h⟩:=h;exact⟨a,e,t _ _ h⟩
theorem aD.mono(t:bI H Z):∀{v:db}{p:List Pt},aD H v p->aD Z v p:=by
 intro Y Y h;exact Paired.DJ h λY Y x=>x.mono t
theorem aD.get:∀{s:db}{c:List Pt}{i:Nat}{v:V},aD H s c->s[i]?=some v->∃p,c[i]?=some p/\jA H v p:=by
 intro Y Y i v h;induction h generalizing i with
 |nil=>intro e;simp at e
 |cons x Y d=>
  intro e;cases i with
  |zero=>simp at e;subst e;exact⟨_,O,x⟩
  |succ i=>
   obtain⟨p,a,b⟩:=d (by simpa using e);exact⟨p,by simpa using a,b⟩
theorem aD.snoc{s:List Pt}{p:Pt}(h:aD H vs s)(q:jA H v p):aD H (vs++[v]) (s++[p]):=SL h q
theorem aD.dropLast:∀{v:db}{p:List Pt},aD H v p->aD H v.dropLast p.dropLast:=by
 intro Y Y h;induction h with
 |nil=>exact .nil
 |cons x k i=>
  cases k with
  |nil=>exact .nil
  |cons Y Y=>exact .cons x i
inductive N5(v:db)(H:Hp)(Q:VK)(E:XK):Prop|i(i:_)(_:v=[.i i])(_:Q (.b true) H)
noncomputable def mV(w a:Str):Gc:=w !=a && !(a=="cut" && w=="put")
inductive N6(v:db)(H:Hp)(Q:VK)(E:XK):Prop|i(w a:_)(_:v=[.s w,.s a])(_:Q (.b<|mV w a) H)
abbrev bK(K:Frag)(E:XK):ba:=aG K [] [] (E:=E)
theorem acX{K:Frag}(v:db)(H:Hp)(Q:VK)(E:XK)(h:N6 v H Q E):av (bK K E) MO {nx:=λY Z=>Q .a Z,r:=Q} (WR MN v) H:=by
 obtain⟨w,a,rfl,q⟩:=h;refine pB _ O _ O ⟨_,O,?_⟩;unfold mV at q;refine gH (λh=>?_)<|λh=>?_;rw[yE,iD] at h;have e:(w !=a)=true:=h;rw[e] at q;refine⟨_,O,_,O,?_⟩;refine gH (λc=>?_)<|λc=>?_;rw[WG,iD] at c;rw[c] at q;refine nS _ O ?_;show Q (.b<|!(false ^^ decide (V.s w=V.s "put"))) H;rw[WG,iD];exact q;have d:(a=="cut")=false:=by lia
 rw[d] at q;exact q;have e:(w !=a)=false:=by lia
 rw[e] at q;exact q
noncomputable def sU:Pt->Int|.k n=>n|.p s=>s.length|.c s=>s.length
def FO:Pt->Prop|.k _=>True|.p s=>s.length<=1000000|.c s=>s.length<=1000000
theorem cx(h:n<=1000000):n<=sizeLine:=Y4 h aQ
theorem bY(h:n<=1000000):n<sizeLine:=yF h aQ
inductive qx(s:db)(H:Hp)(Q:VK)(E:XK):Prop|i(v p:_)(_:s=[v])(_:jA H v p)(_:FO p)(_:Q (.i<|sU p) H)
theorem acY{K:Frag}(d:db)(H:Hp)(Q:VK)(E:XK)(h:qx d H Q E):av (bK K E) MS {nx:=λY Z=>Q .a Z,r:=Q} (WR MR d) H:=by
 obtain⟨v,p,rfl,⟨a,rfl,b⟩,o,q⟩:=h;refine nS _ O (.inr<|.inl ⟨_,_,_,_,O,O,aA.of b,O,_,O,?_⟩);cases p with
 |k n=>exact gG (nS _ O (.inr<|.inl ⟨_,_,_,_,O,O,aA.of b,O,q⟩))
 |p s=>exact iU (nS _ O (.inr<|.inl ⟨_,_,_,_,O,O,aA.of b,O,cx o,q⟩))
 |c s=>exact iU (nS _ O (.inr<|.inl ⟨_,_,_,_,O,O,aA.of b,O,cx o,q⟩))
noncomputable def cell(n:Ce)(k:Nat):Int:=n.getD k 0
inductive FP(K:Frag)(v:db)(H:Hp)(Q:VK)(E:XK):Prop|i(a:Do)(n:Ce)(k:Int)(_:v=[.r a,.i k])(_:ag K H a (n.map V.i))(_:0<=k)(_:Q (.i<|cell n k.toNat) H)
theorem acZ{K:Frag}(s:db)(H:Hp)(Q:VK)(E:XK)(h:FP K s H Q E):av (bK K E) M7 {nx:=λY Z=>Q .a Z,r:=Q} (WR M6 s) H:=by
 obtain⟨a,n,k,rfl,b,c,q⟩:=h;refine pB _ O _ O (.inl (p3 _ b trivial _ O ?_));rw[Wo];refine gH (λh=>?_)<|λh=>?_;refine pB _ O _ O (.inl (n4 _ _ _ _ O O b ?_ q));have e:=bq (xs:=n.map V.i) (j:=k.toNat) (v:=.i (cell n k.toNat)) (by
  have:k.toNat<n.length:=by lia
  simp[cell,this])
 rw[show((k.toNat:Nat):Int)=k by lia] at e;exact e;have e:cell n k.toNat=0:=by
  have z:n[k.toNat]?=none:=List.getElem?_eq_none_iff.mpr aH;unfold cell;rw[Xu,z];rfl
 rw[e] at q;exact q
theorem FQ:(0:Int) <1000003:=by decide
noncomputable def mixed(c k:Int):Int:=let n:=(c*48271+7919*k+11) % 1000003;n*n % 1000003*n % 1000003
inductive FR(v:db)(H:Hp)(Q:VK)(E:XK):Prop|i(c k:_)(_:v=[.i c,.i k])(_:Q (.i<|mixed c k) H)
theorem ac0{K:Frag}(v:db)(H:Hp)(Q:VK)(E:XK)(h:FR v H Q E):av (bK K E) M9 {nx:=λY Z=>Q .a Z,r:=Q} (WR M8 v) H:=by
 obtain⟨c,k,rfl,q⟩:=h;refine⟨_,O,.inr ⟨aH,aH⟩,_,O,.inl ⟨aH,aH⟩,FQ,?_⟩;refine⟨_,O,_,O,.inl ⟨aH,aH⟩,FQ,_,O,.inl ⟨aH,aH⟩,FQ,?_⟩;exact q
theorem ac1(c k:Int):0<=mixed c k/\mixed c k<1000003:=⟨X7 _ aH,Yw _ aH⟩
noncomputable def SG:Str:=" !\"#$&'()*+,-./0123456789:;<=>?@ABCDEFGHIJKLMNOPQRSTUVWXYZ[\\]^_`abcdefghijklmnopqrstuvwxyz{|}~\n"
def good(x:Str):Prop:=x.length<=1000000/\∀c∈x.cps.toList,SG.cps.contains c=true
theorem Ad{a:Type}(p:a->Gc):∀l:List a,(∀c∈l,p c=true)->l.takeWhile p=l
 |[],_=>O
 |c::l,h=>by rw[List.takeWhile_cons,h c Wu,Ad p l λd b=>h d (Wb _ b)];rfl
theorem ac2(x y:Str)(h:∀c∈x.cps.toList,y.cps.contains c=true):Txt.lstripChars x y="":=by
 have e:stripLo y.cps.contains true x=x.length:=by
  unfold stripLo;rw[Ad _ _ h];simp[Str.length]
 have a:stripHi y.cps.contains false x x.length=x.length:=O;unfold Txt.lstripChars Txt.stripBy stripSame stripped;rw[e];split;rename_i q;simp only[WZ,Uf] at q;have:=Array.eq_empty_of_size_eq_zero q.1;obtain⟨c⟩:=x;subst this;rfl;show(⟨x.cps.extract x.length x.length⟩:Str)=_;have:x.cps.extract x.length x.length= #[]:=by simp[Str.length]
 rw[this];rfl
theorem FT(h:H a=some (.t xs))(q:k (T==.t)):cp T (.r a) H k:=by
 show(match H a with|some (.l _)=>k (T==.l)|some (.b _<|.l _)=>k (T==.l)|some (.t _)=>k (T==.t)|some (.d _)=>k (T==.d)|some (.T _)=>k (T==.d)|_=>False);rw[h];exact q
theorem N7(h:H a=some (.l xs))(q:k (T==.l)):cp T (.r a) H k:=by
 show(match H a with|some (.l _)=>k (T==.l)|some (.b _<|.l _)=>k (T==.l)|some (.t _)=>k (T==.t)|some (.d _)=>k (T==.d)|some (.T _)=>k (T==.d)|_=>False);rw[h];exact q
abbrev agN:on:=[("SIGNS",.s SG)]
inductive ac3(v:db)(H:Hp)(Q:VK)(E:XK):Prop|i(x:_)(_:v=[.s x])(_:good x)(_:Q (.b true) H)
abbrev bW(K:Frag)(E:XK):ba:=aG K [] agN (E:=E)
theorem ac4{K:Frag}(v:db)(H:Hp)(Q:VK)(E:XK)(h:ac3 v H Q E):av (bW K E) Fv {nx:=λY Z=>Q .a Z,r:=Q} (WR oF v) H:=by
 obtain⟨x,rfl,c,q⟩:=h;refine⟨_,O,O,_,O,gG ⟨_,O,O,cx c.1,?_⟩⟩;show Q (.b<|false ^^ decide (V.s (Txt.lstripChars x SG)=V.s "")) H;rw[ac2 x SG c.2];exact q
def aK:Pt->Prop|.k n=>1<=n|.p s=>good s/\s≠"" |.c s=>good s/\s≠""
inductive ac5(K:Frag)(v:db)(H:Hp)(Q:VK)(E:XK):Prop|i(w p xs:_)(_:v=[.s w,.r p])(_:aA K H p xs)(_:xs.all iS=true)(_:Q (.b<|df (.s w) xs) H)
theorem ac6{K:Frag}(v:db)(H:Hp)(Q:VK)(E:XK)(h:ac5 K v H Q E):av (bK K E) Fu {nx:=λY Z=>Q .a Z,r:=Q} (WR Ft v) H:=by
 obtain⟨w,p,xs,rfl,b,f,q⟩:=h;exact⟨_,O,O,_,O,gG (pB _ O _ O ⟨p,xs,O,.inr b,O,f,q⟩)⟩
inductive FU(s:db)(H:Hp)(Q:VK)(E:XK):Prop|i(v p:_)(_:s=[v])(_:jA H v p)(_:aK p)(_:∀Z,ar H Z->Q (.b true) Z)
def hY:Str->List Pt->Gc
 |_,[]=>true
 |a,p::r=>mV p.word a && hY p.word r
noncomputable def sW(a:Str)(s:List Pt):Nat->Str
 | 0=>a
 |i+1=>match s[i]? with|some p=>p.word|none=> ""
theorem N8:∀(s:List Pt)(a:Str)(i:Nat)(p:Pt),hY a s=true->s[i]?=some p->mV p.word (sW a s i)=true
 |[],_,_,_,_,h=>by simp at h
 |q::r,a,0,p,h,e=>by
  simp only[hY,WZ] at h;simp at e;subst e;exact h.1
 |q::r,a,i+1,p,h,e=>by
  simp only[hY,WZ] at h;have b:=N8 r q.word i p h.2 (by simpa using e);cases i with
  |zero=>simpa[sW] using b
  |succ i=>simpa[sW] using b
abbrev ac7:wr:=[("is_part",FU),("may_follow",N6)]
inductive FV(v:db)(H:Hp)(Q:VK)(E:XK):Prop|i(a xs s:_)(_:v=[.r a])(_:H a=some (.l xs))(_:aD H xs s)(_:(∀p∈s,aK p))(_:hY "" s=true)(_:∀Z,ar H Z->Q .a Z)
abbrev agK(K:Frag)(et:ut)(E:XK):ba:=aG K ac7 [] (et:=et) (E:=E)
theorem ac8{K:Frag}(l:db)(H:Hp)(Q:VK)(E:XK)(h:FV l H Q E):av (agK K et E) MQ {nx:=λY Z=>Q .a Z,r:=Q} (WR MP l) H:=by
 obtain⟨a,xs,e,rfl,k,w,y,o,q⟩:=h;refine nT _ O O (N7 k (rT _ O a O (oM _ (ag.of k)) (kU (λi F u=>∃v,F=[some (.r a),some (.s (sW "" e i)),v]/\ar H u) (nS none O (ar.refl _))
  (λi F u _ ⟨_,_,d⟩=>ag.of (d _ _ k)) ?_ ?_)))
 rintro i x F u m ⟨v,rfl,d⟩;obtain⟨p,g,U⟩:=w.get m;obtain⟨b,rfl,j⟩:=U.mono (bB d);refine nS _ O ⟨_,p,O,nS b O j,y p<|YK g,λz f=>nS _ O (.inr<|.inl ⟨_,_,_,_,O,O,aA.of<|f _ _ j,O,_,O,p.word,_,O,?_⟩)⟩;show(λc t=>if (!c)=true then _ else _) (mV p.word<|sW "" e i) z;rw[(N8 e "" i p o g)];refine nS _ O (.inr<|.inl ⟨_,_,_,_,O,O,aA.of<|f _ _ j,O,some<|.r b,?_,d.trans f⟩);show[some<|V.r a,some<|V.s p.word,some<|V.r b]=_;have n:sW "" e (i+1)=p.word:=by simp only[sW,g]
 rw[n];rintro F u ⟨v,rfl,d⟩;exact q u d
def WJ(s:List Pt):Ce:=(s.filter λp=>decide (p.word≠ ("put":Str))).map sU
def sX(s:List Pt):Ce:=(s.filter λp=>decide (p.word≠ ("cut":Str))).map sU
abbrev apX:wr:=[("need_change",FV),("part_size",qx)]
inductive jB(v:db)(H:Hp)(Q:VK)(E:XK):Prop|i(a xs s:_)(_:v=[.r a])(_:H a=some (.l xs))(_:aD H xs s)(_:(∀p∈s,aK p))(_:hY "" s=true)(_:s.length<=1000000)(_:∀b Z,ar H Z->Z b=some (.t [.i (WJ s).sum,.i (sX s).sum])->Q (.r b) Z)
theorem xX(h:aK p):FO p:=by
 cases p with
 |k n=>trivial
 |p s=>exact h.1.1
 |c s=>exact h.1.1
theorem ac9{a:Type}(p:a->Gc)(l:List a)(i:Nat)(v:a)(h:l[i]?=some v):(l.take<|i+1).filter p=(l.take i).filter p++(if p v then [v] else []):=by
 rw[Wa,h];cases b:p v<;>simp[b]
abbrev cU(K:Frag)(E:XK):ba:=aG K apX [] (E:=E)
theorem ac_{K:Frag}(D:db)(H:Hp)(Q:VK)(E:XK)(h:jB D H Q E):av (cU K E) MU {nx:=λ_ Z=>Q .a Z,r:=Q} (WR MT D) H:=by
 obtain⟨a,xs,g,rfl,j,y,L,dt,I,q⟩:=h;refine nS _ O ⟨a,xs,g,O,j,y,L,dt,λt k=>?_⟩;have hl:=KB y;have f:∀(w:Str)(t:Hp)(A:VK)(F:St),ar H t->F[0]?=some (some<|.r a)->
   (∀b u,ar H u->u b=some (.l<|((g.filter λp=>decide (p.word≠w)).map sU).map V.i)->A (.r b) u)->
   af (cU K E) (.C none [] .l [.v 0] (some<|.p .NotEq (.i (.v 0)<|.c<|.i 0)<|.c<|.s w)<|.l 1 [.v 0]) F t A:=by
  intro w t A F k o S;refine rT _ o a O (oM _ (ag.of<|k _ _ j)) ⟨λi m B u=>m=xs.length - i/\i<=xs.length/\ar H u/\B=(((g.take i).filter λp=>decide (p.word≠w)).map sU).map V.i,pQ _ O (Y_ _) k O,?_⟩;rintro i m B u ⟨rfl,hi,d,rfl⟩;by_cases z:i<xs.length;refine .inr ⟨o3 xs (xs[i]) (ag.of<|d _ _ j) (by simp[z]),?_⟩;rintro x H3 ⟨rfl,P⟩;have bJ:=P xs (ag.of<|d _ _ j);obtain⟨p,n,U⟩:=y.get bJ;obtain⟨b,rfl,J⟩:=U.mono (bB d);refine nS _ O (.inr<|.inl ⟨_,_,_,_,O,O,aA.of J,O,_,O,?_⟩);have G:=ac9 (λp=>decide<|p.word≠w) g i p n;have T:((g.take i).filter λp=>decide (p.word≠w)).length<=1000000:=Y4 (YI _ _) (Y4 (List.length_take_le _ _) aH);refine gH (λh=>?_)<|λh=>?_;have e:decide (p.word≠w)=true:=by lia
  refine nS _ O ⟨_,p,O,nS b O J,xX<|L p<|YK n,?_,xs.length - (i+1),aH,O,z,d,?_⟩;rw[Wo,Wo];exact bY T;rw[G,e];simp;have e:=by simpa using h
  refine rR (xs.length - (i+1)) aH O z d ?_;rw[G,e];simp;have W:i=xs.length:=XZ hi (Z6 z)
  subst W;refine .inl ⟨nS xs (ag.of<|d _ _ j) (ZX _),λp n=>?_⟩;have e:g.take xs.length=g:=Wc aH;rw[e];exact S p _ (d.trans<|V3 n) aj
 refine MH<|MI<|MJ<|f "put" t _ _ k O λb1 u d Y=>nS _ (ag.of Y) ?_;refine MH<|MI<|MJ<|f "cut" u _ _ d O λb2 H3 N X=>nS _ (ag.of X) ?_;refine rT _ O _ O cM (λM R=>?_);exact q M _ (N.trans<|V3 R) aj
noncomputable def eI(t:ca):Str:=Txt.join "" t
noncomputable def sz(t:ca):Nat:=(t.map Str.length).sum
theorem Bx:(Str.ofString "")=⟨#[]⟩:=O
theorem vj(s:ca):(eI s).cps.toList=(s.map λt=>t.cps.toList).flatten:=by
 have e:(Str.ofString "").cps= #[]:=O;cases s with
 |nil=>rfl
 |cons t r=>
  show(r.foldl (λX p=>X++(Str.ofString "").cps++p.cps) t.cps).toList=_;rw[e];have g:∀(r:ca)(X:Array Nat),(r.foldl (λX p=>X++ #[]++p.cps) X).toList=X.toList++(r.map λt=>t.cps.toList).flatten:=by
   intro r;induction r with
   |nil=>intro X;simp
   |cons q r i=>
    intro X;show(r.foldl (λX p=>X++ #[]++p.cps)<|X++ #[]++q.cps).toList=_;rw[i];simp
  rw[g];simp
theorem ja(h:x.cps.toList=y.cps.toList):x=y:=by
 obtain⟨x⟩:=x;obtain⟨y⟩:=y;exact IR Str.mk<|Array.toList_inj.mp h
theorem Yf(x y:Str):(x++y).cps.toList=x.cps.toList++y.cps.toList:=by
 show(x.cps++y.cps).toList=_;simp
theorem ada(a b:ca):eI (a++b)=eI a++eI b:=ja (by rw[Yf,vj,vj,vj];simp)
theorem adb(x:Str):eI [x]=x:=ja (by rw[vj];simp)
theorem YM(x:Str):x.length=x.cps.toList.length:=O
theorem N_(t:ca):(eI t).length=sz t:=by
 rw[YM,vj,List.length_flatten];rw[Y3];congr 1
theorem Oa(x:Str):x++(Str.ofString "")=x:=O
theorem vk(x:Str):(Str.ofString "")++x=x:=ja (by rw[Yf];simp[Bx])
theorem Ob(a b:ca):sz (a++b)=sz a+sz b:=by simp[sz]
theorem WE(h:sz ts<=1000000):JoinOk "" ts=true:=by
 have g:∀(l:ca)(n:Nat),l.foldl (· + ·.length+(Str.ofString "").length) n=n+sz l:=by
  intro l;induction l with
  |nil=>intro n;rfl
  |cons a r i=>
   intro n;show r.foldl _ (n+a.length+0)=_;rw[i];show n+a.length+0+sz r=n+(a.length+sz r);lia
 unfold JoinOk;have e:ts.toArray.foldl (· + ·.length+(Str.ofString "").length) 0=sz ts:=by
  rw[List.foldl_toArray,g,Z9]
 rw[e];show(!decide (sz ts>sizeLine))=true;rw[ZN (by have:=cx h;exact YF this)];rfl
noncomputable def txt(m:Str->Pt)(x:Str):List Pt:=if x="" then [] else [m x]
def dR(h:List Pt)(Q a:ca):List Pt:=h++txt .p (eI Q)++txt .c (eI a)
inductive Oc(v:db)(H:Hp)(Q:VK)(E:XK):Prop|i(c p q xs b d e:_)(_:v=[.r c,.r p,.r q])(_:H c=some (.l xs))(_:aD H xs b)(_:H p=some (.l<|d.map .s))(_:H q=some (.l<|e.map .s))(_:sz d<=1000000)(_:sz e<=1000000)(_:b.length<=900000)(_:∀Z h,aE c H Z->Z c=some (.l h)->aD Z h (dR b d e)->Q .a Z)
theorem ade{K:Frag}(C:db)(H:Hp)(Q:VK)(E:XK)(h:Oc C H Q E):av (bK K E) M0 {nx:=λ_ Z=>Q .a Z,r:=Q} (WR MZ C) H:=by
 obtain⟨c,p,q,xs,G,z,L,rfl,hc,bE,hp,hq,U,FW,hl,k⟩:=h;refine qC O _ O ⟨z,ag.of hp,WE U,?_⟩;refine qC O _ O ⟨L,ag.of hq,WE FW,?_⟩;have N:∀(i:Nat)(w x:Str)(m:Str->Pt)(t:Hp)(j:db)(W:List Pt)(F:St)(D:WH),(∀y,(m y).word=w/\(m y).val=.s y)->t c=some (.l j)->aD t j W->W.length<=950000->F[0]?=some (some<|.r c)->F[i]?=some (some<|.s x)->
   (∀u n,aE c t u->u c=some (.l n)->aD u n (W++txt m x)->D.nx F u)->
   dC (bK K E) (.i (.p .NotEq (.v i)<|.c<|.s "") [.d<|.Q .a (.v 0) [(.T [(.c<|.s w),.v i])]] []) D F t:=by
  intro i w x m t j W F D M g A cK h0 J I;have a':=KB A;refine⟨_,J,_,O,?_⟩;rw[yE,iD];refine gH (λh=>?_)<|λh=>?_;have V:x≠"":=by simpa using h
  refine p3 _ h0 (.inl ⟨O,oM _ (ag.of g)⟩) _ J ⟨cM,λf B=>?_⟩;have Y:c≠f:=aJ g B;refine nT j (by rw[aw Y];exact g) (bY aH) (I _ (j++[.r f]) ((sameBut (V3 B) aE.upd)) aj ?_);have R:bI t (upd (upd t f<|.t [.s w,.s x]) c<|.l<|j++[.r f]):=(sameBut (V3 B) aE.upd).bx g;unfold txt;rw[Id V];refine aD.snoc (A.mono R) (nS f O ?_);rw[aw Y.symm,aj,(M x).1,(M x).2];have e:x="":=by simpa using h
  refine I t j (λb o e _=>e) g ?_;unfold txt;rw[GT e,jP];exact A
 refine N 3 "put" (eI z) .p H xs G _ _ (λ_=>⟨O,O⟩) hc bE (Y4 hl (Xk _ _)) O O λu n b2 cY S=>?_;have l2:(G++txt .p (eI z)).length<=950000:=by
  rw[JB];have:(txt .p<|eI z).length<=1:=by unfold txt;split<;>simp
  lia
 refine N 4 "cut" (eI L) .c u n _ _ _ (λ_=>⟨O,O⟩) cY S l2 O O λH3 kj b3 X P=>?_;exact k H3 kj (b2.trans b3) X P
noncomputable def e_(c:List Pt)(n:Int):List Pt:=match c.getLast? with
 |some (.k m)=>c.dropLast++[.k<|n+m]
 |_=>c++[.k n]
inductive Oe(v:db)(H:Hp)(Q:VK)(E:XK):Prop|i(c n xs p:_)(_:v=[.r c,.i n])(_:H c=some (.l xs))(_:aD H xs p)(_:p.length<=900000)(_:∀Z b,aE c H Z->Z c=some (.l b)->aD Z b (e_ p n)->Q .a Z)
theorem aD.last(h:aD H xs s)(n:xs.length≠0):∃v p,xs[xs.length - 1]?=some v/\fF xs (-1)=some v/\s.getLast?=some p/\jA H v p:=by
 have B:xs.length - 1<xs.length:=by lia
 obtain⟨p,b,a⟩:=h.get (i:=xs.length - 1) (v:=xs[xs.length - 1]) aP;refine⟨xs[xs.length - 1],p,aP,?_,?_,a⟩;unfold fF fZ;have:¬(0:Int)<= -1:=by lia
 rw[Id this,GT aH];have e:((-1:Int)+(xs.length:Int)).toNat=xs.length - 1:=by lia
 rw[e];simp;rw[List.getLast?_eq_getElem?,<-KB h];exact b
theorem adg{K:Frag}(B:db)(H:Hp)(Q:VK)(E:XK)(h:Oe B H Q E):av (bK K E) MW {nx:=λU Z=>Q .a Z,r:=Q} (WR MV B) H:=by
 obtain⟨c,n,xs,g,rfl,f,j,x,k⟩:=h;have F:=KB j;have Y:∀(m:Int)(t:Hp)(V:db)(W:List Pt),aE c H t->t c=some (.l V)->aD t V W->W.length<=900000->e_ g n=W++[.k m]->
   av (bK K E) [.d<|.Q .a (.v 0) [(.T [(.c<|.s "keep"),.v 1])]] {nx:=λU Z=>Q .a Z,r:=Q} [some<|.r c,some<|.i m] t:=by
  intro m t V W N q C R e;have P:=KB C;refine p3 _ O (.inl ⟨O,oM _ (ag.of q)⟩) _ O ⟨cM,λu w=>?_⟩;have D:c≠u:=aJ q w;refine nT V (by rw[aw D];exact q) (bY aH) (k _ (V++[.r u]) (N.trans<|sameBut (V3 w) aE.upd) aj ?_);rw[e];refine aD.snoc (C.mono<|(sameBut (V3 w) aE.upd).bx q) ⟨u,O,?_⟩;rw[aw D.symm,aj];rfl
 refine nS _ O (.inl (p3 _ (ag.of f) trivial _ O ?_));refine gH (λh=>?_)<|λh=>?_;have I:xs.length≠0:=by
  lia
 obtain⟨v,p,L,J,A,a,rfl,y⟩:=j.last I;refine nS _ O (.inl (n4 _ _ _ _ O O (ag.of f) J (.inr<|.inl ⟨_,_,_,_,O,O,aA.of y,O,_,O,?_⟩)));rw[WG,iD];cases p with
 |k m=>
  have G:upd H c (.l xs.dropLast) a=some (.t [.s "keep",.i m]):=by rw[aw<|cj y f (by intro z;cases z)];exact y
  refine rT _ O _ O (.inl ⟨O,oM _ (ag.of f)⟩) ⟨xs,_,f,L,.inr<|.inl ⟨_,_,_,_,O,O,aA.of G,O,?_⟩⟩;refine Y (n+m) _ xs.dropLast g.dropLast aE.upd aj (j.dropLast.mono<|aE.upd.bx f) (by rw[WV];exact Y4 (V4 _ _) x) ?_;unfold e_;rw[A]
 |p s=>exact Y n H xs g (λb o e U=>e) f j x (by unfold e_;rw[A])
 |c s=>exact Y n H xs g (λb o e U=>e) f j x (by unfold e_;rw[A])
 have M:g=[]:=by
  exact Xa.mp aH
 exact Y n H xs g (λb o e U=>e) f j x (by rw[M];rfl)
abbrev NS:=List Pt×ca×ca
def dw:NS->Pt->NS
 |(h,p,c),.p s=>(h,p++[s],c)
 |(h,p,c),.c s=>(h,p,c++[s])
 |(h,p,c),.k n=>if 0<n then (e_ (dR h p c) n,[],[]) else (h,p,c)
def jc(p:List Pt):List Pt:=let s:=p.foldl dw ([],[],[]);dR s.1 s.2.1 s.2.2
noncomputable def dq:Pt->Nat|.k _=>0|.p s=>s.length|.c s=>s.length
def ao(p:List Pt):Nat:=(p.map dq).sum
theorem FX(p:List Pt)(i:Nat):ao (p.take i)<=ao p:=by
 have:ao p=ao (p.take i)+ao (p.drop i):=by
  unfold ao;rw[<-yX,<-Za,Yt]
 lia
theorem Of{s:List Pt}(h:s[i]?=some p):ao (s.take<|i+1)=ao (s.take i)+dq p:=by
 rw[Wa,h];simp[ao]
theorem Og{c a:Type}{f:a->c->a}{b:a}{l:List c}{p:c}(h:l[i]?=some p):(l.take<|i+1).foldl f b=f ((l.take i).foldl f b) p:=by
 rw[Wa,h,xN];rfl
theorem Oh(m:Str->Pt)(x:Str):(txt m x).length<=1:=by unfold txt;split<;>simp
theorem Bi(h:List Pt)(p c:ca):(dR h p c).length<=h.length+2:=by
 unfold dR;have:=Oh .p (eI p);have:=Oh .c (eI c);simp;lia
theorem Oi(c:List Pt)(n:Int):(e_ c n).length<=c.length+1:=by
 unfold e_;split;simp only[JB,WV,Xy];exact X4 (V4 _ _) _;simp
abbrev adh:wr:=[("add_texts",Oc),("add_keep",Oe)]
inductive lJ(v:db)(H:Hp)(Q:VK)(E:XK):Prop|i(a xs p:_)(_:v=[.r a])(_:H a=some (.l xs))(_:aD H xs p)(_:p.length<=200000)(_:ao p<=100000)(_:∀b Z B,ar H Z->H b=none->Z b=some (.l B)->aD Z B (jc p)->Q (.r b) Z)
inductive Oj(a c:Do)(H:Hp)(d:List Pt)(i:Nat)(F:St)(u:Hp):Prop|i(p q:Do)(h:List Pt)(Q b:ca)(o:db)(w x:sB)(_:F=[some<|.r a,some<|.r c,some<|.r p,some<|.r q,w,x])(_:H p=none)(_:H q=none)(_:p≠c)(_:q≠c)(_:p≠q)(_:ar H u)(_:u c=some (.l o))(_:aD u o h)(_:u p=some (.l<|Q.map .s))(_:u q=some (.l<|b.map .s))(_:(d.take i).foldl dw ([],[],[])=(h,Q,b))(_:h.length<=3*i)(_:Q.length<=i)(_:b.length<=i)(_:sz Q+sz b<=ao (d.take i)):Oj a c H d i F u
abbrev aoW(K:Frag)(E:XK):ba:=aG K adh [] (E:=E)
theorem adi{K:Frag}(vs:db)(H:Hp)(Q:VK)(E:XK)(h:lJ vs H Q E):av (aoW K E) M3 {nx:=λ_ Z=>Q .a Z,r:=Q} (WR M1 vs) H:=by
 obtain⟨a,xs,o,rfl,ha,bE,hl,ht,k⟩:=h;have e':=KB bE;refine⟨Y_ _,λc v=>⟨Y_ _,λS Y=>⟨Y_ _,λP C=>?_⟩⟩⟩;have FY:c≠S:=λz=>by rw[<-z,aj] at Y;cases Y
 have Ol:c≠P:=λz=>by rw[<-z,aw FY,aj] at C;cases C
 have Om:S≠P:=λz=>by rw[<-z,aj] at C;cases C
 have s0:ar H (upd (upd (upd H c<|.l []) S<|.l []) P<|.l []):=(V3 v).trans ((V3 Y).trans<|V3 C);have c':H S=none:=(V3 v).free Y;have b':H P=none:=((V3 v).trans<|V3 Y).free C;refine rT _ O a O (oM _ (ag.of (s0 _ _ ha))) (kU (K:=K) (a:=a) (xs:=xs) (Oj a c H o)
 ⟨S,P,[],[],[],[],none,none,O,c',b',FY.symm,Ol.symm,Om,s0,(by rw[aw Ol,aw FY,aj]),.nil,(by rw[aw Om,aj];rfl),aj,O,aP,aP,aP,by simp[sz]⟩
  (λi F u _ ⟨_,_,_,_,_,_,_,_,_,_,_,_,_,_,j,_,_,_,_,_,_,_,_,_⟩=>ag.of (j _ _ ha)) ?_ ?_)
 rintro i x F u hi ⟨p,q,g,d,f,M,w,x',rfl,W,U,R,L,D,j,B,I,y,m,ef,l1,l2,l3,l4⟩;obtain⟨pt,jX,jU⟩:=bE.get hi;obtain⟨b,rfl,hb⟩:=jU.mono (bB j);have eV:i<o.length:=(ZS.mp jX).1;have X:(o.take<|i+1).foldl dw ([],[],[])=dw (g,d,f) pt:=by rw[Og jX,ef]
 have et:=Of jX;have tb:=FX o i;refine o4 b _ O (.inl<|aA.of hb) O _ _ O _ _ O O ?_;cases pt with
 |p s=>
  refine⟨_,O,_,O,_,O,.inl ⟨O,_,ag.of y⟩,_,O,_,y,bY (by rw[Wo];lia),?_⟩;have t:aE p u (upd u p<|.l<|d.map V.s++[.s s]):=aE.upd;refine⟨p,q,g,d++[s],f,M,_,_,O,W,U,R,L,D,qw j W t,t _ _ B R.symm,I.mono<|t.bx y,(by rw[aj,Za];rfl),t _ _ m D.symm,X,(YW l1),bc,(WX l3),?_⟩;rw[Ob,et];show sz d+(s.length+0)+sz f<=ao (o.take i)+s.length;lia
 |c s=>
  refine⟨_,O,_,O,_,O,_,O,_,O,.inl ⟨O,_,ag.of m⟩,_,O,_,m,bY (by rw[Wo];lia),?_⟩;have t:aE q u (upd u q<|.l<|f.map V.s++[.s s]):=aE.upd;refine⟨p,q,g,d,f++[s],M,_,_,O,W,U,R,L,D,qw j U t,t _ _ B L.symm,I.mono<|t.bx m,t _ _ y D,(by rw[aj,Za];rfl),X,(YW l1),(WX l2),bc,?_⟩;rw[Ob,et];show sz d+(sz f+(s.length+0))<=ao (o.take i)+s.length;lia
 |k n=>
  refine⟨_,O,_,O,_,O,_,O,_,O,trivial,_,O,?_⟩;refine gH (λh=>?_)<|λh=>?_;have hn:0<n:=Os h;have e2:dw (g,d,f) (.k n)=(e_ (dR g d f) n,[],[]):=GT hn;refine pB _ O _ O ⟨_,O,c,p,q,M,g,d,f,O,B,I,y,m,aH,aH,aH,λA T b3 Bj xZ=>?_⟩;have s3:ar H A:=qw j v b3;refine⟨Y_ _,λG jd=>⟨Y_ _,λN J=>?_⟩⟩;have FZ:c≠G:=aJ Bj jd;have km:upd A G (.l []) c=some (.l T):=by rw[aw FZ];exact Bj
  have F6:c≠N:=aJ km J;have Oo:G≠N:=λz=>by rw[<-z,aj] at J;cases J
  have oN:upd (upd A G<|.l []) N (.l []) c=some (.l T):=by rw[aw F6];exact km
  have s5:ar A (upd (upd A G<|.l []) N<|.l []):=(V3 jd).trans (V3 J);refine pB _ O _ O ⟨c,n,T,_,O,oN,xZ.mono<|bB s5,?_,λH6 a' b6 je d'=>?_⟩;have:=Bi g d f;lia;refine⟨G,N,_,[],[],a',_,_,O,s3.free jd,(s3.trans<|V3 jd).free J,FZ.symm,F6.symm,Oo,qw (s3.trans s5) v b6,je,d',b6 _ _ (by rw[aw Oo,aj];rfl) FZ.symm,b6 _ _ (by rw[aj];rfl) F6.symm,X.trans e2,?_,aP,aP,by simp[sz]⟩;have:=Bi g d f;have:=Oi (dR g d f) n;lia;have hn:¬0<n:=λz=>h (W_ z);have e2:dw (g,d,f) (.k n)=(g,d,f):=Id hn;refine⟨p,q,g,d,f,M,_,_,O,W,U,R,L,D,j,B,I,y,m,X.trans e2,(YW l1),(WX l2),(WX l3),aH⟩
 rintro F u ⟨p,q,g,d,f,M,w,x',rfl,W,U,R,L,D,j,B,I,y,m,ef,l1,l2,l3,l4⟩;have e:o.take xs.length=o:=Wc aH;rw[e] at ef l4;refine pB _ O _ O ⟨_,O,c,p,q,M,g,d,f,O,B,I,y,m,aH,aH,aH,λA T b3 Bj xZ=>?_⟩;refine nS _ O (k c A T (qw j v b3) v Bj ?_);unfold jc;rw[ef];exact xZ
noncomputable def A1:Str:=" !\"#$&'()*+,-./0123456789:;<=>?@ABCDEFGHIJKLMNOPQRSTUVWXYZ[\\]^_`"
noncomputable def A2:Str:="abcdefghijklmnopqrstuvwxyz{|}~\n"
noncomputable def A3:Str:="ab\n"
def Bk(a:Str):Prop:=0<a.length/\a.length<=1000/\∀c∈a.cps.toList,SG.cps.contains c=true
theorem Oq(h:(decide (0<al.length) && decide (al.length<=1000) && al.cps.toList.all λc=>SG.cps.contains c)=true):Bk al:=by
 simp only[WZ,KK,m_] at h;exact⟨h.1.1,h.1.2,h.2⟩
theorem ado:Bk (A1++A2):=Oq (by decide+kernel)
theorem al3:Bk A3:=Oq (by decide+kernel)
theorem adq:A1.length+A2.length<=sizeLine:=by decide+kernel
abbrev anF:wr:=[("_law_mixed",FR)]
inductive Bl(v:db)(H:Hp)(Q:VK)(E:XK):Prop|i(c n:_)(_:v=[.i c,.i n])(_:0<=n)(_:n<=1000)(_:∀x Z,good x->x.length=n.toNat->ar H Z->Q (.s x) Z)
def F7(t:Str):Prop:=t.length=1/\∀c∈t.cps.toList,SG.cps.contains c=true
theorem Bm:∀(s:ca),(∀t∈s,F7 t)->sz s=s.length
 |[],_=>O
 |t::r,h=>by
  show t.length+sz r=r.length+1;rw[(h t Wu).1,Bm r λq a=>h q (Wb _ a)];exact Yn _ _
theorem ads(h:∀b∈ts,F7 b)(d:ts.length<=1000):good (eI ts):=by
 refine⟨by rw[N_,Bm ts h];exact Y4 d (Xk _ _),λc a=>?_⟩;rw[vj,WO] at a;obtain⟨l,d,a⟩:=a;obtain⟨b,e,rfl⟩:=X_.mp d;exact(h b e).2 c a
abbrev d6(K:Frag)(E:XK):ba:=aG K anF [] (E:=E)
theorem adt{K:Frag}(D:db)(H:Hp)(Q:VK)(E:XK)(h:Bl D H Q E):av (d6 K E) Na {nx:=λX Z=>Q .a Z,r:=Q} (WR M_ D) H:=by
 obtain⟨c,n,rfl,R,T,k⟩:=h;have Y:∀(g:Str),Bk g->av (d6 K E) [.r<|.Q .j (.c<|.s "") [(.C none [("_law_some",2),("_law_cell",0)] .f [.v 1] none<|.i (.v 1)<|.b .Mod (.b .FloorDiv (.l 0 [.v 2,.v 0])<|.c<|.i 7)<|.t .l [.v 1])]]
   {nx:=λX Z=>Q .a Z,r:=Q} [some<|.i c,some<|.i n,some<|.s g] H:=by
  intro g q;refine qC O _ O ⟨n,O,aH,aH,λi m B u=>m=n.toNat - i/\i<=n.toNat/\u=H/\∃o:ca,B=o.map V.s/\o.length=i/\∀w∈o,F7 w,pQ _ O (Y_ _) O ⟨[],O,O,λw y=>by cases y⟩,?_⟩;rintro i m B u ⟨rfl,S,rfl,o,rfl,G,W⟩;by_cases J:i<n.toNat;refine .inr ⟨J,?_⟩;rintro x U ⟨rfl,rfl⟩;refine pB _ O _ O ⟨_,O,_,_,O, ⟨aQ,aQ⟩,_,O,cx (by have:=q.2.1;exact Y4 this (Xk _ _)),(by have:=q.1;lia),?_⟩;have A:0<=mixed c (0+(i:Int)) / 7 % (g.length:Int):=X7 _ (by have:=q.1;lia);have P:mixed c (0+(i:Int)) / 7 % (g.length:Int) < (g.length:Int):=Yw _ (by have:=q.1;lia);obtain⟨j,I⟩:∃j,j=mixed c (0+(i:Int)) / 7 % (g.length:Int):=⟨_,O⟩;rw[<-I] at A P;have F:j.toNat<g.cps.toList.length:=by rw[<-YM];lia
  refine .inr<|.inr<|.inl ⟨g,j,g.cps.toList[j.toNat],O,(by rw[I]),cx (by have:=q.2.1;exact Y4 this (Xk _ _)),?_,?_,n.toNat - (i+1),aH,O,J,O,o++[⟨#[g.cps.toList[j.toNat]]⟩],(by rw[Za];rfl),by simp[G],?_⟩;have e:=bq (xs:=g.cps.toList) (j:=j.toNat) (v:=g.cps.toList[j.toNat]) (by simp[F]);rw[show((j.toNat:Nat):Int)=j by lia] at e;exact e;rw[Wo];exact bY aH;intro w y;rcases Z4.mp y with z|z
  exact W w z;rw[Ya.mp z];refine⟨O,λd M=>?_⟩;have:=by simpa using M
  rw[this];exact q.2.2 _<|List.getElem_mem F;have N:i=n.toNat:=XZ S (Z6 J)
  refine .inl ⟨by show n.toNat<=i;exact Z6 J,λp L=>?_⟩;refine nT o (ag.of aj) (WE (by rw[Bm o W];lia)) ?_;exact k (eI o) _ (ads W aH) (by rw[N_,Bm o W,G,N])<|V3 L
 refine⟨_,O,adq,_,O,(by show(0:Int) <3;decide),_,O,?_⟩;refine gH (λh=>?_)<|λh=>?_;exact Y A3 al3;exact Y (A1++A2) ado
def eK:Pt->Prop|.k n=>0<=n|.p s=>good s/\s.length<=100000|.c s=>good s/\s.length<=100000
abbrev WY:=Str×Str×Int
abbrev wE:=List WY
noncomputable def lK(r:WY):db:=[.s r.1,.s r.2.1,.i r.2.2]
def Ou(H:Hp)(v:V)(r:WY):Prop:= ∃b,v=.r b/\H b=some (.l<|lK r)
abbrev s_(H:Hp):db->wE->Prop:=Paired (Ou H)
theorem s_.mono:∀{s:db}{p:wE},s_ H s p->(∀v∈s,∀b,v=.r b->∀o,H b=some o->Z b=some o)->s_ Z s p:=by
 intro Y Y h;induction h with
 |nil=>exact λY=>.nil
 |cons x Y i=>
  obtain⟨b,e,h⟩:=x;exact λk=>.cons ⟨b,e,k _ Wu b e _ h⟩<|i λv a=>k v (Wb _ a)
theorem s_.get:∀{s:db}{c:wE}{i:Nat}{v:V},s_ H s c->s[i]?=some v->∃p,c[i]?=some p/\Ou H v p:=by
 intro Y Y i v h;induction h generalizing i with
 |nil=>intro e;simp at e
 |cons x Y d=>
  intro e;cases i with
  |zero=>simp at e;subst e;exact⟨_,O,x⟩
  |succ i=>
   obtain⟨p,a,b⟩:=d (by simpa using e);exact⟨p,by simpa using a,b⟩
noncomputable def bg:wE×WY->Pt->wE×WY
 |(e,r),.k n=>(e,(r.1,r.2.1,r.2.2+n))
 |(e,r),.p s=>if s="" then (e,r) else if 0<r.2.2 then (e++[r],(Str.ofString ""++s,"",0)) else (e,(r.1++s,r.2.1,r.2.2))
 |(e,r),.c s=>if s="" then (e,r) else if 0<r.2.2 then (e++[r],("",Str.ofString ""++s,0)) else (e,(r.1,r.2.1++s,r.2.2))
def eN(r:WY):List Pt:=txt .p r.1++txt .c r.2.1++(if r.2.2=0 then [] else [.k r.2.2])
def cH(r:wE):List Pt:=(r.map eN).flatten
def vt(p:List Pt):wE:=let s:=p.foldl bg ([],("","",0));s.1++[s.2]
def dr(p:List Pt):List Pt:=cH (vt p)
structure ko(H u:Hp)(R:Do)(rs:db)(b:Do)(pre:wE)(r:WY):Prop where
 same:ar H u
 lst:u R=some (.l<|rs++[.r b])
 fr:H R=none
 rows:s_ u rs pre
 last:u b=some (.l<|lK r)
 fb:H b=none
 bA:∀v∈rs,∀x,v=.r x->H x=none/\x≠b/\x≠R
 ne:b≠R
theorem x_(xs:db)(v:V):fF (xs++[v]) (-1)=some v:=pY xs v
theorem ko.set{r:WY}(S:ko H u R s b p r):ko H (upd u b<|.l<|lK r') R s b p r' where
 same:=qw S.same S.fb aE.upd
 lst:=by rw[aw S.ne.symm];exact S.lst
 fr:=S.fr
 rows:=S.rows.mono λv a x e o h=>by rw[aw (S.bA v a x e).2.1];exact h
 last:=aj
 fb:=S.fb
 bA:=S.bA
 ne:=S.ne
theorem ko.grow{r:WY}(S:ko H u R s b c r)(a:u t0=none):
  ko H (upd (upd u t0<|.l<|lK r') R<|.l<|s++[.r b]++[.r t0]) R (s++[.r b]) t0 (c++[r]) r':=by
 have B:t0≠R:=λz=>by rw[z,S.lst] at a;cases a
 have J:b≠t0:=aJ S.last a;have k:∀x o,u x=some o->x≠R->upd (upd u t0<|.l<|lK r') R (.l<|s++[.r b]++[.r t0]) x=some o:=λx o e n=>by rw[aw n,aw<|aJ e a];exact e
 exact {
  same:=λx o e=>k x o (S.same x o e) (aJ e S.fr)
  lst:=aj
  fr:=S.fr
  rows:=SL (S.rows.mono λv d x e o h=>k x o h (S.bA v d x e).2.2) ⟨b,O,k b _ S.last S.ne⟩
  last:=by rw[aw B,aj]
  fb:=S.same.free a
  bA:=λv d x e=>by
   rcases Z4.mp d with z|z
   obtain⟨w,A,m⟩:=S.bA v z x e;refine⟨w,λq=>?_,m⟩;obtain⟨i,j⟩:=List.getElem?_of_mem z;obtain⟨p,Y,y,g,f⟩:=S.rows.get j;rw[e] at g;cases g;rw[q,a] at f;cases f;rw[Ya.mp z] at e;cases e;exact⟨S.fb,J,S.ne⟩
  ne:=B}
abbrev Dn(Q:VK):WH:={nx:=λ_ Z=>Q .a Z,r:=Q}
abbrev bz(s:Sp)(W:XK->ba)(b:jp)(N:ca):Prop:= ∀v H Q E,s v H Q E->av (W E) b (Dn Q) (WR N v) H
inductive mX(v:db)(H:Hp)(Q:VK)(E:XK):Prop|i(a xs p:_)(_:v=[.r a])(_:H a=some (.l xs))(_:aD H xs p)(_:p.length<=100000)(_:ao p<=100000)(_:∀b Z B,ar H Z->H b=none->Z b=some (.l B)->aD Z B (dr p)->Q (.r b) Z)
theorem Bp{K:Frag}{j:db}{r:WY}{w:Str}(S:ko H u R j b e r)(i:Nat)(F:i<2)(C:(if (w=="cut")=true then 1 else 0:Int)=(i:Int))(o:Str)(B:(lK r)[i]?=some (.s o))(A:(lK r).set i (.s<|o++s)=lK l)(z:o.length+s.length<=sizeLine)(k:∀q,ko H q R j b e l->D.nx [some<|.r a,some<|.r R,some<|.s w,some<|.s s,h,g,f,d,x] q):
  dC (bK K E) (.s (.i (.v 1)<|.n<|.c<|.i 1) (.t .i [(.p .Eq (.v 2)<|.c<|.s "cut")])<|.b .Add (.i (.i (.v 1)<|.n<|.c<|.i 1)<|.t .i [(.p .Eq (.v 2)<|.c<|.s "cut")])<|.v 3) D
   [some<|.r a,some<|.r R,some<|.s w,some<|.s s,h,g,f,d,x] u:=by
 have y:ag K u b (lK r):=ag.of S.last;have m:(if (false ^^ decide (V.s w=V.s "cut"))=true then 1 else 0:Int)=(i:Int):=by lia
 refine nS _ O (.inl (n4 _ _ _ _ O O (ag.of S.lst) (x_ _ _) ⟨_,O,?_⟩));show qf K (aG K [] []).sd (.r b) (.i (if (false ^^ decide (V.s w=V.s "cut"))=true then 1 else 0)) u _;rw[m];refine .inl (n4 b _ _ _ O O y (bq B) ⟨_,O,z,_,O,.inl (n4 _ _ _ _ O O (ag.of S.lst) (x_ _ _) ⟨_,O,?_⟩)⟩);show Aj (.r b) (.i (if (false ^^ decide (V.s w=V.s "cut"))=true then 1 else 0)) (.s<|o++s) u _;rw[m];refine n4 b (lK r) (i:Int) i O O S.last ?_ ?_;unfold fZ;rw[GT (Wx _),GT (by show(i:Int) < ((3:Nat):Int);lia)];simp;rw[A];exact k _ S.set
theorem adv{s:wE}{r:WY}(h:s[i]?=some r):cH (s.take<|i+1)=cH (s.take i)++eN r:=by
 unfold cH;rw[Wa,h];simp
theorem Ov{K:Frag}{r:WY}{w:Str}{F C B:sB}(S:ko H u R q b f r)(p:Pt)(A:(p=.p s/\w="put")\/(p=.c s/\w="cut"))(Y:s.length<=100000)(V:r.1.length<=100000)(U:r.2.1.length<=100000)(T:q.length<=100000)(k:∀g M W,ko H g R M W (bg (f,r) p).1 (bg (f,r) p).2->M.length<=q.length+1->D.nx [some<|.r a,some<|.r R,some<|.s w,some<|.s s,I,G,F,C,B] g):
  av (bK K E) [.i (.p .NotEq (.v 3) (.c (.s ""))) [.i (.p .Gt (.i (.i (.v 1) (.n (.c (.i 1)))) (.c (.i 2))) (.c (.i 0))) [.d (.Q .a (.v 1) [(.L [(.c (.s "")),(.c (.s "")),(.c (.i 0))])])] [],
    .s (.i (.v 1) (.n (.c (.i 1)))) (.t .i [(.p .Eq (.v 2) (.c (.s "cut")))]) (.b .Add (.i (.i (.v 1) (.n (.c (.i 1)))) (.t .i [(.p .Eq (.v 2) (.c (.s "cut")))])) (.v 3))] []] D
   [some<|.r a,some<|.r R,some<|.s w,some<|.s s,I,G,F,C,B] u:=by
 refine⟨_,O,_,O,?_⟩;rw[yE,iD];refine gH (λh=>?_)<|λh=>?_;have x:s≠"":=by simpa using h
 refine nS _ O (.inl (n4 _ _ _ _ O O (ag.of S.lst) (x_ _ _) (.inl ⟨_,_,_,_,O,O,ag.of S.last,O,trivial,_,O,?_⟩)));have l:∀n:Nat,n<=100000->n+s.length<=sizeLine:=λn T=>cx aH;have N:(Str.ofString "").length=0:=O;refine gH (λh=>?_)<|λh=>?_;have o:0<r.2.2:=Os h;refine pQ _ O (.inl ⟨O,oM _ (ag.of S.lst)⟩) DI (λy J=>?_);have X:R≠y:=aJ S.lst J;refine nT _ (by rw[aw X];exact S.lst) (bY (by rw[JB,Xy];lia)) ?_;have P:=S.grow (r':=((Str.ofString "",Str.ofString "",0):WY)) J;rcases A with⟨rfl,rfl⟩|⟨rfl,rfl⟩
 have j:bg (f,r) (.p s)=(f++[r],((Str.ofString ""++s,Str.ofString "",0):WY)):=by show(if s="" then _ else if 0<r.2.2 then _ else _)=_;rw[Id x,GT o]
 rw[j] at k;exact Bp P 0 (fP _) O "" O O (l _ (by rw[N];exact Y_ _)) λg m=>k g _ y m aP;have j:bg (f,r) (.c s)=(f++[r],((Str.ofString "",Str.ofString ""++s,0):WY)):=by show(if s="" then _ else if 0<r.2.2 then _ else _)=_;rw[Id x,GT o]
 rw[j] at k;exact Bp P 1 (XA _) O "" O O (l _ (by rw[N];exact Y_ _)) λg m=>k g _ y m aP;have o:¬0<r.2.2:=λz=>h (W_ z);rcases A with⟨rfl,rfl⟩|⟨rfl,rfl⟩
 have j:bg (f,r) (.p s)=(f,(r.1++s,r.2.1,r.2.2)):=by show(if s="" then _ else if 0<r.2.2 then _ else _)=_;rw[Id x,Id o]
 rw[j] at k;exact Bp S 0 (fP _) O r.1 O O (l _ V) λg m=>k g _ b m (XW _);have j:bg (f,r) (.c s)=(f,(r.1,r.2.1++s,r.2.2)):=by show(if s="" then _ else if 0<r.2.2 then _ else _)=_;rw[Id x,Id o]
 rw[j] at k;exact Bp S 1 (XA _) O r.2.1 O O (l _ U) λg m=>k g _ b m (XW _);have e:s="":=by simpa using h
 have j:bg (f,r) p=(f,r):=by
  rcases A with⟨rfl,rfl⟩|⟨rfl,rfl⟩
  show(if s="" then _ else _)=_;rw[GT e];show(if s="" then _ else _)=_;rw[GT e]
 rw[j] at k;exact k u q b S (XW _)
theorem lL(x y:Str):(x++y).length=x.length+y.length:=by rw[YM,Yf,JB,<-YM,<-YM]
theorem adw(e:wE)(r:WY)(p:Pt)(n:Nat)(b:r.1.length<=n)(h:r.2.1.length<=n):(bg (e,r) p).2.1.length<=n+dq p/\(bg (e,r) p).2.2.1.length<=n+dq p:=by
 have a:(Str.ofString "").length=0:=O;cases p with
 |k m=>exact⟨by show r.1.length<=n+0;exact b,by show r.2.1.length<=n+0;exact h⟩
 |p s=>
  show(if s="" then (e,r) else if 0<r.2.2 then (e++[r],((Str.ofString ""++s,Str.ofString "",0):WY)) else (e,(r.1++s,r.2.1,r.2.2))).2.1.length<=n+s.length/\
   (if s="" then (e,r) else if 0<r.2.2 then (e++[r],((Str.ofString ""++s,Str.ofString "",0):WY)) else (e,(r.1++s,r.2.1,r.2.2))).2.2.1.length<=n+s.length
  split;exact⟨(YW b),(YW h)⟩;split;exact⟨by rw[lL];lia,aH⟩;exact⟨by rw[lL];exact X4 b _,(YW h)⟩
 |c s=>
  show(if s="" then (e,r) else if 0<r.2.2 then (e++[r],((Str.ofString "",Str.ofString ""++s,0):WY)) else (e,(r.1,r.2.1++s,r.2.2))).2.1.length<=n+s.length/\
   (if s="" then (e,r) else if 0<r.2.2 then (e++[r],((Str.ofString "",Str.ofString ""++s,0):WY)) else (e,(r.1,r.2.1++s,r.2.2))).2.2.1.length<=n+s.length
  split;exact⟨(YW b),(YW h)⟩;split;exact⟨aH,by rw[lL,a];exact X4 (Y_ _) _⟩;exact⟨(YW b),by rw[lL];exact X4 h _⟩
theorem Ow(h:dh W.K op x v H Q):af W (.c v) F H λy u=>dh W.K op x y u Q:=h
theorem Ox{K:Frag}{y:V}(h:mB x y=true)(q:Q (.b<|true ^^ decide (x=y)) H):dh K .NotEq x y H Q:=by
 show oh true x y H Q;unfold oh;rw[h];exact q
theorem adx{K:Frag}{r:WY}(Z:t l=some (.l [.r t1,.r t2,.r t3]))(h1:t t1=some (.t [.s "put",.s r.1]))(h2:t t2=some (.t [.s "cut",.s r.2.1]))(h3:t t3=some (.t [.s "keep",.i r.2.2]))(L:F[8]?=some (some<|.r l))(k:∀p B,t p=none->aD t B (eN r)->B.length<=3->S (.r p) (upd t p<|.l B)):
  af (bK K E) (.C none [] .l [.v 8] (some<|.d [(.p .NotEq (.i (.v 0)<|.c<|.i 1)<|.c<|.s ""),(.p .NotEq (.i (.v 0)<|.c<|.i 1)<|.c<|.i 0)])<|.v 0) F t S:=by
 have Y:ag K t l [.r t1,.r t2,.r t3]:=ag.of Z
 let f:Nat->List Pt:=λi=>match i with| 0=>[]| 1=>txt .p r.1| 2=>txt .p r.1++txt .c r.2.1|_=>eN r
 refine rT _ L l O (oM _ Y) ⟨λi m B u=>m=3 - i/\i<=3/\u=t/\aD t B (f i)/\B.length<=i,rR _ O (Y_ _) O .nil (ZX _),?_⟩;rintro i m B u ⟨rfl,hi,rfl,H,U⟩;have g:B.length<sizeLine:=bY aH;have P:∀(q:Do)(p:Pt)(j:Nat),u q=some (.t [.s p.word,p.val])->i=j->j<3->(f (j+1)=f j++[p]/\p.val≠ .s ""/\p.val≠ .i 0\/f (j+1)=f j/\(p.val=.s ""\/p.val=.i 0))->
   (∃s,p.val=.s s)\/(∃n,p.val=.i n)->
   js (AF (bK K E).calm<|some<|.d [(.p .NotEq (.i (.v 0)<|.c<|.i 1)<|.c<|.s ""),(.p .NotEq (.i (.v 0)<|.c<|.i 1)<|.c<|.i 0)]) ([V.r q].map some++bG F []) u λb T=>
    if b=true then af (bK K E).calm (.v 0) ([V.r q].map some++bG F []) T λy H6=>B.length<sizeLine/\∃w,w<3 - i/\w=3 - (i+1)/\i+1<=3/\H6=u/\aD u (B++[y]) (f<|i+1)/\(B++[y]).length<=i+1
    else ∃w,w<3 - i/\w=3 - (i+1)/\i+1<=3/\T=u/\aD u B (f<|i+1)/\B.length<=i+1:=by
  intro q p j M ej hj N h;subst ej;have J:mB p.val (.s "")=true:=by rcases h with⟨s,e⟩|⟨n,e⟩ <;>rw[e] <;>rfl
  have I:mB p.val (.i 0)=true:=by rcases h with⟨s,e⟩|⟨n,e⟩ <;>rw[e] <;>rfl
  refine nS _ O (.inr<|.inl ⟨_,_,_,_,O,O,aA.of M,O,Ow<|Ox J ⟨_,O,?_⟩⟩);by_cases G:p.val=.s "";rw[W_ G];rcases N with⟨_,z,_⟩|⟨e,_⟩
  exact absurd G z;exact rR (3 - (i+1)) aH O (XS hj) O ⟨by rw[e];exact H,(WX U)⟩;rw[ZN G];refine nS _ O (.inr<|.inl ⟨_,_,_,_,O,O,aA.of M,O,Ow<|Ox I ⟨_,O,?_⟩⟩);by_cases D:p.val=.i 0;rw[W_ D];rcases N with⟨_,_,z⟩|⟨e,_⟩
  exact absurd D z;exact rR (3 - (i+1)) aH O (XS hj) O ⟨by rw[e];exact H,(WX U)⟩;rw[ZN D];rcases N with⟨e,_,_⟩|⟨_,z⟩
  refine p3 _ O g (3 - (i+1)) aH ⟨O,(XS hj),O,?_,bc⟩;rw[e];exact aD.snoc H (nS q O M);rcases z with z|z
  exact absurd z G;exact absurd z D
 have R:∀(a:Str->Pt)(x:Str)(l:List Pt),(a x).val=.s x->(l++txt a x=l++[a x]/\(a x).val≠ .s ""/\(a x).val≠ .i 0\/l++txt a x=l/\((a x).val=.s ""\/(a x).val=.i 0)):=by
  intro a x l h;unfold txt;by_cases e:x="";rw[GT e];exact .inr ⟨aP,.inl (by rw[h,e])⟩;rw[Id e];exact .inl ⟨O,by rw[h];exact λz=>e (by injection z),by rw[h];exact λz=>by cases z⟩
 by_cases aB:i<3;refine .inr ⟨o3 _ ([V.r t1,V.r t2,V.r t3][i]) Y (by simp[aB]),?_⟩;rintro x H3 ⟨rfl,W⟩;have Q:=W _ Y;have:i=0\/i=1\/i=2:=by lia
 rcases this with rfl|rfl|rfl
 have A:x=.r t1:=by simpa using Q.symm
 subst A;exact P t1 (.p r.1) 0 h1 O aB (R .p r.1 [] O)<|.inl ⟨_,O⟩;have A:x=.r t2:=by simpa using Q.symm
 subst A;exact P t2 (.c r.2.1) 1 h2 O aB (R .c r.2.1 _ O)<|.inl ⟨_,O⟩;have A:x=.r t3:=by simpa using Q.symm
 subst A;refine P t3 (.k r.2.2) 2 h3 O aB ?_<|.inr ⟨_,O⟩;by_cases e:r.2.2=0;refine .inr ⟨?_,.inr (by show V.i r.2.2=_;rw[e])⟩;show eN r=txt .p r.1++txt .c r.2.1;unfold eN;rw[GT e,jP];refine .inl ⟨?_,?_,?_⟩;show eN r=txt .p r.1++txt .c r.2.1++[.k r.2.2];unfold eN;rw[Id e];intro z;have o:V.i r.2.2=V.s "":=z;cases o;intro z;have o:V.i r.2.2=V.i 0:=z;injection o with o
 exact e o;have fJ:i=3:=XZ hi (Z6 aB)
 subst fJ;refine .inl ⟨nS _ Y aP,λp X=>?_⟩;exact k p B X H U
theorem Mz{K:Frag}(J:db)(H:Hp)(Q:VK)(E:XK)(h:mX J H Q E):av (bK K E) Nh {nx:=λ_ Z=>Q .a Z,r:=Q} (WR Ng J) H:=by
 obtain⟨a,xs,g,rfl,ha,bE,hl,ht,k⟩:=h;have j':=KB bE;refine⟨DI,λT F8=>⟨de,λR X=>?_⟩⟩;have Oy:T≠R:=λz=>by rw[<-z,aj] at X;cases X
 have fR:H R=none:=(V3 F8).free X;have S0:ko H (upd (upd H T<|.l [.s "",.s "",.i 0]) R<|.l [.r T]) R [] T [] ((Str.ofString "",Str.ofString "",0):WY):=
  {same:=(V3 F8).trans (V3 X),lst:=aj,fr:=fR,rows:=.nil,last:=(by rw[aw Oy,aj];rfl),fb:=F8,bA:=(λv hv=>by cases hv),ne:=Oy}
 refine rT _ O a O (oM _ (ag.of (S0.same _ _ ha))) (kU (K:=K) (a:=a) (xs:=xs) (λi F u=>Wq λU v m b d r=>uF (F=[some (.r a),some (.r R),U,v,none,none,none,none,none]) (ko H u R m b d r) ((g.take i).foldl bg ([],((Str.ofString "",Str.ofString "",0):WY))=(d,r)) (m.length<=i) (r.1.length<=ao (g.take i)) (r.2.1.length<=ao (g.take i)))
 ⟨none,none,[],T,[],_,O,S0,O,ZX _,Y_ _,Y_ _⟩ (λi F u _ ⟨_,_,_,_,_,_,_,S,_,_,_,_⟩=>ag.of (S.same _ _ ha)) ?_ ?_)
 rintro i x F u W ⟨U,v,m,b,d,r,rfl,S,ef,l1,l2,l3⟩;obtain⟨pt,jX,jU⟩:=bE.get W;obtain⟨t0,rfl,hb⟩:=jU.mono (bB S.same);have eV:i<g.length:=(ZS.mp jX).1;have qA:(g.take<|i+1).foldl bg ([],((Str.ofString "",Str.ofString "",0):WY))=bg (d,r) pt:=by rw[Og jX,ef]
 have et:=Of jX;have tb:=FX g i;have k':=FX g (i+1);have sl:=adw d r pt _ l2 l3;refine o4 t0 _ O (.inl<|aA.of hb) O _ _ O _ _ O O ?_;refine⟨_,O,_,O,?_⟩;cases pt with
 |k n=>
  refine nS _ O (.inl (n4 _ _ _ _ O O (ag.of S.lst) (x_ _ _) (.inl (n4 _ _ _ _ O O (ag.of S.last) O ⟨_,O,_,O,.inl (n4 _ _ _ _ O O (ag.of S.lst) (x_ _ _) ⟨b,lK r,2,2,O,O,S.last,O,?_⟩)⟩))));refine⟨_,_,m,b,d,(r.1,r.2.1,r.2.2+n),O,S.set (r':=(r.1,r.2.1,r.2.2+n)),qA,(WX l1),?_,?_⟩;show r.1.length<=_;lia;show r.2.1.length<=_;lia
 |p s=>
  refine Ov S (.p s) (.inl ⟨O,O⟩) ?_ (Y4 l2 (Y4 tb ht)) (Y4 l3 (Y4 tb ht)) aH λL fD b' S' Bq=>⟨_,_,fD,b',_,_,O,S',qA,(Y4 Bq (X4 l1 _)),aH,aH⟩;have:dq (.p s)=s.length:=O;lia
 |c s=>
  refine Ov S (.c s) (.inr ⟨O,O⟩) ?_ (Y4 l2 (Y4 tb ht)) (Y4 l3 (Y4 tb ht)) aH λL fD b' S' Bq=>⟨_,_,fD,b',_,_,O,S',qA,(Y4 Bq (X4 l1 _)),aH,aH⟩;have:dq (.c s)=s.length:=O;lia
 rintro F Hm ⟨U,v,m,b,d,r,rfl,S,ef,l1,l2,l3⟩;have e:g.take xs.length=g:=Wc aH;rw[e] at ef;have i':vt g=d++[r]:=by
  show(g.foldl bg ([],((Str.ofString "",Str.ofString "",0):WY))).1++[(g.foldl bg ([],((Str.ofString "",Str.ofString "",0):WY))).2]=_;rw[ef]
 have Oz:s_ Hm (m++[.r b]) (vt g):=by rw[i'];exact SL S.rows (nS b O S.last)
 have Br:=KB Oz;refine⟨Y_ _,λf0 F9=>?_⟩;refine rT _ O R O (oM _ (ag.of (V3 F9 _ _ S.lst))) (kU (K:=K) (a:=R) (xs:=m++[.r b]) (λi F u=>Wq λf B p5 p6 p7 p8=>uF (F=[some (.r a),some (.r R),U,v,some (.r f),p5,p6,p7,p8]) (ar Hm u) (H f=none) (u f=some (.l B)) (aD u B (cH ((vt g).take i))) (B.length<=3*i))
 ⟨f0,[],none,none,none,none,O,V3 F9,S.same.free F9,aj,.nil,ZX _⟩ (λi F u _ ⟨_,_,_,_,_,_,_,I,_,_,_,_⟩=>ag.of (I _ _ S.lst)) ?_ ?_)
 rintro i x F u W ⟨f,B,p5,p6,p7,p8,rfl,I,ff,F_,gf,ya⟩;obtain⟨j,h',w,rfl,hw⟩:=Oz.get W;have c':=I _ _ hw;have eV:i< (m++[V.r b]).length:=(ZS.mp W).1;have yb:m.length<=100000:=by lia
 have tm:i<=100000:=by simp only[JB,Xy] at eV;exact Y4 (Yu eV) yb
 refine oS w _ O (.inr<|ag.of c') O ⟨_,_,O,_,_,O,_,_,O,O,?_⟩;refine nT _ O cM (λC g6=>nT _ O cM (λA tw=>nT _ O cM (λy N=> ⟨DI,λl Y=>?_⟩)));have c1:C≠A:=λz=>by rw[<-z,aj] at tw;cases tw
 have OA:C≠y:=λz=>by rw[<-z,aw c1,aj] at N;cases N
 have OB:A≠y:=λz=>by rw[<-z,aj] at N;cases N
 have f':C≠l:=λz=>by rw[<-z,aw OA,aw c1,aj] at Y;cases Y
 have e':A≠l:=λz=>by rw[<-z,aw OB,aj] at Y;cases Y
 have d':y≠l:=λz=>by rw[<-z,aj] at Y;cases Y
 have M:=((V3 (o:=.t [.s "put",.s j.1]) g6).trans<|V3 (o:=.t [.s "cut",.s j.2.1]) tw).trans ((V3 (o:=.t [.s "keep",.i j.2.2]) N).trans<|V3 (o:=.l [.r C,.r A,.r y]) Y);refine nS _ O (adx (r:=j) (l:=l) (t1:=C) (t2:=A) (t3:=y) aj (by rw[aw f',aw OA,aw c1,aj]) (by rw[aw e',aw OB,aj]) (by rw[aw d',aj]) O λp D P OC Ga=>?_);generalize xq:upd (upd (upd (upd u C<|.t [.s "put",.s j.1]) A<|.t [.s "cut",.s j.2.1]) y<|.t [.s "keep",.i j.2.2]) l (.l [.r C,.r A,.r y])=L at M P OC;have OD:=M _ _ F_;have a':upd L p (.l D) f=some (.l B):=by rw[aw<|aJ OD P];exact OD
 refine .inl (oT f p B D O O a' aj (cx aH) (λq hq=>?_));have s5:ar Hm (upd (upd L p<|.l D) q<|.l<|B++D):=I.trans (M.trans<|(V3 P).trans<|V3 hq);have t5:bI L (upd (upd L p<|.l D) q<|.l<|B++D):=bB ((V3 P).trans<|V3 hq);refine⟨q,B++D,_,_,_,_,O,s5,S.same.free<|(I.trans<|M.trans<|V3 P).free hq,aj,?_,by rw[JB];exact CG ya Ga⟩;rw[adv h'];have g':∀{J:db}{as:List Pt}{ws:db}{bs:List Pt}{G:Hp},aD G J as->aD G ws bs->aD G (J++ws) (as++bs):=λ{J as ws bs G} h1 h2=>by
  induction h1 with
  |nil=>exact h2
  |cons a _ ih=>exact .cons a ih
 exact g' ((gf.mono<|bB M).mono t5)<|OC.mono t5;rintro F u ⟨f,B,p5,p6,p7,p8,rfl,I,ff,F_,gf,ya⟩;have e2:(vt g).take (m++[V.r b]).length=vt g:=Wc aH;rw[e2] at gf;exact nS _ O (k f u B (S.same.trans I) ff F_ gf)
theorem Bt(a b:wE):cH (a++b)=cH a++cH b:=by simp[cH]
theorem yc(r:WY):cH [r]=eN r:=by simp[cH]
theorem Gb{r:WY}(h:0<r.2.2):eN r=txt .p r.1++txt .c r.2.1++[.k r.2.2]:=by
 unfold eN;rw[Id (vB h)]
theorem OE{r:WY}(h:r.2.2=0):eN r=txt .p r.1++txt .c r.2.1:=by
 unfold eN;rw[GT h,jP]
noncomputable def OF:Pt->Gc|.k _=>true|_=>false
theorem Qf{n:Int}(h:∀p,c.getLast?=some p->OF p=false):e_ c n=c++[.k n]:=by
 unfold e_;split;rename_i m e;have:=h _ e;cases this;rfl
theorem adJ(c:List Pt)(m n:Int):e_ (c++[.k m]) n=c++[.k<|n+m]:=by
 unfold e_;simp
theorem jV(m:Str->Pt):txt m ""=[]:=GT O
theorem kq{x:Str}(h:x≠""):txt m x=[m x]:=Id h
theorem E2{r:WY}(h:e≠ []->r.1≠""\/r.2.1≠""):∀p,(cH e++txt .p r.1++txt .c r.2.1).getLast?=some p->OF p=false:=by
 intro p a;by_cases b:r.2.1="";rw[b,jV] at a;by_cases d:r.1="";rw[d,jV] at a;by_cases n:e=[];rw[n] at a;simp[cH] at a;rcases h n with z|z
 cases z d;cases z b;rw[kq d] at a;simp at a;subst a;rfl;rw[kq b] at a;simp at a;subst a;rfl
def V2(s:NS)(t:wE×WY):Prop:=
 (∀x∈t.1,0<x.2.2)/\(t.1≠ []->t.2.1≠""\/t.2.2.1≠"")/\0<=t.2.2.2/\
  ((t.2.2.2=0/\s.1=cH t.1/\eI s.2.1=t.2.1/\eI s.2.2=t.2.2.1)\/(0<t.2.2.2/\s.1=cH (t.1++[t.2])/\eI s.2.1=""/\eI s.2.2=""))
theorem qB(a:ca)(s:Str):eI (a++[s])=eI a++s:=by rw[ada,adb]
theorem adL(R:V2 s w)(G:eK p):V2 (dw s p) (bg w p):=by
 obtain⟨m,u,d⟩:=s;obtain⟨a,r⟩:=w;obtain⟨l,v,t,j⟩:=YG R;simp only at l v t j;cases p with
 |k n=>
  have I:0<=n:=G;by_cases F:0<n;have E:dw (m,u,d) (.k n)=(e_ (dR m u d) n,[],[]):=GT F;rw[E];refine⟨l,v,by show 0<=r.2.2+n;lia,.inr ⟨by show 0<r.2.2+n;lia,?_,O,O⟩⟩;show e_ (dR m u d) n=cH (a++[(r.1,r.2.1,r.2.2+n)]);rw[Bt,yc,Gb (r:=(r.1,r.2.1,r.2.2+n)) (by show 0<r.2.2+n;lia)];rcases j with⟨f,b,i,g⟩|⟨f,b,i,g⟩
  have D:dR m u d=cH a++txt .p r.1++txt .c r.2.1:=by unfold dR;rw[b,i,g]
  rw[D,Qf<|E2 v];show _=cH a++(txt .p r.1++txt .c r.2.1++[.k<|r.2.2+n]);rw[f,ZV];simp;have D:dR m u d=cH a++(txt .p r.1++txt .c r.2.1)++[.k r.2.2]:=by
   unfold dR;rw[b,i,g,jV,jV,jP,jP,Bt,yc,Gb f];simp
  rw[D,adJ];show _=cH a++(txt .p r.1++txt .c r.2.1++[.k<|r.2.2+n]);rw[Int.add_comm n];simp;have H:n=0:=by lia
  have E:dw (m,u,d) (.k n)=(m,u,d):=Id F;have b:bg (a,r) (.k n)=(a,r):=by show(a,(r.1,r.2.1,r.2.2+n))=_;rw[H,Int.add_zero]
  rw[E,b];exact⟨l,v,t,j⟩
 |p x=>
  show V2 (m,u++[x],d) (bg (a,r)<|.p x);by_cases h:x="";have b:bg (a,r) (.p x)=(a,r):=GT h;rw[b];refine⟨l,v,t,?_⟩;have e:eI (u++[x])=eI u:=by rw[qB,h];exact Oa _
  show _\/_;simp only[e];exact j;by_cases o:0<r.2.2;have b:bg (a,r) (.p x)=(a++[r],((Str.ofString ""++x,Str.ofString "",0):WY)):=by show(if x="" then _ else if 0<r.2.2 then _ else _)=_;rw[Id h,GT o]
  rw[b];rcases j with⟨f,Y⟩|⟨Y,q,i,g⟩
  lia;refine⟨λy B=>?_,λY=>.inl (by rw[vk];exact h),ZT _,.inl ⟨O,q,?_,g⟩⟩;rcases Z4.mp B with z|z
  exact l y z;rw[Ya.mp z];exact o;show eI (u++[x])=_;rw[qB,i];have b:bg (a,r) (.p x)=(a,(r.1++x,r.2.1,r.2.2)):=by show(if x="" then _ else if 0<r.2.2 then _ else _)=_;rw[Id h,Id o]
  rw[b];rcases j with⟨f,q,i,g⟩|⟨f,Y⟩
  refine⟨l,λY=>.inl ?_,t,.inl ⟨f,q,?_,g⟩⟩;intro z;have:=IR Str.length z;rw[lL] at this;have A:(Str.ofString "").length=0:=O;rw[A] at this;have C:x.length=0:=by lia
  exact h<|ja (by rw[YM] at C;rw[Xa.mp C];rfl);show eI (u++[x])=_;rw[qB,i];exact (x8 _ (yS f (BG o))).elim
 |c x=>
  show V2 (m,u,d++[x]) (bg (a,r)<|.c x);by_cases h:x="";have b:bg (a,r) (.c x)=(a,r):=GT h;rw[b];refine⟨l,v,t,?_⟩;have e:eI (d++[x])=eI d:=by rw[qB,h];exact Oa _
  show _\/_;simp only[e];exact j;by_cases o:0<r.2.2;have b:bg (a,r) (.c x)=(a++[r],((Str.ofString "",Str.ofString ""++x,0):WY)):=by show(if x="" then _ else if 0<r.2.2 then _ else _)=_;rw[Id h,GT o]
  rw[b];rcases j with⟨f,Y⟩|⟨Y,q,i,g⟩
  lia;refine⟨λy B=>?_,λY=>.inr (by rw[vk];exact h),ZT _,.inl ⟨O,q,i,?_⟩⟩;rcases Z4.mp B with z|z
  exact l y z;rw[Ya.mp z];exact o;show eI (d++[x])=_;rw[qB,g];have b:bg (a,r) (.c x)=(a,(r.1,r.2.1++x,r.2.2)):=by show(if x="" then _ else if 0<r.2.2 then _ else _)=_;rw[Id h,Id o]
  rw[b];rcases j with⟨f,q,i,g⟩|⟨f,Y⟩
  refine⟨l,λY=>.inr ?_,t,.inl ⟨f,q,i,?_⟩⟩;intro z;have:=IR Str.length z;rw[lL] at this;have A:(Str.ofString "").length=0:=O;rw[A] at this;have C:x.length=0:=by lia
  exact h<|ja (by rw[YM] at C;rw[Xa.mp C];rfl);show eI (d++[x])=_;rw[qB,g];exact (x8 _ (yS f (BG o))).elim
theorem OG:∀(a:List Pt)(s:NS)(t:wE×WY),V2 s t->(∀p∈a,eK p)->V2 (a.foldl dw s) (a.foldl bg t)
 |[],s,t,R,_=>R
 |p::r,s,t,R,h=>OG r _ _ (adL R<|h p Wu) λq b=>h q (Wb _ b)
theorem adM(s:List Pt)(h:∀p∈s,eK p):V2 (s.foldl dw ([],[],[])) (s.foldl bg ([],((Str.ofString "",Str.ofString "",0):WY))):=
 OG s _ _ ⟨nofun,λz=>absurd O z,ZT _,.inl ⟨O,O,O,O⟩⟩ h
theorem qD(s:List Pt)(h:∀p∈s,eK p):jc s=dr s:=by
 obtain⟨f,d,c,r⟩:=YG (adM s h);show dR _ _ _=cH (_++[_]);unfold dR;rcases r with⟨k,e,b,a⟩|⟨k,e,b,a⟩
 rw[e,b,a,Bt,yc,OE k];simp;rw[e,b,a,jV,jV];simp
def sg(x:Str):Prop:= ∀c∈x.cps.toList,SG.cps.contains c=true
theorem Bu(a:sg x)(b:sg y):sg (x++y):=λc h=>by
 rw[Yf] at h;rcases Z4.mp h with z|z
 exact a c z;exact b c z
theorem qE:sg (Str.ofString ""):=λc h=>by cases h
noncomputable def lM(r:WY):Nat:=r.1.length+r.2.1.length
structure RI(n:Nat)(t0:wE×WY):Prop where
 pos:∀x∈t0.1,0<x.2.2
 nn:0<=t0.2.2.2
 s1:∀x∈t0.1++[t0.2],sg x.1/\sg x.2.1
 tl:∀x∈ (t0.1++[t0.2]).tail,x.1≠""\/x.2.1≠""
 ao:((t0.1++[t0.2]).map lM).sum=n
theorem OH{x:Str}(h:x≠""):x++y≠"":=λz=>by
 have:=IR Str.length z;rw[lL] at this;have l:(Str.ofString "").length=0:=O;have q:x.length=0:=by lia
 exact h<|ja (by rw[Xa.mp q];rfl)
theorem OI{c:Type}(l:List c)(a:c):(l++[a]).tail=if l=[] then [] else l.tail++[a]:=by
 cases l with
 |nil=>rfl
 |cons b r=>simp
theorem Gd{r a:WY}(I:RI n (p,r))(e:0<=a.2.2)(d:sg a.1/\sg a.2.1)(c:(r.1≠""->a.1≠"")/\(r.2.1≠""->a.2.1≠""))(f:lM a=lM r+m):RI (n+m) (p,a):=by
 refine⟨I.pos,e,λx h=>?_,λx h=>?_,?_⟩;rcases Z4.mp h with z|z
 exact I.s1 x (Zh _ z);rw[Ya.mp z];exact d;have t:=I.tl;rw[OI] at h t;by_cases b:p=[];rw[GT b] at h;cases h;rw[Id b] at h t;rcases Z4.mp h with z|z
 exact t x (Zh _ z);rw[Ya.mp z];rcases t r aP with q|q
 exact .inl (c.1 q);exact .inr (c.2 q);have:=I.ao;simp at this⊢;lia
theorem OJ{r a:WY}(I:RI n (p,r))(k:0<r.2.2)(d:0<=a.2.2)(c:sg a.1/\sg a.2.1)(b:a.1≠""\/a.2.1≠"")(e:lM a=m):RI (n+m) (p++[r],a):=by
 refine⟨λx h=>?_,d,λx h=>?_,λx h=>?_,?_⟩;rcases Z4.mp h with z|z
 exact I.pos x z;rw[Ya.mp z];exact k;rcases Z4.mp h with z|z
 exact I.s1 x z;rw[Ya.mp z];exact c;have t:=I.tl;rw[OI,Id aP] at h;rcases Z4.mp h with z|z
 exact t x z;rw[Ya.mp z];exact b;have:=I.ao;simp at this⊢;lia
theorem adN(I:RI n t0)(d:eK p):RI (n+dq p) (bg t0 p):=by
 obtain⟨e,r⟩:=t0;have s:=I.s1 r aP;have K:=I.nn;have i:(Str.ofString "").length=0:=O;cases p with
 |k m=>exact Gd I (by have:0<=m:=d;lia) s ⟨λz=>z,λz=>z⟩ O
 |p x=>
  have g:sg x:=d.1.2;by_cases h:x="";have a:bg (e,r) (.p x)=(e,r):=GT h;have f:dq (.p x)=0:=by rw[h];rfl
  rw[a,f];exact I;by_cases b:0<r.2.2;have a:bg (e,r) (.p x)=(e++[r],((Str.ofString ""++x,Str.ofString "",0):WY)):=by show(if x="" then _ else if 0<r.2.2 then _ else _)=_;rw[Id h,GT b]
  rw[a];refine OJ I b (ZT _) ⟨Bu qE g,qE⟩ (.inl (by rw[vk];exact h)) ?_;show(Str.ofString ""++x).length+(Str.ofString "").length=x.length;rw[lL,i];exact Z9 _;have a:bg (e,r) (.p x)=(e,(r.1++x,r.2.1,r.2.2)):=by show(if x="" then _ else if 0<r.2.2 then _ else _)=_;rw[Id h,Id b]
  rw[a];refine Gd I K ⟨Bu s.1 g,s.2⟩ ⟨OH,λz=>z⟩ ?_;show(r.1++x).length+r.2.1.length=r.1.length+r.2.1.length+x.length;rw[lL];lia
 |c x=>
  have g:sg x:=d.1.2;by_cases h:x="";have a:bg (e,r) (.c x)=(e,r):=GT h;have f:dq (.c x)=0:=by show x.length=0;rw[h];rfl
  rw[a,f];exact I;by_cases b:0<r.2.2;have a:bg (e,r) (.c x)=(e++[r],((Str.ofString "",Str.ofString ""++x,0):WY)):=by show(if x="" then _ else if 0<r.2.2 then _ else _)=_;rw[Id h,GT b]
  rw[a];refine OJ I b (ZT _) ⟨qE,Bu qE g⟩ (.inr (by rw[vk];exact h)) ?_;show(Str.ofString "").length+(Str.ofString ""++x).length=x.length;rw[lL,i];lia;have a:bg (e,r) (.c x)=(e,(r.1,r.2.1++x,r.2.2)):=by show(if x="" then _ else if 0<r.2.2 then _ else _)=_;rw[Id h,Id b]
  rw[a];refine Gd I K ⟨s.1,Bu s.2 g⟩ ⟨λz=>z,OH⟩ ?_;show r.1.length+(r.2.1++x).length=r.1.length+r.2.1.length+x.length;rw[lL];lia
theorem Ge:∀(s:List Pt)(n:Nat)(t:wE×WY),RI n t->(∀p∈s,eK p)->RI (n+ao s) (s.foldl bg t)
 |[],n,t,I,_=>I
 |p::r,n,t,I,h=>by
  have:=Ge r _ _ (adN I<|h p Wu) λq a=>h q (Wb _ a);have e:n+dq p+ao r=n+ao (p::r):=by show _=n+(dq p+ao r);exact Nat.add_assoc _ _ _
  rw[e] at this;exact this
theorem OL{r:WY}{a:Str}(d:a=""\/(a="keep"/\(r.1≠""\/r.2.1≠"")))(k:0<r.2.2)(h:hY "keep" N'=true):hY a (eN r++N')=true:=by
 rw[Gb k];by_cases c:r.1="" <;>by_cases b:r.2.1=""
 rw[c,b];rcases d with rfl|⟨Y,z|z⟩
 exact h;cases z c;cases z b;rw[c,kq b];rcases d with rfl|⟨rfl,Y⟩ <;>exact h
 rw[b,kq c];rcases d with rfl|⟨rfl,Y⟩ <;>exact h
 rw[kq c,kq b];rcases d with rfl|⟨rfl,Y⟩ <;>exact h
theorem chain_last{r:WY}{a:Str}(h:a=""\/(a="keep"/\(r.1≠""\/r.2.1≠"")))(k:0<=r.2.2):hY a (eN r)=true:=by
 by_cases d:0<r.2.2;have:=OL (N':=[]) h d O;rw[jP] at this;exact this;rw[OE aH];by_cases c:r.1="" <;>by_cases b:r.2.1=""
 rw[c,b];rfl;rw[c,kq b];rcases h with rfl|⟨rfl,Y⟩ <;>rfl
 rw[b,kq c];rcases h with rfl|⟨rfl,Y⟩ <;>rfl
 rw[kq c,kq b];rcases h with rfl|⟨rfl,Y⟩ <;>rfl
theorem OM:∀(p:wE)(r:WY)(a:Str),(∀x∈p,0<x.2.2)->0<=r.2.2->(a=""\/(a="keep"/\∀x,(p++[r]).head?=some x->x.1≠""\/x.2.1≠""))->(∀x∈ (p++[r]).tail,x.1≠""\/x.2.1≠"")->
  hY a (cH<|p++[r])=true
 |[],r,a,_,k,b,_=>by
  rw[yk,yc];exact chain_last (b.imp id λ⟨x,y⟩=>⟨x,y r O⟩) k
 |q::p,r,a,c,k,b,t=>by
  exact OL (b.imp id λ⟨x,y⟩=>⟨x,y q O⟩) (c q Wu) (OM p r "keep" (λx h=>c x<|Wb _ h) k (.inr ⟨O,λx h=>t x (List.mem_of_mem_head? h)⟩) λx h=>t x (vn h))
theorem adO{r:WY}(s:sg r.1/\sg r.2.1)(l:lM r<=1000000)(k:0<=r.2.2)(h:p∈eN r):aK p:=by
 unfold eN txt at h;unfold lM at l;rcases Z4.mp h with h|h
 rcases Z4.mp h with h|h
 split at h;cases h;rename_i ne;rw[Ya.mp h];exact⟨⟨(Y4 (Xw _ _) l),s.1⟩,ne⟩;split at h;cases h;rename_i ne;rw[Ya.mp h];exact⟨⟨(Y4 (Xk _ _) l),s.2⟩,ne⟩;split at h;cases h;rw[Ya.mp h];show 1<=r.2.2;lia
theorem adP(r:WY):ao (eN r)=lM r:=by
 have d:∀(m:Str->Pt)(x:Str),(∀y,dq (m y)=y.length)->ao (txt m x)=x.length:=by
  intro m x h;unfold txt;by_cases e:x="";rw[e];rfl;rw[Id e];show dq (m x)+0=_;rw[h,Nat.add_zero]
 have t:∀a b:List Pt,ao (a++b)=ao a+ao b:=λa b=>by simp[ao]
 unfold eN lM;rw[t,t,d .p _ λY=>O,d .c _ λY=>O];split;rfl;rfl
theorem Gf:∀s:wE,ao (cH s)=(s.map lM).sum
 |[]=>O
 |r::s=>by
  have e:cH (r::s)=eN r++cH s:=O;have t:∀a b:List Pt,ao (a++b)=ao a+ao b:=λa b=>by simp[ao]
  rw[e,t,adP,Gf s];rfl
theorem Eg{l:wE}(h:x∈l):lM x<= (l.map lM).sum:=by
 induction l with
 |nil=>cases h
 |cons a l i=>
  rw[Ww,xY];rcases X9.mp h with rfl|h
  exact Xw _ _;lia
theorem qF(s:List Pt)(h:∀p∈s,eK p)(t:ao s<=100000):hY "" (dr s)=true/\(∀p∈dr s,aK p)/\ao (dr s)<=100000:=by
 have I:=Ge s 0 ([],((Str.ofString "",Str.ofString "",0):WY)) ⟨nofun,ZT _,(λx a=>by rw[Ya.mp a];exact⟨qE,qE⟩),nofun,O⟩ h;rw[Z9] at I;have e:dr s=cH ((s.foldl bg ([],((Str.ofString "",Str.ofString "",0):WY))).1++[(s.foldl bg ([],((Str.ofString "",Str.ofString "",0):WY))).2]):=O;rw[e];generalize s.foldl bg ([],((Str.ofString "",Str.ofString "",0):WY))=t0 at I;refine⟨OM t0.1 t0.2 "" I.pos I.nn (.inl O) I.tl,λp b=>?_,by rw[Gf,I.ao];exact t⟩;unfold cH at b;rw[WO] at b;obtain⟨l,d,b⟩:=b;obtain⟨x,a,rfl⟩:=X_.mp d;have c:=Eg a;rw[I.ao] at c;refine adO (I.s1 x a) aH ?_ b;rcases Z4.mp a with z|z
 have:=I.pos x z;exact Int.le_of_lt this;rw[Ya.mp z];exact I.nn
theorem yd(a:List Pt):(jc a).length<=3*a.length+2:=by
 have g:∀(l:List Pt)(s:NS),(l.foldl dw s).1.length<=s.1.length+3*l.length:=by
  intro l;induction l with
  |nil=>intro s;simp
  |cons p l i=>
   intro s;have e:=i (dw s p);have f:(dw s p).1.length<=s.1.length+3:=by
    obtain⟨h,u,b⟩:=s;cases p with
    |k n=>
     by_cases d:0<n;have j:dw (h,u,b) (.k n)=(e_ (dR h u b) n,[],[]):=GT d;have:=Bi h u b;have:=Oi (dR h u b) n;lia;have j:dw (h,u,b) (.k n)=(h,u,b):=Id d;lia
    |p x=>show h.length<=h.length+3;exact Xw _ _
    |c x=>show h.length<=h.length+3;exact Xw _ _
   rw[k_,Wt];lia
 have e:=g a ([],[],[]);have f:=Bi (a.foldl dw ([],[],[])).1 (a.foldl dw ([],[],[])).2.1 (a.foldl dw ([],[],[])).2.2;show(dR _ _ _).length<=_;simp at e;exact Y4 f (X4 e _)
def ON:Pt->Prop|.k _=>True|.p s=>sg s|.c s=>sg s
noncomputable def Pt.mY:Pt->Pt|.k n=>.k n|.p s=>.c s|.c s=>.p s
abbrev cr:=List Pt
def cf(p:cr):cr:=p.map Pt.mY
theorem OO(h:∀p∈s,eK p):∀p∈cf s,eK p:=by
 intro p b;obtain⟨q,a,rfl⟩:=X_.mp b;have:=h q a;cases q<;>exact this
theorem Bv(s:cr):ao (cf s)=ao s:=by
 unfold ao cf;rw[Y3];congr 1;refine Xb λp Y=>?_;cases p<;>rfl
theorem adR(s:cr)(h:∀p∈s,eK p):RI (ao s) (s.foldl bg ([],((Str.ofString "",Str.ofString "",0):WY))):=by
 have I:=Ge s 0 ([],((Str.ofString "",Str.ofString "",0):WY)) ⟨nofun,ZT _,(λx a=>by rw[Ya.mp a];exact⟨qE,qE⟩),nofun,O⟩ h
 rwa [Z9] at I
theorem R8(h:aK p)(t:dq p<=100000):eK p:=by
 cases p with
 |k n=>exact Int.le_trans (Wx _) (show(1:Int)<=n from h)
 |p s=>exact⟨h.1,t⟩
 |c s=>exact⟨h.1,t⟩
theorem vv(h:p∈s):dq p<=ao s:=by
 induction s with
 |nil=>cases h
 |cons q s i=>
  have e:ao (q::s)=dq q+ao s:=O;rcases X9.mp h with rfl|h
  lia;lia
theorem Bw(h:∀p∈s,aK p)(t:ao s<=100000):∀p∈s,eK p:=λp a=>R8 (h p a) (Y4 (vv a) t)
inductive Yp:bn->cr->bn->Prop
 |N:Yp [] [] []
 |k {a l r:bn}{n:Int}{b:cr}:n=a.length->Yp l b r->Yp (a++l) (.k n::b) (a++r)
 |t {s:Str}{l r:bn}{b:cr}:Yp l b r->Yp l (.p s::b) (s.cps.toList++r)
 |C {s:Str}{l r:bn}{b:cr}:Yp l b r->Yp (s.cps.toList++l) (.c s::b) r
theorem Yp.mY(h:Yp l p r):Yp r (cf p) l:=by
 induction h with
 |N=>exact .N
 |k e Y i=>exact .k e i
 |t Y i=>exact .C i
 |C Y i=>exact .t i
theorem Yp.app(h:Yp l p r)(c:Yp b q r'):Yp (l++b) (p++q) (r++r'):=by
 induction h with
 |N=>exact c
 |k e Y i=>rw[Xm,Xm];exact .k e i
 |t Y i=>rw[Xm];exact .t i
 |C Y i=>rw[Xm];exact .C i
theorem Yp.over(h:Yp l b r):(WJ b).sum=l.length:=by
 induction h with
 |N=>rfl
 | @k a l r n b e _ i=>
  have d:WJ (.k n::b)=n::WJ b:=O;rw[d,xY,i,e];simp
 | @t s l r b _ i=>
  have d:WJ (.p s::b)=WJ b:=O;rw[d,i]
 | @C s l r b _ i=>
  have d:WJ (.c s::b)=(s.length:Int)::WJ b:=O;rw[d,xY,i,YM];simp
def tD(r:WY)(l q:bn):Prop:= ∃k:bn,r.2.2=k.length/\l=r.2.1.cps.toList++k/\q=r.1.cps.toList++k
inductive oP:wE->bn->bn->Prop
 |nil:oP [] [] []
 |snoc {a:wE}{r:WY}{l q c b:bn}:oP a l q->tD r c b->oP (a++[r]) (l++c) (q++b)
theorem OP:Yp [] (txt .p s) s.cps.toList:=by
 by_cases h:s="";rw[h];exact .N;rw[kq h];have:=Yp.t (s:=s) Yp.N
 rwa [jP] at this
theorem adT:Yp s.cps.toList (txt .c s) []:=by
 have:=(OP (s:=s)).mY;have e:cf (txt .p s)=txt .c s:=by
  unfold txt;split<;>rfl
 rwa [e] at this
theorem tD.run{r:WY}(h:tD r l q):Yp l (eN r) q:=by
 obtain⟨k,a,rfl,rfl⟩:=h;have b:Yp k (if r.2.2=0 then [] else [.k r.2.2]) k:=by
  split;rename_i h;have:k=[]:=Xa.mp aH;rw[this];exact .N;have:=Yp.k a Yp.N
  rwa [jP] at this
 have:=((OP (s:=r.1)).app<|adT (s:=r.2.1)).app b;simpa[eN] using this
theorem oP.run(h:oP rs l q):Yp l (cH rs) q:=by
 induction h with
 |nil=>exact .N
 |snoc Y a i=>rw[Bt,yc];exact i.app a.run
def CK:Pt->bn->bn->Prop
 |.k n,l,q=>l=q/\n=l.length
 |.p s,l,q=>l=[]/\q=s.cps.toList
 |.c s,l,q=>l=s.cps.toList/\q=[]
theorem OQ{s:cr}(h:Yp l (p::s) q):∃l1 l2 b a,l=l1++l2/\q=b++a/\Yp l2 s a/\
  CK p l1 b:=by
 cases h with
 |k e h=>exact n4 _ _ _ _ O O h O e
 |t h=>exact n4 [] _ _ _ O O h O O
 |C h=>exact n4 _ _ [] _ O O h O O
theorem adU{r:WY}{l1 l2 j:bn}(f:oP pre l q)(d:tD r l1 g)(i:CK p l2 j):
  ∃E F G m,oP (bg (pre,r) p).1 E F/\tD (bg (pre,r) p).2 G m/\l++l1++l2=E++G/\q++g++j=F++m:=by
 cases p with
 |k n=>
  obtain⟨rfl,rfl⟩:=i;obtain⟨k,b,rfl,rfl⟩:=d;refine pF l q _ _ f (nT (k++l2) ?_ O O) (by simp[bg]) (by simp[bg]);show r.2.2+(l2.length:Int)=_;rw[b,JB];simp
 |p s=>
  obtain⟨rfl,rfl⟩:=i;by_cases h:s="";have e:bg (pre,r) (.p s)=(pre,r):=by simp only[bg,GT h]
  rw[e];refine pF l q l1 g f d aP ?_;rw[h];rw[Bx];simp;by_cases b:0<r.2.2;have e:bg (pre,r) (.p s)=(pre++[r],((Str.ofString ""++s,"",0):WY)):=by simp only[bg,Id h,GT b]
  rw[e];refine pF _ _ [] s.cps.toList (f.snoc d) (nT [] O O ?_) O O;rw[vk];simp;have e:bg (pre,r) (.p s)=(pre,(r.1++s,r.2.1,r.2.2)):=by simp only[bg,Id h,Id b]
  rw[e];obtain⟨k,t,rfl,rfl⟩:=d;have:k=[]:=Xa.mp aH;subst this;refine pF l q r.2.1.cps.toList (r.1.cps.toList++s.cps.toList) f (nT [] t aP (by simp[Yf])) aP aP
 |c s=>
  obtain⟨rfl,rfl⟩:=i;by_cases h:s="";have e:bg (pre,r) (.c s)=(pre,r):=by simp only[bg,GT h]
  rw[e];refine pF l q l1 g f d ?_ aP;rw[h];rw[Bx];simp;by_cases b:0<r.2.2;have e:bg (pre,r) (.c s)=(pre++[r],(("",Str.ofString ""++s,0):WY)):=by simp only[bg,Id h,GT b]
  rw[e];refine pF _ _ s.cps.toList [] (f.snoc d) (nT [] O ?_ O) aP aP;show s.cps.toList=(Str.ofString ""++s).cps.toList++[];rw[vk];simp;have e:bg (pre,r) (.c s)=(pre,(r.1,r.2.1++s,r.2.2)):=by simp only[bg,Id h,Id b]
  rw[e];obtain⟨k,t,rfl,rfl⟩:=d;have:k=[]:=Xa.mp aH;subst this;refine pF l q (r.2.1.cps.toList++s.cps.toList) r.1.cps.toList f (nT [] t (by simp[Yf]) aP) aP aP
theorem adV:∀(s:cr)(e:wE)(r:WY)(l f l1 q l2 g:bn),oP e l f->tD r l1 q->Yp l2 s g->
  ∃E F t m,oP (s.foldl bg (e,r)).1 E F/\tD (s.foldl bg (e,r)).2 t m/\l++l1++l2=E++t/\f++q++g=F++m:=by
 intro s;induction s with
 |nil=>
  intro e r l f l1 q l2 g j i h;cases h;exact pF l f l1 q j i aP aP
 |cons p s k=>
  intro e r l f l1 q l2 g j i h;obtain⟨a,b,c,d,zq⟩:=YC (OQ h);obtain⟨rfl,rfl,o,n⟩:=YG zq;obtain⟨E,F,t,m,zq⟩:=YC (adU j i n);obtain⟨v,u,B,A⟩:=YG zq;obtain⟨W,X,Y,Z,zq⟩:=YC (k _ _ E F t m b d v u o);obtain⟨x,w,z,y⟩:=YG zq;refine pF W X Y Z x w ?_ ?_;rw[<-z,<-B];simp;rw[<-y,<-A];simp
theorem vw(h:Yp l p q):Yp l (dr p) q:=by
 obtain⟨g,f,l1,d,zq⟩:=YC (adV p [] ("","",0) [] [] [] [] l q .nil ⟨[],O,O,O⟩ h);obtain⟨b,a,c,e⟩:=YG zq;have:=(b.snoc a).run;rw[<-c,<-e] at this;exact this
inductive Gg(v:db)(H:Hp)(Q:VK)(E:XK):Prop|i(c:_)(_:v=[.i c])(_:∀n,0<=n->n<=400->Q (.i n) H)
theorem YB{K:Frag}(v:db)(H:Hp)(Q:VK)(E:XK)(h:Gg v H Q E):av (bK K E) Nc {nx:=λY Z=>Q .a Z,r:=Q} (WR Nb v) H:=by
 obtain⟨c,rfl,q⟩:=h;refine⟨_,O,aH,_,O,?_⟩;refine gH (λY=>?_)<|λY=>?_;exact⟨_,O,⟨aH,aH⟩,aH,q _ (X7 _ aH) aH⟩;exact⟨_,O,⟨aQ,aH⟩,aH,q _ (X7 _ aQ) aH⟩
noncomputable def WB:nH:=[(.inr "keep",.s "keep"),(.inr "cut",.s "put"),(.inr "put",.s "cut")]
abbrev ad1:wr:=[("need_change",FV),("neat",lJ)]
inductive vx(v:db)(H:Hp)(Q:VK)(E:XK):Prop|i(a xs s:_)(_:v=[.r a])(_:H a=some (.l xs))(_:aD H xs s)(_:(∀p∈s,aK p))(_:hY "" s=true)(_:s.length<=100000)(_:ao s<=100000)(_:∀b Z B,ar H Z->H b=none->Z b=some (.l B)->aD Z B (jc<|cf s)->Q (.r b) Z)
abbrev afB(K:Frag)(p:Do)(E:XK):ba:=aG K ad1 [("WAYS_BACK",.r p)] [(p,WB)] (E:=E)
theorem ad3{K:Frag}(z:db)(H:Hp)(Q:VK)(E:XK)(h:vx z H Q E):av (afB K p E) M5 {nx:=λ_ Z=>Q .a Z,r:=Q} (WR M4 z) H:=by
 obtain⟨a,xs,d,rfl,j,w,X,W,hl,P,q⟩:=h;refine nS _ O ⟨a,xs,d,O,j,w,X,W,λt A=>?_⟩;have n:=KB w;refine rT _ O a O (oM _ (ag.of<|A _ _ j)) ⟨λi m B u=>m=xs.length - i/\i<=xs.length/\ar H u/\aD u B (cf<|d.take i), ⟨_,O,Y_ _,A,.nil⟩,?_⟩;rintro i m B u ⟨rfl,hi,f,y⟩;by_cases C:i<xs.length;refine .inr ⟨o3 xs (xs[i]) (ag.of<|f _ _ j) (by simp[C]),?_⟩;rintro x D ⟨rfl,M⟩;obtain⟨g,R,U⟩:=w.get (M xs (ag.of<|f _ _ j));obtain⟨b,rfl,v⟩:=U.mono (bB f);have Y:=KB y;have N:ox WB (.inr g.word)=some (.s g.mY.word):=by
  cases g<;>first|rfl| (decide+kernel)
 refine oS b _ O (aA.of v) O ⟨_,O,.inr<|.inr<|.inr ⟨p,WB,.inr g.word,_,O,O,Ya.2 O,N, ⟨_,O,by show 2<=sizeLine;decide,λG J=>qC ?_ (xs.length - (i+1)) aH ⟨O,C,f.trans<|V3 J,?_⟩⟩⟩⟩;have:(cf<|d.take i).length=i:=by simp[cf];lia
 exact bY aH;have e:cf (d.take<|i+1)=cf (d.take i)++[g.mY]:=by
  rw[Wa,R];simp[cf]
 rw[e];refine(y.mono<|bB<|V3 J).snoc ⟨G,O,?_⟩;rw[aj];cases g<;>rfl
 have V:i=xs.length:=XZ hi (Z6 C)
 subst V;refine .inl ⟨nS xs (ag.of<|f _ _ j) (ZX _),λb v=>?_⟩;have e:cf (d.take xs.length)=cf d:=by rw[n,Hd]
 rw[e] at y;have k:=V3 (o:=.l B) v;refine⟨b,B,cf d,O,aj,y.mono<|bB k,by simp[cf];exact Y4 hl (Xk _ _),by rw[Bv];exact P,λc D F I S T L=>?_⟩;exact q c D F (f.trans<|k.trans I) ((f.trans k).free S) T L
theorem OR{a:bn}(h:x.cps.toList=a++(b++c))(n:Int)(f:n=b.length):oj x (some (a.length:Int)) (some<|(a.length:Int)+n)=⟨b.toArray⟩:=by
 have e:(a.length:Int)+n=((a.length+b.length:Nat):Int):=by lia
 unfold oj oi;rw[e,HT.pX,HT.pX,h];have l1:(a++(b++c)).length=a.length+(b.length+c.length):=by simp
 rw[l1];have d:min a.length (a.length+(b.length+c.length))=a.length:=by lia
 have m:min (a.length+b.length) (a.length+(b.length+c.length))=a.length+b.length:=by lia
 rw[d,m,List.drop_left,show a.length+b.length - a.length=b.length by lia,Yr]
theorem arH(x:Str):(⟨x.cps.toList.toArray⟩:Str)=x:=O
theorem ad4(j:Int)(a:0<=j)(h:j<6):∃n:Int,fF [V.i 1,V.i 2,V.i 0,V.i 3,V.i 5,V.i 40] j=some (.i n)/\0<=n/\n<=40:=by
 obtain rfl|rfl|rfl|rfl|rfl|rfl:j=0\/j=1\/j=2\/j=3\/j=4\/j=5:=by lia
 all_goals exact nT _ O aH aH
theorem Gh(a b:cr):ao (a++b)=ao a+ao b:=by simp[ao]
abbrev ad5:wr:=[("_law_mixed",FR),("_law_text",Bl)]
theorem tK(s:cr)(h:∀p∈s,eK p):ao (dr s)=ao s:=by
 have e:dr s=cH ((s.foldl bg ([],((Str.ofString "",Str.ofString "",0):WY))).1++[(s.foldl bg ([],((Str.ofString "",Str.ofString "",0):WY))).2]):=O;rw[e,Gf,(adR s h).ao]
inductive At where|K|P (c:Nat)|C (c:Nat)
 deriving DecidableEq
abbrev lc:=List At
abbrev Ym:=bn×bn×List (bn×bn)
noncomputable def nb:lc->Ym
 |[]=>([],[],[])
 |.P c::xs=>(c::(nb xs).1,(nb xs).2.1,(nb xs).2.2)
 |.C c::xs=>((nb xs).1,c::(nb xs).2.1,(nb xs).2.2)
 |.K::xs=>([],[],((nb xs).1,(nb xs).2.1)::(nb xs).2.2)
def Xr:bn->lc->Prop
 |l,[]=>l=[]
 |l,.P _::xs=>Xr l xs
 |[],.K::_=>False
 |_::l,.K::xs=>Xr l xs
 |[],.C _::_=>False
 |a::l,.C c::xs=>a=c/\Xr l xs
abbrev Sg:=Sum Nat Nat
noncomputable def res(i:Nat):lc->List Sg
 |[]=>[]
 |.P c::xs=>.inr c::res i xs
 |.K::xs=>.inl i::res (i+1) xs
 |.C _::xs=>res (i+1) xs
theorem qG:∀(xs:lc)(i j:Nat),Sum.inl j∈res i xs->i<=j
 |[],i,j,h=>by cases h
 |.P c::xs,i,j,h=>by
  rcases X9.mp h with z|z
  cases z;exact qG xs i j z
 |.K::xs,i,j,h=>by
  rcases X9.mp h with z|z
  cases z;exact ZX _;have:=qG xs (i+1) j z;exact XE this
 |.C c::xs,i,j,h=>by have:=qG xs (i+1) j h;exact XE this
noncomputable def Yg(i:Nat)(l:bn):List Sg->Ym
 |[]=>([],l,[])
 |.inr c::r=>(c::(Yg i l r).1,(Yg i l r).2.1,(Yg i l r).2.2)
 |.inl j::r=>([],l.take<|j - i,((Yg (j+1) (l.drop<|j+1 - i) r).1,(Yg (j+1) (l.drop<|j+1 - i) r).2.1)::(Yg (j+1) (l.drop<|j+1 - i) r).2.2)
theorem OS(c:Nat)(l:bn)(i:Nat):∀r:List Sg,(∀j,Sum.inl j∈r->i+1<=j)->Yg i (c::l) r=((Yg (i+1) l r).1,c::(Yg (i+1) l r).2.1,(Yg (i+1) l r).2.2)
 |[],_=>O
 |.inr d::r,h=>by
  simp only[Yg,(OS c l i r λj a=>h j (.tail _ a))]
 |.inl j::r,h=>by
  have a:=h j (.head _);simp only[Yg];rw[show j - i=(j - (i+1))+1 by lia,List.take_succ_cons,show j+1 - i=(j+1 - (i+1))+1 by lia,List.drop_succ_cons]
theorem ye:∀(xs:lc)(i:Nat)(l:bn),Xr l xs->nb xs=Yg i l (res i xs)
 |[],i,l,h=>by cases h;rfl
 |.P c::xs,i,l,h=>by
  simp only[nb,res,Yg,<-(ye xs i l h)]
 |.K::xs,i,[],h=>h.elim
 |.K::xs,i,a::l,h=>by
  simp only[nb,res,Yg];rw[show i+1 - i=1 by lia,XO];simp only[List.drop_succ_cons,Zg,List.take_zero,<-(ye xs (i+1) l h)]
 |.C c::xs,i,[],h=>h.elim
 |.C c::xs,i,a::l,h=>by
  obtain⟨rfl,h⟩:=h;simp only[nb,res];rw[OS a l i _ λj b=>qG xs (i+1) j b,<-(ye xs (i+1) l h)]
theorem ad6{xs B:lc}(x:Xr l xs)(y:Xr l B)(h:res 0 xs=res 0 B):nb xs=nb B:=by
 rw[ye xs 0 l x,ye B 0 l y,h]
noncomputable def YX:bn->lc->bn
 |l,[]=>[]
 |l,.P c::xs=>c::YX l xs
 |[],.K::xs=>YX [] xs
 |a::l,.K::xs=>a::YX l xs
 |[],.C _::xs=>YX [] xs
 |_::l,.C _::xs=>YX l xs
inductive cz:lc->lc->lc->Prop
 |n:cz [] [] []
 |p {c xs B z}:cz xs B z->cz xs (.P c::B) (.P c::z)
 |c {c xs B z}:cz xs B z->cz (.C c::xs) B (.C c::z)
 |kk {xs B z}:cz xs B z->cz (.K::xs) (.K::B) (.K::z)
 |kc {c xs B z}:cz xs B z->cz (.K::xs) (.C c::B) (.C c::z)
 |pk {c xs B z}:cz xs B z->cz (.P c::xs) (.K::B) (.P c::z)
 |pc {c xs B z}:cz xs B z->cz (.P c::xs) (.C c::B) z
noncomputable def sb(r:List Sg)(k:Nat):Sg->Sg
 |.inr c=>.inr c
 |.inl j=>r.getD (j - k) (.inr 0)
def sub(r:List Sg)(k:Nat)(t:List Sg):List Sg:=t.map (sb r k)
theorem By(x:Sg)(r:List Sg)(k:Nat)(t:List Sg)(h:∀j,Sum.inl j∈t->k+1<=j):sub (x::r) k t=sub r (k+1) t:=by
 refine Xb λy a=>?_;cases y with
 |inr c=>rfl
 |inl j=>
  have:=h j a;simp only[sb];rw[show j - k=(j - (k+1))+1 by lia,List.getD_cons_succ]
theorem ad7{xs B:lc}(h:cz xs B z):∀(l:bn)(i k:Nat),Xr l xs->Xr (YX l xs) B->Xr l z/\YX l z=YX (YX l xs) B/\res i z=sub (res i xs) k (res k B):=by
 induction h with
 |n=>intro l i k e f;exact⟨e,O,O⟩
 | @p c xs B z _ g=>
  intro l i k e f;obtain⟨a,b,d⟩:=g l i k e f;refine⟨a,?_,?_⟩;show c::YX l z=c::YX (YX l xs) B;rw[b];show Sum.inr c::res i z=_;rw[d];rfl
 | @c c xs B z _ g=>
  intro l i k e f;cases l with
  |nil=>exact e.elim
  |cons a l=>
   obtain⟨rfl,e⟩:=e;obtain⟨q,o,m⟩:=g l (i+1) k e f;exact⟨⟨O,q⟩,o,m⟩
 | @kk xs B z _ g=>
  intro l i k e f;cases l with
  |nil=>exact e.elim
  |cons a l=>
   obtain⟨q,o,m⟩:=g l (i+1) (k+1) e f;refine⟨q,?_,?_⟩;show a::YX l z=a::YX (YX l xs) B;rw[o];show Sum.inl i::res (i+1) z=sub (Sum.inl i::res (i+1) xs) k (Sum.inl k::res (k+1) B);rw[m];show _=sb (Sum.inl i::res (i+1) xs) k (Sum.inl k)::sub (Sum.inl i::res (i+1) xs) k (res (k+1) B);rw[By _ _ _ _ λj r=>qG B (k+1) j r];simp only[sb];rw[XO,List.getD_cons_zero]
 | @kc c xs B z _ g=>
  intro l i k e f;cases l with
  |nil=>exact e.elim
  |cons a l=>
   obtain⟨rfl,f⟩:=f;obtain⟨q,o,m⟩:=g l (i+1) (k+1) e f;refine⟨⟨O,q⟩,o,?_⟩;show res (i+1) z=sub (Sum.inl i::res (i+1) xs) k (res (k+1) B);rw[m,By _ _ _ _ λj r=>qG B (k+1) j r]
 | @pk c xs B z _ g=>
  intro l i k e f;obtain⟨q,o,m⟩:=g l i (k+1) e f;refine⟨q,?_,?_⟩;show c::YX l z=c::YX (YX l xs) B;rw[o];show Sum.inr c::res i z=sub (Sum.inr c::res i xs) k (Sum.inl k::res (k+1) B);rw[m];show _=sb (Sum.inr c::res i xs) k (Sum.inl k)::sub (Sum.inr c::res i xs) k (res (k+1) B);rw[By _ _ _ _ λj r=>qG B (k+1) j r];simp only[sb];rw[XO,List.getD_cons_zero]
 | @pc c xs B z _ g=>
  intro l i k e f;obtain⟨Y,f⟩:=f;obtain⟨q,o,m⟩:=g l i (k+1) e f;refine⟨q,o,?_⟩;show res i z=sub (Sum.inr c::res i xs) k (res (k+1) B);rw[m,By _ _ _ _ λj r=>qG B (k+1) j r]
noncomputable def sw:At->At|.K=>.K|.P c=>.C c|.C c=>.P c
noncomputable def m3:Nat->bn->bn->List (bn×bn)->List Sg
 |i,p,q,[]=>p.map .inr
 |i,p,q,(b,a)::r=>p.map .inr++ .inl (i+q.length)::m3 (i+q.length+1) b a r
theorem ad8(c:Nat):∀(r:List (bn×bn))(i:Nat)(p q:bn),m3 (i+1) p q r=m3 i p (c::q) r
 |[],i,p,q=>O
 |(b,a)::r,i,p,q=>by
  simp only[m3,Wt];rw[show i+1+q.length=i+(q.length+1) by lia]
theorem FB(c:Nat):∀(r:List (bn×bn))(i:Nat)(p q:bn),m3 i (c::p) q r=.inr c::m3 i p q r
 |[],i,p,q=>O
 |(b,a)::r,i,p,q=>O
theorem yf:∀(xs:lc)(i:Nat),res i xs=m3 i (nb xs).1 (nb xs).2.1 (nb xs).2.2
 |[],i=>O
 |.P c::xs,i=>by
  show Sum.inr c::res i xs=m3 i (c::(nb xs).1) _ _;rw[yf xs i,FB];rfl
 |.C c::xs,i=>by
  show res (i+1) xs=m3 i (nb xs).1 (c::(nb xs).2.1) _;rw[yf xs<|i+1,ad8 c];rfl
 |.K::xs,i=>by
  show Sum.inl i::res (i+1) xs=Sum.inl (i+0)::m3 (i+0+1) _ _ _;rw[yf xs<|i+1];rfl
theorem Zo{xs B:lc}(h:nb xs=nb B)(i:Nat):res i xs=res i B:=by rw[yf,yf,h]
noncomputable def jY:bn->bn->List (bn×bn)->Ym->Ym
 |p,q,[],F=>(p++F.1,q++F.2.1,F.2.2)
 |p,q,(a,b)::r,F=>(p,q,((jY a b r F).1,(jY a b r F).2.1)::(jY a b r F).2.2)
theorem aea(c:Nat)(p q:bn)(r:List (bn×bn))(F:Ym):jY (c::p) q r F=(c::(jY p q r F).1,(jY p q r F).2.1,(jY p q r F).2.2):=by
 cases r<;>rfl
theorem aeb(c:Nat)(p q:bn)(r:List (bn×bn))(F:Ym):jY p (c::q) r F=((jY p q r F).1,c::(jY p q r F).2.1,(jY p q r F).2.2):=by
 cases r<;>rfl
theorem oQ:∀(xs B:lc),nb (xs++B)=jY (nb xs).1 (nb xs).2.1 (nb xs).2.2 (nb B)
 |[],B=>O
 |.K::xs,B=>by
  simp only[WT,nb,oQ xs B];rfl
 |.P c::xs,B=>by
  simp only[WT,nb,oQ xs B,aea]
 |.C c::xs,B=>by
  simp only[WT,nb,oQ xs B,aeb]
theorem Gi{xs B:lc}(h:nb xs=nb b)(a:nb B=nb d):nb (xs++B)=nb (b++d):=by rw[oQ,oQ,h,a]
theorem Gj:∀(p:bn),nb (p.map .P)=(p,[],[])
 |[]=>O
 |c::p=>by simp only[Ww,nb,Gj p]
theorem Gk:∀(p:bn),nb (p.map .C)=([],p,[])
 |[]=>O
 |c::p=>by simp only[Ww,nb,Gk p]
theorem aec(p q:bn):nb (q.map .C++p.map .P)=nb (p.map .P++q.map .C):=by
 rw[oQ,oQ,Gj,Gk];simp[jY]
noncomputable def rK(n:Nat):lc:=List.replicate n .K
theorem R7(n:Nat)(xs:lc):nb (rK (n+1)++xs)=([],[],List.replicate n ([],[])++((nb xs).1,(nb xs).2.1)::(nb xs).2.2):=by
 induction n with
 |zero=>rfl
 |succ n i=>
  have e:rK (n+1+1)++xs=.K::(rK (n+1)++xs):=O;rw[e];simp only[nb,i];rfl
theorem Bz:∀(a l:bn)(xs:lc),Xr (a++l) (rK a.length++xs)↔Xr l xs
 |[],l,xs=>Re
 |c::a,l,xs=>Bz a l xs
theorem BA:∀(a l:bn)(xs:lc),YX (a++l) (rK a.length++xs)=a++YX l xs
 |[],l,xs=>O
 |c::a,l,xs=>by
  show c::YX (a++l) (rK a.length++xs)=_;rw[BA a l xs];rfl
theorem tL:∀(s l:bn)(xs:lc),Xr l (s.map .P++xs)↔Xr l xs
 |[],l,xs=>Re
 |c::s,l,xs=>tL s l xs
theorem BB:∀(s l:bn)(xs:lc),YX l (s.map .P++xs)=s++YX l xs
 |[],l,xs=>O
 |c::s,l,xs=>by
  show c::YX l (s.map .P++xs)=_;rw[BB s l xs];rfl
theorem Gm:∀(s l:bn)(xs:lc),Xr (s++l) (s.map .C++xs)↔Xr l xs
 |[],l,xs=>Re
 |c::s,l,xs=>by
  show c=c/\Xr (s++l) (s.map .C++xs)↔_;rw[Gm s l xs];simp
theorem BC:∀(s l:bn)(xs:lc),YX (s++l) (s.map .C++xs)=YX l xs
 |[],l,xs=>O
 |c::s,l,xs=>BC s l xs
inductive cX:lc->lc->lc->lc->Prop
 |n:cX [] [] [] []
 |p1 {c xs B os t}:cX xs B os t->cX (.P c::xs) B (.P c::os) (.K::t)
 |p2 {c xs B os t}:cX xs B os t->cX xs (.P c::B) (.K::os) (.P c::t)
 |kk {xs B os t}:cX xs B os t->cX (.K::xs) (.K::B) (.K::os) (.K::t)
 |kc {c xs B os t}:cX xs B os t->cX (.K::xs) (.C c::B) os (.C c::t)
 |ck {c xs B os t}:cX xs B os t->cX (.C c::xs) (.K::B) (.C c::os) t
 |cc {c xs B os t}:cX xs B os t->cX (.C c::xs) (.C c::B) os t
theorem cX.fits{xs B o t:lc}(h:cX xs B o t):∀l,Xr l xs->Xr l B->Xr (YX l xs) t/\Xr (YX l B) o/\YX (YX l xs) t=YX (YX l B) o:=by
 induction h with
 |n=>intro l e f;cases e;exact⟨O,O,O⟩
 | @p1 c xs B o t _ i=>
  intro l e f;obtain⟨a,b,d⟩:=i l e f;exact⟨a,b,by show c::_=c::_;rw[d]⟩
 | @p2 c xs B o t _ i=>
  intro l e f;obtain⟨a,b,d⟩:=i l e f;exact⟨a,b,by show c::_=c::_;rw[d]⟩
 | @kk xs B o t _ i=>
  intro l e f;cases l with
  |nil=>exact e.elim
  |cons x l=>
   obtain⟨a,b,d⟩:=i l e f;exact⟨a,b,by show x::_=x::_;rw[d]⟩
 | @kc c xs B o t _ i=>
  intro l e f;cases l with
  |nil=>exact e.elim
  |cons x l=>
   obtain⟨rfl,f⟩:=f;obtain⟨a,b,d⟩:=i l e f;exact⟨⟨O,a⟩,b,d⟩
 | @ck c xs B o t _ i=>
  intro l e f;cases l with
  |nil=>exact e.elim
  |cons x l=>
   obtain⟨rfl,e⟩:=e;obtain⟨a,b,d⟩:=i l e f;exact⟨a,⟨O,b⟩,d⟩
 | @cc c xs B o t _ i=>
  intro l e f;cases l with
  |nil=>exact e.elim
  |cons x l=>
   obtain⟨rfl,e⟩:=e;obtain⟨Y,f⟩:=f;exact i l e f
end
variable{h E' qs:cr}{ts:lc}{ax vy:List bn}{W' d:Nat}{Ed:List PySem.Addr}{es g7:db}{S:PySem.Addr}{T':bi}
section
open PyProof.Rows
def aS:Pt->lc
 |.k n=>rK n.toNat
 |.p s=>s.cps.toList.map .P
 |.c s=>s.cps.toList.map .C
def ah(h:cr):lc:=(h.map aS).flatten
theorem cR(p:Pt)(h:cr):ah (p::h)=aS p++ah h:=O
theorem fg(h qs:cr):ah (h++qs)=ah h++ah qs:=by simp[ah]
theorem gK(p:Pt):ah [p]=aS p:=by simp[ah]
def ie:Pt->Prop|.k n=>0<=n|_=>True
theorem yg(h:eK p):ie p:=by cases p<;>first|exact h|trivial
theorem oR(h:aK p):ie p:=by
 cases p with
 |k n=>exact Int.le_trans (Wx _) (show(1:Int)<=n from h)
 |_=>trivial
theorem Yp.fits(b:Yp l h r):Xr l (ah h)/\YX l (ah h)=r:=by
 induction b with
 |N=>exact⟨O,O⟩
 | @k a l r n h e _ i=>
  rw[cR];have c:aS (.k n)=rK a.length:=by show rK n.toNat=_;rw[e];simp
  rw[c];exact⟨(Bz a l _).mpr i.1,by rw[BA,i.2]⟩
 | @t s l r h _ i=>
  rw[cR];exact⟨(tL _ l _).mpr i.1,by show YX l (s.cps.toList.map .P++_)=_;rw[BB,i.2]⟩
 | @C s l r h _ i=>
  rw[cR];exact⟨(Gm _ l _).mpr i.1,by show YX _ (s.cps.toList.map .C++_)=_;rw[BC,i.2]⟩
theorem OT:∀(n:Nat)(l:bn)(xs:lc),Xr l (rK n++xs)->∃a b,l=a++b/\a.length=n
 | 0,l,xs,h=>⟨[],l,O,O⟩
 |n+1,[],xs,h=>(show False from h).elim
 |n+1,c::l,xs,h=>by
  obtain⟨a,b,e,d⟩:=OT n l xs h;exact⟨c::a,b,e▸O,by simp[d]⟩
theorem yh:∀(s l:bn)(xs:lc),Xr l (s.map .C++xs)->∃b,l=s++b
 |[],l,xs,h=>⟨l,O⟩
 |c::s,[],xs,h=>(show False from h).elim
 |c::s,d::l,xs,h=>by
  obtain⟨e,h⟩:=(show d=c/\Xr l (s.map .C++xs) from h);obtain⟨b,a⟩:=yh s l xs h;exact⟨b,by rw[e,a];rfl⟩
theorem qH:∀(h:cr)(l:bn),(∀p∈h,ie p)->Xr l (ah h)->Yp l h (YX l<|ah h)
 |[],l,_,d=>by
  have:=d;subst this;exact .N
 |.k n::h,l,e,d=>by
  rw[cR] at d⊢;obtain⟨a,b,rfl,g⟩:=OT _ _ _ d;have x:0<=n:=e _ (.head _);have i:aS (.k n)=rK a.length:=by show rK n.toNat=_;rw[g]
  rw[i] at d⊢;rw[BA];exact .k aH<|qH h b (λp f=>e p<|.tail _ f)<|(Bz a b _).mp d
 |.p s::h,l,e,d=>by
  show Yp l _ (YX l<|s.cps.toList.map .P++_);rw[BB];exact .t<|qH h l (λp f=>e p<|.tail _ f)<|(tL _ l _).mp d
 |.c s::h,l,e,d=>by
  obtain⟨b,rfl⟩:=yh _ _ _ d;show Yp _ _ (YX _<|s.cps.toList.map .C++_);rw[BC];exact .C<|qH h b (λp f=>e p<|.tail _ f)<|(Gm _ b _).mp d
def lN(s:NS):lc:=ah s.1++((eI s.2.1).cps.toList.map .P++(eI s.2.2).cps.toList.map .C)
theorem OU(m:Str->Pt)(f:Nat->At)(a:∀s,aS (m s)=s.cps.toList.map f)(x:Str):ah (txt m x)=x.cps.toList.map f:=by
 by_cases h:x="";rw[h];rfl;rw[kq h,gK,a]
theorem OV(h:cr)(p c:ca):ah (dR h p c)=lN (h,p,c):=by
 unfold dR lN;rw[fg,fg,OU .p .P<|λY=>O,OU .c .C<|λY=>O,Xm]
theorem OW(m n:Nat):rK m++rK n=rK (m+n):=by unfold rK;rw[List.replicate_append_replicate]
theorem YP(c:cr)(n:Int)(d:0<=n)(a:∀p∈c,ie p):ah (e_ c n)=ah c++rK n.toNat:=by
 unfold e_;split;rename_i m e;have h:=List.mem_of_getLast? e;have B:0<=m:=a _ h;have b:c=c.dropLast++[.k m]:=by
  have j:c≠ []:=by intro z;rw[z] at h;cases h
  rw[List.getLast?_eq_some_getLast j] at e;rw[<-(lF e),wH]
 conv=>rhs;rw[b]
 rw[fg,fg,gK,gK,Xm];show _++rK (n+m).toNat=_++(rK m.toNat++rK n.toNat);rw[OW,show(n+m).toNat=m.toNat+n.toNat by lia];rw[fg,gK];rfl
theorem OX(a:∀s,ie<|mk s)(x:Str):∀p∈txt mk x,ie p:=by
 intro p h;unfold txt at h;split at h;cases h;rw[Ya.mp h];exact a x
theorem OY(p c:ca)(a:∀p∈b,ie p):∀q∈dR b p c,ie q:=by
 intro q h;rcases Z4.mp h with z|z
 rcases Z4.mp z with z|z
 exact a q z;exact OX (mk:=.p) (λY=>trivial) _ q z;exact OX (mk:=.c) (λY=>trivial) _ q z
theorem aef{n:Int}(b:0<=n)(a:∀p∈c,ie p):∀q∈e_ c n,ie q:=by
 intro q h;unfold e_ at h;split at h;rename_i m e;rcases Z4.mp h with z|z
 exact a q ((List.dropLast_sublist c).subset z);rw[Ya.mp z];have B:0<=m:=a _ (List.mem_of_getLast? e);show 0<=n+m;lia;rcases Z4.mp h with z|z
 exact a q z;rw[Ya.mp z];exact b
theorem KN(s:NS)(p:Pt)(g:ie p)(b:∀q∈s.1,ie q):nb (lN<|dw s p)=nb (lN s++aS p)/\∀q∈ (dw s p).1,ie q:=by
 obtain⟨h,u,a⟩:=s;cases p with
 |p x=>
  refine⟨?_,b⟩;show nb (ah h++((eI<|u++[x]).cps.toList.map .P++(eI a).cps.toList.map .C))=nb (ah h++((eI u).cps.toList.map .P++(eI a).cps.toList.map .C)++x.cps.toList.map .P);rw[qB,Yf,Za,Xm,Xm,Xm];exact Gi O<|Gi O ((aec _ _).symm)
 |c x=>
  refine⟨?_,b⟩;show nb (ah h++((eI u).cps.toList.map .P++(eI<|a++[x]).cps.toList.map .C))=nb (ah h++((eI u).cps.toList.map .P++(eI a).cps.toList.map .C)++x.cps.toList.map .C);rw[qB,Yf,Za,Xm,Xm]
 |k n=>
  have d:=g;by_cases f:0<n;have e:dw (h,u,a) (.k n)=(e_ (dR h u a) n,[],[]):=GT f;rw[e];refine⟨?_,aef d<|OY _ _ b⟩;show nb (ah (e_ (dR h u a) n)++[])=nb (lN (h,u,a)++rK n.toNat);rw[jP,YP _ _ d<|OY _ _ b,OV];have e:dw (h,u,a) (.k n)=(h,u,a):=Id f;rw[e];refine⟨?_,b⟩;show _=nb (lN (h,u,a)++rK n.toNat);rw[show n.toNat=0 by lia];show _=nb (_++[]);rw[jP]
theorem OZ:∀(h:cr)(s:NS),(∀p∈h,ie p)->(∀q∈s.1,ie q)->nb (lN<|h.foldl dw s)=nb (lN s++ah h)
 |[],s,_,_=>by show nb (lN s)=nb (lN s++[]);rw[jP]
 |p::h,s,c,d=>by
  obtain⟨a,b⟩:=KN s p (c p<|.head _) d;show nb (lN<|h.foldl dw<|dw s p)=_;rw[OZ h _ (λq e=>c q<|.tail _ e) b,cR,<-Xm];exact Gi a O
theorem qI(h:cr)(a:∀p∈h,ie p):nb (ah<|jc h)=nb (ah h):=by
 unfold jc;rw[OV];exact (OZ h ([],[],[]) a nofun)
theorem jZ{s:Str}(h:s≠""):∃c r,s.cps.toList=c::r:=by
 cases e:s.cps.toList with
 |nil=>exact absurd (ja (e▸O)) h
 |cons c r=>exact⟨c,r,O⟩
theorem vz(s:Str)(xs:lc):nb (s.cps.toList.map .P++xs)=(s.cps.toList++(nb xs).1,(nb xs).2.1,(nb xs).2.2):=by
 rw[oQ,Gj];rfl
theorem tM(s:Str)(xs:lc):nb (s.cps.toList.map .C++xs)=((nb xs).1,s.cps.toList++(nb xs).2.1,(nb xs).2.2):=by
 rw[oQ,Gk];rfl
theorem tN{n:Int}(h:1<=n)(xs:lc):nb (rK n.toNat++xs)=([],[],List.replicate (n.toNat - 1) ([],[])++((nb xs).1,(nb xs).2.1)::(nb xs).2.2):=by
 obtain⟨m,e⟩:∃m,n.toNat=m+1:=⟨n.toNat - 1,aH⟩;rw[e,R7];rfl
theorem O0(h:mV "put" w=true):w≠"put"/\w≠"cut":=by
 refine⟨λz=>?_,λz=>?_⟩ <;>subst z<;>exact absurd h aQ
theorem aeh(h:mV "cut" w=true):w≠"cut":=by
 intro z;subst z;exact absurd h aQ
theorem aei(h:mV "keep" w=true):w≠"keep":=by
 intro z;subst z;exact absurd h aQ
theorem qJ{h:cr}{w:Str}(d:hY w h=true)(o:∀p∈h,aK p)(e:w="put"\/w="cut"):(nb<|ah h).1=[]:=by
 cases h with
 |nil=>rfl
 |cons p h=>
  simp only[hY,WZ] at d;have g:=o p (.head _);cases p with
  |k n=>show(nb<|rK n.toNat++_).1=_;rw[tN g]
  |p s=>
   obtain⟨a,b⟩:=O0 d.1;rcases e with z|z
   cases a z;cases b z
  |c s=>
   show(nb<|s.cps.toList.map .C++_).1=_;rw[tM];exact qJ d.2 (λq f=>o q<|.tail _ f)<|.inr O
theorem Gn(a:hY "cut" h=true)(o:∀p∈h,aK p):(nb<|ah h).2.1=[]:=by
 cases h with
 |nil=>rfl
 |cons p h=>
  simp only[hY,WZ] at a;have b:=o p (.head _);cases p with
  |k n=>show(nb<|rK n.toNat++_).2.1=_;rw[tN b]
  |p s=>exact absurd O (O0 a.1).2
  |c s=>exact absurd O (aeh a.1)
theorem O1(b:hY "keep" h=true)(o:∀p∈h,aK p)(g:(nb<|ah h).1=[])(f:(nb<|ah h).2.1=[]):h=[]:=by
 cases h with
 |nil=>rfl
 |cons p h=>
  simp only[hY,WZ] at b;have a:=o p (.head _);cases p with
  |k n=>exact absurd O (aei b.1)
  |p s=>
   obtain⟨c,r,e⟩:=jZ a.2;have d:(nb<|s.cps.toList.map .P++ah h).1=[]:=g;rw[e] at d;cases d
  |c s=>
   obtain⟨c,r,e⟩:=jZ a.2;have i:(nb<|s.cps.toList.map .C++ah h).2.1=[]:=f;rw[e] at i;cases i
theorem O2{a:bn×bn}{r:List (bn×bn)}:∀{m n:Nat},List.replicate m (([],[]):bn×bn)++a::r=List.replicate n ([],[])++b::s->(m=n/\a=b/\r=s)\/(m<n/\a=([],[])/\r≠ [])\/(n<m/\b=([],[])/\s≠ [])
 | 0,0,c=>by
  injection c with d h
  exact .inl ⟨O,d,h⟩
 | 0,n+1,c=>by
  injection c with d h
  exact .inr<|.inl ⟨(fP _),d,by rw[h];simp⟩
 |m+1,0,c=>by
  injection c with d h
  exact .inr<|.inr ⟨(fP _),d.symm,by rw[<-h];simp⟩
 |m+1,n+1,c=>by
  injection c with _ h
  rcases O2 h with⟨x,y⟩|⟨x,y⟩|⟨x,y⟩
  exact .inl ⟨aH,y⟩;exact .inr (.inl ⟨(Ae x _),y⟩);exact .inr (.inr ⟨(Ae x _),y⟩)
theorem O3(q:Pt)(qs:cr)(o:∀p∈q::qs,aK p)(d:([],[],[])=nb (ah (q::qs))):False:=by
 have a:=o q (.head _);have b:=d;cases q with
 |k n=>
  have h:([],[],[])=nb (rK n.toNat++ah qs):=b;rw[tN a] at h;have:=IR (λx=>x.2.2) h;simp at this
 |p s=>
  obtain⟨c,r,e⟩:=jZ a.2;have h:([],[],[])=nb (s.cps.toList.map .P++ah qs):=b;rw[vz,e] at h;have:=IR (λx=>x.1) h;simp at this
 |c s=>
  obtain⟨c,r,e⟩:=jZ a.2;have h:([],[],[])=nb (s.cps.toList.map .C++ah qs):=b;rw[tM,e] at h;have:=IR (λx=>x.2.1) h;simp at this
theorem BE:∀(h qs:cr)(w v:Str),hY w h=true->hY v qs=true->(∀p∈h,aK p)->(∀p∈qs,aK p)->nb (ah h)=nb (ah qs)->h=qs
 |[],[],_,_,_,_,_,_,_=>O
 |[],q::qs,_,_,_,_,_,u,g=>(O3 q qs u g).elim
 |p::h,[],_,_,_,_,u,_,g=>(O3 p h u g.symm).elim
 |p::h,q::qs,w,v,t,d,u,Q,g=>by
  simp only[hY,WZ] at t d;have D:=u p (.head _);have i:=Q q (.head _);have T:∀x∈h,aK x:=λx G=>u x (.tail _ G);have o:∀x∈qs,aK x:=λx G=>Q x (.tail _ G);rw[cR,cR] at g;have Y:p=q->nb (ah h)=nb (ah qs)->p::h=q::qs:=λE f=>by
   rw[E,BE h qs p.word q.word t.2 d.2 T o f]
  cases p with
  |k n=>
   have b:nb (rK n.toNat++ah h)=nb (aS q++ah qs):=g;rw[tN D] at b;cases q with
   |k m=>
    have a:_=nb (rK m.toNat++ah qs):=b;rw[tN i] at a;have J:=IR (λx=>x.2.2) a;have L:(1:Int)<=n:=D;have M:(1:Int)<=m:=i;rcases O2 J with⟨E,f,j⟩|⟨E,f,j⟩|⟨E,f,j⟩
    refine Y (by congr 1;lia) ?_;have A:=IR Prod.fst f;have B:=IR Prod.snd f;simp only at A B;exact Prod.ext A<|Prod.ext B j;have A:=IR Prod.fst f;have B:=IR Prod.snd f;have:=O1 t.2 T A B;rw[this] at j;exact absurd O j;have A:=IR Prod.fst f;have B:=IR Prod.snd f;have:=O1 d.2 o A B;rw[this] at j;exact absurd O j
   |p s=>
    exfalso;obtain⟨c,r,e⟩:=jZ i.2;have a:_=nb (s.cps.toList.map .P++ah qs):=b;rw[vz,e] at a;have:=IR (λx=>x.1) a;simp at this
   |c s=>
    exfalso;obtain⟨c,r,e⟩:=jZ i.2;have a:_=nb (s.cps.toList.map .C++ah qs):=b;rw[tM,e] at a;have:=IR (λx=>x.2.1) a;simp at this
  |p x=>
   obtain⟨K,I,F⟩:=jZ D.2;have b:nb (x.cps.toList.map .P++ah h)=nb (aS q++ah qs):=g;rw[vz] at b;have l:=qJ t.2 T (.inl O);cases q with
   |k m=>
    exfalso;have a:_=nb (rK m.toNat++ah qs):=b;rw[tN i,F] at a;have:=IR (λx=>x.1) a;simp at this
   |p s=>
    have a:_=nb (s.cps.toList.map .P++ah qs):=b;rw[vz,l,qJ d.2 o<|.inl O,jP,jP] at a;have z:=IR (λx=>x.1) a;have y:=IR (λx=>x.2) a;simp only at z y;refine Y (by rw[ja z]) ?_;exact Prod.ext (by rw[l,qJ d.2 o<|.inl O]) y
   |c s=>
    exfalso;have a:_=nb (s.cps.toList.map .C++ah qs):=b;rw[tM,qJ d.2 o<|.inr O,F] at a;have:=IR (λx=>x.1) a;simp at this
  |c x=>
   obtain⟨K,I,F⟩:=jZ D.2;have b:nb (x.cps.toList.map .C++ah h)=nb (aS q++ah qs):=g;have l:=qJ t.2 T (.inr O);have H:=Gn t.2 T;rw[tM] at b;cases q with
   |k m=>
    exfalso;have a:_=nb (rK m.toNat++ah qs):=b;rw[tN i,F] at a;have:=IR (λx=>x.2.1) a;simp at this
   |p s=>
    exfalso;obtain⟨c,r,e⟩:=jZ i.2;have a:_=nb (s.cps.toList.map .P++ah qs):=b;rw[vz,l,e] at a;have:=IR (λx=>x.1) a;simp at this
   |c s=>
    have a:_=nb (s.cps.toList.map .C++ah qs):=b;rw[tM,l,H,qJ d.2 o<|.inr O,Gn d.2 o,jP,jP] at a;have z:=IR (λx=>x.2.1) a;have y:=IR (λx=>x.2.2) a;simp only at z y;refine Y (by rw[ja z]) ?_;exact Prod.ext (by rw[l,qJ d.2 o<|.inr O])<|Prod.ext (by rw[H,Gn d.2 o]) y
theorem aej(c:hY "" h=true)(d:hY "" qs=true)(o:∀p∈h,aK p)(q:∀p∈qs,aK p)(a:Yp l h r)(b:Yp l qs f)(e:res 0 (ah h)=res 0 (ah qs)):h=qs:=
 BE h qs "" "" c d o q (ad6 a.fits.1 b.fits.1 e)
noncomputable def O4:jp:=
 [.f (.v 0) "parts" (.t .t [.v 1]),
 .f (.v 0) "passed_by" (.c<|.i 0),
 .f (.v 0) "offset" (.c (.i 0))]
noncomputable def O5:jp:=
 [.r<|.k (.p .Lt (.f (.v 0) "passed_by")<|.t .l [(.f (.v 0) "parts")]) (.i (.i (.f (.v 0) "parts")<|.f (.v 0) "passed_by")<|.c<|.i 0)<|.c<|.s ""]
noncomputable def O6:jp:=
 [.r<|.b .Sub (.l 0 [(.i (.f (.v 0) "parts")<|.f (.v 0) "passed_by")])<|.f (.v 0) "offset"]
noncomputable def O7:ca:=["part_size"]
noncomputable def O8:ca:=["self","size","part","begin","end"]
noncomputable def Gq:jp:=
 [.a 2 (.i (.f (.v 0) "parts") (.f (.v 0) "passed_by")),
 .a 3 (.f (.v 0) "offset"),
 .a 4 (.b .Add (.v 3)<|.v 1),
 .f (.v 0) "offset" (.v 4),
 .i (.p .Eq (.a 0 "left" (.v 0) []) (.c (.i 0))) [.f (.v 0) "passed_by" (.b .Add (.f (.v 0) "passed_by") (.c (.i 1))),
  .f (.v 0) "offset" (.c (.i 0))] [],
 .r (.T [(.i (.v 2) (.c (.i 0))),(.k (.p .Eq (.i (.v 2) (.c (.i 0))) (.c (.s "keep"))) (.v 1) (.s (.i (.v 2) (.c (.i 1))) (some (.v 3)) (some (.v 4))))])]
noncomputable def aek:ca:=["left"]
noncomputable def O9:ca:=["walk","putting","keeping","part"]
noncomputable def O_:jp:=
 [.a 3 (.a 0 "take" (.v 0) [(.a 1 "left" (.v 0) [])]),
 .d (.Q .a (.v 1) [.v 3]),
 .d (.Q .a (.v 2) [(.T [(.c (.s "keep")),(.l 0 [.v 3])])])]
noncomputable def Q4:ca:=["take","left"]
noncomputable def Pa:ca:=["first","second","ones","others"]
noncomputable def Pb:jp:=
 [.i (.d [(.p .Eq (.i (.v 0) (.c (.i 0))) (.c (.s "cut"))),(.p .Eq (.i (.v 1) (.c (.i 0))) (.c (.s "cut")))]) [.i (.p .NotEq (.i (.v 0) (.c (.i 1))) (.i (.v 1) (.c (.i 1)))) [.j 0 [(.c (.s "both changes cut a sign, and tell it otherwise"))]] []] [.i (.p .Eq (.i (.v 1) (.c (.i 0))) (.c (.s "keep"))) [.d (.Q .a (.v 2) [.v 0]),
   .i (.p .Eq (.i (.v 0) (.c (.i 0))) (.c (.s "keep"))) [.d (.Q .a (.v 3) [.v 1])] []] [.d (.Q .a (.v 3) [.v 1])]]]
noncomputable def Pc:ca:=["one","other","first","second","ones","others","size"]
noncomputable def Pd:jp:=
 [.i (.p .NotEq (.i (.l 0 [.v 0]) (.c (.i 0))) (.i (.l 0 [.v 1]) (.c (.i 0)))) [.j 0 [(.c (.s "the changes are over unlike numbers of signs"))]] [],
 .a 2 (.m 0 [.v 0]),
 .a 3 (.m 0 [.v 1]),
 .a 4 (.L []),
 .a 5 (.L []),
 .R (.o [(.p .NotEq (.a 0 "word" (.v 2) []) (.c (.s ""))),(.p .NotEq (.a 0 "word" (.v 3) []) (.c (.s "")))]) [.i (.p .Eq (.a 0 "word" (.v 2) []) (.c (.s "put"))) [.d (.l 1 [.v 2,.v 4,.v 5])] [.i (.p .Eq (.a 0 "word" (.v 3) []) (.c (.s "put"))) [.d (.l 1 [.v 3,.v 5,.v 4])] [.a 6 (.t .m [(.a 1 "left" (.v 2) []),(.a 1 "left" (.v 3) [])]),
    .d (.l 2 [(.a 2 "take" (.v 2) [.v 6]),(.a 2 "take" (.v 3) [.v 6]),.v 4,.v 5])]]],
 .r (.T [(.l 3 [.v 4]),(.l 3 [.v 5])])]
noncomputable def aem:ca:=["sizes","put_first","share","neat"]
noncomputable def Pe:ca:=["min"]
noncomputable def aen:ca:=["word","left","take"]
noncomputable def Pf:ca:=["Walk"]
noncomputable def Pg:ca:=["given","text"]
noncomputable def Ph:jp:=
 [.i (.p .Eq (.i (.v 0) (.c (.i 0))) (.c (.s "keep"))) [.r (.L [(.T [(.c (.s "cut")),.v 1])])] [],
 .i (.p .NotEq (.i (.v 0)<|.c<|.i 1)<|.v 1) [.j 0 [(.c<|.s "what the first change puts is cut otherwise")]] [],
 .r (.L [])]
noncomputable def Pj:ca:=["walk","part","parts","place","size","given"]
noncomputable def Pk:jp:=
 [.a 2 (.L []),
 .a 3 (.c<|.i 0),
 .R (.p .Lt (.v 3) (.l 0 [.v 1])) [.i (.p .Eq (.a 0 "word" (.v 0) []) (.c (.s "cut"))) [.d (.Q .a (.v 2) [(.a 1 "take" (.v 0) [(.a 2 "left" (.v 0) [])])]),
   .c] [],
  .a 4 (.t .m [(.a 2 "left" (.v 0) []),(.b .Sub (.l 0 [.v 1])<|.v 3)]),
  .a 5 (.a 1 "take" (.v 0) [.v 4]),
  .i (.p .Eq (.i (.v 1)<|.c<|.i 0)<|.c<|.s "keep") [.d<|.Q .a (.v 2) [.v 5]] [.d<|.Q .e (.v 2) [(.l 1 [.v 5,(.s (.i (.v 1)<|.c<|.i 1) (some<|.v 3)<|some<|.b .Add (.v 3)<|.v 4)])]],
  .a 3 (.b .Add (.v 3) (.v 4))],
 .r (.v 2)]
noncomputable def YQ:ca:=["part_size","cut_behind"]
noncomputable def Pl:ca:=["word","take","left"]
noncomputable def Pm:ca:=["one","other","walk","parts","part"]
noncomputable def Pn:jp:=
 [.i (.p .NotEq (.i (.l 0 [.v 0]) (.c (.i 1))) (.i (.l 0 [.v 1]) (.c (.i 0)))) [.j 0 [(.c (.s "the other change is over another number of signs than the first one gives"))]] [],
 .a 2 (.m 0 [.v 0]),
 .a 3 (.L []),
 .g 4 .l [.v 1] [.i (.p .Eq (.i (.v 4)<|.c<|.i 0)<|.c<|.s "put") [.d<|.Q .a (.v 3) [.v 4]] [.d<|.Q .e (.v 3) [(.l 1 [.v 2,.v 4])]]],
 .R (.p .NotEq (.a 0 "word" (.v 2) [])<|.c<|.s "") [.d<|.Q .a (.v 3) [(.a 1 "take" (.v 2) [(.a 2 "left" (.v 2) [])])]],
 .r (.l 2 [.v 3])]
noncomputable def aep:ca:=["sizes","parts_behind","neat"]
structure qK(K:Frag)(C:Do):Prop where
 cl:gP K C
 yi:gC K C "parts"
 t:gC K C "passed_by"
 yj:gC K C "offset"
theorem oU{r:on}:((k,v)::r).lookup k=some v:=by simp
theorem dE{j:Str}{r:on}(h:¬k=j):((j,v)::r).lookup k=r.lookup k:=by
 have:(k==j)=false:=by lia
 simp[List.lookup,this]
theorem aoR{r:on}:bT k v ((k,w)::r)=(k,v)::r:=by simp[bT]
theorem d5{j:Str}{r:on}(h:¬j=k):bT k v ((j,w)::r)=(j,w)::bT k v r:=by simp[bT,h]
theorem aeq{Q:Gc->Prop}(h:cp T v H P)(i:∀b,P b->Q b):cp T v H Q:=by
 cases v with
 |r a=>
  unfold cp at h⊢;simp only at h⊢;split at h
  all_goals first|exact i _ h|exact h.elim
 |a=>exact i _ h
 |b b=>exact i _ h
 |i Y=>exact i _ h
 |s Y=>exact i _ h
 |_=>exact False.elim h
theorem aer(h:cp T v H P)(s:ar H Z):cp T v Z P:=by
 cases v with
 |r a=>
  unfold cp at h⊢;simp only at h⊢;cases e:H a with
  |none=>rw[e] at h;cases h
  |some o=>rw[e] at h;rw[s _ _ e];exact h
 |a=>exact h
 |b b=>exact h
 |i Y=>exact h
 |s Y=>exact h
 |_=>exact False.elim h
def kr(T:Ty)(v:V)(H:Hp):Prop:=cp T v H λb=>b=false
theorem kr.same(h:kr T v H)(s:ar H Z):kr T v Z:=aer h s
theorem kr.go{Q:Gc->Prop}(h:kr T v H)(q:Q false):cp T v H Q:=aeq h λb e=>e▸q
noncomputable def aes(x:Str):Gc:=x.cps.toList.all λc=>SG.cps.contains c
theorem Po{a:Type}(p:a->Gc):∀l:List a,l.all p=false->(l.takeWhile p).length<l.length
 |[],h=>by cases h
 |c::l,h=>by
  rw[List.takeWhile_cons];cases b:p c with
  |false=>simp
  |true=>
   rw[ZZ,b] at h;have:=Po p l h;simp;exact this
theorem aet(x y:Str)(h:(x.cps.toList.all λc=>y.cps.contains c)=false):Txt.lstripChars x y≠"":=by
 have l:=Po _ _ h;have f:stripLo y.cps.contains true x=(x.cps.toList.takeWhile y.cps.contains).length:=by
  unfold stripLo;rw[GT O]
 have e:∀n,stripHi y.cps.contains false x n=x.length:=λn=>O;intro z;have a:=IR Str.length z;unfold Txt.lstripChars Txt.stripBy stripSame stripped at a;have d:x.cps.size=x.cps.toList.length:=O;split at a;have:x.cps.size=0:=a;exact (WA _ (ZP l (XX this))).elim;have b:(x.cps.extract (x.cps.toList.takeWhile y.cps.contains).length x.cps.size).size=0:=a;rw[Array.size_extract] at b;lia
def yl(v:V)(H:Hp):Prop:=(∃x,v=.s x/\x.length<=1000000/\aes x=false)\/kr .s v H
theorem yl.same(h:yl v H)(s:ar H Z):yl v Z:=by
 rcases h with h|h
 exact .inl h;exact .inr (h.same s)
def tP(v:V)(H:Hp):Prop:=(∃b,v=.b b)\/kr .i v H
theorem tP.same(h:tP v H)(s:ar H Z):tP v Z:=by
 rcases h with h|h
 exact .inl h;exact .inr (h.same s)
inductive qL(s:db)(H:Hp)(Q:VK)(E:XK):Prop|i(v:_)(_:s=[v])(_:((∃i,v=.i i/\Q (.b true) H)\/(tP v H/\Q (.b false) H)))
theorem aeu{K:Frag}:bz (qL) (λE=>bK K E) MK oF:=by
 intro s H Q E a;obtain⟨v,rfl,⟨i,rfl,q⟩|⟨⟨b,rfl⟩|h,q⟩⟩:=a;exact⟨_,O,O,_,O,gG (nT _ O O q)⟩;exact⟨_,O,O,_,O,gG (nT _ O O q)⟩;exact nT _ O O (h.go (nS _ O (iU q)))
inductive Pp(a:db)(H:Hp)(Q:VK)(E:XK):Prop|i(v:_)(_:a=[v])(_:((∃x,v=.s x/\good x/\Q (.b true) H)\/(yl v H/\Q (.b false) H)))
theorem aev{K:Frag}:bz (Pp) (λE=>bW K E) Fv oF:=by
 intro c H Q E a;obtain⟨v,rfl,⟨x,rfl,h,q⟩|⟨⟨x,rfl,l,h⟩|n,q⟩⟩:=a;exact ac4 _ _ _ _ ⟨x,O,h,q⟩;refine⟨_,O,O,_,O,gG ⟨_,O,O,cx l,?_⟩⟩;show Q (.b<|false ^^ decide (V.s (Txt.lstripChars x SG)=V.s "")) H;rw[ZN<|λz=>aet x SG h aH];exact q;exact nT _ O O (n.go (nS _ O (iU q)))
inductive Pq(K:Frag)(a:db)(H:Hp)(Q:VK)(E:XK):Prop|i(v p xs:_)(_:a=[v,.r p])(_:aA K H p xs)(_:xs.all iS=true)(_:((∃w,v=.s w/\Q (.b<|df (.s w) xs) H)\/(kr .s v H/\Q (.b false) H)))
theorem aew{K:Frag}:bz (Pq K) (λE=>bK K E) Fu Ft:=by
 intro s H Q E a;obtain⟨v,p,xs,rfl,h,f,⟨w,rfl,q⟩|⟨n,q⟩⟩:=a;exact ac6 _ _ _ _ ⟨w,p,xs,O,h,f,q⟩;exact nT _ O O (n.go (nS _ O (iU q)))
def aex(v:V)(H:Hp):Prop:=kr .t v H\/∃a xs,v=.r a/\H a=some (.t xs)/\xs.length<=1000000/\(xs.length≠2\/∃w b,xs=[w,b]/\
 (kr .s w H\/(∃s,w=.s s/\s≠"keep"/\s≠"cut"/\s≠"put")\/(w=.s "keep"/\(tP b H\/∃n,b=.i n/\n<1))\/((w=.s "cut"\/w=.s "put")/\(yl b H\/b=.s ""))))
abbrev apI(K:Frag):wr:=[("is_word",Pq K),("is_whole",qL),("is_text",Pp)]
inductive Pr(s:db)(H:Hp)(Q:VK)(E:XK):Prop|i(v:_)(_:s=[v])(_:((∃p,jA H v p/\aK p/\∀Z,ar H Z->Q (.b true) Z)\/(aex v H/\∀Z,ar H Z->Q (.b false) Z)))
theorem Pu(s t:Str):df (.s s) [.s t]=(t==s):=by
 show(f_ (.s t) (.s s)||false)=_;rw[ZO];rfl
abbrev eZ(K:Frag)(E:XK):ba:=aG K (apI K) [] (E:=E)
theorem aey{K:Frag}:bz (Pr) (λE=>eZ K E) A_ oF:=by
 intro vs H Q E h1;have A:∀(a:Do)(w j:V)(S:VK)(t:Hp)(F:St),F[0]?=some (some<|.r a)->t a=some (.t [w,j])->
   (∀(M:Do) u,ar t u->∀b:Gc,(b=true->w=.s "cut"\/w=.s "put")->(b=false->w≠ .s "cut"/\w≠ .s "put")->S (.b b) u)->(kr .s w t\/∃s,w=.s s)->
   af (eZ K E) (.l 0 [(.i (.v 0)<|.c<|.i 0),(.T [(.c<|.s "cut"),(.c<|.s "put")])]) F t S:=by
  intro a w j S t F h0 m q f;refine nS _ h0 (.inr<|.inl ⟨_,_,_,_,O,O,aA.of m,O,cM,λj ht=>?_⟩);have e:=V3 (o:=.t [V.s "cut",V.s "put"]) ht;refine⟨w,j,_,O,aA.of aj,O,?_⟩;rcases f with f|⟨s,rfl⟩
  refine .inr ⟨f.same e,q j _ e false (λz=>by cases z) λ_=>⟨?_,?_⟩⟩;rintro rfl;cases (show true=false from f);rintro rfl;cases (show true=false from f);refine .inl (nS s O (q j _ e _ (λz=>?_) λz=>?_));have x:((Str.ofString "cut"==s)||((Str.ofString "put"==s)||false))=true:=z;simp only[ZO,Bool.or_eq_true,Uf] at x;rcases x with x|x<;>subst x
  exact .inl O;exact .inr O;have x:((Str.ofString "cut"==s)||((Str.ofString "put"==s)||false))=false:=z;simp only[ZO,Bool.or_eq_false_iff,beq_eq_false_iff_ne] at x;exact⟨λy=>x.1 (by injection y with y;exact y.symm),λy=>x.2 (by injection y with y;exact y.symm)⟩
 obtain⟨v,rfl,⟨p,⟨a,rfl,m⟩,C,q⟩|⟨Z|⟨a,xs,rfl,m,hl,h⟩,q⟩⟩:=h1;refine nT _ O O (FT m (nS _ O (.inr (pB _ (aA.of m) _ O ?_))));refine nS _ O (.inr<|.inl ⟨_,_,_,_,O,O,aA.of m,O,de,λB R=>?_⟩);have d:=V3 (o:=.t [V.s "keep"]) R;refine⟨.s p.word,B,[.s "keep"],O,aA.of aj,O,.inl (nS p.word O ?_)⟩;have g:=d _ _ m;generalize upd H B (.t [V.s "keep"])=t at d g;have Y':∀(s:Str),good s->s≠""->t a=some (.t [.s p.word,.s s])->p.word="put"\/p.word="cut"->av (eZ K E) (A_.drop 2) (Dn Q) (WR oF [.r a]) t:=by
  intro s gs ns Y f;refine A a (.s p.word) (.s s) _ t _ O Y (λM u e b L G=>?_)<|.inr ⟨_,O⟩;have D:b=true:=by
   cases b with
   |true=>rfl
   |false=>
    obtain⟨J,I⟩:=G O;rcases f with z|z
    exact absurd (IR V.s z) I;exact absurd (IR V.s z) J
  subst D;have U:=e _ _ Y;refine nS _ O (gG (nS _ O (.inr<|.inl ⟨_,_,_,_,O,O,aA.of U,O,.s s,O,.inl ⟨s,O,gs,_,O,?_⟩⟩)));refine gG (nS _ O (.inr<|.inl ⟨_,_,_,_,O,O,aA.of U,O,?_⟩));show Q (.b<|true ^^ decide (V.s s=V.s "")) _;rw[ZN<|λz=>ns (by injection z)];exact q _<|d.trans e
 cases p with
 |k n=>
  rw[show df (.s (Pt.k n).word) [.s "keep"]=true by show df (.s "keep") [.s "keep"]=true;decide];refine nS _ O (.inr<|.inl ⟨_,_,_,_,O,O,aA.of g,O,.i n,O,.inl ⟨n,O,_,O,?_⟩⟩);refine gG (nS _ O (.inr<|.inl ⟨_,_,_,_,O,O,aA.of g,O,trivial,?_⟩));show Q (.b<|decide<|1<=n) t;rw[W_ (show(1:Int)<=n from C)];exact q _ d
 |p s=>
  rw[show df (.s (Pt.p s).word) [.s "keep"]=false by show df (.s "put") [.s "keep"]=false;decide];exact Y' s C.1 C.2 g<|.inl O
 |c s=>
  rw[show df (.s (Pt.c s).word) [.s "keep"]=false by show df (.s "cut") [.s "keep"]=false;decide];exact Y' s C.1 C.2 g<|.inr O
 exact nT _ O O (Z.go<|q _<|ar.refl _);refine nT _ O O (FT m (nS _ O (.inr (pB _ (aA.of m) _ O ?_))));show if (true ^^ decide (V.i (xs.length:Int)=V.i 2))=true then _ else _
 rcases h with h|⟨w,j,rfl,h⟩
 rw[ZN<|λz=>h (by injection z with z;lia)];exact q _<|ar.refl _;refine nS _ O (.inr<|.inl ⟨_,_,_,_,O,O,aA.of m,O,de,λB R=>?_⟩);have d:=V3 (o:=.t [V.s "keep"]) R;refine⟨w,B,[.s "keep"],O,aA.of aj,O,?_⟩;have g:=d _ _ m;generalize upd H B (.t [V.s "keep"])=t at d g;have W:(kr .s w t\/∃s,w=.s s)->w≠ .s "cut"->w≠ .s "put"->av (eZ K E) (A_.drop 2) (Dn Q) (WR oF [.r a]) t:=by
  intro f P N;refine A a w j _ t _ O g (λM u e b L G=>?_) f;have D:b=false:=by
   cases b with
   |false=>rfl
   |true=>rcases L rfl with z|z;exact absurd z P;exact absurd z N
  subst D;exact nS _ O (iU<|q _<|d.trans e)
 rcases h with h|⟨s,rfl,n0,P,N⟩|⟨rfl,h⟩|⟨f,h⟩
 refine .inr ⟨h.same d,W (.inl<|h.same d) ?_ ?_⟩;rintro rfl;cases (show true=false from h);rintro rfl;cases (show true=false from h);refine .inl (nS s O ?_);rw[Pu,beq_eq_false_iff_ne.mpr<|Ix n0];exact W (.inr (oM s O)) (λz=>P (by injection z))<|λz=>N (by injection z);refine .inl (nS _ O ?_);rw[show df (.s "keep") [.s "keep"]=true by decide];refine nS _ O (.inr<|.inl ⟨_,_,_,_,O,O,aA.of g,O,j,O,?_⟩);rcases h with h|⟨n,rfl,Z⟩
 exact .inr (qC (h.same d) _ O (iU<|q _ d));refine .inl (pB n O _ O (gG (nS _ O (.inr<|.inl ⟨_,_,_,_,O,O,aA.of g,O,trivial,?_⟩))));show Q (.b<|decide<|1<=n) t;rw[ZN aH];exact q _ d;have j5:∃s,w=.s s/\(Str.ofString "keep"==s)=false:=by
  rcases f with rfl|rfl
  exact nS _ O aQ;exact nS _ O aQ
 obtain⟨s,rfl,hk⟩:=j5;refine .inl (nS s O ?_);rw[Pu,hk];refine A a (.s s) j _ t _ O g (λM u e b L G=>?_)<|.inr ⟨s,O⟩;have D:b=true:=by
  cases b with
  |true=>rfl
  |false=>
   obtain⟨J,I⟩:=G O;rcases f with z|z
   exact absurd z J;exact absurd z I
 subst D;have X:=e _ _ g;refine nS _ O (gG (nS _ O (.inr<|.inl ⟨_,_,_,_,O,O,aA.of X,O,j,O,?_⟩)));rcases h with h|rfl
 exact .inr (qC (h.same<|d.trans e) _ O (iU<|q _<|d.trans e));refine .inl (p3 _ O ⟨aQ,λc hc=>by cases hc⟩ _ O (gG (nS _ O (.inr<|.inl ⟨_,_,_,_,O,O,aA.of X,O,?_⟩))));exact q _<|d.trans e
theorem aez(a:FU s H Q E):Pr s H Q E:=by
 obtain⟨v,p,rfl,h,o,q⟩:=a;exact⟨_,O,.inl ⟨p,h,o,q⟩⟩
section
variable{W:ba}{D:WH}{F:St}{H:Hp}{r:jp}{Q:VK}{c:db->Hp->Prop}{QT:wv}
theorem aa(h:F[i]?=some (some v))(q:Q v H):af W (.v i) F H Q:=⟨_,h,q⟩
theorem aC(q:Q v H):af W (.c v) F H Q:=q
theorem cD{a:RE}(h:af W a F H λx t=>af W b F t λy u=>og W.K op x y u Q):af W (.b op a b) F H Q:=h
theorem tQ{a:RE}(h:af W a F H λx t=>af W b F t λy u=>dh W.K op x y u Q):af W (.p op a b) F H Q:=h
theorem aN{a:RE}(h:af W a F H λx t=>af W b F t λy u=>qf W.K W.sd x y u Q):af W (.i a b) F H Q:=h
theorem aeA(h:aR W as F H λv t=>W.fs j (v++[]) t Q W.E):af W (.l j as) F H Q:=h
theorem bu(s:Sp)(h:W.fs j=s)(a:aR W b F H λv t=>s v t Q W.E):af W (.l j b) F H Q:=by
 subst h;refine aeA ?_;have e:(fun(v:db)(t:Hp)=>W.fs j (v++[]) t Q W.E)=λv t=>W.fs j v t Q W.E:=by
  funext v t;rw[jP]
 rw[e];exact a
theorem j6(h:aR W as F H λxs t=>xs.length<=sizeLine/\∀p,t p=none->Q (.r p) (upd t p<|.t xs)):af W (.T as) F H Q:=h
theorem cI(h:aR W as F H λxs t=>xs.length<=sizeLine/\∀p,t p=none->Q (.r p) (upd t p<|.l xs)):af W (.L as) F H Q:=h
theorem az(q:c [] H):aR W [] F H c:=q
theorem aq{a:RE}(h:af W a F H λx t=>aR W s F t λxs u=>c (x::xs) u):aR W (a::s) F H c:=h
theorem aY(h:af W e F H λx t=>av W r D (F.set i<|some x) t):av W (.a i e::r) D F H:=h
theorem bU(h:af W e F H λY t=>av W r D F t):av W (.d e::r) D F H:=h
theorem cA(h:af W e F H D.r):av W (.r e::r) D F H:=h
end
theorem Paired.app:∀{xs b:List c}{B d:List β},Paired R xs B->Paired R b d->Paired R (xs++b) (B++d):=by
 intro Y Y Y Y h s;induction h with
 |nil=>exact s
 |cons r Y i=>exact .cons r i
theorem Yp.good(a:Yp l h r)(b:∀c∈l,SG.cps.contains c=true)(f:∀p∈h,ON p):∀c∈r,SG.cps.contains c=true:=by
 induction a with
 |N=>exact b
 |k e Y i=>
  intro c j;rcases Z4.mp j with z|z
  exact b c (Z4.mpr<|.inl z);exact i (λd g=>b d<|Z4.mpr<|.inr g) (λp a=>f p<|.tail _ a) c z
 |t Y i=>
  intro c j;rcases Z4.mp j with z|z
  exact(f _ (.head _):sg _) c z;exact i b (λp a=>f p<|.tail _ a) c z
 |C Y i=>exact i (λd g=>b d<|Z4.mpr<|.inr g) (λp a=>f p<|.tail _ a)
theorem Yp.len(b:Yp l h r):r.length<=l.length+ao h:=by
 induction b with
 |N=>simp
 | @k a l r n h e _ i=>
  have:ao (.k n::h)=0+ao h:=O;simp;lia
 | @t s l r h _ i=>
  have:ao (.p s::h)=s.length+ao h:=O;have e:=YM s;simp only[JB];lia
 | @C s l r h _ i=>
  have:ao (.c s::h)=s.length+ao h:=O;simp;lia
theorem Gr(k:Nat)(n:Int)(m:Nat)(h:n=m):oj x (some (k:Int)) (some<|(k:Int)+n)=⟨((x.cps.toList.drop k).take m).toArray⟩:=by
 have e:(k:Int)+n=((k+m:Nat):Int):=by lia
 unfold oj oi;rw[e,HT.pX,HT.pX];by_cases b:k<=x.cps.toList.length;rw[show min k x.cps.toList.length=k by lia];by_cases a:k+m<=x.cps.toList.length;rw[show min (k+m) x.cps.toList.length=k+m by lia,Nat.add_sub_cancel_left];rw[Wc (by rw[Yj];lia),Wc (by rw[Yj];lia)];rw[show min k x.cps.toList.length=x.cps.toList.length by lia,List.drop_length,ZQ (Zb (U6 b)),Z7,Z7]
inductive vE(v:db)(H:Hp)(Q:VK)(E:XK):Prop|i(x a xs h r:_)(_:v=[.s x,.r a])(_:good x)(_:H a=some (.l xs))(_:aD H xs h)(_:(∀p∈h,FO p))(_:Yp x.cps.toList h r)(_:r.length<=1000000)(_:Q (.s ⟨r.toArray⟩) H)
theorem aeB{K:Frag}:bz (vE) (λE=>bK K E) Nm Fw:=by
 intro vs H Q E W;obtain⟨x,a,xs,h,r,rfl,R,D,J,Z,S,L,q⟩:=W;have g:=KB J;refine rT _ O a O (oM _ (ag.of D)) (kU (K:=K) (a:=a) (xs:=xs) (λi F u=>Wq λl1 l2 d m w v=>Ax (F=[some (.s x),some (.r a),some (.s ⟨d.toArray⟩),some (.i ((l1.length:Nat):Int)),w,v]) (u=H) (x.cps.toList=l1++l2) (r=d++m) (Yp l2 (h.drop i) m))
 ⟨[],x.cps.toList,[],r,none,none,O,O,O,O,S⟩ (λi F u _ ⟨_,_,_,_,_,_,_,e,_,_,_⟩=>e ▸ ag.of D) ?_ ?_)
 rintro i y F u T ⟨l1,l2,d,m,w,v,rfl,rfl,l,f,j⟩;obtain⟨A,X,b,rfl,U⟩:=J.get T;have I:i<h.length:=(ZS.mp X).1;have Y:h.drop i=A::h.drop (i+1):=by
  rw[Z3 I];congr 1;exact lF<|(XB I).symm.trans X
 rw[Y] at j;obtain⟨t,B,N,z,rfl,rfl,G,o⟩:=OQ j;have M:=Z A (YK X);have P:d.length+N.length<=1000000:=by rw[f] at L;simp at L;lia
 refine o4 b _ O (.inl<|aA.of U) O _ _ O _ _ O O ?_;cases A with
 |p s=>
  obtain⟨rfl,rfl⟩:=o;refine⟨_,O,_,O,_,O,_,O,cx (by rw[YM,YM];exact P),?_⟩;refine⟨l1,B,d++s.cps.toList,z,some<|.s "put",some<|.s s,?_,O,l,by rw[f];simp,G⟩;show[_,_,some<|V.s<|⟨d.toArray⟩++s,_,_,_]=_;rw[show(⟨d.toArray⟩++s:Str)=⟨(d++s.cps.toList).toArray⟩ from ja (by rw[Yf])];rfl
 |c s=>
  obtain⟨rfl,rfl⟩:=o;refine⟨_,O,_,O,_,O,_,O,_,O,_,O,cx M,?_⟩;refine⟨l1++s.cps.toList,B,d,z,some<|.s "cut",some<|.s s,?_,O,by rw[l];simp,f,G⟩;rw[JB,<-YM,Xd];rfl
 |k n=>
  obtain⟨rfl,C⟩:=o;refine⟨_,O,_,O,_,O,_,O,?_⟩;refine pB _ O _ O ⟨_,O,_,O,_,O,_,O,_,O,cx R.1,?_⟩;rw[OR l n C];refine⟨cx (by rw[YM,YM];exact P),?_⟩;refine pB _ O _ O ?_;refine⟨l1++t,B,d++t,z,some<|.s "keep",some<|.i n,?_,O,by rw[l];simp,by rw[f];simp,G⟩;rw[show(⟨d.toArray⟩++ ⟨t.toArray⟩:Str)=⟨(d++t).toArray⟩ from ja (by rw[Yf]),JB,C,Xd];rfl
 rintro F u ⟨l1,l2,d,m,w,v,rfl,rfl,l,f,j⟩;rw[g,List.drop_length] at j;cases j;rw[jP] at f;subst f;exact nS _ O q
noncomputable def aL:Pt->Nat|.k n=>n.toNat|.p s=>s.length|.c s=>s.length
noncomputable def cL:Pt->Nat->Pt
 |.k n,o=>.k (n - o)
 |.p s,o=>.p ⟨(s.cps.toList.drop o).toArray⟩
 |.c s,o=>.c ⟨(s.cps.toList.drop o).toArray⟩
noncomputable def aI:Pt->Nat->Pt
 |.k _,o=>.k o
 |.p s,o=>.p ⟨(s.cps.toList.take o).toArray⟩
 |.c s,o=>.c ⟨(s.cps.toList.take o).toArray⟩
theorem Py(p:Pt)(o:Nat):(cL p o).word=p.word:=by cases p<;>rfl
theorem Rv(p:Pt)(o:Nat):(aI p o).word=p.word:=by cases p<;>rfl
theorem ku(h:aK p):sU p=(aL p:Int)/\1<=aL p:=by
 cases p with
 |k n=>
  have a:(1:Int)<=n:=h;exact⟨by show n=(n.toNat:Int);lia,by show 1<=n.toNat;lia⟩
 |p s=>
  obtain⟨c,r,e⟩:=jZ h.2;exact⟨O,by show 1<=s.length;rw[YM,e];simp⟩
 |c s=>
  obtain⟨c,r,e⟩:=jZ h.2;exact⟨O,by show 1<=s.length;rw[YM,e];simp⟩
theorem lO(l:bn):(⟨l.toArray⟩:Str).length=l.length:=O
theorem m4(p:Pt)(o:Nat)(h:o<=aL p):aL (cL p o)=aL p - o:=by
 cases p with
 |k n=>
  show(n - (o:Int)).toNat=n.toNat - o;lia
 |p s=>show(⟨(s.cps.toList.drop o).toArray⟩:Str).length=s.length - o;rw[lO,Yj,<-YM]
 |c s=>show(⟨(s.cps.toList.drop o).toArray⟩:Str).length=s.length - o;rw[lO,Yj,<-YM]
theorem yp(p:Pt)(o:Nat)(a:o<=aL p):aL (aI p o)=o:=by
 cases p with
 |k n=>show((o:Int)).toNat=o;exact WN _
 |p s=>
  have h:o<=s.length:=a;rw[YM] at h;show(⟨(s.cps.toList.take o).toArray⟩:Str).length=o;rw[lO,Xg];lia
 |c s=>
  have h:o<=s.length:=a;rw[YM] at h;show(⟨(s.cps.toList.take o).toArray⟩:Str).length=o;rw[lO,Xg];lia
theorem drop_zero(p:Pt):cL p 0=p:=by
 cases p with
 |k n=>show Pt.k (n - ((0:Nat):Int))=_;rw[show n - ((0:Nat):Int)=n by lia]
 |p s=>show Pt.p ⟨(s.cps.toList.drop 0).toArray⟩=_;rw[Zg]
 |c s=>show Pt.c ⟨(s.cps.toList.drop 0).toArray⟩=_;rw[Zg]
theorem drop_drop(p:Pt)(a b:Nat):cL (cL p a) b=cL p (a+b):=by
 cases p with
 |k n=>show Pt.k (n - (a:Int) - (b:Int))=Pt.k (n - ((a+b:Nat):Int));lia
 |p s=>show Pt.p ⟨((s.cps.toList.drop a).drop b).toArray⟩=Pt.p ⟨(s.cps.toList.drop<|a+b).toArray⟩;rw[List.drop_drop]
 |c s=>show Pt.c ⟨((s.cps.toList.drop a).drop b).toArray⟩=Pt.c ⟨(s.cps.toList.drop<|a+b).toArray⟩;rw[List.drop_drop]
theorem cV(p:Pt)(h:ie p):aI p (aL p)=p:=by
 cases p with
 |k n=>
  have a:0<=n:=h;show Pt.k ((n.toNat:Nat):Int)=_;rw[show((n.toNat:Nat):Int)=n by lia]
 |p s=>show Pt.p ⟨(s.cps.toList.take s.length).toArray⟩=_;rw[YM,Hd]
 |c s=>show Pt.c ⟨(s.cps.toList.take s.length).toArray⟩=_;rw[YM,Hd]
theorem BH(p:Pt)(o:Nat)(h:o<=aL p):aS p=aS (aI p o)++aS (cL p o):=by
 cases p with
 |k n=>
  have a:o<=n.toNat:=h;show rK n.toNat=rK ((o:Nat):Int).toNat++rK (n - (o:Int)).toNat;rw[OW];congr 1;lia
 |p s=>
  show s.cps.toList.map At.P=(s.cps.toList.take o).map At.P++(s.cps.toList.drop o).map At.P;rw[<-Za,Yt]
 |c s=>
  show s.cps.toList.map At.C=(s.cps.toList.take o).map At.C++(s.cps.toList.drop o).map At.C;rw[<-Za,Yt]
theorem BI(h:good s)(l:bn)(a:l.length<=s.length)(m:∀c∈l,c∈s.cps.toList):good ⟨l.toArray⟩:=
 ⟨by exact Y4 a h.1,λc b=>h.2 c<|m c b⟩
theorem BJ(h:l≠ []):(⟨l.toArray⟩:Str)≠"":=λz=>h (by have:=IR (λs=>s.cps.toList) z;exact this)
theorem Gu{o:Nat}(b:aK p)(h:o<aL p):aK (cL p o):=by
 cases p with
 |k n=>
  have d:o<n.toNat:=h;show(1:Int)<=n - (o:Int);lia
 |p s=>
  have d:o<s.cps.toList.length:=by exact h
  exact⟨BI b.1 _ (by rw[Yj,<-YM];exact V4 _ _) λc a=>jM a,BJ (by intro z;have:=IR List.length z;rw[Yj] at this;have t:s.cps.toList.length - o=0:=this;lia)⟩
 |c s=>
  have d:o<s.cps.toList.length:=by rw[<-YM];exact h
  exact⟨BI b.1 _ (by rw[Yj,<-YM];exact V4 _ _) λc a=>jM a,BJ (by intro z;have:=IR List.length z;rw[Yj] at this;have t:s.cps.toList.length - o=0:=this;lia)⟩
theorem BK{o:Nat}(b:aK p)(e:1<=o)(a:o<=aL p):aK (aI p o):=by
 cases p with
 |k n=>show(1:Int)<= (o:Int);lia
 |p s=>
  have d:o<=s.cps.toList.length:=by exact a
  exact⟨BI b.1 _ (by rw[Xg,<-YM];lia) λc h=>Z1 h,BJ (by intro z;have:=IR List.length z;rw[Xg] at this;have t:min o s.cps.toList.length=0:=this;lia)⟩
 |c s=>
  have d:o<=s.cps.toList.length:=by rw[<-YM];exact a
  exact⟨BI b.1 _ (by rw[Xg,<-YM];lia) λc h=>Z1 h,BJ (by intro z;have:=IR List.length z;rw[Xg] at this;have t:min o s.cps.toList.length=0:=this;lia)⟩
noncomputable def wf(L:Do)(i o:Int):on:=[("parts",.r L),("passed_by",.i i),("offset",.i o)]
theorem BL{i o:Int}:(wf L i o).lookup ("parts":Str)=some (.r L):=oU
theorem yq{i o:Int}:(wf L i o).lookup ("passed_by":Str)=some (.i i):=O
theorem Pz{i o:Int}:(wf L i o).lookup ("offset":Str)=some (.i o):=O
theorem BM{i o:Int}{m:Str}(b:¬m="parts")(a:¬m="passed_by")(h:¬m="offset"):(wf L i o).lookup m=none:=(dE b).trans ((dE a).trans<|(dE h).trans O)
theorem PB{i o:Int}:bT "offset" (.i k) (wf L i o)=wf L i k:=O
theorem Ef{i o:Int}:bT "passed_by" (.i k) (wf L i o)=wf L k o:=O
theorem aeE:bT "offset" (.i 0) (bT "passed_by" (.i 0)<|bT "parts" (.r L) [])=wf L 0 0:=O
def bO(C:Do)(H:Hp)(w L:Do)(r:cr):Prop:= ∃(dx:Do)(xs:db)(h:cr)(i o:Nat),H w=some (.i C dx<|wf L i o)/\H L=some (.l xs)/\aD H xs h/\(∀p∈h,aK p)/\h.length<=200000/\
 ((h.drop i=[]/\r=[])\/∃p t,h.drop i=p::t/\o<aL p/\r=cL p o::t)
theorem bO.keep{r:cr}(g:bO C H w L r)(k:∀b o,H b=some o->b=w\/b=L\/(∃xs,o=.t xs)->Z b=some o):bO C Z w L r:=by
 obtain⟨dx,xs,h,i,o,zq⟩:=YH g;obtain⟨f,d,c,a⟩:=YG zq;exact rP dx xs ⟨h,i,o,k _ _ f<|.inl O,k _ _ d<|.inr<|.inl O,c.mono λb B e=>k _ _ e (.inr<|.inr ⟨B,O⟩),a⟩
theorem bO.same{r:cr}(h:bO C H w L r)(s:ar H Z):bO C Z w L r:=h.keep λb o e Y=>s b o e
theorem bO.but{r:cr}(a:bO C H w L r)(b:aE c H Z)(h:H c=some (.l xs))(n:c≠L):bO C Z w L r:=by
 refine a.keep λd o e z=>b d o e ?_;obtain⟨dx,Y,Y,Y,Y,f,Y⟩:=YH a;rcases z with rfl|rfl|⟨B,rfl⟩
 exact cj f h aH;exact n.symm;exact cj e h aH
theorem bO.ok{r:cr}(f:bO C H w L r):∀p∈r,aK p:=by
 obtain⟨dx,xs,h,i,o,zq⟩:=YH f;obtain⟨l,k,j,d,g,⟨Y,rfl⟩|⟨p,t,e,c,rfl⟩⟩:=Xt zq;intro p b;cases b;have m:=λq a=>d q (jM (by rw[e];exact a));intro q a;rcases X9.mp a with rfl|a
 exact Gu (m p<|.head _) c;exact m q (.tail _ a)
noncomputable def qM:cr->Str
 |[]=> ""
 |p::_=>p.word
inductive lP(C:Do)(v:db)(H:Hp)(Q:VK)(E:XK):Prop|i(w dx a:Do)(xs:db)(h:cr)(_:v=[.r w,.r a])(_:H w=some (.i C dx []))(_:H a=some (.l xs))(_:aD H xs h)(_:(∀p∈h,aK p))(_:h.length<=200000)(_:∀L Z,H L=none->L≠w->aE w H Z->bO C Z w L h->Q .a Z)
theorem XG{K:Frag}(T:qK K C):bz (lP C) (λE=>bK K E) O4 Bf:=by
 intro v H Q E s;obtain⟨w,dx,a,xs,h,rfl,f,q,u,y,m,k⟩:=s;refine⟨_,O,xs,.inl<|ag.of q,λL g=>?_⟩;have d:=aJ f g;refine sG _ O w C dx [] O (by rw[aw d];exact f) T.cl T.yi aP ?_;refine sG _ O w C dx _ O aj T.cl T.t (by show 1<1000;decide) ?_;refine sG _ O w C dx _ O aj T.cl T.yj (by show 2<1000;decide) ?_;rw[zN,zN];have b:aE w H (upd (upd H L<|.l xs) w<|.i C dx<|bT "offset" (.i 0)<|bT "passed_by" (.i 0)<|bT "parts" (.r L) []):=λc o e n=>by rw[aw n,aw<|aJ e g];exact e
 refine k L _ g d.symm b (pR dx xs h 0 0 ?_ ?_ (u.mono ?_) y m ?_);rw[aj];rfl;rw[aw d.symm,aj];intro c B e;exact b c _ e<|cj e f aH;cases h with
 |nil=>exact .inl ⟨O,O⟩
 |cons p j=>exact .inr (oG p j O ((ku<|y p<|.head _).2) (by rw[drop_zero]))
theorem Gv{t:cr}(a:h.drop i=p::t):h[i]?=some p/\h.drop (i+1)=t/\i<h.length:=by
 have l:i<h.length:=by
  rcases Nat.lt_or_ge i h.length with z|z
  exact z;rw[ZQ z] at a;cases a
 refine⟨?_,?_,l⟩;have:=IR List.head? a;rw[List.head?_drop] at this;simpa using this;rw[<-List.drop_drop,a];rfl
theorem aD.at(c:aD H xs h)(e:h[i]?=some p):∃a,xs[i]?=some (.r a)/\H a=some (.t [.s p.word,p.val]):=by
 have g:i<xs.length:=by rw[(KB c)];exact(ZS.mp e).1
 obtain⟨q,b,a,f,d⟩:=c.get (i:=i) (v:=xs[i]) aP;rw[e] at b;cases b;exact⟨a,by rw[<-f];simp,d⟩
inductive qN(C:Do)(v:db)(H:Hp)(Q:VK)(E:XK):Prop|i(w L:Do)(a:cr)(_:v=[.r w])(_:bO C H w L a)(_:Q (.s<|qM a) H)
theorem aeG{K:Frag}(T:qK K C):bz (qN C) (λE=>bK K E) O5 mT:=by
 intro v H Q E k;obtain⟨w,L,r,rfl,⟨dx,xs,h,i,o,b,d,c,x,u,j⟩,q⟩:=k;have s:=KB c;refine o_ _ O w C dx _ _ O b T.cl T.t yq _ O w C dx _ _ O b T.cl T.yi BL (.inl (p3 _ (ag.of d) trivial _ O ?_));rcases j with⟨e,rfl⟩|⟨p,f,e,n,rfl⟩
 have:h.length<=i:=by
  rcases Nat.lt_or_ge i h.length with z|z
  rw[Z3 z] at e;cases e;exact z
 exact iF q<|ZN aH;obtain⟨m,A,y⟩:=Gv e;obtain⟨a,l,g⟩:=c.at m;refine iT ?_<|W_ aH;refine o_ _ O w C dx _ _ O b T.cl T.yi BL _ O w C dx _ _ O b T.cl T.t yq (.inl (n4 _ _ _ _ O O (ag.of d) (bq l) (.inr<|.inl ⟨_,_,_,_,O,O,aA.of g,O,?_⟩)));rw[show qM (cL p o::f)=p.word from Py p o] at q;exact q
inductive BN(C:Do)(v:db)(H:Hp)(Q:VK)(E:XK):Prop|i(w L dx:Do)(xs:db)(h:cr)(i o:Nat)(p:Pt)(_:v=[.r w])(_:H w=some (.i C dx<|wf L i o))(_:H L=some (.l xs))(_:aD H xs h)(_:h[i]?=some p)(_:aK p)(_:Q (.i<|(aL p:Int) - (o:Int)) H)
abbrev anA(K:Frag)(E:XK):ba:=aG K [("part_size",qx)] [] (E:=E)
theorem aeH{K:Frag}(T:qK K C):bz (BN C) (λE=>anA K E) O6 mT:=by
 intro v H Q E g;obtain⟨w,L,dx,xs,h,i,o,p,rfl,b,f,e,k,c,q⟩:=g;obtain⟨a,j,d⟩:=e.at k;refine o_ _ O w C dx _ _ O b T.cl T.yi BL _ O w C dx _ _ O b T.cl T.t yq (.inl (n4 _ _ _ _ O O (ag.of f) (bq j) ⟨_,p,O,nS a O d,xX c,nS _ O ⟨w,C,dx,_,_,O,b,T.cl,T.yj,Pz,trivial,?_⟩⟩));rw[(ku c).1];exact q
inductive m5(C:Do)(v:db)(H:Hp)(Q:VK)(E:XK):Prop|i(w L:Do)(p:Pt)(t:cr)(_:v=[.r w])(_:bO C H w L (p::t))(_:Q (.i (aL p:Int)) H)
theorem QB(j:m5 C vs H Q E):BN C vs H Q E:=by
 obtain⟨w,L,p,t,rfl,⟨dx,xs,h,i,o,g,f,d,c,n,⟨Y,e⟩|⟨a,l,e,m,k⟩⟩,q⟩:=j;cases e;cases k;obtain⟨b,Y,Y⟩:=Gv e;refine⟨w,L,dx,xs,h,i,o,a,O,g,f,d,b,c _<|YK b,?_⟩;rw[m4 a o (Zb m)] at q;rw[show((aL a:Int) - (o:Int))=((aL a - o:Nat):Int) by lia];exact q
def dS(p:Pt)(t:cr)(k:Nat):cr:=if k=aL p then t else cL p k::t
inductive oW(C:Do)(v:db)(H:Hp)(Q:VK)(E:XK):Prop|i(w L:Do)(p:Pt)(a:cr)(k:Nat)(_:v=[.r w,.i (k:Int)])(_:bO C H w L (p::a))(_:1<=k)(_:k<=aL p)(_:∀r Z,aE w H Z->Z r=some (.t [.s (aI p k).word,(aI p k).val])->H r=none->bO C Z w L (dS p a k)->Q (.r r) Z)
abbrev fS(K:Frag)(C:Do)(E:XK):ba:=aG K [] [] [] [("left",C,BN C)] (E:=E)
theorem aeJ{K:Frag}(T:qK K C):bz (oW C) (λE=>fS K C E) Gq O8:=by
 intro vs H Q E h0;obtain⟨w,L,p,l,k,rfl,⟨dx,xs,h,i,o,m,A,P,N,h5,⟨_,e⟩|⟨d,F,e,ho,e'⟩⟩,oX,Gw,q⟩:=h0;cases e;cases e';obtain⟨S,e2,e3⟩:=Gv e;obtain⟨a,ea,X⟩:=P.at S;have M:=N _ (YK S);rw[m4 d o (Zb ho)] at Gw;have PD:w≠L:=cj m A (by intro z;cases z);have I:a≠w:=cj X m (by intro z;cases z);refine o_ _ O w C dx _ _ O m T.cl T.yi BL _ O w C dx _ _ O m T.cl T.t yq (.inl (n4 _ _ _ _ O O (ag.of A) (bq ea) ?_));refine nS _ O ⟨w,C,dx,_,_,O,m,T.cl,T.yj,Pz,?_⟩;refine pB _ O _ O ?_;refine pB _ O _ O ⟨w,C,dx,_,O,m,T.cl,T.yj,(by show 3<1000;decide),?_⟩;rw[PB,show(o:Int)+(k:Int)=((o+k:Nat):Int) by lia];have D:∀(Y:on),bI H (upd H w<|.i C dx Y):=λY b B u=>by rw[aw<|cj u m (by intro z;cases z)];exact u
 refine nS _ O ⟨w,dx,_,O,aj,BM (by decide+kernel) (by decide+kernel) (by decide+kernel),w,L,dx,xs,h,i,o+k,d,O,aj,(by rw[aw PD.symm];exact A),P.mono<|D _,S,M,?_⟩;have Z:∀(j g:Nat),((h.drop j=[]/\dS (cL d o) l k=[])\/∃p F,h.drop j=p::F/\g<aL p/\dS (cL d o) l k=cL p g::F)->
   av (fS K C E) (Gq.drop 5) (Dn Q) [some<|.r w,some<|.i (k:Int),some<|.r a,some<|.i (o:Int),some<|.i ((o+k:Nat):Int)] (upd H w<|.i C dx<|wf L (j:Int) (g:Int)):=by
  intro j g hr;have y:upd H w (.i C dx<|wf L (j:Int) (g:Int)) a=some (.t [.s d.word,d.val]):=by rw[aw I];exact X
  have f:∀v:V,v=(aI (cL d o) k).val->∀r,upd H w (.i C dx<|wf L (j:Int) (g:Int)) r=none->Q (.r r) (upd (upd H w<|.i C dx<|wf L (j:Int) (g:Int)) r<|.t [.s d.word,v]):=by
   rintro v rfl r x;have PF:r≠w:=λz=>by rw[z,aj] at x;cases x
   have PH:H r=none:=by rw[aw PF] at x;exact x
   have U:aE w H (upd (upd H w<|.i C dx<|wf L (j:Int) (g:Int)) r<|.t [.s d.word,(aI (cL d o) k).val]):=λb ob u J=>by rw[aw<|aJ u PH,aw J];exact u
   refine q r _ U (by rw[aj,Rv,Py]) PH (pR dx xs h j g ?_ (U _ _ A PD.symm) (P.mono λb B u=>U b _ u (cj u m (by intro z;cases z))) N h5 hr);rw[aw PF.symm,aj]
  refine nS _ O (.inr<|.inl ⟨_,_,_,_,O,O,aA.of y,O,?_⟩);refine nS _ O (.inr<|.inl ⟨_,_,_,_,O,O,aA.of y,O,_,O,?_⟩);rw[WG,iD];cases d with
  |k n=>exact gG (nT _ O cM (f _ O))
  |p s=>
   refine iU (nS _ O (.inr<|.inl ⟨_,_,_,_,O,O,aA.of y,O,_,O,_,O,_,O,_,O,cx M.1.1,cM,f _ ?_⟩));show V.s (oj s (some (o:Int))<|some ((o+k:Nat):Int))=V.s ⟨((s.cps.toList.drop o).take k).toArray⟩;rw[Xd,Gr o (k:Int) k O]
  |c s=>
   refine iU (nS _ O (.inr<|.inl ⟨_,_,_,_,O,O,aA.of y,O,_,O,_,O,_,O,_,O,cx M.1.1,cM,f _ ?_⟩));show V.s (oj s (some (o:Int))<|some ((o+k:Nat):Int))=V.s ⟨((s.cps.toList.drop o).take k).toArray⟩;rw[Xd,Gr o (k:Int) k O]
 refine nS _ O ?_;rw[WG];by_cases W:k=aL d - o;refine iT ?_ (W_ (by congr 1;lia));refine nS _ O ⟨w,C,dx,_,_,O,aj,T.cl,T.t,yq,_,O,w,C,dx,_,O,aj,T.cl,T.t,(by show 3<1000;decide),?_⟩;rw[zN,Ef];refine sG _ O w C dx _ O aj T.cl T.yj (by show 3<1000;decide) ?_;rw[zN,PB,show(i:Int)+1=((i+1:Nat):Int) by lia];refine Z (i+1) 0 ?_;have R:dS (cL d o) l k=l:=GT (by rw[m4 d o (Zb ho)];exact W);rw[R,e2];cases l with
 |nil=>exact .inl ⟨O,O⟩
 |cons G t2=>
  have hm:aK G:=N G (jM (by rw[e];exact .tail _ (.head _)));exact .inr (oG G t2 O ((ku hm).2) (by rw[drop_zero]))
 refine iF ?_ (ZN (by intro z;have z':(aL d:Int) - ((o+k:Nat):Int)=0:=(by injection z);lia));refine Z i (o+k)<|.inr ⟨d,l,e,aH,?_⟩;have R:dS (cL d o) l k=cL (cL d o) k::l:=Id (by rw[m4 d o (Zb ho)];exact W);rw[R,drop_drop]
theorem cz.app{xs B d a:lc}(h:cz xs B z)(e:cz b d a):cz (xs++b) (B++d) (z++a):=by
 induction h with
 |n=>exact e
 |p Y i=>exact .p i
 |c Y i=>exact .c i
 |kk Y i=>exact .kk i
 |kc Y i=>exact .kc i
 |pk Y i=>exact .pk i
 |pc Y i=>exact .pc i
theorem PJ:∀s:bn,cz [] (s.map .P) (s.map .P)
 |[]=>.n
 |c::s=>.p (PJ s)
theorem Gx:∀s:bn,cz (s.map .C) [] (s.map .C)
 |[]=>.n
 |c::s=>.c (Gx s)
theorem PK:∀n:Nat,cz (rK n) (rK n) (rK n)
 | 0=>.n
 |n+1=>.kk (PK n)
theorem PL:∀s:bn,cz (rK s.length) (s.map .C) (s.map .C)
 |[]=>.n
 |c::s=>.kc (PL s)
theorem PM:∀s:bn,cz (s.map .P) (rK s.length) (s.map .P)
 |[]=>.n
 |c::s=>.pk (PM s)
theorem PN:∀s:bn,cz (s.map .P) (s.map .C) []
 |[]=>.n
 |c::s=>.pc (PN s)
noncomputable def bC:lc->Nat
 |[]=>0
 |.P _::xs=>bC xs
 |.K::xs=>bC xs+1
 |.C _::xs=>bC xs+1
noncomputable def fG:lc->Nat
 |[]=>0
 |.P _::xs=>fG xs+1
 |.K::xs=>fG xs+1
 |.C _::xs=>fG xs
noncomputable def cnt:lc->Nat
 |[]=>0
 |.K::xs=>cnt xs
 |.P _::xs=>cnt xs+1
 |.C _::xs=>cnt xs+1
theorem lQ:∀(xs:lc)(l:bn),Xr l xs->l.length=bC xs
 |[],l,h=>by cases h;rfl
 |.P c::xs,l,h=>lQ xs l h
 |.K::xs,[],h=>h.elim
 |.K::xs,a::l,h=>by simp[bC,lQ xs l h]
 |.C c::xs,[],h=>h.elim
 |.C c::xs,a::l,h=>by simp[bC,lQ xs l h.2]
theorem BO:∀(xs:lc)(l:bn),Xr l xs->(YX l xs).length=fG xs
 |[],l,h=>O
 |.P c::xs,l,h=>by simp[YX,fG,BO xs l h]
 |.K::xs,[],h=>h.elim
 |.K::xs,a::l,h=>by simp[YX,fG,BO xs l h]
 |.C c::xs,[],h=>h.elim
 |.C c::xs,a::l,h=>BO xs l h.2
theorem yr:∀(xs B:lc),bC (xs++B)=bC xs+bC B
 |[],B=>by simp[bC]
 |.P c::xs,B=>yr xs B
 |.K::xs,B=>by simp only[WT,bC,yr xs B];lia
 |.C c::xs,B=>by simp only[WT,bC,yr xs B];lia
theorem BP:∀(xs B:lc),cnt (xs++B)=cnt xs+cnt B
 |[],B=>by simp[cnt]
 |.K::xs,B=>BP xs B
 |.P c::xs,B=>by simp only[WT,cnt,BP xs B];lia
 |.C c::xs,B=>by simp only[WT,cnt,BP xs B];lia
theorem cz.cnt{xs B:lc}(h:cz xs B z):cnt z<=cnt xs+cnt B:=by
 induction h<;>simp only[Internal.cnt] <;>lia
theorem yt{B:lc}:∀(xs:lc)(l:bn),Xr l (xs++B)->∃l1 l2,l=l1++l2/\Xr l1 xs/\Xr l2 B/\YX l (xs++B)=YX l1 xs++YX l2 B:=by
 intro xs;induction xs with
 |nil=>exact λl h=>oS [] l O O h O
 |cons x xs i=>
  intro l h;cases x with
  |P c=>
   obtain⟨l1,l2,rfl,a,b,d⟩:=i l h;exact oS l1 l2 O a b (by show c::YX _ (xs++B)=c::(YX l1 xs++YX l2 B);rw[d])
  |K=>
   cases l with
   |nil=>exact(show False from h).elim
   |cons e l=>
    obtain⟨l1,l2,rfl,a,b,d⟩:=i l h;exact oS (e::l1) l2 O a b (by show e::YX _ (xs++B)=e::(YX l1 xs++YX l2 B);rw[d])
  |C c=>
   cases l with
   |nil=>exact(show False from h).elim
   |cons e l=>
    obtain⟨f,h⟩:=(show e=c/\Xr l (xs++B) from h);obtain⟨l1,l2,rfl,a,b,d⟩:=i l h;exact oS (e::l1) l2 O ⟨f,a⟩ b d
theorem PQ{a:bn}{B:lc}(d:Xr (a++b) (B++z))(l:a.length=bC B):Xr a B/\Xr b z:=by
 obtain⟨l1,l2,e,h,c,Y⟩:=yt B _ d;have:=lQ _ _ h;obtain⟨rfl,rfl⟩:=List.append_inj e aH;exact⟨h,c⟩
theorem yu(n:Nat):bC (rK n)=n:=by
 induction n with
 |zero=>rfl
 |succ n i=>show bC (rK n)+1=_;rw[i]
theorem oY(s:bn):bC (s.map .C)=s.length:=by
 induction s with
 |nil=>rfl
 |cons c s i=>show bC (s.map .C)+1=_;rw[i];rfl
theorem aeM(n:Nat):fG (rK n)=n:=by
 induction n with
 |zero=>rfl
 |succ n i=>show fG (rK n)+1=_;rw[i]
theorem aeN(s:bn):fG (s.map .P)=s.length:=by
 induction s with
 |nil=>rfl
 |cons c s i=>show fG (s.map .P)+1=_;rw[i];rfl
theorem PR:∀(xs:lc)(l:bn),Xr l xs->YX l xs=[]->∀x∈xs,∃c,x=.C c
 |[],l,_,_,x,h=>by cases h
 |.P c::xs,l,b,e,x,h=>by cases e
 |.K::xs,[],b,_,_,_=>b.elim
 |.K::xs,a::l,b,e,x,h=>by cases e
 |.C c::xs,[],b,_,_,_=>b.elim
 |.C c::xs,a::l,b,e,x,h=>by
  rcases X9.mp h with rfl|h
  exact⟨c,O⟩;exact PR xs l b.2 e x h
theorem cX.app{xs B o d:lc}(h:cX xs B o ts)(a:cX b d A P):cX (xs++b) (B++d) (o++A) (ts++P):=by
 induction h with
 |n=>exact a
 |p1 Y i=>exact .p1 i
 |p2 Y i=>exact .p2 i
 |kk Y i=>exact .kk i
 |kc Y i=>exact .kc i
 |ck Y i=>exact .ck i
 |cc Y i=>exact .cc i
theorem PV:∀s:bn,cX (s.map .P) [] (s.map .P) (rK s.length)
 |[]=>.n
 |c::s=>.p1 (PV s)
theorem PX:∀s:bn,cX [] (s.map .P) (rK s.length) (s.map .P)
 |[]=>.n
 |c::s=>.p2 (PX s)
theorem PY:∀n:Nat,cX (rK n) (rK n) (rK n) (rK n)
 | 0=>.n
 |n+1=>.kk (PY n)
theorem PZ:∀s:bn,cX (rK s.length) (s.map .C) [] (s.map .C)
 |[]=>.n
 |c::s=>.kc (PZ s)
theorem P0:∀s:bn,cX (s.map .C) (rK s.length) (s.map .C) []
 |[]=>.n
 |c::s=>.ck (P0 s)
theorem P2:∀s:bn,cX (s.map .C) (s.map .C) [] []
 |[]=>.n
 |c::s=>.cc (P2 s)
theorem cX.P4{xs B o:lc}(h:cX xs B o ts):cnt o<=cnt xs/\cnt ts<=cnt B:=by
 induction h<;>simp only[cnt] <;>lia
section
variable{W:ba}{D:WH}{F:St}{H:Hp}{r:jp}{Q:VK}{QA:db->Hp->Prop}{g:wv}
theorem yv(C:Do)(s:Sp)(h:W.ms j=(C,s))(b:af W o F H λx t=>∃a dx f,x=.r a/\t a=some (.i C dx f)/\f.lookup m=none/\s [x] t Q W.E):af W (.a j m o []) F H Q:=by
 show r9 (W.ms j).1 m (W.ms j).2 [] W.E (af W o) (aR W []) F H Q;rw[h];exact b
theorem ky{a:RE}(C:Do)(s:Sp)(h:W.ms j=(C,s))(b:af W o F H λx t=>∃p dx f,x=.r p/\t p=some (.i C dx f)/\f.lookup m=none/\af W a F t λy u=>s [x,y] u Q W.E):af W (.a j m o [a]) F H Q:=by
 show r9 (W.ms j).1 m (W.ms j).2 [] W.E (af W o) (aR W [a]) F H Q;rw[h];exact b
theorem BQ{a:RE}(C:Do)(s:Sp)(h:W.kt j=(C,s))(b:af W a F H λy t=>∀x dx,t x=none->t dx=none->dx≠x->s [.r x,y] (upd (upd t dx<|.o x) x<|.i C dx []) (λv u=>v=.a/\Q (.r x) u) W.E):af W (.m j [a]) F H Q:=by
 show D3 (W.kt j).1 (W.kt j).2 [] W.E (aR W [a]) F H Q;rw[h];exact b
theorem m6(a:Nat->St->Hp->Prop)(e:∃m,a m F H)(h:∀m F H,a m F H->a_ W c F H λb t=>if b=true then ∃N:St->Hp->Prop,(∀V Z,N V Z->∃d,d<m/\a d V Z)/\av W body {{D with nx:=av W r D} with nx:=N,c:=N,bk:=av W r D} F t else av W r D F t):av W (.R c body::r) D F H:=⟨a,e,h⟩
theorem bQ{a:jp}(h:a_ W c F H λb t=>if b=true then av W a {D with nx:=av W r D} F t else av W e {D with nx:=av W r D} F t):av W (.i c a e::r) D F H:=h
theorem bw{a:RE}(h:af W a F H λx t=>af W b F t λy u=>dh W.K op x y u λz c=>∃k,z=.b k/\g k c):a_ W (.p op a b) F H g:=h
theorem cT(h:af W o F H λx t=>∃a C dx s v,x=.r a/\t a=some (.i C dx s)/\gP W.K C/\gC W.K C f/\s.lookup f=some v/\Q v t):af W (.f o f) F H Q:=h
theorem fK{a:RE}(h:af W o F H λx t=>sj W.K (uW m) x t/\af W a F t λy u=>sI W.K m x [y] u Q):af W (.Q m o [a]) F H Q:=h
theorem m7{K:Frag}(q:Q (.b<|x==y) H):dh K .Eq (.s x) (.s y) H Q:=by
 show Q (.b<|false ^^ decide (V.s x=V.s y)) H;rw[WG,iD];exact q
theorem Gy{K:Frag}(q:Q (.b<|x !=y) H):dh K .NotEq (.s x) (.s y) H Q:=by
 show Q (.b<|true ^^ decide (V.s x=V.s y)) H;rw[yE,iD];exact q
end
theorem bO.ob{r:cr}(b:bO C H w L r):∃(dx:Do)(i o:Int),H w=some (.i C dx<|wf L i o):=by
 obtain⟨dx,xs,h,i,o,a,Y⟩:=YH b;exact⟨dx,i,o,a⟩
theorem Gz{i o:Int}:(wf L i o).lookup ("word":Str)=none/\(wf L i o).lookup ("left":Str)=none/\(wf L i o).lookup ("take":Str)=none:=
 ⟨BM (by decide+kernel) (by decide+kernel) (by decide+kernel),BM (by decide+kernel) (by decide+kernel) (by decide+kernel),BM (by decide+kernel) (by decide+kernel) (by decide+kernel)⟩
inductive BR(b:db)(H:Hp)(Q:VK)(E:XK):Prop|i(v:V)(p:Pt)(u:Str)(_:b=[v,.s u])(_:jA H v p)(_:((∃n,p=.k n/\∀c a Z,ar H Z->H c=none->Z c=some (.l [.r a])->Z a=some (.t [.s "cut",.s u])->Q (.r c) Z)\/
 (p=.p u/\∀c Z,ar H Z->H c=none->Z c=some (.l [])->Q (.r c) Z)))
abbrev fU(K:Frag)(et:ut)(E:XK):ba:=aG K [] [] (et:=et) (E:=E)
theorem aeO{K:Frag}:bz (BR) (λE=>fU K et E) Ph Pg:=by
 intro j H Q E i;obtain⟨v,p,u,rfl,⟨a,rfl,b⟩,⟨n,rfl,q⟩|⟨rfl,q⟩⟩:=i;refine⟨_,O,.inr<|.inl ⟨_,_,_,_,O,O,aA.of b,O,_,O,⟨_,O,cM,λd g=>⟨de,λc h=>?_⟩⟩⟩⟩;have f:=V3 (o:=.t [V.s "cut",V.s u]) g;have e:=V3 (o:=.l [V.r d]) h;exact q c d _ (f.trans e) (f.free h) aj<|e _ _ aj;refine⟨_,O,.inr<|.inl ⟨_,_,_,_,O,O,aA.of b,O,_,O,⟨_,O,.inr<|.inl ⟨_,_,_,_,O,O,aA.of b,O,_,O,_,O,?_⟩⟩⟩⟩;rw[W_ (show(Pt.p u).val=V.s u from O)];exact⟨Y_ _,λc h=>q c _ (V3 h) h aj⟩
theorem GA(p:Pt)(t:cr)(k:Nat):(dS p t k).length<=t.length+1:=by
 unfold dS;split<;>simp
theorem BS(t:cr)(a:k<=aL p):ah (p::t)=aS (aI p k)++ah (dS p t k):=by
 unfold dS;rw[cR,BH p k a];split;rename_i e;have:aS (cL p k)=[]:=by
  have h:=m4 p k a;rw[e,XO] at h;cases p with
  |k n=>
   have m:(n - (k:Int)).toNat=0:=e▸h;show rK (n - (k:Int)).toNat=[];rw[m];rfl
  |p s=>
   rw[<-e] at h;have m:(⟨(s.cps.toList.drop k).toArray⟩:Str).length=0:=h;rw[lO] at m;show(s.cps.toList.drop k).map At.P=[];rw[Xa.mp m];rfl
  |c s=>
   rw[<-e] at h;have m:(⟨(s.cps.toList.drop k).toArray⟩:Str).length=0:=h;rw[lO] at m;show(s.cps.toList.drop k).map At.C=[];rw[Xa.mp m];rfl
 rw[this,jP];rw[cR,Xm]
theorem vF(p:Pt):(aS p).length=aL p:=by
 cases p with
 |k n=>show(rK n.toNat).length=_;unfold rK;rw[We];rfl
 |p s=>show(s.cps.toList.map At.P).length=_;rw[Wo];rfl
 |c s=>show(s.cps.toList.map At.C).length=_;rw[Wo];rfl
theorem GB(t:cr)(a:1<=k)(h:k<=aL p):(ah<|dS p t k).length< (ah (p::t)).length:=by
 rw[BS t h,JB,vF,yp p k h];lia
theorem vG(h:W.ms j=(C,qN C))(e:F[i]?=some (some<|.r w))(d:bO C H w L c)(q:Q (.s<|qM c) H):af W (.a j "word" (.v i) []) F H Q:=by
 obtain⟨dx,a,b,f⟩:=d.ob;exact yv C (qN C) h<|aa e ⟨w,dx,_,O,f,Gz.1,w,L,c,O,d,q⟩
theorem vH{t:cr}(h:W.ms j=(C,m5 C))(d:F[i]?=some (some<|.r w))(c:bO C H w L (p::t))(q:Q (.i (aL p:Int)) H):af W (.a j "left" (.v i) []) F H Q:=by
 obtain⟨dx,a,b,e⟩:=c.ob;exact yv C (m5 C) h<|aa d ⟨w,dx,_,O,e,Gz.2.1,w,L,p,t,O,c,q⟩
theorem vI{c:cr}{a:RE}(h:W.ms j=(C,oW C))(g:F[i]?=some (some<|.r w))(d:bO C H w L (p::c))(m:1<=k)(f:k<=aL p)(l:∀e:VK,e (.i (k:Int)) H->af W a F H e)(q:∀r Z,aE w H Z->Z r=some (.t [.s (aI p k).word,(aI p k).val])->H r=none->bO C Z w L (dS p c k)->Q (.r r) Z):af W (.a j "take" (.v i) [a]) F H Q:=by
 obtain⟨dx,x,b,n⟩:=d.ob;exact ky C (oW C) h<|aa g ⟨w,dx,_,O,n,Gz.2.2,l _ (⟨w,L,p,c,k,O,d,m,f,q⟩)⟩
inductive BU(C:Do)(e:db)(H:Hp)(Q:VK)(E:XK):Prop|i(w L:Do)(v:V)(b:cr)(t:Pt)(l:bn)(B:lc)(_:e=[.r w,v])(_:bO C H w L b)(_:jA H v t)(_:aK t)(_:(∀s,t≠ .p s))(_:b.length<=200000)(_:Xr l (ah b))(_:Xr (YX l<|ah b) (aS t++B))(_:∀(c:Do)(Z:Hp)(h:db)(a f:cr)(d:bn)(z:lc),aE w H Z->H c=none->Z c=some (.l h)->aD Z h a->(∀p∈a,aK p)->bO C Z w L f->ah b=z++ah f->cz z (aS t) (ah a)->
  Xr d (ah f)->Xr (YX d<|ah f) B->a.length+f.length<=b.length+1->Q (.r c) Z)
theorem aE.vJ(b:aE w H Z)(h:H w=some (.i C dx f)):bI H Z:=λc xs e=>b c _ e (cj e h aH)
theorem aeP:aI (cL (.c s) k) m=.c ⟨((s.cps.toList.drop k).take m).toArray⟩:=O
inductive GC(C w b c L:Do)(H:Hp)(a:cr)(t:Pt)(B:lc)(m:Nat)(F:St)(Z:Hp):Prop|i(k:Nat)(e u:sB)(h:db)(s f:cr)(d:bn)(z:lc)(_:m=(ah f).length)(_:F=[some<|.r w,some<|.r b,some<|.r c,some<|.i (k:Int),e,u])(_:aE w H Z)(_:Z c=some (.l h))(_:aD Z h s)(_:(∀p∈s,aK p))(_:bO C Z w L f)(_:ah a=z++ah f)(_:cz z (aS<|aI t k) (ah s))(_:k<=aL t)(_:Xr d (ah f))(_:Xr (YX d<|ah f) (aS (cL t k)++B))(_:s.length+f.length<=a.length+(if k=aL t then 1 else 0)):GC C w b c L H a t B m F Z
abbrev gJ(K:Frag)(C:Do)(E:XK):ba:=aG K [("part_size",qx),("cut_behind",BR)] [] [] [("word",C,qN C),("take",C,oW C),("left",C,m5 C)] (E:=E)
theorem aeQ{K:Frag}:bz (BU C) (λE=>gJ K C E) Pk Pj:=by
 intro vs H Q E h0;obtain⟨w,L,v,rs,f,l,B,rfl,W4,⟨M,rfl,oZ⟩,ay,yw,Br,k',j',q⟩:=h0;obtain⟨p',w'⟩:=ku ay;refine aY<|cI<|az ⟨Y_ _,λc S=>?_⟩;refine aY<|aC ?_;have b0:aE w H (upd H c<|.l []):=λb o e _=>by rw[aw<|aJ e S];exact e
 obtain⟨v',i0,o0,P5⟩:=W4.ob;have m8:c≠w:=λz=>by rw[z,P5] at S;cases S
 have lR:c≠L:=by
  obtain⟨_,_,_,_,_,zq⟩:=YH W4;obtain⟨_,hL,_⟩:=Z5 zq;exact(aJ hL S).symm
 refine m6 (GC C w M c L H rs f B)
  (oM _ ⟨0,none,none,[],[],rs,l,[],O,O,b0,aj,.nil,(λp hp=>by cases hp),W4.same<|V3 S,O,?_,Y_ _,k',by rw[drop_zero];exact j',aP⟩) ?_
 have e:aS (aI f 0)=[]:=Xa.mp (by rw[vF,yp f 0<|Y_ _]);rw[e];exact .n;rintro m F t ⟨k,u4,u5,j,g,fD,l',zs,rfl,rfl,b1,BV,jg,jD,W,ez,iK,hk,o7,G,h⟩;have GD:t M=some (.t [.s f.word,f.val]):=b1 _ _ oZ (cj oZ P5 (by intro z;cases z));have GG:=KB jg;have sz:∀{F:St}{Q1:VK},F[1]?=some (some<|.r M)->Q1 (.i (aL f:Int)) t->af (gJ K C E) (.l 0 [.v 1]) F t Q1:=by
  intro F Q1 h1 hq;refine bu qx O<|aq<|aa h1<|az ⟨_,f,O,⟨M,O,GD⟩,xX ay,?_⟩;rw[p'];exact hq
 refine bw<|aa O<|sz O ⟨trivial,_,O,?_⟩;by_cases lS:k<aL f;refine iT (nS _ (λV' Z z=>z) ?_) (W_ aH);have r':=Gu ay lS;have uU:(if k=aL f then 1 else 0)=0:=Id (Ze lS);rw[uU] at h;cases fD with
 |nil=>
  exfalso;have e1:YX l' (ah [])=[]:=O;rw[e1] at G;have:=lQ _ _ G;rw[yr] at this;have q':bC (aS<|cL f k)=aL f - k:=by
   rw[<-m4 f k hk];cases f with
   |k n=>exact yu _
   |p s=>exact absurd O (yw s)
   |c s=>show bC ((s.cps.toList.drop k).map At.C)=_;rw[oY];show _=(⟨(s.cps.toList.drop k).toArray⟩:Str).length;rw[lO]
  simp only[Xp] at this;lia
 |cons p D=>
  have hp:=W.ok p (.head _);obtain⟨P6,yx⟩:=ku hp;refine bQ<|bw<|vG (C:=C) O O W<|aC<|m7 ⟨_,O,?_⟩;show if ((p.word:Str)=="cut")=true then _ else _
  have a':∀(u:Hp)(I:db)(a:Do)(pt:Pt),aE w H u->u c=some (.l I)->aD u I g->u a=some (.t [.s pt.word,pt.val])->
    aE w H (upd u c<|.l<|I++[V.r a])/\aD (upd u c<|.l<|I++[V.r a]) (I++[V.r a]) (g++[pt]):=by
   intro u I a pt bb Y oK ig;have X:bI u (upd u c<|.l<|I++[V.r a]):=aE.upd.bx Y;exact⟨λb o e n=>by rw[aw<|aJ e S];exact bb b o e n,aD.snoc (oK.mono X) (nS a O (X _ _ ig))⟩
  have BW:∀(u:Hp)(I P7:db)(GH:cr),u c=some (.l I)->bO C u w L GH->bO C (upd u c<|.l P7) w L GH:=λu I P7 GH Y U=>U.but aE.upd Y lR;by_cases o9:p.word="cut"
  
  rw[o9];obtain⟨s,rfl⟩:∃s,p=.c s:=by
   cases p with
   |k n=>exact absurd (show(Str.ofString "keep")="cut" from o9) aQ
   |p s=>exact absurd (show(Str.ofString "put")="cut" from o9) aQ
   |c s=>exact oM s O
  have ta:aI (.c s) (aL<|.c s)=.c s:=cV _ trivial;have re:dS (.c s) D (aL<|.c s)=D:=GT O;refine bU<|fK<|aa O ⟨.inl ⟨O,_,ag.of BV⟩,vI (C:=C) (k:=aL (.c s)) O O W yx (ZX _) (λQ' hq=>vH (C:=C) O O W hq) λa u T ha uI U=>?_⟩;rw[ta] at ha;rw[re] at U;have Y:u c=some (.l j):=T _ _ BV m8;obtain⟨n',i1,o1,BX⟩:=W.ob;have oK:aD u j g:=jg.mono (T.vJ BX);obtain⟨bb,pp⟩:=a' u j a (.c s) (b1.trans T) Y oK ha;refine nT j Y (bY aH) ?_;rw[cR] at o7 G ez;obtain⟨la,lb,rfl,f1,f2,f3⟩:=yt _ _ o7;have f0:YX la (aS<|.c s)=[]:=by
   obtain⟨b,rfl⟩:=yh s.cps.toList la [] (by rw[jP];exact f1);have:=lQ _ _ f1;have e1:bC (aS<|.c s)=s.cps.toList.length:=oY _;rw[e1,JB] at this;have:b=[]:=Xa.mp aH;subst this;have:=BC s.cps.toList [] [];simp only[jP] at this;rw[jP];exact this
  rw[f3,f0,yk] at G;refine nS _ ?_ ⟨k,u4,u5,j++[V.r a],g++[.c s],D,lb,zs++aS (.c s),O,O,bb,aj,pp,?_,BW u _ _ _ Y U,by rw[ez,Xm],?_,hk,f2,G,?_⟩;rw[cR,JB,vF];lia;intro x hx;rcases Z4.mp hx with z|z
  exact jD x z;rw[Ya.mp z];exact hp;have:=iK.app (Gx s.cps.toList);rw[jP] at this;rw[fg,gK];exact this;rw[uU];simp only[JB,Wt,Xp] at h⊢;lia;have jy:((p.word:Str)=="cut")=false:=beq_eq_false_iff_ne.mpr o9;rw[jy];obtain⟨n,hn⟩:∃n,n=min (aL p) (aL f - k):=oM _ O;have gI:1<=n:=by lia
  have kb:n<=aL p:=by lia
  have t':n<=aL f - k:=by lia
  have b':(if ((aL f:Int) - (k:Int)) < (aL p:Int) then ((aL f:Int) - (k:Int)) else (aL p:Int))=(n:Int):=by
   split<;>lia
  refine aY<|MI<|aq<|vH (C:=C) O O W<|aq<|cD<|sz O<|aa O ⟨trivial,az ?_⟩;show av _ _ _ ([some<|.r w,some<|.r M,some<|.r c,some<|.i (k:Int),u4,u5].set 4 (some<|V.i (if ((aL f:Int) - (k:Int)) < (aL p:Int) then ((aL f:Int) - (k:Int)) else (aL p:Int)))) t;rw[b'];refine aY<|vI (C:=C) (k:=n) O O W gI kb (λQ' hq=>aa O hq) λa u T ha uI U=>?_;have Y:u c=some (.l j):=T _ _ BV m8;obtain⟨n',i1,o1,BX⟩:=W.ob;have oK:aD u j g:=jg.mono (T.vJ BX);have P8:u M=some (.t [.s f.word,f.val]):=T _ _ GD (cj GD BX (by intro z;cases z));have GI:=b1.trans T;have o':=BK hp gI kb;have eA:=BS D kb;have eB:aS (cL f k)=aS (aI (cL f k) n)++aS (cL f<|k+n):=by
   rw[BH (cL f k) n (by rw[m4 f k hk];exact t'),drop_drop]
  have eC:aS (aI f<|k+n)=aS (aI f k)++aS (aI (cL f k) n):=by
   have h1:=BH f (k+n) aH;have h2:=BH f k hk;rw[eB] at h2;rw[h2,<-Xm] at h1;exact(List.append_inj_left' h1 O).symm
  rw[eA] at o7 G ez;obtain⟨la,lb,rfl,f1,f2,f3⟩:=yt _ _ o7;rw[f3,eB,Xm] at G;have c':(YX la<|aS<|aI p n).length=n:=by
   rw[BO _ _ f1];cases p with
   |k m=>exact aeM n
   |p s=>show fG ((s.cps.toList.take n).map At.P)=n;rw[aeN,Xg];have hh:n<=s.length:=kb;rw[YM] at hh;lia
   |c s=>exact absurd O o9
  have GJ:bC (aS<|aI (cL f k) n)=n:=by
   have e:aL (aI (cL f k) n)=n:=yp _ _ (by rw[m4 f k hk];exact t');cases f with
   |k m=>exact yu n
   |p s=>exact absurd O (yw s)
   |c s=>
    have e':(⟨((s.cps.toList.drop k).take n).toArray⟩:Str).length=n:=e;rw[lO] at e';show bC (((s.cps.toList.drop k).take n).map At.C)=n;rw[oY];exact e'
  obtain⟨g1,g2⟩:=PQ G (by rw[c',GJ]);have Y':∀(y:Hp)(kj:db)(vK:cr),aE w H y->y c=some (.l kj)->aD y kj vK->(∀x∈vK,aK x)->bO C y w L (dS p D n)->cz (zs++aS (aI p n)) (aS<|aI f<|k+n) (ah vK)->vK.length<=g.length+1->
    ∃m',m'< (ah (p::D)).length/\GC C w M c L H rs f B m' [some<|V.r w,some<|.r M,some<|.r c,some<|.i<|(k:Int)+(n:Int),some<|.i (n:Int),some<|.r a] y:=by
   intro y kj vK b3 N g' h' W3 oO u';refine nS _ (GB D gI kb) ⟨k+n,some<|.i (n:Int),some<|.r a,kj,vK,dS p D n,lb,zs++aS (aI p n),O,by rw[Xd],b3,N,g',h',W3,by rw[ez,Xm],oO,aH,f2,g2,?_⟩;have r1:=GA p D n;simp only[Wt] at h;by_cases hz:n=aL p;have r2:dS p D n=D:=GT hz;rw[r2];split<;>lia
   rw[GT (show k+n=aL f by lia)];lia
  refine bQ<|bw<|aN<|aa O<|aC<|.inr<|.inl ⟨_,_,_,_,O,O,aA.of P8,O,aC<|m7 ⟨_,O,?_⟩⟩;cases f with
  |p s=>exact absurd O (yw s)
  |k m=>
   refine gG ?_;refine bU<|fK<|aa O ⟨.inl ⟨O,_,ag.of Y⟩,aa O ⟨j,Y,bY aH,?_⟩⟩;obtain⟨bb,pp⟩:=a' u j a (aI p n) GI Y oK ha;refine aY<|cD<|aa O<|aa O ?_;refine Y' _ _ (g++[aI p n]) bb aj pp ?_ (BW u _ _ _ Y U) ?_ aP;intro x hx;rcases Z4.mp hx with z|z
   exact jD x z;rw[Ya.mp z];exact o';rw[eC,fg,gK];refine iK.app ?_;show cz (aS<|aI p n) (rK ((n:Nat):Int).toNat) (aS<|aI p n);rw[WN];cases p with
   |k m'=>show cz (rK ((n:Nat):Int).toNat) (rK n) (rK ((n:Nat):Int).toNat);rw[WN];exact PK n
   |p s=>
    have:=PM (s.cps.toList.take n);rw[Xg] at this;have hh:n<=s.length:=kb;rw[YM] at hh;rw[show min n s.cps.toList.length=n by lia] at this;exact this
   |c s=>exact absurd O o9
  |c s=>
   refine iU ?_;have kT:u M=some (.t [.s "cut",.s s]):=P8;refine bU<|fK<|aa O ⟨.inl ⟨O,_,ag.of Y⟩,bu BR O<|aq<|aa O<|aq ?_⟩;refine nS _ O (.inr<|.inl ⟨_,_,_,_,O,O,aA.of kT,O,_,O,_,O,_,O,_,O,_,O,cx ay.1.1,?_⟩);rw[Gr k (n:Int) n O];generalize hu:((s.cps.toList.drop k).take n)=A at*;have tR:aS (aI (cL (.c s) k) n)=A.map At.C:=by rw[<-hu];rfl
   have d':A.length=n:=by rw[tR,oY] at GJ;exact GJ
   rw[tR] at g1;refine⟨_,aI p n,⟨A.toArray⟩,O,nS a O ha,?_⟩;cases p with
   |c R=>exact absurd O o9
   |k m=>
    refine .inl (nS _ O (λd X y J hd GK f'=>?_));have N:=J _ _ Y;refine oS j [V.r X] N GK (cx bc) ?_;obtain⟨bb,pp⟩:=a' y j X (.c ⟨A.toArray⟩) (λb o e nn=>J b o<|GI b o e nn) N (oK.mono<|bB J) f';refine aY<|cD<|aa O<|aa O ?_;refine Y' _ _ (g++[.c ⟨A.toArray⟩]) bb aj pp ?_ (BW y _ _ _ N<|U.same J) ?_ aP;intro x hx;rcases Z4.mp hx with z|z
    exact jD x z;rw[Ya.mp z];have:=BK (Gu ay lS) gI (show n<=aL (cL (.c s) k) by rw[m4 _ k hk];exact t');rw[aeP,hu] at this;exact this;rw[eC,fg,gK,tR];refine iK.app ?_;show cz (rK ((n:Nat):Int).toNat) (A.map At.C) (A.map At.C);rw[WN,<-d'];exact PL A
   |p R=>
    have eu:(R.cps.toList.take n)=A:=by
     have GN:Xr la ((R.cps.toList.take n).map At.P++[]):=by rw[jP];exact f1
     have yy:la=[]:=(tL _ _ _).mp GN;subst yy;have o1:YX [] (aS<|aI (.p R) n)=R.cps.toList.take n:=by
      have:=BB (R.cps.toList.take n) [] [];rw[jP] at this;exact this.trans<|jP _
     rw[o1] at g1;obtain⟨b,e⟩:=yh A _ [] (by rw[jP];exact g1);have cK:=lQ _ _ g1;rw[oY] at cK;rw[e,JB] at cK;have:b=[]:=Xa.mp aH;rw[this,jP] at e;exact e
    refine .inr ⟨by show Pt.p ⟨(R.cps.toList.take n).toArray⟩=_;rw[eu],λd y J hd GK=>?_⟩;have N:=J _ _ Y;refine oS j [] N GK (cx bc) ?_;rw[jP];have X:bI y (upd y c<|.l j):=aE.upd.bx N;refine aY<|cD<|aa O<|aa O ?_;refine Y' _ _ g (λb o e nn=>by rw[aw<|aJ e S];exact J b o (GI b o e nn)) aj ((oK.mono<|bB J).mono X) jD (BW y _ _ _ N<|U.same J) ?_ (XW _);rw[eC,tR];have:=iK.app (PN A);rw[jP] at this;show cz (zs++(R.cps.toList.take n).map At.P) _ _;rw[eu];exact this
 refine iF ?_ (ZN aH);have i':k=aL f:=XZ hk (Z6 lS)
 subst i';rw[cV f<|oR ay] at iK;have e0:aS (cL f<|aL f)=[]:=Xa.mp (by rw[vF,m4 f _<|ZX _,XO]);rw[e0,yk] at G;rw[GT O] at h;exact cA<|aa O<|q c t j g fD l' zs b1 S BV jg jD W ez iK o7 G h
theorem G2(h:cr):sX h=WJ (cf h):=by
 unfold sX WJ cf;rw[List.filter_map,Y3];congr 1;funext p;cases p<;>rfl
 congr 1;funext p;cases p with
 |k n=>show(decide<|(Str.ofString "keep")≠"cut")=decide ((Str.ofString "keep")≠"put");decide
 |p n=>show(decide<|(Str.ofString "put")≠"cut")=decide ((Str.ofString "cut")≠"put");decide
 |c n=>show(decide<|(Str.ofString "cut")≠"cut")=decide ((Str.ofString "put")≠"put");decide
theorem Yp.gives(a:Yp l h r):(sX h).sum=r.length:=by
 rw[G2];exact a.mY.over
theorem ae3(p:Pt):cnt (aS p)=dq p:=by
 cases p with
 |k n=>
  have:∀m,cnt (rK m)=0:=λm=>by
   induction m with
   |zero=>rfl
   |succ m i=>exact i
  exact this _
 |p s=>
  show cnt (s.cps.toList.map At.P)=s.length;rw[YM];induction s.cps.toList with
  |nil=>rfl
  |cons c t i=>show cnt (t.map At.P)+1=_;rw[i];rfl
 |c s=>
  show cnt (s.cps.toList.map At.C)=s.length;rw[YM];induction s.cps.toList with
  |nil=>rfl
  |cons c t i=>show cnt (t.map At.C)+1=_;rw[i];rfl
theorem iL(h:cr):cnt (ah h)=ao h:=by
 induction h with
 |nil=>rfl
 |cons p h i=>
  rw[cR,BP,ae3,i];simp[ao]
theorem P9(a:h[i]?=some p):ah (h.take<|i+1)=ah (h.take i)++aS p:=by
 rw[Wa,a];simp[ah]
theorem ahH(b:h[i]?=some p):h.drop i=p::h.drop (i+1):=by
 have a:=(ZS.mp b).1;rw[Z3 a];congr 1;exact lF<|(XB a).symm.trans b
structure tU(one E' h:cr)(l r:bn):Prop where
 ok:∀p∈h,aK p
 ch:hY "" h=true
 run:Yp l h r
 res:res 0 (ah h)=sub (res 0<|ah one) 0 (res 0<|ah E')
 len:h.length<=3* (one.length+E'.length)+2
 ao:ao h<=ao one+ao E'
 aF:∃zs,cz (ah one) (ah E') zs/\nb (ah h)=nb zs
inductive BY(v:db)(H:Hp)(Q:VK)(E:XK):Prop|i(a b:Do)(xs B:db)(o E':cr)(l m r:bn)(_:v=[.r a,.r b])(_:H a=some (.l xs))(_:H b=some (.l B))(_:aD H xs o)(_:aD H B E')(_:(∀p∈o,aK p))(_:(∀p∈E',aK p))(_:hY "" o=true)(_:hY "" E'=true)(_:o.length+E'.length<=180000)(_:ao o+ao E'<=100000)(_:Yp l o m)(_:Yp m E' r)(_:∀(c:Do)(Z:Hp)(z:db)(h:cr),ar H Z->H c=none->Z c=some (.l z)->aD Z z h->tU o E' h l r->Q (.r c) Z)
theorem ae4(k:Yp l one m)(i:Yp m E' r)(c:∀p∈s,aK p)(z:s.length<=one.length+E'.length)(x:ao one+ao E'<=100000)(d:cz (ah one) (ah E') (ah s)):tU one E' (jc s) l r/\ao s<=100000:=by
 have G:=by
  have:=d.cnt;rw[iL,iL,iL] at this;exact this
 have a:=Bw c (Y4 G x);have h:=qD s a;obtain⟨A,n,Y⟩:=qF s a (Y4 G x);obtain⟨t,q⟩:=k.fits;obtain⟨e,f⟩:=i.fits;rw[<-q] at e f;obtain⟨w,v,u⟩:=ad7 d l 0 0 t e;have y:=qI s λp b=>oR (c p b);have j:=by
  have:=qH s l (λp b=>oR<|c p b) w;rw[v,f] at this;exact this
 have g:=yd s;refine⟨⟨h▸n,aH,h▸vw j,by rw[Zo y,u],aH,by rw[h,tK s a];exact G,_,d,y⟩,(Y4 G x)⟩
inductive GP(C a b w c L:Do)(H:Hp)(o E':cr)(i:Nat)(F:St)(e:Hp):Prop|i(u:sB)(g:db)(s d:cr)(f:bn)(z:lc)(_:F=[some<|.r a,some<|.r b,some<|.r w,some<|.r c,u])(_:ar H e)(_:e c=some (.l g))(_:aD e g s)(_:(∀p∈s,aK p))(_:bO C e w L d)(_:ah o=z++ah d)(_:cz z (ah<|E'.take i) (ah s))(_:Xr f (ah d))(_:Xr (YX f<|ah d) (ah<|E'.drop i))(_:s.length+d.length<=o.length+i):GP C a b w c L H o E' i F e
inductive P_(C a b w c L:Do)(u:sB)(H:Hp)(o E':cr)(m:Nat)(F:St)(e:Hp):Prop|i(g:db)(s d:cr)(f:bn)(z:lc)(_:m=d.length)(_:F=[some<|.r a,some<|.r b,some<|.r w,some<|.r c,u])(_:ar H e)(_:e c=some (.l g))(_:aD e g s)(_:(∀p∈s,aK p))(_:bO C e w L d)(_:ah o=z++ah d)(_:cz z (ah E') (ah s))(_:Xr f (ah d))(_:YX f (ah d)=[])(_:s.length+d.length<=o.length+E'.length):P_ C a b w c L u H o E' m F e
abbrev gW(K:Frag)(C:Do)(et:ut)(E:XK):ba:=aG K [("sizes",jB),("parts_behind",BU C),("neat",lJ)] [] [] [("word",C,qN C),("take",C,oW C),("left",C,m5 C)] [("Walk",C,lP C)] (et:=et) (E:=E)
theorem ae5{K:Frag}(T:qK K C):bz (BY) (λE=>gW K C et E) Pn Pm:=by
 intro vs H Q E h0;obtain⟨a,b,xs,B,h,E',l,m,r,rfl,ha,hb,gU,gf,jx,gE,c8,cY,o',GQ,tV,kx,q⟩:=h0;have lx:=KB gU;have ly:=KB gf;obtain⟨f1,f2⟩:=tV.fits;obtain⟨f3,f4⟩:=kx.fits;rw[<-f2] at f3;refine bQ<|bw<|aN<|bu jB O<|aq<|aa O<|az ⟨a,xs,h,O,ha,gU,jx,c8,aH,λt1 t s1 g6=>?_⟩;refine aC<|.inr<|.inl ⟨_,_,_,_,O,O,aA.of g6,O,?_⟩;refine aN<|bu jB O<|aq<|aa O<|az ⟨b,B,E',O,s1 _ _ hb,gf.mono<|bB s1,gE,cY,aH,λt2 u s2 tw=>?_⟩;refine aC<|.inr<|.inl ⟨_,_,_,_,O,O,aA.of tw,O,?_⟩;refine nS _ O ?_;rw[tV.gives,kx.over,W_ O];have jh:=s1.trans s2;refine aY<|BQ C (lP C) O<|aa O λw dx hw GR jy=>?_;have s3:ar u (upd (upd u dx<|.o w) w<|.i C dx []):=λb o e=>by rw[aw<|aJ e hw,aw<|aJ e GR];exact e
 have lT:=jh.trans s3;refine⟨w,dx,a,xs,h,O,aj,lT _ _ ha,gU.mono<|bB lT,jx,aH,λL H3 hL p' b3 W1=>⟨O,?_⟩⟩;have tW:ar H H3:=λb o e=>b3 b o (lT b o e) (aJ (jh b o e) hw);have fw:H w=none:=jh.free hw;refine aY<|cI<|az ⟨Y_ _,λc hc=>?_⟩;have fc:H c=none:=tW.free hc;have lR:c≠L:=by
  obtain⟨_,_,_,_,_,zq⟩:=YH W1;obtain⟨_,g',_⟩:=Z5 zq;exact(aJ g' hc).symm
 have m8:c≠w:=by
  obtain⟨_,_,_,hW⟩:=W1.ob;exact(aJ hW hc).symm
 have Qa:∀{j H5:Hp},ar H j->aE w j H5->ar H H5:=λs b d o e=>b d o (s d o e) (aJ e fw);have GS:∀{j:Hp}{o:HO},ar H j->ar H (upd j c o):=λs d o e=>by rw[aw<|aJ e fc];exact s d o e
 refine rT _ O b O (oM _ (ag.of ((V3 (o:=.l []) hc) _ _ (tW _ _ hb)))) (kU (K:=K) (a:=b) (xs:=B) (GP C a b w c L H h E')
 ⟨none,[],[],h,l,[],O,tW.trans<|V3 hc,aj,.nil,(λp hp=>by cases hp),W1.same<|V3 hc,O,.n,f1,f3,aP⟩
  (λi F j _ ⟨_,_,_,_,_,_,_,S,_,_,_,_,_,_,_,_,_⟩=>ag.of (S _ _ hb)) ?_ ?_)
 rintro i y F j hi ⟨u0,g,f,U,l',X,rfl,S,I,D,W,W4,G,M,N,fb,Qc⟩;obtain⟨p,hp,jU⟩:=gf.get hi;obtain⟨A,rfl,oZ⟩:=jU.mono (bB S);have eV:i<E'.length:=(ZS.mp hp).1;have iM:=gE p (YK hp);have Ga:=KB D;rw[ahH hp,cR] at fb;refine bQ<|bw<|aN<|aa O<|aC<|.inr<|.inl ⟨_,_,_,_,O,O,aA.of oZ,O,aC<|m7 ⟨_,O,?_⟩⟩;have N':(∀s,p≠ .p s)->av (gW K C et E) [.d<|.Q .e (.v 3) [(.l 1 [.v 2,.v 4])]]
   {nx:=GP C a b w c L H h E' (i+1),r:=Q} [some<|.r a,some<|.r b,some<|.r w,some<|.r c,some<|.r A] j:=by
  intro yw;refine bU<|fK<|aa O ⟨.inl ⟨O,_,ag.of I⟩,bu (BU C) O<|aq<|aa O<|aq<|aa O<|az ?_⟩;refine⟨w,L,_,U,p,l',_,O,W4,nS A O oZ,iM,yw,aH,N,fb,λd H5 GU n' b' l5 a' b5 hd h' Qd m' W5 k' d' j' i' BZ=>?_⟩;have oN:H5 c=some (.l g):=b5 _ _ I m8;obtain⟨_,_,_,f'⟩:=W4.ob;have q':=KB Qd;refine oS g GU oN h' (cx aH) ?_;have R:bI H5 (upd H5 c<|.l<|g++GU):=aE.upd.bx oN;refine⟨some<|.r A,g++GU,f++n',b',l5,X++a',O,GS<|Qa S b5,aj,Paired.app ((D.mono<|b5.vJ f').mono R)<|Qd.mono R,?_,W5.but aE.upd oN lR,by rw[G,k',Xm],?_,j',i',?_⟩;intro x hx;rcases Z4.mp hx with z|z
  exact W x z;exact m' x z;rw[P9 hp,fg];exact M.app d';simp only[JB];lia
 cases p with
 |p s=>
  refine gG ?_;refine bU<|fK<|aa O ⟨.inl ⟨O,_,ag.of I⟩,aa O ⟨g,I,bY aH,?_⟩⟩;have R:bI j (upd j c<|.l<|g++[V.r A]):=aE.upd.bx I;refine⟨some<|.r A,g++[V.r A],f++[.p s],U,l',X,O,GS S,aj,aD.snoc (D.mono R) (nS A O (R _ _ oZ)),?_,W4.but aE.upd I lR,G,?_,N,(tL _ _ _).mp fb,bc⟩;intro x hx;rcases Z4.mp hx with z|z
  exact W x z;rw[Ya.mp z];exact iM;rw[P9 hp,fg,gK];have:=M.app (PJ s.cps.toList);rw[jP] at this;exact this
 |k n=>exact iU (N' λs z=>by cases z)
 |c s=>exact iU (N' λs z=>by cases z)
 rintro F j ⟨u0,g,f,U,l',X,rfl,S,I,D,W,W4,G,M,N,fb,Qc⟩;rw[ly,Hd] at M;rw[ly,List.drop_length] at fb;have Y:YX l' (ah U)=[]:=fb;refine m6 (P_ C a b w c L u0 H h E')
  (oM _ ⟨g,f,U,l',X,O,O,S,I,D,W,W4,G,M,N,Y,aH⟩) ?_
 clear M N Y fb G W4 D W I S Qc f U l' X g j;rintro mm F H5 ⟨g,f,U,l',X,rfl,rfl,s5,oN,D,W,W5,G,M,N,Y,BZ⟩;have Ga:=KB D;refine bw<|vG (C:=C) O O W5<|aC<|Gy ⟨_,O,?_⟩;cases U with
 |nil=>
  refine iF ?_ O;rw[show ah []=[] from O,jP] at G;subst G;obtain⟨J,GO⟩:=ae4 tV kx W (by simp at BZ;exact BZ) GQ M;refine cA<|bu lJ O<|aq<|aa O<|az ⟨c,g,f,O,oN,D,by simp at BZ;lia,GO,λd H6 ws s6 hd h6 lU=>?_⟩;exact q d H6 ws _ (s5.trans s6) (s5.free hd) h6 lU J
 |cons p t0=>
  have iM:=W5.ok p (.head _);obtain⟨P6,yx⟩:=ku iM;have o9:∃s,p=.c s:=by
   have mE:=PR _ _ N Y;cases p with
   |c s=>exact oM s O
   |k n=>
    exfalso;have gI:(1:Int)<=n:=iM;obtain⟨c',e⟩:=mE .K (by rw[cR];refine Zh _ ?_;show At.K∈rK n.toNat;unfold rK;rw[List.mem_replicate];exact⟨aH,O⟩);cases e
   |p s=>
    exfalso;obtain⟨c0,r0,e0⟩:=jZ iM.2;obtain⟨c',e⟩:=mE (.P c0) (by rw[cR];refine Zh _ ?_;show At.P c0∈s.cps.toList.map At.P;rw[e0];exact .head _);cases e
  obtain⟨s,rfl⟩:=o9;have ta:aI (.c s) (aL<|.c s)=.c s:=cV _ trivial;have re:dS (.c s) t0 (aL<|.c s)=t0:=GT O;refine iT (nS _ (λV' Z z=>z) ?_) O;refine bU<|fK<|aa O ⟨.inl ⟨O,_,ag.of oN⟩,vI (C:=C) (k:=aL (.c s)) O O W5 yx (ZX _) (λQ' hq=>vH (C:=C) O O W5 hq) λA H6 b6 oZ uI W6=>?_⟩;rw[ta] at oZ;rw[re] at W6;have je:H6 c=some (.l g):=b6 _ _ oN m8;obtain⟨_,_,_,e'⟩:=W5.ob;simp only[Wt] at BZ;refine nT g je (bY aH) ?_;have R:bI H6 (upd H6 c<|.l<|g++[V.r A]):=aE.upd.bx je;rw[cR] at N Y G;obtain⟨la,lb,zq⟩:=Z2 (yt _ _ N);obtain⟨rfl,g1,g2,g3⟩:=YG zq;rw[g3] at Y;refine nS t0.length aP ⟨g++[V.r A],f++[.c s],t0,lb,X++aS (.c s),O,O,GS<|Qa s5 b6,aj,aD.snoc ((D.mono<|b6.vJ e').mono R) ⟨A,O,R _ _ oZ⟩,?_,W6.but aE.upd je lR,by rw[G,Xm],?_,g2,(List.append_eq_nil_iff.mp Y).2,bc⟩;intro x hx;rcases Z4.mp hx with z|z
  exact W x z;rw[Ya.mp z];exact iM;rw[fg,gK];have:=M.app (Gx s.cps.toList);rw[jP] at this;exact this
def yA(w c d:Do)(H Z:Hp):Prop:= ∀b o,H b=some o->b≠w->b≠c->b≠d->Z b=some o
theorem bO.Qe{v d:Do}{r:cr}(k:bO C H w L r)(b:yA v c d H Z)(g:H c=some (.l xs))(f:H d=some (.l B))(s:c≠L)(q:d≠L)(n:w≠v)(p:∃m dx x,H v=some (.i m dx x)):bO C Z w L r:=by
 obtain⟨m,G,u,a⟩:=p;refine k.keep λe o h z=>b e o h ?_ ?_ ?_
 all_goals obtain⟨dx,Y,Y,Y,Y,zq⟩:=YH k;obtain⟨j,t,Y⟩:=Z5 zq
 rcases z with rfl|rfl|⟨B,rfl⟩
 exact n;exact cj t a aH;exact cj h a aH;rcases z with rfl|rfl|⟨B,rfl⟩
 exact cj j g aH;exact s.symm;exact cj h g aH;rcases z with rfl|rfl|⟨B,rfl⟩
 exact cj j f aH;exact q.symm;exact cj h f aH
inductive B0(C:Do)(v:db)(H:Hp)(Q:VK)(E:XK):Prop|i(w L c d:Do)(s:Str)(b:cr)(xs B:db)(_:v=[.r w,.r c,.r d])(_:bO C H w L (.p s::b))(_:H c=some (.l xs))(_:H d=some (.l B))(_:c≠d)(_:c≠L)(_:d≠L)(_:xs.length<=100000)(_:B.length<=100000)(_:∀(a e:Do)(Z:Hp),yA w c d H Z->Z c=some (.l<|xs++[.r a])->Z d=some (.l<|B++[.r e])->Z a=some (.t [.s "put",.s s])->Z e=some (.t [.s "keep",.i (s.length:Int)])->bO C Z w L b->Q .a Z)
abbrev amT(K:Frag)(C:Do)(E:XK):ba:=aG K [("part_size",qx)] [] [] [("take",C,oW C),("left",C,m5 C)] (E:=E)
theorem afi{K:Frag}:bz (B0 C) (λE=>amT K C E) O_ O9:=by
 intro vs H Q E h0;obtain⟨w,L,c,d,s,v,xs,B,rfl,W,G,F,y,Y,P,lx,ly,q⟩:=h0;have M:=W.ok _ (.head _);obtain⟨P6,N⟩:=ku M;have R:aI (.p s) (aL<|.p s)=.p s:=cV _ trivial;have S:dS (.p s) v (aL<|.p s)=v:=GT O;refine aY<|vI (C:=C) O O W N (ZX _) (λQ' hq=>vH (C:=C) O O W hq) λa t m n uI I=>?_;rw[R] at n;rw[S] at I;obtain⟨_,_,_,D⟩:=W.ob;have X:c≠w:=cj G D aH;have B1:d≠w:=cj F D (by intro z;cases z);have k:=m _ _ G X;have Z:=m _ _ F B1;refine bU<|fK<|aa O ⟨.inl ⟨O,_,ag.of k⟩,aa O ⟨xs,k,bY (Y4 lx (Xk _ _)),?_⟩⟩;have h:upd t c (.l<|xs++[V.r a]) d=some (.l B):=by rw[aw y.symm];exact Z
 have j:upd t c (.l<|xs++[V.r a]) a=some (.t [.s "put",.s s]):=by rw[aw<|cj n k (by intro z;cases z)];exact n
 refine bU<|fK<|aa O ⟨.inl ⟨O,_,ag.of h⟩,j6<|aq<|aC<|aq<|bu qx O<|aq<|aa O<|az ⟨_,.p s,O,⟨a,O,j⟩,xX M,az ⟨cM,λg f=>?_⟩⟩⟩;have A:upd (upd t c<|.l<|xs++[V.r a]) g (.t [.s "keep",.i<|sU<|.p s]) d=some (.l B):=by rw[aw<|aJ h f];exact h
 refine nT B A (bY (Y4 ly (Xk _ _))) ?_;have J:c≠g:=λz=>by rw[<-z,aj] at f;cases f
 have u:d≠g:=aJ h f;have f2:t g=none:=by rw[aw J.symm] at f;exact f
 refine q a g _ ?_ ?_ aj ?_ ?_ ?_;intro b o e x U T;rw[aw T,aw<|aJ (m b o e x) f2,aw U];exact m b o e x;rw[aw y,aw J,aj];rw[aw<|cj j h (by intro z;cases z),aw<|aJ j f];exact j;rw[aw u.symm,aj];rfl;refine((I.but aE.upd k Y).same<|V3 f).but aE.upd A P
inductive GW(j:db)(H:Hp)(Q:VK)(E:XK):Prop|i(g v:V)(c d:Do)(f e:Pt)(xs B:db)(_:j=[g,v,.r c,.r d])(_:jA H g f)(_:jA H v e)(_:(∀s,f≠ .p s))(_:(∀s,e≠ .p s))(_:(∀s h,f=.c s->e=.c h->s=h))(_:H c=some (.l xs))(_:H d=some (.l B))(_:c≠d)(_:xs.length<=100000)(_:B.length<=100000)(_:∀(Z:Hp),(∀b o,H b=some o->b≠c->b≠d->Z b=some o)->Z c=some (.l<|xs++if OF e then [g] else [])->Z d=some (.l<|B++if OF f then [v] else [])->Q .a Z)
theorem afk{K:Frag}:bz (GW) (λE=>fU K et E) Pb Pa:=by
 intro P H Q E L;obtain⟨T,S,c,d,J,F,xs,B,rfl,⟨u,rfl,f⟩,⟨Y,rfl,j⟩,X,G,y,h,g,x,W,U,q⟩:=L;have R:∀a,upd H c (.l a) d=some (.l B):=λa=>by rw[aw x.symm];exact g
 have N:∀a b o,H b=some o->b≠c->b≠d->upd H c (.l a) b=some o:=λa b o e w Z=>by rw[aw w];exact e
 have M:∀a b o,H b=some o->b≠c->b≠d->upd H d (.l a) b=some o:=λa b o e Z v=>by rw[aw v];exact e
 have C:∀a D b o,H b=some o->b≠c->b≠d->upd (upd H c<|.l a) d (.l D) b=some o:=λa D b o e w v=>by rw[aw v,aw w];exact e
 cases J with
 |p s=>exact absurd O (X s)
 |k n=>
  refine nS _ O (.inr<|.inl ⟨_,_,_,_,O,O,aA.of f,O,_,O,?_⟩);refine nS _ O (.inr<|.inl ⟨_,_,_,_,O,O,aA.of j,O,_,O,?_⟩);cases F with
  |p s=>exact absurd O (G s)
  |k m=>
   refine p3 _ O (.inl ⟨O,oM _ (ag.of h)⟩) _ O ⟨xs,h,bY (Y4 W (Xk _ _)),?_⟩;have A:upd H c (.l<|xs++[V.r u]) u=some (.t [.s "keep",.i n]):=by rw[aw<|cj f h (by intro z;cases z)];exact f
   refine nS _ O (.inr<|.inl ⟨_,_,_,_,O,O,aA.of A,O,_,O,?_⟩);refine p3 _ O (.inl ⟨O,oM _ (ag.of<|R _)⟩) _ O ⟨B,R _,bY (Y4 U (Xk _ _)),?_⟩;exact q _ (C _ _) (by rw[aw x,aj];rfl) (by rw[aj];rfl)
  |c s=>
   refine p3 _ O (.inl ⟨O,oM _ (ag.of g)⟩) _ O ⟨B,g,bY (Y4 U (Xk _ _)),?_⟩;exact q _ (M _) (by rw[aw x,h];simp[OF]) (by rw[aj];rfl)
 |c s=>
  refine nS _ O (.inr<|.inl ⟨_,_,_,_,O,O,aA.of f,O,_,O,?_⟩);refine nS _ O (.inr<|.inl ⟨_,_,_,_,O,O,aA.of j,O,_,O,?_⟩);cases F with
  |p s=>exact absurd O (G s)
  |k m=>
   refine nS _ O (.inr<|.inl ⟨_,_,_,_,O,O,aA.of j,O,_,O,?_⟩);refine p3 _ O (.inl ⟨O,oM _ (ag.of h)⟩) _ O ⟨xs,h,bY (Y4 W (Xk _ _)),?_⟩;have A:upd H c (.l<|xs++[V.r u]) u=some (.t [.s "cut",.s s]):=by rw[aw<|cj f h (by intro z;cases z)];exact f
   refine nS _ O (.inr<|.inl ⟨_,_,_,_,O,O,aA.of A,O,_,O,?_⟩);exact q _ (N _) (by rw[aj];rfl) (by rw[R];simp[OF])
  |c I=>
   have e:=y s I O O;subst e;refine nS _ O (.inr<|.inl ⟨_,_,_,_,O,O,aA.of f,O,_,O,.inr<|.inl ⟨_,_,_,_,O,O,aA.of j,O,_,O,?_⟩⟩);rw[yE,W_ (show(Pt.c s).val=(Pt.c s).val from O)];exact q _ (λb o e Z Z=>e) (by rw[h];simp[OF]) (by rw[g];simp[OF])
theorem afm{a:RE}{Q:wv}(h:a_ W a F H λc t=>if c=true then Q true t else a_ W b F t Q):a_ W (.o [a,b]) F H Q:=h
inductive dm:lc->lc->lc->lc->Prop
 |n:dm [] [] [] []
 |P {c xs B os ts}:dm xs B os ts->dm (.P c::xs) B (.P c::os) (.K::ts)
 |p {c xs B os ts}:(∀d z,xs≠ .P d::z)->dm xs B os ts->dm xs (.P c::B) (.K::os) (.P c::ts)
 |k {xs B os ts}:dm xs B os ts->dm (.K::xs) (.K::B) (.K::os) (.K::ts)
 |c {c xs B os ts}:dm xs B os ts->dm (.K::xs) (.C c::B) os (.C c::ts)
 |C {c xs B os ts}:dm xs B os ts->dm (.C c::xs) (.K::B) (.C c::os) ts
 |a {c xs B os ts}:dm xs B os ts->dm (.C c::xs) (.C c::B) os ts
def ZW(a b o t:lc):Prop:=cX a b o t/\∀xs B s ts,dm xs B s ts->dm (a++xs) (b++B) (o++s) (t++ts)
theorem afn(s:bn):ZW (s.map .P) [] (s.map .P) (rK s.length):=⟨PV s,by
 induction s with
 |nil=>intro xs B o ts h;exact h
 |cons c s i=>intro xs B o ts h;exact .P (i xs B o ts h)⟩
theorem afo(n:Nat):ZW (rK n) (rK n) (rK n) (rK n):=⟨PY n,by
 induction n with
 |zero=>intro xs B o ts h;exact h
 |succ n i=>intro xs B o ts h;exact .k (i xs B o ts h)⟩
theorem afp(s:bn):ZW (rK s.length) (s.map .C) [] (s.map .C):=⟨PZ s,by
 induction s with
 |nil=>intro xs B o ts h;exact h
 |cons c s i=>intro xs B o ts h;exact .c (i xs B o ts h)⟩
theorem Zm(s:bn):ZW (s.map .C) (rK s.length) (s.map .C) []:=⟨P0 s,by
 induction s with
 |nil=>intro xs B o ts h;exact h
 |cons c s i=>intro xs B o ts h;exact .C (i xs B o ts h)⟩
theorem afr(s:bn):ZW (s.map .C) (s.map .C) [] []:=⟨P2 s,by
 induction s with
 |nil=>intro xs B o ts h;exact h
 |cons c s i=>intro xs B o ts h;exact .a (i xs B o ts h)⟩
theorem Qh{xs B o:lc}(h:∀d z,xs≠ .P d::z)(a:dm xs B o ts):∀s:bn,dm xs (s.map .P++B) (rK s.length++o) (s.map .P++ts)
 |[]=>a
 |c::s=>.p h (Qh h a s)
def ni(xs B a b c z o t:lc):Prop:=cX c z o t/\∀s ts,dm a b s ts->dm xs B (o++s) (t++ts)
theorem ni.seg{xs B a d o t:lc}(h:ni xs B (c++a) (b1++b) d z o e)(s:ZW c b1 f t):ni xs B a b (d++c) (z++b1) (o++f) (e++t):=
 ⟨h.1.app s.1,λg ts p=>by rw[Xm,Xm];exact h.2 _ _ (s.2 _ _ _ _ p)⟩
theorem ni.p2{xs B a b c z o t:lc}{s:bn}(n:∀d e,a≠ .P d::e)(h:ni xs B a (s.map .P++b) c z o t):ni xs B a b c (z++s.map .P) (o++rK s.length) (t++s.map .P):=
 ⟨by have:=h.1.app (PX s);rw[jP] at this;exact this,λf ts p=>by rw[Xm,Xm];exact h.2 _ _ (Qh n p s)⟩
theorem afs(o:∀p∈h,aK p)(f:qM h≠"put"):∀d a,ah h≠ .P d::a:=by
 intro d a;cases h with
 |nil=>intro z;cases z
 |cons p t=>
  have b:=o p (.head _);cases p with
  |p s=>exact absurd O f
  |k n=>
   obtain⟨m,e⟩:∃m,n.toNat=m+1:=⟨n.toNat - 1,by have:1<=n:=b;lia⟩;show rK n.toNat++_≠_;rw[e];intro z;cases z
  |c s=>
   obtain⟨c,r,e⟩:=jZ b.2;show s.cps.toList.map At.C++_≠_;rw[e];intro z;cases z
structure XJ(one E' h qs:cr)(l m n:bn):Prop where
 qO:∀p∈h,aK p
 qP:∀p∈qs,aK p
 Qi:hY "" h=true
 Qj:hY "" qs=true
 runs:∃r,Yp n h r/\Yp m qs r
 yC:h.length<=3* (one.length+E'.length)+2
 yD:qs.length<=3* (one.length+E'.length)+2
 Qk:ao h<=ao one
 aft:ao qs<=ao E'
 pas:∃os ts,cX (ah one) (ah E') os ts/\nb (ah h)=nb os/\nb (ah qs)=nb ts
 Ql:∃os ts,dm (ah one) (ah E') os ts/\nb (ah h)=nb os/\nb (ah qs)=nb ts
theorem Qm(a:∀p∈h,aK p)(t:ao h<=100000)(c:Xr l (ah h)):(∀p∈jc h,aK p)/\hY "" (jc h)=true/\Yp l (jc h) (YX l<|ah h)/\ao (jc h)=ao h:=by
 have o:=Bw a t;obtain⟨d,g,Y⟩:=qF h o t;rw[(qD h o)];exact⟨g,d,vw<|qH h l (λp b=>oR<|a p b) c,tK h o⟩
theorem afu{n:bn}(k:Yp l one m)(j:Yp l E' n)(c:∀p∈r1,aK p)(b:∀p∈r2,aK p)(l1:r1.length<=one.length+E'.length)(l2:r2.length<=one.length+E'.length)(E:ao one+ao E'<=100000)(d:cX (ah one) (ah E') (ah r1) (ah r2))(i:dm (ah one) (ah E') (ah r1) (ah r2)):XJ one E' (jc r1) (jc r2) l m n/\ao r1<=100000/\ao r2<=100000:=by
 obtain⟨w,v⟩:=d.P4;rw[iL,iL] at w v;obtain⟨u,t⟩:=k.fits;obtain⟨s,q⟩:=j.fits;obtain⟨f,e,g⟩:=d.fits l u s;rw[t] at f g;rw[q] at e g;obtain⟨B,A,z,H⟩:=Qm c (Y4 (YW w) E) e;obtain⟨y,x,G,F⟩:=Qm b (Y4 (x4 v) E) f;have D:=yd r1;have C:=yd r2;refine⟨⟨B,y,A,x,nS _ z aH,aH,aH,(Y4 (XX H) w),(Y4 (XX F) v),oG _ _ d (qI r1 λp h=>oR (c p h)) (qI r2 λp h=>oR (b p h)),oG _ _ i (qI r1 λp h=>oR (c p h)) (qI r2 λp h=>oR (b p h))⟩,(Y4 (YW w) E),(Y4 (x4 v) E)⟩
inductive B3(v:db)(H:Hp)(Q:VK)(E:XK):Prop|i(a b:Do)(xs B:db)(o E':cr)(l m n:bn)(_:v=[.r a,.r b])(_:H a=some (.l xs))(_:H b=some (.l B))(_:aD H xs o)(_:aD H B E')(_:(∀p∈o,aK p))(_:(∀p∈E',aK p))(_:hY "" o=true)(_:hY "" E'=true)(_:o.length+E'.length<=30000)(_:ao o+ao E'<=100000)(_:Yp l o m)(_:Yp l E' n)(_:∀(e c d:Do)(Z:Hp)(z w:db)(h qs:cr),ar H Z->H c=none->H d=none->c≠d->Z e=some (.t [.r c,.r d])->Z c=some (.l z)->Z d=some (.l w)->aD Z z h->aD Z w qs->XJ o E' h qs l m n->Q (.r e) Z)
abbrev anJ(C:Do):wr:=[("sizes",jB),("put_first",B0 C),("share",GW),("neat",lJ)]
abbrev akN(C:Do):List (Str×Do×Sp):=[("word",C,qN C),("left",C,m5 C),("take",C,oW C)]
theorem Qn{t:cr}:(qM (p::t) !="")=true:=by
 cases p<;>rfl
inductive GY(C a b w v c d L M:Do)(H:Hp)(o E':cr)(n:Nat)(F:St)(e:Hp):Prop|i(u:sB)(z s:db)(j h g f:cr)(m k:lc)(q:bn)(_:n=(ah g).length+(ah f).length)(_:F=[some<|.r a,some<|.r b,some<|.r w,some<|.r v,some<|.r c,some<|.r d,u])(_:ar H e)(_:e c=some (.l z))(_:e d=some (.l s))(_:aD e z j)(_:aD e s h)(_:(∀p∈j,aK p))(_:(∀p∈h,aK p))(_:bO C e w L g)(_:bO C e v M f)(_:ah o=m++ah g)(_:ah E'=k++ah f)(_:ni (ah o) (ah E') (ah g) (ah f) m k (ah j) (ah h))(_:Xr q (ah g))(_:Xr q (ah f))(_:j.length+g.length+f.length<=o.length+E'.length)(_:h.length+g.length+f.length<=o.length+E'.length):GY C a b w v c d L M H o E' n F e
abbrev hG(K:Frag)(C:Do)(et:ut)(E:XK):ba:=aG K (anJ C) [] [] (akN C) [("Walk",C,lP C)] (et:=et) (E:=E)
theorem afv{K:Frag}(T:qK K C):bz (B3) (λE=>hG K C et E) Pd Pc:=by
 intro vs H Q E h0;obtain⟨a,b,xs,B,D,E',l,m,n,rfl,ha,hb,gU,gf,jx,gE,c8,cY,G',GQ,tV,kx,q⟩:=h0;have lx:=KB gU;have ly:=KB gf;obtain⟨f1,f2⟩:=tV.fits;obtain⟨f3,f4⟩:=kx.fits;refine bQ<|bw<|aN<|bu jB O<|aq<|aa O<|az ⟨a,xs,D,O,ha,gU,jx,c8,aH,λt1 t s1 g6=>?_⟩;refine aC<|.inr<|.inl ⟨_,_,_,_,O,O,aA.of g6,O,?_⟩;refine aN<|bu jB O<|aq<|aa O<|az ⟨b,B,E',O,s1 _ _ hb,gf.mono<|bB s1,gE,cY,aH,λt2 u s2 tw=>?_⟩;refine aC<|.inr<|.inl ⟨_,_,_,_,O,O,aA.of tw,O,?_⟩;show ∃k,V.b (true ^^ decide (V.i (WJ D).sum=V.i (WJ E').sum))=V.b k/\_;refine nS _ O ?_;rw[tV.over,kx.over,W_ O];have jh:=s1.trans s2;refine aY<|BQ C (lP C) O<|aa O λw dx hw GR jy=>?_;have s3:ar u (upd (upd u dx<|.o w) w<|.i C dx []):=λb o e=>by rw[aw<|aJ e hw,aw<|aJ e GR];exact e
 have lT:=jh.trans s3;refine⟨w,dx,a,xs,D,O,aj,lT _ _ ha,gU.mono<|bB lT,jx,aH,λL H3 hL U' b3 W1=>⟨O,?_⟩⟩;have tW:ar H H3:=λb o e=>b3 b o (lT b o e) (aJ (jh b o e) hw);have fw:H w=none:=jh.free hw;refine aY<|BQ C (lP C) O<|aa O λv GZ hv A' Z'=>?_;have s4:ar H3 (upd (upd H3 GZ<|.o v) v<|.i C GZ []):=λb o e=>by rw[aw<|aJ e hv,aw<|aJ e A'];exact e
 have vL:=tW.trans s4;refine⟨v,GZ,b,B,E',O,aj,vL _ _ hb,gf.mono<|bB vL,gE,aH,λM H5 hM S' b5 V5=>⟨O,?_⟩⟩;have Qo:ar H3 H5:=λb o e=>b5 b o (s4 b o e) (aJ e hv);have G0:=tW.trans Qo;have fv:H v=none:=tW.free hv;have W5:=W1.same Qo;obtain⟨_,_,_,G1⟩:=W1.ob;have B4:w≠v:=aJ G1 hv;refine aY<|cI<|az ⟨Y_ _,λc hc=>?_⟩;refine aY<|cI<|az ⟨Y_ _,λd hd=>?_⟩;have kz:c≠d:=λz=>by rw[<-z,aj] at hd;cases hd
 have vM:H5 d=none:=by rw[aw kz.symm] at hd;exact hd
 have fc:H c=none:=G0.free hc;have fd:H d=none:=G0.free vM;have G:∀{H4:Hp}{w' L':Do}{rs:cr},bO C H4 w' L' rs->∃P,H4 L'=some (.l P):=λ⟨_,P,_,_,_,_,h0,_⟩=>oM P h0;obtain⟨_,Qp⟩:=G W5;obtain⟨_,Qq⟩:=G V5;have lR:c≠L:=(aJ Qp hc).symm;have pd:c≠M:=(aJ Qq hc).symm;have yB:d≠L:=(aJ Qp vM).symm;have G3:d≠M:=(aJ Qq vM).symm;have s6:ar H5 (upd (upd H5 c<|.l []) d<|.l []):=(V3 hc).trans (V3 hd);refine m6 (GY C a b w v c d L M H D E')
  (oM _ ⟨none,[],[],[],[],D,E',[],[],l,O,O,G0.trans s6,(by rw[aw kz,aj]),aj,.nil,.nil,(λp hp=>by cases hp),(λp hp=>by cases hp),W5.same s6,V5.same s6,O,O, ⟨.n,λ_ _ h0=>h0⟩,f1,f3,aP,aP⟩) ?_
 rintro mm F H6 ⟨Y,P,ws,r1,r2,R,N,z1,z2,l',rfl,rfl,yG,je,pf,hz,lU,o1,o2,W,X,e1,e2,nj,fa,fb,yC,yD⟩;have Ga:=KB hz;have An:=KB lU;obtain⟨W',iw,ow,tX⟩:=W.ob;obtain⟨X',iv,ov,B5⟩:=X.ob;have m8:c≠w:=cj je tX (by intro z;cases z);have Qr:c≠v:=cj je B5 (by intro z;cases z);have B1:d≠w:=cj pf tX (by intro z;cases z);have Qs:d≠v:=cj pf B5 (by intro z;cases z);have Y':R=[]->N=[]->av (hG K C et E) [.r<|.T [(.l 3 [.v 4]),(.l 3 [.v 5])]] (Dn Q) [some<|.r a,some<|.r b,some<|.r w,some<|.r v,some<|.r c,some<|.r d,Y] H6:=by
  rintro rfl rfl;rw[show ah []=[] from O,jP] at e1 e2;subst e1 e2;simp only[Xp] at yC yD;have hO:=nj.2 [] [] .n;rw[jP,jP] at hO;have nj:=nj.1;obtain⟨J,t1,t2⟩:=afu tV kx o1 o2 yC yD GQ nj hO;refine cA<|j6<|aq<|bu lJ O<|aq<|aa O<|az ⟨c,P,r1,O,je,hz,aH,t1,λe A f' s7 h h7 q'=>?_⟩;refine aq<|bu lJ O<|aq<|aa O<|az ⟨d,ws,r2,O,s7 _ _ pf,lU.mono<|bB s7,aH,t2,λg H8 d' s8 hg h8 p'=>?_⟩;refine az ⟨cM,λf ht=>?_⟩;have s9:=V3 (o:=.t [V.r e,V.r g]) ht;have o':e≠g:=aJ h7 hg;exact q f e g _ f' d' _ _ (yG.trans<|s7.trans<|s8.trans s9) (yG.free h) ((yG.trans s7).free hg) o' aj (s9 _ _<|s8 _ _ h7) (s9 _ _ h8) ((q'.mono<|bB s8).mono<|bB s9) (p'.mono<|bB s9) J
 have a':(R≠ []\/N≠ [])->∃N0:St->Hp->Prop,(∀V' Z,N0 V' Z->∃m',m'< (ah R).length+(ah N).length/\GY C a b w v c d L M H D E' m' V' Z)/\
   av (hG K C et E) [.i (.p .Eq (.a 0 "word" (.v 2) []) (.c (.s "put"))) [.d (.l 1 [.v 2,.v 4,.v 5])] [.i (.p .Eq (.a 0 "word" (.v 3) []) (.c (.s "put"))) [.d (.l 1 [.v 3,.v 5,.v 4])] [.a 6 (.t .m [(.a 1 "left" (.v 2) []),(.a 1 "left" (.v 3) [])]),
    .d (.l 2 [(.a 2 "take" (.v 2) [.v 6]),(.a 2 "take" (.v 3) [.v 6]),.v 4,.v 5])]]]
    {{Dn Q with nx:=av (hG K C et E) [.r<|.T [(.l 3 [.v 4]),(.l 3 [.v 5])]] (Dn Q)} with nx:=N0,c:=N0,bk:=av (hG K C et E) [.r<|.T [(.l 3 [.v 4]),(.l 3 [.v 5])]] (Dn Q)} [some<|.r a,some<|.r b,some<|.r w,some<|.r v,some<|.r c,some<|.r d,Y] H6:=by
  intro F';refine nS _ (λV' Z z=>z) ?_;have Qt:∀{A:Hp}{x:Do},H x=none->yA x c d H6 A->ar H A:=λ{A x} hx b e o h=>b e o (yG e o h) (aJ h hx) (aJ h fc) (aJ h fd);have Qu:∀{A:Hp}{x:Do}{C' GV b'},H6 x=some (.i C' GV b')->yA x c d H6 A->bI H6 A:=λ{A x C' GV b'} hx b e vs h=>b e _ h (cj h hx (by intro z;cases z)) (cj h je (by intro z;cases z)) (cj h pf (by intro z;cases z));have vN:∀{r:cr}{x:Pt},(∀p∈r,aK p)->aK x->∀p∈r++[x],aK p:=λ{r x} h0 hx p hp=>by
   rcases Z4.mp hp with z|z
   exact h0 p z;rw[Ya.mp z];exact hx
  refine bQ<|bw<|vG (C:=C) O O W<|aC<|m7 ⟨_,O,?_⟩;by_cases jd:qM R="put";obtain⟨s,f,rfl⟩:∃s f,R=.p s::f:=by
   cases R with
   |nil=>exact absurd (show(Str.ofString "")="put" from jd) aQ
   |cons p f=>
    cases p with
    |p s=>exact rP s f O
    |k n=>exact absurd (show(Str.ofString "keep")="put" from jd) aQ
    |c n=>exact absurd (show(Str.ofString "cut")="put" from jd) aQ
  have iM:=W.ok _ (.head _);refine iT ?_ O;refine bU<|bu (B0 C) O<|aq<|aa O<|aq<|aa O<|aq<|aa O<|az ?_;simp only[Wt] at yC yD;refine⟨w,L,c,d,s,f,P,ws,O,W,je,pf,kz,lR,yB,aH,aH,λU S A I G4 G5 G6 G7 W7=>?_⟩;have tt:=Qu tX I;have V7:bO C A v M N:=X.Qe I je pf pd G3 B4.symm (rP _ _ ⟨_,tX⟩);rw[cR] at e1 fa;have cK:=vF (.p s);have oJ:=(ku iM).2;refine nS _ ?_ ⟨Y,P++[V.r U],ws++[V.r S],r1++[.p s],r2++[.k (s.length:Int)],f,N,z1++aS (.p s),z2,l',O,O,Qt fw I,G4,G5,aD.snoc (p:=.p s) (hz.mono tt) (nS U O G6),aD.snoc (p:=.k (s.length:Int)) (lU.mono tt) (nS S O G7),vN o1 iM,vN (x:=.k (s.length:Int)) o2 (show(1:Int)<= (s.length:Int) by have:1<=s.length:=oJ;lia),W7,V7,by rw[e1,Xm],e2,?_,(tL _ _ _).mp fa,fb,bc,bc⟩;rw[cR,JB];lia;rw[cR] at nj;have:=ni.seg (b1:=[]) nj (afn s.cps.toList);rw[jP] at this;rw[fg,fg,gK,gK];have ek:aS (.k (s.length:Int))=rK s.cps.toList.length:=by show rK ((s.length:Int)).toNat=_;rw[WN,YM]
  rw[ek];exact this;refine iF ?_ (beq_eq_false_iff_ne.mpr jd);refine bQ<|bw<|vG (C:=C) O O X<|aC<|m7 ⟨_,O,?_⟩;by_cases kf:qM N="put";obtain⟨s,f,rfl⟩:∃s f,N=.p s::f:=by
   cases N with
   |nil=>exact absurd (show(Str.ofString "")="put" from kf) aQ
   |cons p f=>
    cases p with
    |p s=>exact rP s f O
    |k n=>exact absurd (show(Str.ofString "keep")="put" from kf) aQ
    |c n=>exact absurd (show(Str.ofString "cut")="put" from kf) aQ
  have iM:=X.ok _ (.head _);refine iT ?_ O;refine bU<|bu (B0 C) O<|aq<|aa O<|aq<|aa O<|aq<|aa O<|az ?_;simp only[Wt] at yC yD;refine⟨v,M,d,c,s,f,ws,P,O,X,pf,je,kz.symm,G3,pd,aH,aH,λU S A y' G5 G4 G6 G7 V7=>?_⟩;have I:yA v c d H6 A:=λe o h n1 n2 n3=>y' e o h n1 n3 n2;have tt:=Qu B5 I;have W7:bO C A w L R:=W.Qe I je pf lR yB B4 (rP _ _ ⟨_,B5⟩);rw[cR] at e2 fb;have cK:=vF (.p s);have oJ:=(ku iM).2;refine nS _ ?_ ⟨Y,P++[V.r S],ws++[V.r U],r1++[.k (s.length:Int)],r2++[.p s],R,f,z1,z2++aS (.p s),l',O,O,Qt fv I,G4,G5,aD.snoc (p:=.k (s.length:Int)) (hz.mono tt) (nS S O G7),aD.snoc (p:=.p s) (lU.mono tt) (nS U O G6),vN (x:=.k (s.length:Int)) o1 (show(1:Int)<= (s.length:Int) by have:1<=s.length:=oJ;lia),vN o2 iM,W7,V7,e1,by rw[e2,Xm],?_,fa,(tL _ _ _).mp fb,bc,bc⟩;rw[cR,JB];lia;rw[cR] at nj;have:=ni.p2 (s:=s.cps.toList) (afs W.ok jd) nj;rw[fg,fg,gK,gK];have ek:aS (.k (s.length:Int))=rK s.cps.toList.length:=by show rK ((s.length:Int)).toNat=_;rw[WN,YM]
  rw[ek];exact this;refine iF ?_ (beq_eq_false_iff_ne.mpr kf);have B6:∀{p:Pt}{f:cr},qM (p::f)≠"put"->∀s,p≠ .p s:=λ{p f} h0 s z=>by subst z;exact h0 O
  have Qw:∀{p:Pt}{f:cr},aK p->(∀s,p≠ .p s)-> ¬Xr [] (ah (p::f)):=by
   intro p f hp hn hf;have hl:=lQ _ _ hf;rw[cR,yr] at hl;have h1:=(ku hp).2;have:bC (aS p)=aL p:=by
    cases p with
    |k n=>exact yu _
    |p s=>exact absurd O (hn s)
    |c s=>show bC (s.cps.toList.map At.C)=s.length;rw[oY,YM]
   simp only[Xp] at hl;lia
  obtain⟨x,f,ex⟩:∃x f,R=x::f:=by
   cases R with
   |cons x f=>exact rP x f O
   |nil=>
    exfalso;have eY:l'=[]:=fa;subst eY;cases N with
    |nil=>rcases F' with z|z<;>exact z O
    |cons y j=>exact Qw (X.ok y<|.head _) (B6 kf) fb
  subst ex;obtain⟨y,j,ey⟩:∃y j,N=y::j:=by
   cases N with
   |cons y j=>exact rP y j O
   |nil=>
    exfalso;have eY:l'=[]:=fb;subst eY;exact Qw (W.ok x<|.head _) (B6 jd) fa
  subst ey;have nx:=B6 jd;have ny:=B6 kf;have Qx:=W.ok x (.head _);have Qy:=X.ok y (.head _);obtain⟨K',J'⟩:=ku Qx;obtain⟨I',H'⟩:=ku Qy;obtain⟨k,hk⟩:∃k,k=min (aL x) (aL y):=oM _ O;have k1:1<=k:=by lia
  have k2:k<=aL x:=by lia
  have k3:k<=aL y:=by lia
  have c':(if (aL y:Int) < (aL x:Int) then (aL y:Int) else (aL x:Int))=(k:Int):=by split<;>lia
  refine aY<|MI<|aq<|vH (C:=C) O O W<|aq<|vH (C:=C) O O X<|az ?_;show av _ _ _ ([some<|.r a,some<|.r b,some<|.r w,some<|.r v,some<|.r c,some<|.r d,Y].set 6 (some<|V.i (if (aL y:Int) < (aL x:Int) then (aL y:Int) else (aL x:Int)))) H6;rw[c'];refine bU<|bu GW O<|aq<|vI (C:=C) (k:=k) O O W k1 k2 (λQ' hq=>aa O hq) λU A I gM N' W7=>?_;have V7:bO C A v M (y::j):=X.keep λe o h z=>I e o h (by
   rcases z with rfl|rfl|⟨_,rfl⟩
   exact B4.symm;obtain⟨_,r'⟩:=G X;exact cj r' tX (by intro z;cases z);exact cj h tX (by intro z;cases z))
  refine aq<|vI (C:=C) (k:=k) O O V7 k1 k3 (λQ' hq=>aa O hq) λS H8 b8 ig M' V8=>?_;obtain⟨_,_,_,P'⟩:=W7.ob;obtain⟨_,_,_,B7⟩:=V7.ob;have W8:bO C H8 w L (dS x f k):=W7.keep λe o h z=>b8 e o h (by
   rcases z with rfl|rfl|⟨_,rfl⟩
   exact B4;obtain⟨_,B9⟩:=G W7;exact cj B9 B7 (by intro z;cases z);exact cj h B7 (by intro z;cases z))
  have Qz:=b8 _ _ gM (cj gM B7 (by intro z;cases z));have QC:=b8 _ _ (I _ _ je m8) Qr;have QD:=b8 _ _ (I _ _ pf B1) Qs;have g':bI H6 H8:=(I.vJ tX).trans (b8.vJ B7);refine aq<|aa O<|aq<|aa O<|az ?_;have eA:=BS f k2;have eB:=BS j k3;rw[eA] at fa;rw[eB] at fb;obtain⟨la,lb,rfl,g1,g2,g3⟩:=yt _ _ fa;have yy:la.length=k:=by
   rw[lQ _ _ g1];have e:=yp x k k2;cases x with
   |k n=>exact yu k
   |p s=>exact absurd O (nx s)
   |c s=>
    have e':(⟨(s.cps.toList.take k).toArray⟩:Str).length=k:=e;rw[lO] at e';show bC ((s.cps.toList.take k).map At.C)=k;rw[oY];exact e'
  have i':bC (aS<|aI y k)=k:=by
   have e:=yp y k k3;cases y with
   |k n=>exact yu k
   |p s=>exact absurd O (ny s)
   |c s=>
    have e':(⟨(s.cps.toList.take k).toArray⟩:Str).length=k:=e;rw[lO] at e';show bC ((s.cps.toList.take k).map At.C)=k;rw[oY];exact e'
  obtain⟨g4,g5⟩:=PQ fb (by rw[yy,i']);have yH:∀{s:Str}{Y:bn},Xr Y (aS<|.c s)->s.cps.toList=Y:=by
   intro s Y hu;obtain⟨b,rfl⟩:=yh s.cps.toList Y [] (by rw[jP];exact hu);have h1:=lQ _ _ hu;have e1:bC (aS<|.c s)=s.cps.toList.length:=oY _;rw[e1,JB] at h1;have:b=[]:=Xa.mp aH;rw[this,jP]
  have k':=BK Qx k1 k2;have j':=BK Qy k1 k3;simp only[Wt] at yC yD;refine⟨.r U,.r S,c,d,aI x k,aI y k,P,ws,O,nS U O Qz,nS S O ig,?_,?_,?_,QC,QD,kz,aH,aH,λH9 b9 v' u'=>?_⟩;intro s z;cases x<;>first|exact absurd O (nx _)|cases z
  intro s z;cases y<;>first|exact absurd O (ny _)|cases z
  intro s s' z z';rw[z] at g1;rw[z'] at g4;exact ja<|(yH g1).trans (yH g4).symm;have yI:∀{e:Do}{o:HO},H8 e=some o->(e=w\/e=L\/e=v\/e=M\/∃vs,o=.t vs)->H9 e=some o:=by
   intro e o h z;obtain⟨_,nk⟩:=G W8;obtain⟨_,T'⟩:=G V8;obtain⟨_,_,_,O'⟩:=W8.ob;obtain⟨_,_,_,R'⟩:=V8.ob;refine b9 e o h ?_ ?_;rcases z with rfl|rfl|rfl|rfl|⟨vs,rfl⟩
   exact m8.symm;exact lR.symm;exact Qr.symm;exact pd.symm;exact cj h QC (by intro z;cases z);rcases z with rfl|rfl|rfl|rfl|⟨vs,rfl⟩
   exact B1.symm;exact yB.symm;exact Qs.symm;exact G3.symm;exact cj h QD (by intro z;cases z)
  have W9:bO C H9 w L (dS x f k):=W8.keep λe o h z=>yI h (by
   rcases z with z|z|z
   exact .inl z;exact .inr (.inl z);exact .inr (.inr (.inr (.inr z))))
  have V9:bO C H9 v M (dS y j k):=V8.keep λe o h z=>yI h (by
   rcases z with z|z|z
   exact .inr (.inr<|.inl z);exact .inr (.inr<|.inr<|.inl z);exact .inr (.inr (.inr (.inr z))))
  have B_:bI H6 H9:=λe vs h=>yI (g' e vs h) (.inr<|.inr<|.inr<|.inr ⟨vs,O⟩);have D':H9 U=some (.t [.s (aI x k).word,(aI x k).val]):=yI Qz (.inr<|.inr<|.inr<|.inr ⟨_,O⟩);have B':H9 S=some (.t [.s (aI y k).word,(aI y k).val]):=yI ig (.inr<|.inr<|.inr<|.inr ⟨_,O⟩);have h':ar H H9:=λe o h=>b9 e o (b8 e o (I e o (yG e o h)<|aJ h fw)<|aJ h fv) (aJ h fc) (aJ h fd);have EO:=GB f k1 k2;have ER:=GB j k1 k3;have bN:(dS x f k).length+(dS y j k).length<=f.length+j.length+1:=by
   have r1:=GA x f k;have r2:=GA y j k;by_cases hz:k=aL x;have e:dS x f k=f:=GT hz;rw[e];lia;have FW:k=aL y:=by lia
   have e:dS y j k=j:=GT FW;rw[e];lia
  refine nS _ (Nat.add_lt_add EO ER) ⟨some<|.i (k:Int),P++(if OF (aI y k) then [V.r U] else []),ws++(if OF (aI x k) then [V.r S] else []),r1++(if OF (aI y k) then [aI x k] else []),r2++(if OF (aI x k) then [aI y k] else []),dS x f k,dS y j k,z1++aS (aI x k),z2++aS (aI y k),lb,O,O,h',v',u',?_,?_,?_,?_,W9,V9,by rw[e1,eA,Xm],by rw[e2,eB,Xm],?_,g2,g5,?_,?_⟩;split;exact aD.snoc (hz.mono B_) (nS U O D');rw[jP,jP];exact hz.mono B_;split;exact aD.snoc (lU.mono B_) (nS S O B');rw[jP,jP];exact lU.mono B_;split;exact vN o1 k';rw[jP];exact o1;split;exact vN o2 j';rw[jP];exact o2;rw[fg,fg];rw[eA,eB] at nj;refine ni.seg nj ?_;cases x with
  |p s=>exact absurd O (nx s)
  |k n=>
   have QE:aS (aI (.k n) k)=rK k:=by show rK ((k:Nat):Int).toNat=_;rw[WN]
   cases y with
   |p s=>exact absurd O (ny s)
   |k n'=>
    have G8:aS (aI (.k n') k)=rK k:=by show rK ((k:Nat):Int).toNat=_;rw[WN]
    rw[show(if OF (aI (.k n') k)=true then [aI (.k n) k] else [])=[aI (.k n) k] from O,show(if OF (aI (.k n) k)=true then [aI (.k n') k] else [])=[aI (.k n') k] from O,gK,gK,QE,G8];exact afo k
   |c s=>
    rw[show(if OF (aI (.c s) k)=true then [aI (.k n) k] else [])=[] from O,show(if OF (aI (.k n) k)=true then [aI (.c s) k] else [])=[aI (.c s) k] from O,gK,QE];have ec:aS (aI (.c s) k)=la.map At.C:=by
     have:=yH (s:=⟨(s.cps.toList.take k).toArray⟩) g4;show(s.cps.toList.take k).map At.C=_;rw[show s.cps.toList.take k=la from this]
    rw[ec,<-yy];exact afp la
  |c s=>
   have ec:aS (aI (.c s) k)=la.map At.C:=by
    have:=yH (s:=⟨(s.cps.toList.take k).toArray⟩) g1;show(s.cps.toList.take k).map At.C=_;rw[show s.cps.toList.take k=la from this]
   cases y with
   |p s=>exact absurd O (ny s)
   |k n'=>
    have G8:aS (aI (.k n') k)=rK k:=by show rK ((k:Nat):Int).toNat=_;rw[WN]
    rw[show(if OF (aI (.k n') k)=true then [aI (.c s) k] else [])=[aI (.c s) k] from O,show(if OF (aI (.c s) k)=true then [aI (.k n') k] else [])=[] from O,gK,G8,ec,<-yy];exact Zm la
   |c s'=>
    have x':aS (aI (.c s') k)=la.map At.C:=by
     have:=yH (s:=⟨(s'.cps.toList.take k).toArray⟩) g4;show(s'.cps.toList.take k).map At.C=_;rw[show s'.cps.toList.take k=la from this]
    rw[show(if OF (aI (.c s') k)=true then [aI (.c s) k] else [])=[] from O,show(if OF (aI (.c s) k)=true then [aI (.c s') k] else [])=[] from O,ec,x'];exact afr la
  have:(r1++(if OF (aI y k) then [aI x k] else [])).length<=r1.length+1:=by rw[JB];split<;>simp
  lia;have:(r2++(if OF (aI x k) then [aI y k] else [])).length<=r2.length+1:=by rw[JB];split<;>simp
  lia
 refine afm<|bw<|vG (C:=C) O O W<|aC<|Gy ⟨_,O,?_⟩;cases R with
 |cons x f=>exact iT (iT (a'<|.inl aP) O) Qn
 |nil=>
  refine iF ?_ O;refine bw<|vG (C:=C) O O X<|aC<|Gy ⟨_,O,?_⟩;cases N with
  |cons x f=>exact iT (a'<|.inr aP) Qn
  |nil=>exact iF (Y' O O) O
theorem Ca:∀(xs:lc)(i j:Nat),Sum.inl j∈res i xs->j<i+bC xs
 |[],i,j,h=>by cases h
 |.P c::xs,i,j,h=>by
  rcases X9.mp h with z|z
  cases z;exact Ca xs i j z
 |.K::xs,i,j,h=>by
  rcases X9.mp h with z|z
  cases z;show i<i+(bC xs+1);exact Af (Xw _ _);have:=Ca xs (i+1) j z;show j<i+(bC xs+1);lia
 |.C c::xs,i,j,h=>by have:=Ca xs (i+1) j h;show j<i+(bC xs+1);lia
theorem afO(n:Nat):∀i,res i (rK n)=(List.range' i n).map Sum.inl:=by
 induction n with
 |zero=>intro i;rfl
 |succ n h=>
  intro i;show Sum.inl i::res (i+1) (rK n)=_;rw[h];rfl
theorem afP(n:Nat)(t:List Sg)(a:∀j,Sum.inl j∈t->j<n):sub (res 0<|rK n) 0 t=t:=by
 conv=>rhs;rw[<-List.map_id t]
 refine Xb λy h=>?_;cases y with
 |inr c=>rfl
 |inl j=>
  simp only[sb,Zf,id];rw[afO,Xu,Z_,List.getElem?_range' (a j h)];simp
abbrev afQ:wr:=[("_law_whole",N5)]
inductive ph(v:db)(H:Hp)(Q:VK)(E:XK):Prop|i(a b xs B h:_)(_:v=[.r a,.r b])(_:H a=some (.l xs))(_:H b=some (.l B))(_:aD H xs h)(_:aD H B h)(_:∀Z,ar H Z->Q (.b true) Z)
theorem afR{K:Frag}{g:TG}{h:TS}(z:xs.length=B.length)(P:Nat->St->Hp->Prop)(w:P 0 F H)(o:∀i F H,P i F H->ag K H a xs/\ag K H b B)(s:∀i x y F H T,xs[i]?=some x->B[i]?=some y->P i F H->H T=none->g (.r T) F (upd H T<|.t [x,y]) λd u=>h {D with nx:=P (i+1),c:=P (i+1),bk:=D.nx} d u)(n:∀F H,P xs.length F H->D.nx F H):
  ∃W:Nat->Nat->St->Hp->Prop,(∃m,W 0 m F H)/\∀i m F H,W i m F H->
   ((jw K a b).stop i H/\D.nx F H)\/((jw K a b).go i H/\∃N:St->Hp->Prop,(∀V Z,N V Z->∃j,j<m/\W (i+1) j V Z)/\∀x Z,(jw K a b).eE i H x Z->g x F Z λd u=>h {D with nx:=N,c:=N,bk:=D.nx} d u):=by
 refine nS (λi m F H=>m=xs.length - i/\i<=xs.length/\P i F H) (nT xs.length O (Y_ _) w) ?_;rintro i m F H ⟨rfl,A,p⟩;obtain⟨f,q⟩:=o i F H p;by_cases k:i<xs.length;have Q:i<B.length:=ZP k (XX z)
 refine .inr (qC (oS xs B f q k Q) (P<|i+1) (λV Z l=>pQ (xs.length - (i+1)) aH O k l) (λx Z y=>?_));obtain⟨T,v,rfl,y⟩:=y;have e:=y xs B xs[i] B[i] f q aP aP;subst e;exact s i xs[i] B[i] F H T aP aP p v;have e:i=xs.length:=XZ A (Z6 k)
 subst e;exact .inl ⟨oG xs B f q aH,n F H p⟩
abbrev alN(K:Frag)(E:XK):ba:=aG K afQ [] (E:=E)
theorem afS{K:Frag}(m:db)(H:Hp)(Q:VK)(E:XK)(L:ph m H Q E):av (alN K E) Nl {nx:=λY Z=>Q .a Z,r:=Q} (WR Nk m) H:=by
 obtain⟨a,b,xs,B,h,rfl,j,l,U,z,q⟩:=L;have l1:=KB U;have l2:=KB z;refine nT _ O O (N7 j (nS _ O (.inl (pB _ (ag.of j) _ O (.inl (pB _ (ag.of l) _ O ?_))))));rw[show(xs.length:Int)=(B.length:Int) by lia,W_ O];refine pB _ O _ O ⟨a,b,O,oM _ (ag.of j),oM _ (ag.of l),afR (K:=K) (a:=a) (b:=b) (xs:=xs) (B:=B) aH (λi F u=>∃v w,F=[some (.r a),some (.r b),v,w]/\ar H u) (o3 none none O (ar.refl _))
  (λi F u ⟨_,_,_,f⟩=> ⟨ag.of (f _ _ j),ag.of (f _ _ l)⟩) ?_ ?_⟩
 rintro i x y F u T C A ⟨v,w,rfl,f⟩ G;have g:ar H (upd u T<|.t [x,y]):=f.trans (V3 G);obtain⟨p,D,N,rfl,J⟩:=U.get C;obtain⟨P,o,M,rfl,I⟩:=z.get A;rw[D] at o;cases o;have d:=g _ _ J;have e:=g _ _ I;refine o4 T _ O (.inl<|aA.of aj) O _ _ O _ _ O O ?_;refine nT _ O O (FT d (nS _ O (.inr (pB _ (aA.of d) _ O ?_))));refine nS _ O (.inr<|.inl ⟨_,_,_,_,O,O,aA.of d,O,O,?_⟩);refine nS _ O (.inr<|.inl ⟨_,_,_,_,O,O,aA.of d,O,_,O,.inr<|.inl ⟨_,_,_,_,O,O,aA.of e,O,_,O,?_⟩⟩);rw[W_ O];refine nS _ O (.inr<|.inl ⟨_,_,_,_,O,O,aA.of e,O,O,?_⟩);cases p with
 |k n=>
  refine nS _ O (.inr<|.inl ⟨_,_,_,_,O,O,aA.of d,O,O,_,O,?_⟩);refine nS _ O (.inr<|.inl ⟨_,_,_,_,O,O,aA.of d,O,_,O,.inr<|.inl ⟨_,_,_,_,O,O,aA.of e,O,_,O,?_⟩⟩);rw[W_ O];refine nS _ O (.inr<|.inl ⟨_,_,_,_,O,O,aA.of e,O,O,?_⟩);refine nS _ O (.inr<|.inl ⟨_,_,_,_,O,O,aA.of d,O,n,O,?_⟩);exact o3 _ _ O g
 |p s=>
  refine nS _ O (.inr<|.inl ⟨_,_,_,_,O,O,aA.of d,O,O,_,O,?_⟩);refine nS _ O (.inr<|.inl ⟨_,_,_,_,O,O,aA.of d,O,_,O,.inr<|.inl ⟨_,_,_,_,O,O,aA.of e,O,_,O,?_⟩⟩);rw[W_ O];refine nS _ O (.inr<|.inl ⟨_,_,_,_,O,O,aA.of e,O,O,?_⟩);exact o3 _ _ O g
 |c s=>
  refine nS _ O (.inr<|.inl ⟨_,_,_,_,O,O,aA.of d,O,O,_,O,?_⟩);refine nS _ O (.inr<|.inl ⟨_,_,_,_,O,O,aA.of d,O,_,O,.inr<|.inl ⟨_,_,_,_,O,O,aA.of e,O,_,O,?_⟩⟩);rw[W_ O];refine nS _ O (.inr<|.inl ⟨_,_,_,_,O,O,aA.of e,O,O,?_⟩);exact o3 _ _ O g
 rintro F u ⟨v,w,rfl,f⟩;exact q u f
theorem afT(h:cr):ah (cf h)=(ah h).map sw:=by
 induction h with
 |nil=>rfl
 |cons p h i=>
  have e:cf (p::h)=p.mY::cf h:=O;rw[e,cR,cR,Za];congr 1;cases p with
  |k n=>show rK n.toNat=(rK n.toNat).map sw;unfold rK;rw[XU];rfl
  |p s=>show s.cps.toList.map At.C=(s.cps.toList.map At.P).map sw;rw[Y3];rfl
  |c s=>show s.cps.toList.map At.P=(s.cps.toList.map At.C).map sw;rw[Y3];rfl
structure cE(h:cr)(l r:bn):Prop where
 ok:∀p∈h,aK p
 c:hY "" h=true
 run:Yp l h r
def bk(h:cr):cr:=jc (cf h)
theorem cE.bk(a:cE h l r)(t:ao h<=100000):cE (bk h) r l/\ao (bk h)=ao h/\(bk h).length<=3*h.length+2/\nb (ah<|bk h)=nb ((ah h).map sw):=by
 have y:=OO (Bw a.ok t);have m:ao (cf h)<=100000:=by rw[Bv];exact t
 obtain⟨c,g,Y⟩:=qF (cf h) y m;have q:=qD (cf h) y;have d:=yd (cf h);have C:(cf h).length=h.length:=by simp[cf]
 have z:=qI (cf h) λp b=>yg (y p b);rw[afT] at z;refine⟨⟨?_,?_,?_⟩,?_,?_,z⟩;unfold Internal.bk;rw[q];exact g;unfold Internal.bk;rw[q];exact c;unfold Internal.bk;rw[q];exact vw a.run.mY;unfold Internal.bk;rw[q,tK _ y,Bv];unfold Internal.bk;lia
theorem tU.chg(a:tU one E' h l r):cE h l r:=⟨a.ok,a.ch,a.run⟩
theorem afU(a:cE h l r)(b:cE qs l r')(e:res 0 (ah h)=res 0 (ah qs)):h=qs:=aej a.c b.c a.ok b.ok a.run b.run e
theorem QF:ah (dr [.k (n:Int)])=rK n/\(∀p∈dr [.k (n:Int)],aK p)/\hY "" (dr [.k (n:Int)])=true/\(dr [.k (n:Int)]).length<=1/\ao (dr [.k (n:Int)])=0:=by
 have r:∀p∈ [Pt.k (n:Int)],eK p:=λp a=>by rw[Ya.mp a];show(0:Int)<= (n:Int);exact Wx _
 have e:dr [.k (n:Int)]=if n=0 then [] else [.k (n:Int)]:=by
  have b:dr [.k (n:Int)]=txt .p ""++txt .c ""++(if ((0:Int)+(n:Int))=0 then [] else [.k<|(0:Int)+(n:Int)]):=by
   show cH [("","",(0:Int)+(n:Int))]=_;simp[cH,eN]
  rw[b,jV,ZV];by_cases h:n=0;rw[GT h,GT aH];rfl;rw[Id h,Id aH];rfl
 rw[e];by_cases h:n=0;rw[h];exact⟨O,nofun,O,Y_ _,O⟩;rw[Id h];refine⟨by rw[gK];show rK ((n:Int)).toNat=_;rw[WN],(λp a=>?_),?_,ZX _,O⟩;rw[Ya.mp a];show(1:Int)<= (n:Int);lia;show(mV "keep" "" && true)=true;decide
theorem G9:cE (dr [.k (l.length:Int)]) l l:=by
 obtain⟨e,o,c,Y,Y⟩:=Y7 QF;refine⟨o,c,?_⟩;have f:Xr l (ah<|dr [.k (l.length:Int)]):=by
  rw[e];have:=(Bz l [] []).mpr O;rw[jP,jP] at this;exact this
 have:=qH _ l (λp a=>oR<|o p a) f;rw[e] at this;have h:=BA l [] [];rw[jP,jP] at h;have b:YX [] ([]:lc)=[]:=O;rw[h,b,jP] at this;exact this
theorem afV(a:cE h l r)(J:tU (dr [.k (l.length:Int)]) h q l r):q=h:=by
 refine afU J.chg a ?_;rw[J.res,QF.1];refine afP _ _ λj b=>?_;have:=Ca _ _ _ b;rw[<-lQ _ _ a.run.fits.1] at this;lia
def bM(H:Hp)(b:Do)(h:cr)(l r:bn):Prop:= ∃xs,H b=some (.l xs)/\aD H xs h/\cE h l r
theorem bM.same(e:bM H b h l r)(s:ar H Z):bM Z b h l r:=by
 obtain⟨xs,d,c,a⟩:=e;exact⟨xs,s _ _ d,c.mono<|bB s,a⟩
theorem bM.keep(f:bM H b h l r)(a:∀o,H b=some o->Z b=some o)(t:bI H Z):bM Z b h l r:=by
 obtain⟨xs,e,d,c⟩:=f;exact⟨xs,a _ e,d.mono t,c⟩
theorem bM.chg(a:bM H b h l r):cE h l r:=by
 obtain⟨Y,Y,Y,a⟩:=a;exact a
section
variable{H:Hp}{Q:VK}{E:XK}
theorem afW{o:cr}(n:bM H a o l m)(k:bM H b E' m r)(f:o.length+E'.length<=180000)(t:ao o+ao E'<=100000)(q:∀(c:Do)(Z:Hp)(h:cr),ar H Z->H c=none->bM Z c h l r->tU o E' h l r->Q (.r c) Z):BY [.r a,.r b] H Q E:=by
 obtain⟨xs,w,v,e⟩:=n;obtain⟨B,u,p,d⟩:=k;exact⟨a,b,xs,B,o,E',l,m,r,O,w,u,v,p,e.ok,d.ok,e.c,d.c,f,t,e.run,d.run,λc Z z h s g j i J=>q c Z h s g ⟨z,j,i,J.chg⟩ J⟩
theorem QG(g:bM H a h l r)(k:h.length<=30000)(t:ao h<=100000)(q:∀(c:Do)(Z:Hp),ar H Z->H c=none->bM Z c (bk h) r l->Q (.r c) Z):vx [.r a] H Q E:=by
 obtain⟨xs,j,i,b⟩:=g;exact⟨a,xs,h,O,j,i,b.ok,b.c,(Y4 k (Xk _ _)),t,λc Z B s d f e=>q c Z s d ⟨B,f,e,(b.bk t).1⟩⟩
theorem QH(c:good x)(f:bM H a h x.cps.toList r)(d:r.length<=1000000)(q:Q (.s ⟨r.toArray⟩) H):vE [.s x,.r a] H Q E:=by
 obtain⟨xs,i,g,b⟩:=f;exact⟨x,a,xs,h,r,O,c,i,g,λp e=>xX<|b.ok p e,b.run,d,q⟩
end
theorem afX{K:Frag}:bz (N5) (λE=>bK K E) MK Fx:=by
 intro v H Q E h;obtain⟨i,rfl,q⟩:=h;exact⟨_,O,O,_,O,gG (nT _ O O q)⟩
end
section
open PySem.StrLaws
end
section
open PyProof.Rows
noncomputable def cG:cr->Nat
 |[]=>0
 |.k k::r=>k.toNat+cG r
 |.p _::r=>cG r
 |.c s::r=>s.length+cG r
theorem br{K:Frag}{i:Int}(h:H a=some (.l xs))(e:fF xs i=some v)(q:Q v H):qf K s (.r a) (.i i) H Q:=
 .inl ⟨_,_,_,_,O,O,ag.of h,e,q⟩
theorem qR{p:α->Prop}:∀x∈ ([]:List α),p x:=nofun
theorem qS{p:b->Prop}{a:b}(h:p a)(t:∀x∈l,p x):∀x∈a::l,p x:=List.forall_mem_cons.2 ⟨h,t⟩
inductive kA(w:Fa):List DictEntry->nH->wT->Prop
 |n:kA w [] [] []
 |c {x:Str}{t:Tok}{v:V}{u:EQ}{es:List DictEntry}{K:nH}{s:wT}:lA v u->kA w es K s->
   kA w (⟨PyData.keyHash w.params x,.str x t,u⟩::es) ((.inr x,v)::K) ((.inr x,u)::s)
section
variable{P:Fk}{w:Fa}{K:Frag}
theorem kA.kv{es:List DictEntry}{K:nH}{v:wT}(h:kA w es K v):KV K v:=by
 induction h with
 |n=>exact .nil
 |c r Y i=>exact .cons ⟨O,r⟩ i
theorem kA.pairs{es:List DictEntry}{K:nH}{v:wT}(h:kA w es K v):Pairs (d_ P w) es v:=by
 induction h with
 |n=>exact .nil
 |c r Y i=>exact .cons (zM P w _ _) O i
theorem kA.keys{es:List DictEntry}{K:nH}(a:kA w es K s):∀e∈es,∃k,(d_ P w).is k e.key=true/\e.hash=(d_ P w).hash k:=by
 induction a with
 |n=>intro e h;cases h
 | @c x t v u es K s r _ i=>
  intro e h;rcases X9.mp h with rfl|h
  exact⟨.inr x,zM P w _ _,O⟩;exact i e h
theorem kA.same{es:List DictEntry}{K:nH}{v:wT}(h:kA w es K v):v.map (·.1)=K.map (·.1):=by
 induction h with
 |n=>rfl
 |c r Y i=>simp only[Ww,i]
theorem afY{es:Array DictEntry}{a:nH}{v:wT}(l:K.lookup p=some ⟨.type "dict",none,.dict es n,#[]⟩)(h:kA w es.toList a v)(d:(a.map (·.1)).Nodup):AY P w K (p,a):=λc X=>
 ⟨v,h.kv,_,es,n,X p _ l,⟨O,O,O⟩,O,(λe b=>h.keys e (by simpa using b)),h.pairs,h.same▸d⟩
variable{l:io}{g:FS}{k:Nat}
theorem du.weak{h:ca}{a:Sp}(A:du P w K l g CX k f e h b)(d:∀v H Q E,a v H Q E->b v H Q E):du P w K l g CX k f e h a:=
 ⟨λv H Q E q=>A.len v H Q E<|d _ _ _ _ q,λp o s H c u v Q E r n m i j=>A.run p o s H c u v Q E r n m i<|d _ _ _ _ j⟩
theorem mL.weak{a:Sp}(T:mL P w K l g k x b)(c:∀v H Q E,a v H Q E->b v H Q E):mL P w K l g k x a:=by
 obtain⟨f,d,h,F,r⟩:=T;exact⟨f,d,h,F.weak c,r⟩
theorem mO.weak{a:Sp}(T:mO P w K l g k (x,C,b))(d:∀v H Q E,a v H Q E->b v H Q E):mO P w K l g k (x,C,a):=by
 obtain⟨c,f,e,h,m,F,r⟩:=T;exact⟨c,f,e,h,m,F.weak d,r⟩
open PySem.W in
theorem afZ{x:Str}(X:K.In g)(G:g.Ns mainGlobals l)(e:nsIn K mainGlobals x=some (some<|.ref C))(q:excIn K C [.type "ValueError",.type "Exception",.type "BaseException",.type "object"] "ValueError.__new__"=true):A5 l g (x,C):=by
 refine⟨_,_,_,_,⟨mg_of X G e,?_⟩,PySem.F.excBase_ValueError⟩;unfold excIn at q;split at q;rename_i dd cd sl ho;split at q;rename_i C' bm k0 k1 k2 k3 n k5 hm hs;simp only[WZ,Uf,Ot] at q;obtain⟨⟨⟨⟨⟨rfl,rfl⟩,QI⟩,ht⟩,ay⟩,AL⟩:=q;obtain⟨nm,bs,mro,ns,qn,hd,sn,sub,ab,col,del⟩:=cd;dsimp only at hm QI ay AL;subst hm QI;obtain⟨sl⟩:=sl;have vD:sl=_:=hs;subst vD;exact⟨bm,ns,nm,qn,bs,hd,sn,sub,ab,col,dd,k0,k1,k2,k3,k5,_,X _ _ ho,.of_isNs<|isNs_of_in X ay,nsMap_none_of_in X ay AL,tail_of_in X ht⟩;cases q;cases q
end
def QJ(v:V)(lo h:Int)(H:Hp):Prop:=tP v H\/∃i,v=.i i/\(i<lo\/h<i)
inductive G_(s:db)(H:Hp)(Q:VK)(E:XK):Prop|i(v:V)(lo h:Int)(_:s=[v,.i lo,.i h])(_:((∃i,v=.i i/\lo<=i/\i<=h/\Q (.b true) H)\/(QJ v lo h H/\Q (.b false) H)))
abbrev hX(K:Frag)(E:XK):ba:=aG K [("is_whole",qL)] [] (E:=E)
theorem af0{K:Frag}:bz (G_) (λE=>hX K E) Np Nn:=by
 intro s H Q E g;have c:∀(i lo h:Int)(b:Gc)(H:Hp),decide (lo<=i/\i<=h)=b->Q (.b b) H->af (hX K E) (.xy .LtE .LtE (.v 1) (.v 0)<|.v 2) [some<|.i i,some<|.i lo,some<|.i h] H Q:=by
  intro i lo h b H d q;refine⟨_,O,_,O,trivial,_,O,gH (λa=>?_)<|λa=>?_⟩;refine⟨_,O,trivial,?_⟩;have j:lo<=i:=Os a;have e:decide (i<=h)=b:=by lia
  show Q (.b<|decide<|i<=h) H;rw[e];exact q;have e:b=false:=by lia
  rw[e] at q
  first
   |exact q
   | (rw[e2];exact q)
 obtain⟨v,lo,h,rfl,⟨i,rfl,a,f,q⟩|⟨n|⟨i,rfl,d⟩,q⟩⟩:=g;exact nS _ O ⟨_,O,.inl (pB i O _ O (gG<|c i lo h true H (by simp[a,f]) q))⟩;exact nS _ O ⟨_,O,.inr (qC n _ O (iU q))⟩;exact nS _ O ⟨_,O,.inl (pB i O _ O (gG<|c i lo h false H aH q))⟩
section
variable{W:ba}{D:WH}{F:St}{H:Hp}{r:jp}{Q:VK}{QA:db->Hp->Prop}{f:wv}
theorem j7{K:Frag}{Q:Gc->Prop}(h:Q b):qe K (.b b) H Q:=h
theorem kE{a:RE}(h:a_ W a F H λb t=>f (!b) t):a_ W (.N a) F H f:=h
theorem kI(s:Sp)(h:W.fs j=s)(c:aR W as F H λv t=>s v t (λx u=>qe W.K x u λb=>f b u) W.E):a_ W (.l j as) F H f:=by
 subst h;show aR W as F H λv t=>W.fs j (v++[]) t (λx u=>qe W.K x u λb=>f b u) W.E;have e:(fun(v:db)(t:Hp)=>W.fs j (v++[]) t (λx u=>qe W.K x u λb=>f b u) W.E)=λv t=>W.fs j v t (λx u=>qe W.K x u λb=>f b u) W.E:=by
  funext v t;rw[jP]
 rw[e];exact c
theorem Ha{a:RE}(h:a_ W a F H λc t=>if c=true then f true t else a_ W b F t f):a_ W (.o [a,b]) F H f:=h
theorem nq{a:RE}(h:a_ W a F H λc t=>if c=true then a_ W b F t f else f false t):a_ W (.d [a,b]) F H f:=h
end
section
variable{W:ba}{F:St}{H:Hp}{Q:VK}{f:wv}{K:Frag}
theorem QK{a:RE}{r:wn}(h:a_ W a F H λc t=>if c=true then f true t else a_ W (.o (b::r)) F t f):a_ W (.o (a::b::r)) F H f:=h
theorem QL{a:RE}(h:a_ W a F H f):a_ W (.o [a]) F H f:=h
theorem Cc{a:RE}{r:wn}(h:a_ W a F H λc t=>if c=true then a_ W (.d (b::r)) F t f else f false t):a_ W (.d (a::b::r)) F H f:=h
theorem af1{a:RE}(h:a_ W a F H f):a_ W (.d [a]) F H f:=h
theorem vO{i:Int}(h:H a=some (.t xs))(e:fF xs i=some v)(q:Q v H):qf K s (.r a) (.i i) H Q:=
 .inr (.inl ⟨_,_,_,_,O,O,aA.of h,e,q⟩)
theorem nr{y:Int}(q:Q (.b<|decide<|x=y) H):dh K .Eq (.i x) (.i y) H Q:=by
 show Q (.b<|false ^^ decide (V.i x=V.i y)) H;rw[WG,show decide (V.i x=V.i y)=decide (x=y) from decide_eq_decide.mpr ⟨λz=>by lia,λz=>by lia⟩];exact q
theorem yJ{y:Int}(q:Q (.b<|!decide (x=y)) H):dh K .NotEq (.i x) (.i y) H Q:=by
 show Q (.b<|true ^^ decide (V.i x=V.i y)) H;rw[yE,show decide (V.i x=V.i y)=decide (x=y) from decide_eq_decide.mpr ⟨λz=>by lia,λz=>by lia⟩];exact q
theorem Hb{i j:Int}(h:Q (.i<|i+j) H):og K .Add (.i i) (.i j) H Q:=h
end
end
theorem ik{r:jp}(h:av W r D F H):av W [] {D with nx:=av W r D} F H:=h
section
open PyProof.Rows
theorem Hc{K:Frag}{Q:db->Hp->Do->Prop}{t:TE}(h:H a=some (.l xs))(C:xs.length<=1000000)(P:Nat->db->Hp->Prop)(n:P 0 [] H)(d:∀i x B u,xs[i]?=some x->ar H u->P i B u->∀f:VK,(∀y c,ar u c->P (i+1) (B++[y]) c->f y c)->t (some x::bG F fv) u f)(Y:∀B u p,ar H u->P xs.length B u->u p=none->Q B u p):∃W:Nat->Nat->db->Hp->Prop,(∃m,W 0 m [] H)/\∀i m B u,W i m B u->
   ((dH K a).stop i u/\∀p,u p=none->Q B u p)\/
   ((dH K a).go i u/\∀x c,(dH K a).eE i u x c->iE K none x c λz=>js none (z.map some++bG F fv) c λb g=>
    if b=true then t (z.map some++bG F fv) g λy A=>B.length<sizeLine/\∃e,e<m/\W (i+1) e (B++[y]) A else ∃e,e<m/\W (i+1) e B g):=by
 refine nS (λi m B u=>m=xs.length - i/\i<=xs.length/\B.length=i/\ar H u/\P i B u) (rR _ O (Y_ _) O (ar.refl _) n) ?_;rintro i m B u zq;obtain⟨rfl,D,o,s,p⟩:=Y7 zq;by_cases w:i<xs.length;refine .inr ⟨o3 xs (xs[i]) (ag.of<|s _ _ h) aP,?_⟩;rintro x c ⟨rfl,r⟩;exact d i x B _ (r xs (ag.of<|s _ _ h)) s p _ λy E j k=>qC (bY aH) (xs.length - (i+1)) aH ⟨O,w,by simp[o],s.trans j,k⟩;have J:i=xs.length:=XZ D (Z6 w)
 subst J;exact .inl ⟨nS xs (ag.of<|s _ _ h) (ZX _),λq v=>Y B _ q s p v⟩
theorem He{K:Frag}{Q:db->Hp->Do->Prop}{t:TE}{lo:Int}(v:n<=1000000)(P:Nat->db->Hp->Prop)(k:P 0 [] H)(c:∀i B u,i<n->ar H u->P i B u->∀f:VK,(∀y a,ar u a->P (i+1) (B++[y]) a->f y a)->t (some (.i<|lo+i)::bG F fv) u f)(Y:∀B u p,ar H u->P n B u->u p=none->Q B u p):∃W:Nat->Nat->db->Hp->Prop,(∃m,W 0 m [] H)/\∀i m B u,W i m B u->
   ((dY lo n).stop i u/\∀p,u p=none->Q B u p)\/
   ((dY lo n).go i u/\∀x a,(dY lo n).eE i u x a->iE K none x a λz=>js none (z.map some++bG F fv) a λb g=>
    if b=true then t (z.map some++bG F fv) g λy r=>B.length<sizeLine/\∃d,d<m/\W (i+1) d (B++[y]) r else ∃d,d<m/\W (i+1) d B g):=by
 refine nS (λi m B u=>m=n - i/\i<=n/\B.length=i/\ar H u/\P i B u) (rR _ O (Y_ _) O (ar.refl _) k) ?_;rintro i m B u zq;obtain⟨rfl,w,l,s,p⟩:=Y7 zq;by_cases e:i<n;refine .inr ⟨e,?_⟩;rintro x a ⟨rfl,rfl⟩;exact c i B _ e s p _ λy A h j=>qC (bY aH) (n - (i+1)) aH ⟨O,e,by simp[l],s.trans h,j⟩;have J:i=n:=XZ w (Z6 e)
 subst J;exact .inl ⟨ZX _,λq o=>Y B _ q s p o⟩
end
section
variable{W:ba}{D:WH}{F:St}{H:Hp}{r:jp}{Q:VK}
theorem yK(A B:VK)(e:∀v t,A v t↔B v t)(h:af W x F H A):af W x F H B:=by
 have:=funext λx=>funext λt=>propext (e x t);rw[<-this];exact h
theorem vP(h:af W x F H λv t=>∃a,v=.r a/\(∃xs,ag W.K t a xs)/\∃d:Nat->Nat->db->Hp->Prop,(∃m,d 0 m [] t)/\∀i m B u,d i m B u->
   ((dH W.K a).stop i u/\∀p,u p=none->Q (.r p) (upd u p<|.l B))\/
   ((dH W.K a).go i u/\∀x f,(dH W.K a).eE i u x f->iE W.K none x f λz=>js none (z.map some++bG F fv) f λb g=>
    if b=true then af W.calm e (z.map some++bG F fv) g λy j=>B.length<sizeLine/\∃c,c<m/\d (i+1) c (B++[y]) j else ∃c,c<m/\d (i+1) c B g)):af W (.C none fv .l [x] none e) F H Q:=yK _ _ (λY Y=>Re) h
theorem Hf{a:RE}(C:Do)(s:Sp)(h:W.ms j=(C,s))(c:af W o F H λx t=>∃p dx f,x=.r p/\t p=some (.i C dx f)/\f.lookup m=none/\af W a F t λy u=>af W b F u λz d=>s [x,y,z] d Q W.E):af W (.a j m o [a,b]) F H Q:=by
 show r9 (W.ms j).1 m (W.ms j).2 [] W.E (af W o) (aR W [a,b]) F H Q;rw[h];exact c
theorem dU(h:af W x F H λv t=>xa W.K v t λn=>Q (.i n) t):af W (.t .l [x]) F H Q:=h
variable{QT:wv}
theorem nu(h:af W e F H λv t=>af W o F t λx u=>∃a C dx s,x=.r a/\u a=some (.i C dx s)/\gP W.K C/\gC W.K C f/\s.length<1000/\av W r D F (upd u a<|.i C dx<|bT f v s)):av W (.f o f e::r) D F H:=h
end
theorem Hg{r:jp}(h:af W x F H λv t=>∃a,v=.r a/\(∃xs,ag W.K t a xs)/\∃d:Nat->Nat->St->Hp->Prop,(∃m,d 0 m F t)/\∀j m F H,d j m F H->
  ((dH W.K a).stop j H/\({D with nx:=av W r D}:WH).nx F H)\/((dH W.K a).go j H/\∃N:St->Hp->Prop,(∀V Z,N V Z->∃e,e<m/\d (j+1) e V Z)/\∀x Z,(dH W.K a).eE j H x Z->gA i x F Z λb u=>av W body {({D with nx:=av W r D}:WH) with nx:=N,c:=N,bk:=({D with nx:=av W r D}:WH).nx} b u)):
  av W (.g i .l [x] body::r) D F H:=yK _ _ (λY Y=>Re) h
section
variable{W:ba}{D:WH}{F:St}{H:Hp}{r:jp}{Q:VK}
theorem kJ{i:Int}(h:Q (.i<|-i) H):af W (.n<|.c<|.i i) F H Q:=h
theorem qT(h:af W e F H λv t=>af W o F t λx u=>af W ix F u λy b=>Aj x y v b λa=>av W r D F a):av W (.s o ix e::r) D F H:=h
theorem QM(h:af W x F H λv t=>∃a,v=.r a/\(∃xs,ag W.K t a xs)/\∃d:Nat->Nat->St->Hp->Prop,(∃m,d 0 m F t)/\∀j m F H,d j m F H->
  ((dH W.K a).stop j H/\({D with nx:=av W r D}:WH).nx F H)\/((dH W.K a).go j H/\∃N:St->Hp->Prop,(∀V Z,N V Z->∃e,e<m/\d (j+1) e V Z)/\∀x Z,(dH W.K a).eE j H x Z->oB W.K is.length (mK is) x F Z λb u=>av W body {({D with nx:=av W r D}:WH) with nx:=N,c:=N,bk:=({D with nx:=av W r D}:WH).nx} b u)):
  av W (.k is .l [x] body::r) D F H:=yK _ _ (λY Y=>Re) h
end
theorem af2(n:Nat):fZ (n+1) (-1)=some n:=by
 unfold fZ;have:¬(0:Int)<= -1:=by lia
 rw[Id this,GT aH];congr 1;lia
theorem QN(h:aK p):ON p:=by
 cases p with
 |k n=>trivial
 |p s=>exact h.1.2
 |c s=>exact h.1.2
theorem pj{y:Int}(q:Q (.b<|decide<|y<x) H):dh K .Gt (.i x) (.i y) H Q:=⟨trivial,q⟩
section
variable{W:ba}{D:WH}{F:St}{H:Hp}{r:jp}{Q:VK}
theorem af3{a lo h:RE}(d:af W a F H λx t=>af W lo F t λi u=>∃c:Int,i=.i c/\af W h F u λj e=>∃b:Int,j=.i b/\uY W.K x (some c) (some b) e Q):af W (.s a (some lo)<|some h) F H Q:=d
theorem Cd(h:af W x F H λv t=>∃n:Int,[v]=[.i n]/\ -(2 ^ 62)<=n/\n<2 ^ 62/\∃b:Nat->Nat->St->Hp->Prop,(∃m,b 0 m F t)/\∀j m F H,b j m F H->
  ((dY 0 n.toNat).stop j H/\({D with nx:=av W r D}:WH).nx F H)\/((dY 0 n.toNat).go j H/\∃N:St->Hp->Prop,(∀V Z,N V Z->∃d,d<m/\b (j+1) d V Z)/\∀x Z,(dY 0 n.toNat).eE j H x Z->gA i x F Z λa u=>av W body {({D with nx:=av W r D}:WH) with nx:=N,c:=N,bk:=({D with nx:=av W r D}:WH).nx} a u)):
  av W (.g i .f [x] body::r) D F H:=yK _ _ (λY Y=>Re) h
end
theorem Cq{y:Int}(q:Q (.b<|decide<|x<y) H):dh K .Lt (.i x) (.i y) H Q:=⟨trivial,q⟩
theorem yL{a:RE}(h:a_ W t0 F H λc t=>if c=true then af W a F t Q else af W b F t Q):af W (.k t0 a b) F H Q:=h
section
open PyProof.Rows
theorem yM{r:jp}{i:bn}(h:af W e F H λx t=>oB W.K i.length (mK i) x F t (av W r D)):av W (.q i e::r) D F H:=h
theorem vQ{K:Frag}{a:Do}{Q:Db}(h:H a=some (.t [v,w]))(q:Q ((F.set i<|some v).set j<|some w) H):oB K [i,j].length (mK [i,j]) (.r a) F H Q:=
 ⟨a,_,O,.inl<|aA.of h,O,_,_,O,_,_,O,O,q⟩
section
variable{H:Hp}{Q:VK}{E:XK}
theorem af4{o:cr}{n:bn}(G:bM H a o l m)(F:bM H b E' l n)(p:o.length+E'.length<=30000)(k:ao o+ao E'<=100000)(q:∀(e c d:Do)(Z:Hp)(h qs:cr)(r:bn),ar H Z->H c=none->H d=none->Z e=some (.t [.r c,.r d])->bM Z c h n r->bM Z d qs m r->XJ o E' h qs l m n->Q (.r e) Z):B3 [.r a,.r b] H Q E:=by
 obtain⟨xs,L,K,g⟩:=G;obtain⟨B,J,I,f⟩:=F;refine⟨a,b,xs,B,o,E',l,m,n,O,L,J,K,I,g.ok,f.ok,g.c,f.c,p,k,g.run,f.run,λe c d Z z w h qs s v u Y D C A y x P=>?_⟩;obtain⟨r,j,i⟩:=P.runs;exact q e c d Z h qs r s v u D ⟨z,C,y,P.qO,P.Qi,j⟩ ⟨w,A,x,P.qP,P.Qj,i⟩ P
end
end
theorem af5(xs:db)(i j:Nat):dZ xs (some (i:Int)) (some (j:Int))=(xs.drop i).take (j - i):=by
 unfold dZ;rw[HT.pX,HT.pX];by_cases a:i<=xs.length;by_cases h:j<=xs.length;rw[show min i xs.length=i by lia,show min j xs.length=j by lia];rw[show min i xs.length=i by lia,Wc (by rw[Yj];lia),Wc (by rw[Yj];lia)];rw[ZQ aH,ZQ (Zb (U6 a)),Z7,Z7]
noncomputable def gV:ww->V
 |none=>.a
 |some n=>.i n
section
variable{K:Frag}
end
theorem Hh{a h:RE}(c:af W a F H λx t=>af W h F t λj d=>∃b:Int,j=.i b/\uY W.K x none (some b) d Q):af W (.s a none<|some h) F H Q:=c
theorem QO(xs:db)(n:Nat):dZ xs none (some (n:Int))=xs.take n:=by
 unfold dZ;rw[HT.D5,HT.pX];rw[Zg,Zf];by_cases h:n<=xs.length;rw[Nat.min_eq_left h];rw[Nat.min_eq_right (Zb (U6 h)),Wc<|ZX _,Wc (Zb (U6 h))]
section
variable{K:Frag}
theorem Hi{r:jp}(h:af W e F H λv t=>av W r D (F.set i<|some v) t):av W (.uV i e::r) D F H:=h
end
theorem QP:∀{xs:List b}{B:List c}{i:Nat}{x:b},Paired R xs B->xs[i]?=some x->∃y,B[i]?=some y/\R x y
 |[],[],i,x,.nil,h=>by simp at h
 |x::xs,y::B,0,w,.cons a r,h=>by cases h;exact⟨y,O,a⟩
 |x::xs,y::B,i+1,w,.cons a r,h=>QP (i:=i) r (by simpa using h)
theorem qU{a:Type}{l:List a}{x:a}(h:l[i]?=some x):l.take (i+1)=l.take i++[x]:=by
 rw[List.take_succ_eq_append_getElem ((ZS.mp h).1),(ZS.mp h).2]
section
variable{K:Frag}
end
theorem af6{Q:db->Hp->Do->Prop}{r:TE}(j:H a=some (.l xs))(h:H b=some (.l B))(V:xs.length<=1000000)(P:Nat->db->Hp->Prop)(G:P 0 [] H)(D:∀i c u d,P i c u->ar u d->P i c d)(e:∀i x y c u,xs[i]?=some x->B[i]?=some y->ar H u->P i c u->∀v:VK,(∀z d,ar u d->P (i+1) (c++[z]) d->v z d)->r (some x::some y::bG F fv) u v)(Y:∀c u p,ar H u->P (min xs.length B.length) c u->u p=none->Q c u p):∃W:Nat->Nat->db->Hp->Prop,(∃m,W 0 m [] H)/\∀i m c u,W i m c u->
   ((jw K a b).stop i u/\∀p,u p=none->Q c u p)\/
   ((jw K a b).go i u/\∀x d,(jw K a b).eE i u x d->iE K (some 2) x d λw=>js none (w.map some++bG F fv) d λb A=>
    if b=true then r (w.map some++bG F fv) A λy U=>c.length<sizeLine/\∃f,f<m/\W (i+1) f (c++[y]) U else ∃f,f<m/\W (i+1) f c A):=by
 refine nS (λi m c u=>m=min xs.length B.length - i/\i<=min xs.length B.length/\c.length=i/\ar H u/\P i c u) (rR _ O (Y_ _) O (ar.refl _) G) ?_;rintro i m c u zq;obtain⟨rfl,X,I,s,p⟩:=Y7 zq;by_cases S:i<min xs.length B.length;have n:i<xs.length:=by lia
 have k:i<B.length:=by lia
 refine .inr ⟨oS xs B (ag.of<|s _ _ j) (ag.of<|s _ _ h) n k,?_⟩;rintro x d ⟨T,M,rfl,J⟩;have R:=J xs B xs[i] B[i] (ag.of<|s _ _ j) (ag.of<|s _ _ h) (XB n) (XB k);subst R;have g:=V3 (o:=.t [xs[i],B[i]]) M;exact oS T _ O (aA.of aj) O (e i xs[i] B[i] c _ (XB n) (XB k) (s.trans g) (D _ _ _ _ p g) _ λy Z C E=>qC (bY aH) (min xs.length B.length - (i+1)) aH ⟨O,S,by simp[I],(s.trans g).trans C,E⟩);have N:i=min xs.length B.length:=XZ X (Z6 S)
 subst N;exact .inl ⟨oG xs B (ag.of<|s _ _ j) (ag.of<|s _ _ h) O,λq L=>Y c _ q s p L⟩
section
variable{K:Frag}
end
section
variable{W:ba}{F:St}{n:Nat}{H0:Hp}
theorem QR{a lo:RE}(h:af W a F H λx t=>af W lo F t λj c=>∃b:Int,j=.i b/\uY W.K x (some b) none c Q):af W (.s a (some lo) none) F H Q:=h
theorem af7(h:aR W as F H λv t=>Bb W.K v t Q):af W (.x FI as) F H Q:=h
theorem Hj(xs:db)(i:Nat):dZ xs (some (i:Int)) none=xs.drop i:=by
 unfold dZ;rw[HT.pX,HT.D5];by_cases z:i<=xs.length;rw[Nat.min_eq_left z,Wc aP];rw[Nat.min_eq_right (Zb (U6 z)),List.drop_eq_nil_of_le<|ZX _,List.drop_eq_nil_of_le (Zb (U6 z)),Z7]
end
theorem QS{s:Str}(h:s.length=0):s="":=by
 exact ja ((List.eq_nil_of_length_eq_zero (by exact h))▸O)
theorem jj:∀(h:cr)(a:Str),(∀p∈h,aK p)->hY a h=true->h.length<=2*ao h+(if a="keep" then 0 else 1)
 |[],a,_,_=>Y_ _
 |p::r,a,o,g=>by
  have R:(mV p.word a && hY p.word r)=true:=g;rw[WZ] at R;have i:=jj r p.word (λq f=>o q<|.tail _ f) R.2;have t:ao (p::r)=dq p+ao r:=by simp[ao]
  have b:=o p (.head _);rw[Wt,t];cases p with
  |k n=>
   have e:(Pt.k n).word=("keep":Str):=O;have j:a≠"keep":=by
    intro z;rw[e,z] at R;have:=R.1
    revert this
    decide+kernel
   lia
  |p s=>
   have e:(Pt.p s).word≠ ("keep":Str):=by show("put":Str)≠"keep";decide
   have d:1<=s.length:=by
    have:=b.2;by_cases z:s.length=0;exact absurd (QS z) this;exact XS (CR z)
   show r.length+1<=2* (s.length+ao r)+_;lia
  |c s=>
   have e:(Pt.c s).word≠ ("keep":Str):=by show("cut":Str)≠"keep";decide
   rw[Id e] at i;have d:1<=s.length:=by
    have:=b.2;by_cases z:s.length=0;exact absurd (QS z) this;exact XS (CR z)
   show r.length+1<=2* (s.length+ao r)+_;lia
theorem QU:∀(xs:db)(i:Nat),(dD xs)[i]?=xs[2*i]?
 |[],i=>O
 |[x],0=>O
 |[x],i+1=>by
  simp[dD]
 |x::y::r,0=>O
 |x::y::r,i+1=>by
  have:2* (i+1)=(2*i)+1+1:=O;rw[this,Zl,Zl,<-QU r i];simp[dD]
theorem Hk:∀(xs:db),(dD xs).length=(xs.length+1) / 2
 |[]=>O
 |[x]=>by simp[dD]
 |x::y::r=>by
  have e:dD (x::y::r)=x::dD r:=O;rw[e,Wt,Hk r];show _=(r.length+1+1+1) / 2;lia
def Hl(H:Hp)(xs:db):Prop:= ∃c r,xs=V.r c::r/\H c=none
theorem af8{H:Hp}{y:V}(a:xs[2*i]?=some x)(h:xs[2*i+1]?=some y):xs.drop (2*i)=x::y::xs.drop (2* (i+1)):=by
 obtain⟨c,d⟩:=ZS.mp a;obtain⟨b,e⟩:=ZS.mp h;rw[Z3 c,Z3 b,d,e,show 2* (i+1)=2*i+1+1 by lia]
noncomputable def h6(N:Int)(lo p e be lg:Do):on:=[("here",.i N),("lengths",.r lo),("parents",.r p),("edges",.r e),("below",.r be),("last_gone",.r lg)]
section
variable{N:Int}{e b c f k:Do}
theorem j8:(h6 N e b c f k).lookup ("here":Str)=some (V.i N):=oU
theorem Cf:(h6 N e b c f k).lookup ("lengths":Str)=some (V.r e):=O
theorem pA:(h6 N e b c f k).lookup ("parents":Str)=some (V.r b):=O
theorem Cg:(h6 N e b c f k).lookup ("edges":Str)=some (V.r c):=O
theorem Ci:(h6 N e b c f k).lookup ("below":Str)=some (V.r f):=O
theorem Hn:(h6 N e b c f k).lookup ("last_gone":Str)=some (V.r k):=O
theorem af9{m:Str}(j:¬m="here")(i:¬m="lengths")(g:¬m="parents")(d:¬m="edges")(a:¬m="below")(h:¬m="last_gone"):(h6 N e b c f k).lookup m=none:=
 (dE j).trans ((dE i).trans<|(dE g).trans<|(dE d).trans<|(dE a).trans<|(dE h).trans O)
noncomputable def lV:ca:=["here","lengths","parents","edges","below","last_gone"]
theorem ip(a:autoParam (lV.all (λx=>decide<|¬m=x)=true) fe):(h6 N e b c f k).lookup m=none:=by
 have g:=λx h=>Os (m_.mp a x h);exact af9 (g _ (by unfold lV;simp)) (g _ (by unfold lV;simp)) (g _ (by unfold lV;simp)) (g _ (by unfold lV;simp)) (g _ (by unfold lV;simp))<|g _ (by unfold lV;simp)
end
structure bZ(Y:bi):Prop where
 r:Y[0]?=some none
 up:∀i,0<i->i<Y.length->∃j,Y[i]?=some (some j)/\j<i
structure gk(C:Do)(H:Hp)(p dx lo pa ed be lg:Do)(N:Nat)(bN:bn)(Y:bi):Prop where
 ob:H p=some (.i C dx<|h6 (N:Nat) lo pa ed be lg)
 d:H lo=some (.l<|bN.map λn=>V.i (n:Nat))
 c:H pa=some (.l<|Y.map gV)
 l:bN.length=Y.length
 tr:bZ Y
 h:N<Y.length
 sz:Y.length<=100000
theorem gk.same(A:gk C H p dx lo pa e be lg N bN Y)(s:ar H Z):gk C Z p dx lo pa e be lg N bN Y:=⟨s _ _ A.ob,s _ _ A.d,s _ _ A.c,A.l,A.tr,A.h,A.sz⟩
section
variable{K:Frag}{C b:Do}
inductive tY(C:Do)(v:db)(H:Hp)(Q:VK)(E:XK):Prop|i(p dx lo a e be lg:Do)(N:Nat)(bN:bn)(Y:bi)(_:v=[.r p])(_:gk C H p dx lo a e be lg N bN Y)(_:Q (.i (Y.length:Nat)) H)
theorem aga(T:fI K C):bz (tY C) (λE=>bK K E) NL mT:=by
 intro v H Q E h;obtain⟨p,dx,lo,a,e,be,lg,N,bN,Y,rfl,A,q⟩:=h;refine cA<|dU<|cT<|aa O ⟨p,C,dx,_,_,O,A.ob,T.cl,T.m,pA,.inl ⟨_,ag.of A.c,?_⟩⟩;rw[Wo];exact q
inductive nz(C b:Do)(s:db)(H:Hp)(Q:VK)(E:XK):Prop|i(p dx lo c e be lg:Do)(N:Nat)(bN:bn)(Y:bi)(v:V)(_:s=[.r p,v])(_:gk C H p dx lo c e be lg N bN Y)(_:((∃n:Nat,v=.i n/\n<Y.length/\Q .a H)\/(QJ v 0 ((Y.length:Nat) - 1:Int) H/\E (.ref b) none H)))
abbrev afF(K:Frag)(C:Do)(b:Do)(E:XK):ba:=aG K [("is_between",G_)] [] [] [("many",C,tY C)] (et:=[("NoNode",b)]) (E:=E)
theorem agb:bz (nz C b) (λE=>afF K C b E) NI mS:=by
 intro s H Q E h;obtain⟨p,dx,lo,c,e,be,lg,N,bN,Y,v,rfl,A,h⟩:=h;refine bQ<|kE<|kI G_ O<|aq<|aa O<|aq<|aC<|aq<|cD<|yv C (tY C) O<|aa O ⟨p,dx,_,O,A.ob,ip,p,dx,lo,c,e,be,lg,N,bN,Y,O,A,aC ⟨trivial,az ⟨_,_,_,O,?_⟩⟩⟩;rcases h with⟨n,rfl,a,q⟩|⟨a,q⟩
 exact .inl ⟨_,O,(Wx _),aH,j7<|iF (ik q) O⟩;exact .inr ⟨a,j7<|iT ⟨de,q⟩ O⟩
inductive QV(C:Do)(v:db)(H:Hp)(Q:VK)(E:XK):Prop|i(p dx lo a e be lg:Do)(N:Nat)(bN:bn)(Y:bi)(n:Nat)(o:ww)(_:v=[.r p,.i n])(_:gk C H p dx lo a e be lg N bN Y)(_:Y[n]?=some o)(_:Q (gV o) H)
abbrev h_(K:Frag)(C:Do)(b:Do)(E:XK):ba:=aG K [] [] [] [("need_node",C,nz C b)] (E:=E)
theorem JI(T:fI K C):bz (QV C) (λE=>h_ K C b E) NM mS:=by
 intro v H Q E d;obtain⟨p,dx,lo,a,e,be,lg,N,bN,Y,n,o,rfl,A,h,q⟩:=d;exact bU<|ky C (nz C b) O<|aa O ⟨p,dx,_,O,A.ob,ip,aa O ⟨p,dx,lo,a,e,be,lg,N,bN,Y,_,O,A,.inl ⟨n,O,((ZS.mp h).1),cA<|aN<|cT<|aa O ⟨p,C,dx,_,_,O,A.ob,T.cl,T.m,pA,aa O<|br A.c (bq (by rw[Z_,h];rfl)) q⟩⟩⟩⟩
inductive QW(C:Do)(v:db)(H:Hp)(Q:VK)(E:XK):Prop|i(p dx lo a e be lg:Do)(N:Nat)(bN:bn)(Y:bi)(n k:Nat)(_:v=[.r p,.i n])(_:gk C H p dx lo a e be lg N bN Y)(_:bN[n]?=some k)(_:Q (.i (k:Nat)) H)
theorem Qg(T:fI K C):bz (QW C) (λE=>h_ K C b E) NN mS:=by
 intro v H Q E c;obtain⟨p,dx,lo,a,e,be,lg,N,bN,Y,n,k,rfl,A,h,q⟩:=c;have g:=(ZS.mp h).1;have f:=A.l;refine bU<|ky C (nz C b) O<|aa O ⟨p,dx,_,O,A.ob,ip,aa O ⟨p,dx,lo,a,e,be,lg,N,bN,Y,_,O,A,.inl ⟨n,O,(ZP g (XX f)),?_⟩⟩⟩;exact cA<|aN<|cT<|aa O ⟨p,C,dx,_,_,O,A.ob,T.cl,T.vh,Cf,aa O<|br A.d (bq (by rw[Z_,h];rfl)) q⟩
end
noncomputable def ups(Y:bi):Nat->Nat->bn
 | 0,n=>[n]
 |f+1,n=>match Y[n]? with
  |some (some j)=>n::ups Y f j
  |_=>[n]
theorem age(T:bZ Y):∀(n f:Nat),n<Y.length->n<=f->ups Y f n=ups Y n n:=by
 intro n;induction n using Nat.strongRecOn with
 |ind n i=>
  intro f a b;cases n with
  |zero=>
   cases f with
   |zero=>rfl
   |succ f=>
    unfold ups;rw[T.r]
  |succ n=>
   cases f with
   |zero=>exact absurd b ((WA _ (BF b)).elim)
   |succ f=>
    obtain⟨j,h,B⟩:=T.up (n+1) (fP _) a;have c:ups Y (f+1) (n+1)=(n+1)::ups Y f j:=by
     show(match Y[n+1]? with|some (some j)=>(n+1)::ups Y f j|_=>[n+1])=_;rw[h]
    have e:ups Y (n+1) (n+1)=(n+1)::ups Y n j:=by
     show(match Y[n+1]? with|some (some j)=>(n+1)::ups Y n j|_=>[n+1])=_;rw[h]
    rw[c,e,i j B f (YR B a) (Yu (ZP B b)),i j B n (YR B a) (Yu B)]
theorem QX:ups Y 0 0=[0]:=O
theorem lW(T:bZ Y)(a:0<n)(b:n<Y.length):∃j,Y[n]?=some (some j)/\j<n/\ups Y n n=n::ups Y j j:=by
 obtain⟨j,h,B⟩:=T.up n a b;refine⟨j,h,B,?_⟩;cases n with
 |zero=>exact absurd a ((Xx _ a).elim)
 |succ n=>
  have e:ups Y (n+1) (n+1)=(n+1)::ups Y n j:=by
   show(match Y[n+1]? with|some (some j)=>(n+1)::ups Y n j|_=>[n+1])=_;rw[h]
  rw[e,age T j n (YR B b) (Yu B)]
theorem vR(T:bZ Y):∀(n:Nat),n<Y.length->(ups Y n n).length<=n+1:=by
 intro n;induction n using Nat.strongRecOn with
 |ind n i=>
  intro h;by_cases z:n=0;subst z;exact ZX _;obtain⟨j,Z,a,e⟩:=lW T (CR z) h;have:=i j a (YR a h);rw[e,Wt];lia
section
variable{K:Frag}{C CN:Do}
inductive yN(C:Do)(v:db)(H:Hp)(Q:VK)(E:XK):Prop|i(p dx lo a e be lg:Do)(N:Nat)(bN:bn)(Y:bi)(n:Nat)(_:v=[.r p,.i n])(_:gk C H p dx lo a e be lg N bN Y)(_:n<Y.length)(_:∀b Z,ar H Z->H b=none->Z b=some (.l<|(ups Y n n).map λk=>V.i (k:Nat))->Q (.r b) Z)
theorem agf(T:fI K C):bz (yN C) (λE=>bK K E) NZ NY:=by
 intro P H Q E B;obtain⟨p,dx,lo,S,W,be,lg,N,bN,Y,n,rfl,A,w,q⟩:=B;have R:=A.sz;refine aY<|cI<|aq<|aa O<|az ⟨de,λL f=>?_⟩;have v:=V3 (o:=.l [V.i (n:Nat)]) f;refine m6 (λm F u=>∃(a:bn)(k:Nat),m=k/\F=[some<|.r p,some<|.i (n:Nat),some<|.r L]/\ar H u/\u L=some (.l<|(a.map λk=>V.i (k:Nat))++[V.i (k:Nat)])/\k<Y.length/\a.length+k<=n/\ups Y n n=a++ups Y k k)
  (p4 n [] n O O v aj w (by show 0+n<=n;exact XX (Yn _ _)) O) ?_
 rintro m F u zq;obtain⟨a,k,zq⟩:=Z2 zq;obtain⟨rfl,rfl,s,h,x,U,d⟩:=AP zq;refine bw<|aN<|aa O<|kJ<|.inl ⟨L,_, -1,_,O,O,ag.of h,pY _ _,aC<|yJ ⟨_,O,?_⟩⟩;by_cases z:m=0;subst z;refine iF ?_ aP;refine cA<|aa O<|q L u s f ?_;rw[d,QX,Za];exact h;refine iT ?_ bc;obtain⟨j,y,G,es⟩:=lW A.tr (CR z) x;refine⟨λg Z=>∃(a:bn)(k:Nat),k<m/\g=[some<|.r p,some<|.i (n:Nat),some<|.r L]/\ar H Z/\Z L=some (.l<|(a.map λk=>V.i (k:Nat))++[V.i (k:Nat)])/\k<Y.length/\a.length+k<=n/\ups Y n n=a++ups Y k k,?_,?_⟩;rintro g Z ⟨M,b,J,e,I⟩;exact nS b J ⟨M,b,O,e,I⟩;have t:=A.same s;refine bU<|fK<|aa O ⟨.inl ⟨O,_,ag.of h⟩,aN<|cT<|aa O ⟨p,C,dx,_,_,O,t.ob,T.cl,T.m,pA,aN<|aa O<|kJ<|.inl ⟨L,_, -1,_,O,O,ag.of h,pY _ _,?_⟩⟩⟩;refine br t.c (bq (by rw[Z_,y];rfl)) ?_;refine nT _ h (bY (by rw[JB,Wo];show a.length+1<=1000000;lia)) ?_;have D:aE L u (upd u L<|.l<|((a.map λk=>V.i (k:Nat))++[V.i (m:Nat)])++[gV<|some j]):=aE.upd;refine oS (a++[m]) j G O (λc o e=>D c o (s _ _ e)<|aJ e f) ⟨?_,(YR G x),by rw[JB];show a.length+1+j<=n;lia,by rw[d,es,Xm];rfl⟩;rw[aj,Za];rfl
end
noncomputable def ZJ:bn->bn->bn×bn
 |r::a::d,s::b::c=>if a=b then ZJ (a::d) (b::c) else (r::a::d,s::b::c)
 |x,y=>(x,y)
def dy(Y:bi)(o E':Nat):bn:=(ZJ (ups Y o o).reverse (ups Y E' E').reverse).1.reverse++(ZJ (ups Y o o).reverse (ups Y E' E').reverse).2.tail
abbrev iV(l:bn):db:=l.map λk=>V.i (k:Nat)
theorem QY(xs:List α)(v w:α):fF (xs++[v,w]) (-2)=some v:=by
 have l:(xs++[v,w]).length=xs.length+2:=by simp
 unfold fF fZ;have h:¬(0:Int)<= -2:=by lia
 rw[Id h,GT aH];have e:(-2+((xs.length:Int)+2)).toNat=xs.length:=by lia
 simp[e]
theorem qW(r:Nat)(l:bn):iV (r::l).reverse=iV l.reverse++[V.i (r:Nat)]:=by simp
theorem vS(r:Nat)(y:bn):ZJ [r] y=([r],y):=O
theorem Cj(x:bn)(s:Nat):ZJ x [s]=(x,[s]):=by
 unfold ZJ;simp
theorem Ck{r a:Nat}{d c:bn}(h:a≠b):ZJ (r::a::d) (s::b::c)=(r::a::d,s::b::c):=by
 unfold ZJ;rw[Id h]
theorem XQ{r a:Nat}{c b:bn}:ZJ (r::a::c) (s::a::b)=ZJ (a::c) (a::b):=by
 conv=>lhs;unfold ZJ
 rw[GT O]
theorem QZ(l:bn):iV l.reverse=(iV l).reverse:=by simp
section
variable{K:Frag}{C f:Do}
inductive Cm(C:Do)(v:db)(H:Hp)(Q:VK)(E:XK):Prop|i(p dx lo a e be lg:Do)(N:Nat)(bN:bn)(Y:bi)(n m:Nat)(_:v=[.r p,.i n,.i m])(_:gk C H p dx lo a e be lg N bN Y)(_:n<Y.length)(_:m<Y.length)(_:∀b Z,ar H Z->H b=none->Z b=some (.l<|iV<|dy Y n m)->Q (.r b) Z)
inductive Q0(p u d:Do)(H:Hp)(n m:Nat)(Y:bi)(b:Nat)(F:St)(a:Hp):Prop|i(x y:bn)(_:b=x.length)(_:F=[some<|.r p,some<|.i (n:Nat),some<|.i (m:Nat),some<|.r u,some<|.r d])(_:ar H a)(_:a u=some (.l<|iV x.reverse))(_:a d=some (.l<|iV y.reverse))(_:x≠ [])(_:y≠ [])(_:x.length<=n+1)(_:y.length<=m+1)(_:ZJ (ups Y n n).reverse (ups Y m m).reverse=ZJ x y):Q0 p u d H n m Y b F a
abbrev iI(K:Frag)(C:Do)(f:Do)(E:XK):ba:=aG K [] [] [] [("need_node",C,nz C f),("upward",C,yN C)] (E:=E)
theorem agg:bz (Cm C) (λE=>iI K C f E) FL N1:=by
 intro vs H Q E h0;obtain⟨p,dx,lo,T,ed,be,lg,N,bN,Y,n,m,rfl,A,X,hm,q⟩:=h0;have sz:=A.sz;refine bU<|ky C (nz C f) O<|aa O ⟨p,dx,_,O,A.ob,ip,aa O ⟨p,dx,lo,T,ed,be,lg,N,bN,Y,_,O,A,.inl (nT n O X ?_)⟩⟩;refine bU<|ky C (nz C f) O<|aa O ⟨p,dx,_,O,A.ob,ip,aa O ⟨p,dx,lo,T,ed,be,lg,N,bN,Y,_,O,A,.inl (nT m O hm ?_)⟩⟩;refine aY<|ky C (yN C) O<|aa O ⟨p,dx,_,O,A.ob,ip,aa O ⟨p,dx,lo,T,ed,be,lg,N,bN,Y,n,O,A,X,λB t s1 fu hu=>?_⟩⟩;have A1:=A.same s1;refine aY<|ky C (yN C) O<|aa O ⟨p,dx,_,O,A1.ob,ip,aa O ⟨p,dx,lo,T,ed,be,lg,N,bN,Y,m,O,A1,hm,λd u s2 fd hd=>?_⟩⟩;have a':=s2 _ _ hu;have Q2:d≠B:=λz=>by rw[z,hu] at fd;cases fd
 have jh:=s1.trans s2;have b':=s1.free fd;have lu:=vR A.tr n X;have ld:=vR A.tr m hm;have ne:∀k,k<Y.length->(ups Y k k).reverse≠ []:=by
  intro k hk z;have z':=List.reverse_eq_nil_iff.mp z;by_cases k0:k=0;subst k0;cases z';obtain⟨j,_,_,e⟩:=lW A.tr (CR k0) hk;rw[e] at z';cases z'
 refine m6 (Q0 p B d H n m Y)
  (oM _ ⟨(ups Y n n).reverse,(ups Y m m).reverse,O,O,jh,by rw[hA];exact a',by rw[hA];exact hd,ne n X,ne m hm,by rw[V_];exact lu,by rw[V_];exact ld,O⟩) ?_
 rintro mm F P ⟨x,y,rfl,rfl,s3,D,I,nx,ny,W,U,es⟩;have S:(iV x.reverse).length=x.length:=by rw[Wo,V_]
 have R:(iV y.reverse).length=y.length:=by rw[Wo,V_]
 have G:ZJ x y=(x,y)->av (iI K C f E) (FL.drop 5) (Dn Q) [some<|.r p,some<|.i (n:Nat),some<|.i (m:Nat),some<|.r B,some<|.r d] P:=by
  intro e;refine cA<|cD<|aa O<|af7<|aq<|Hh<|aa O<|kJ ⟨_,O,.inl ⟨_,ag.of I,λw fw=>az (oG w _ O (ag.of aj) (λv fv=>?_))⟩⟩;have M:=V3 (o:=.l (dZ (iV y.reverse) none<|some<|-1)) fw;have s5:=V3 (o:=.l (dZ (iV y.reverse) none<|some<|-1).reverse) fv;have ec:(dZ (iV y.reverse) none<|some<|-1).reverse=iV y.tail:=by
   cases y with
   |nil=>exact absurd O ny
   |cons b g=>
    have e1:iV (b::g).reverse=iV g.reverse++[V.i (b:Nat)]:=by
     show List.map _ (b::g).reverse=_;rw[XT,Za];rfl
    rw[e1];unfold dZ;rw[HT.D5];have e2:HT.aZ (iV g.reverse++[V.i (b:Nat)]).length (iV g.reverse++[V.i (b:Nat)]).length (some<|-1)=(iV g.reverse).length:=by
     have hl:(iV g.reverse++[V.i (b:Nat)]).length=(iV g.reverse).length+1:=by rw[JB];rfl
     rw[hl];unfold HT.aZ;simp;lia
    rw[e2,Zg,Zf,Yr,QZ,hA];rfl
  refine .inl (oT B v _ _ O O ((M.trans s5) _ _ D) aj (cx (by rw[V_];have:=D8 (iV y.reverse) none (some<|-1);lia)) (λb fb=>?_));have s6:=V3 (o:=.l (iV x.reverse++(dZ (iV y.reverse) none<|some<|-1).reverse)) fb;refine q b _ (s3.trans<|(M.trans s5).trans s6) (s3.free<|(M.trans s5).free fb) ?_;rw[aj,ec];unfold dy;rw[es,e];show some (HO.l<|iV x.reverse++iV y.tail)=some (HO.l<|iV<|x.reverse++y.tail);unfold iV;rw[Za]
 match x,nx,W,es,G,D,S with
 |[r],_,W,es,G,D,S=>
  refine Cc<|bw<|dU<|aa O<|.inl ⟨_,ag.of D,aC<|pj ⟨_,O,iF (iF (G<|vS r y) O)<|ZN (by rw[S];show ¬((1:Nat):Int) >1;decide)⟩⟩
 |r::a::h,_,W,es,G,D,S=>
  refine Cc<|bw<|dU<|aa O<|.inl ⟨_,ag.of D,aC<|pj ⟨_,O,iT ?_<|W_ (by rw[S,Wt,Wt];lia)⟩⟩;match y,ny,U,es,G,I,R with
  |[s],_,U,es,G,I,R=>
   refine Cc<|bw<|dU<|aa O<|.inl ⟨_,ag.of I,aC<|pj ⟨_,O,iF (iF (G<|Cj _ s) O)<|ZN (by rw[R];show ¬((1:Nat):Int) >1;decide)⟩⟩
  |s::b::g,_,U,es,G,I,R=>
   refine Cc<|bw<|dU<|aa O<|.inl ⟨_,ag.of I,aC<|pj ⟨_,O,iT ?_<|W_ (by rw[R,Wt,Wt];lia)⟩⟩;have ex:iV (r::a::h).reverse=iV h.reverse++[V.i (a:Nat),V.i (r:Nat)]:=by rw[qW,qW,Xm];rfl
   have ey:iV (s::b::g).reverse=iV g.reverse++[V.i (b:Nat),V.i (s:Nat)]:=by rw[qW,qW,Xm];rfl
   refine af1<|bw<|aN<|aa O<|kJ<|br D (by rw[ex];exact QY _ _ _)<|aN<|aa O<|kJ<|br I (by rw[ey];exact QY _ _ _)<|nr ⟨_,O,?_⟩;by_cases z:a=b;subst z;refine iT ?_ aP;refine⟨λV' Z=>∃(J L:bn),J.length< (r::a::h).length/\V'=[some<|.r p,some<|.i (n:Nat),some<|.i (m:Nat),some<|.r B,some<|.r d]/\ar H Z/\Z B=some (.l<|iV J.reverse)/\Z d=some (.l<|iV L.reverse)/\J≠ []/\L≠ []/\J.length<=n+1/\L.length<=m+1/\ZJ (ups Y n n).reverse (ups Y m m).reverse=ZJ J L,?_,?_⟩;rintro V' Z ⟨J,L,aB,i1,i2,i3,i4,i5,i6,i7,i8,i9⟩;exact nS _ aB ⟨J,L,O,i1,i2,i3,i4,i5,i6,i7,i8,i9⟩;have e1:(iV (r::a::h).reverse).dropLast=iV (a::h).reverse:=by rw[qW,uC]
   have e2:(iV (s::a::g).reverse).dropLast=iV (a::g).reverse:=by rw[qW,uC]
   refine nT _ O (.inl ⟨O,oM _ (ag.of D)⟩) ⟨_,V.i (r:Nat),D,(by rw[qW,JB];show(iV (a::h).reverse++[V.i (r:Nat)])[(iV (a::h).reverse).length+1 - 1]?=_;simp),?_⟩;rw[e1];have b1:aE B P (upd P B<|.l<|iV (a::h).reverse):=aE.upd;have Q3:upd P B (.l<|iV (a::h).reverse) B=some (.l<|iV (a::h).reverse):=aj;have iq:=b1 _ _ I Q2;have M:ar H (upd P B<|.l<|iV (a::h).reverse):=λc o e=>b1 c o (s3 _ _ e) (aJ e fu);generalize upd P B (.l<|iV (a::h).reverse)=H4 at b1 Q3 iq M⊢;refine nT _ O (.inl ⟨O,oM _ (ag.of iq)⟩) ⟨_,V.i (s:Nat),iq,(by rw[qW,JB];show(iV (a::g).reverse++[V.i (s:Nat)])[(iV (a::g).reverse).length+1 - 1]?=_;simp),?_⟩;rw[e2];have b2:aE d H4 (upd H4 d<|.l<|iV (a::g).reverse):=aE.upd;have d':h.length+1+1<=n+1:=W;have c':g.length+1+1<=m+1:=U;exact oS (a::h) (a::g) (by show h.length+1<h.length+1+1;exact XA _) O (λc o e=>b2 c o (M _ _ e)<|aJ e b') ⟨b2 _ _ Q3<|Ix Q2,aj,aP,aP,by show h.length+1<=_;exact XE d',by show g.length+1<=_;exact XE c',by rw[es,XQ]⟩;exact iF (G<|Ck z) bc
end
def vT(H:Hp)(es:db)(Y:bi)(ax:List bn)(T:Nat):Prop:= ∀(i j:Nat),Y[i]?=some (some j)->∃(a:Do)(h:cr)(l b:bn),es[i]?=some (V.r a)/\ax[j]?=some l/\ax[i]?=some b/\bM H a h l b/\ao h<=T
theorem vT.same(m:vT H es Y ax T)(s:ar H Z):vT Z es Y ax T:=λi j e=>by
 obtain⟨a,h,l,b,zq⟩:=YC (m i j e);obtain⟨k,g,f,d,c⟩:=Y7 zq;exact n4 a h l b k g f (d.same s) c
section
variable{K:Frag}{C CN:Do}
theorem yQ{o:ww}(q:Q (.b<|decide<|o=some n) H):dh K .Eq (gV o) (.i (n:Nat)) H Q:=by
 cases o with
 |none=>
  first
   |exact q
   |exact⟨.none,.int (n:Nat),O,O,O,O,q⟩
 |some k=>
  refine nr ?_;by_cases z:k=n;subst z;have e:decide (some k=some k)=true:=by lia
  simpa using q;have e:decide (some k=some n)=false:=by lia
  rw[e] at q;have a:decide (((k:Nat):Int)=((n:Nat):Int))=false:=by lia
  rw[a];exact q
variable{b:Do}
inductive Cn(C b:Do)(v:db)(H:Hp)(Q:VK)(E:XK):Prop|i(p dx lo d e be lg:Do)(N:Nat)(bN:bn)(Y:bi)(c:Do)(h:cr)(l r:bn)(k:Nat)(_:v=[.r p,.r c])(_:gk C H p dx lo d e be lg N bN Y)(_:bM H c h l r)(_:ao h<=100000)(_:bN[N]?=some k)(_:((l.length=k/\∀Z,ar H Z->Q .a Z)\/(l.length≠k/\∀Z,ar H Z->E (.ref b) none Z)))
abbrev agT(K:Frag)(b:Do)(E:XK):ba:=aG K [("sizes",jB)] [] (et:=[("BadFit",b)]) (E:=E)
theorem agl(T:fI K C):bz (Cn C b) (λE=>agT K b E) NJ Bf:=by
 intro v H Q E f;obtain⟨p,dx,lo,o,w,be,lg,N,bN,Y,c,h,l,r,k,rfl,A,⟨xs,n,m,a⟩,u,j,f⟩:=f;have x:=jj h "" a.ok a.c;refine bQ<|bw<|aN<|bu jB O<|aq<|aa O<|az ⟨c,xs,h,O,n,m,a.ok,a.c,aH,λt Z s J=>aC<|vO J O ?_⟩;have g:=A.same s;refine aN<|cT<|aa O ⟨p,C,dx,_,_,O,g.ob,T.cl,T.vh,Cf,cT<|aa O ⟨p,C,dx,_,_,O,g.ob,T.cl,T.i,j8,br g.d (bq (by rw[Z_,j];rfl)) ?_⟩⟩;have e:=a.run.over;rw[e];refine yJ ⟨_,O,?_⟩;rcases f with⟨e,q⟩|⟨e,q⟩
 subst e;exact iF (ik<|q _ s) aH;refine iT ⟨de,q _ s⟩ ?_;have:decide (((l.length:Nat):Int)=((k:Nat):Int))=false:=by lia
 rw[this];rfl
end
namespace ZL
open PySem
abbrev tZ(h:FS)(z T b a:Do)(f:Gc):Prop:=
 h.get? z=some {cls:=.type "zip",dict:=none,data:=.fields #[rawInt a,.bool f,.bool false,.ref T,.ref b],slots:= #[]}
section
variable{g:Fk}{w:Fa}{A:FM}{E:ge}{s:Ev}
theorem alM{o:Obj}{Q:Option Obj->Ev->Prop}(b:s.heap.get? a=some o)(c:Q (some o) s):wpAny (model g w) A (loadIfAlive a) Q E s:=by
 have h:Q (s.heap.get? a) s:=by lia
 exact λY Y Y=>h
theorem held{o:Obj}{Q:Gc->Ev->Prop}(b:tZ s.heap z T T5 a f)(e:s.heap.get? a=some o)(d:∀c,tZ c z T T5 a true->Heap.SameBut z s.heap c->Q false {s with heap:=c}):wpAny (model g w) A (Builtin.SmallTypes.ownedTupleIsFree<|.ref z) Q E s:=by
 refine GM<|Op b O O (GM<|alM e (GM<|Op b O O ?_));cases f with
 |true=>
  exact IO<|d _ b ⟨O,λY Y=>O⟩
 |false=>
  refine GM<|wpAny_setField_rec b aP λh C Z=>?_;exact IO<|d h C Z
theorem agm{H:Obj}{xs B:sK}{y:EQ}{Q:ge}(D:ZipApart z T T5 i1 i2 l1 l2)(n:tZ s.heap z T T5 a f)(K:s.heap.get? a=some H)(U:IsPair s.heap T (.ref i1) (.ref i2))(N:s.heap.IsListIter i1 l1 m)(M:s.heap.IsListIter i2 l2 l)(R:s.heap.IsList l1 xs)(P:s.heap.IsList l2 B)(J:xs[m]?=some x)(I:B[l]?=some y)(L:∀k,tZ k z T T5 a true->k.IsListIter i1 l1 (m+1)->k.IsListIter i2 l2 (l+1)->IsPair k s.heap.objs.size x y->k.objs.size=s.heap.objs.size+1->
   (∀c o,c≠z->c≠i1->c≠i2->s.heap.get? c=some o->k.get? c=some o)->Q (.ref s.heap.objs.size) {s with heap:=k}):
  wpAny (model g w) A (Builtin.«zip.__next__» ⟨[.ref z],[]⟩) (λY G=>∃v,Y=.done (.ret v)/\Q v G) E s:=by
 show wpAny _ _ (field (.ref z) 2>>=_) _ _ _;refine GM<|Op n O (x:=.bool false) O ?_;refine GM<|Op n O (x:=.ref T) O ?_;refine GM<|WP U O ?_;refine GM<|held n K λu Co Z=>?_;refine GM ?_;refine GM<|GM<|No ?_;refine GM<|uD (N.extBut Z.extBut D.i1z) (R.extBut Z.extBut D.l1z) J λt X S=>IO (IO ?_);refine GM<|GM<|No ?_;refine GM (uD ((M.extBut Z.extBut D.i2z).extBut S.extBut D.i12.symm)
  ((P.extBut Z.extBut D.l2z).extBut S.extBut D.l2i1) I λh j C=>IO (IO (IO ?_)))
 refine GM<|wpAny_newTuple (hsz:=cM) ?_;have b:h.objs.size=s.heap.objs.size:=by rw[C.1,S.1,Z.1]
 have i:∀c o,c≠z->c≠i1->c≠i2->s.heap.get? c=some o->h.get? c=some o:=λc o r p V e=>C.extBut _ _ V (S.extBut _ _ p<|Z.extBut _ _ r e);have d:=C.extBut _ _ D.i2z.symm (S.extBut _ _ D.i1z.symm Co);refine IO ⟨_,O,?_⟩;have q:=L (h.push {cls:=.type "tuple",data:=.seq #[x,y]}) (KF _ d) ((X.extBut C.extBut D.i12).at λo e=>KF _ e) (j.at λo e=>KF _ e) (by rw[<-b];exact Nr _ O) (by rw[Sc,b]) λc o r W p e=>KF _ (i c o r W p e);rw[<-b] at q;exact q
theorem agq{C:Obj}{xs B:sK}{Q:Fin->Ev->Prop}(u:A.handled=none)(D:ZipApart z T T5 i1 i2 l1 l2)(l:tZ s.heap z T T5 a f)(G:s.heap.get? a=some C)(J:IsPair s.heap T (.ref i1) (.ref i2))(y:s.heap.IsListIter i1 l1 i)(H:s.heap.IsListIter i2 l2 k)(K:s.heap.IsList l1 xs)(I:s.heap.IsList l2 B)(U:xs[i]?=none\/B[k]?=none)(v:∀n e,(∀c o,c≠z->c≠i1->c≠i2->s.heap.get? c=some o->n.get? c=some o)->(∃o,n.get? e=some o/\o.cls=.type "StopIteration")->E (.ref e) {s with heap:=n}):
  wpAny (model g w) A (Builtin.«zip.__next__» ⟨[.ref z],[]⟩) Q E s:=by
 show wpAny _ _ (field (.ref z) 2>>=_) _ _ _;refine GM<|Op l O O (GM<|Op l O O (GM<|WP J O (GM<|held l G λr P Z=>GM (GM<|GM<|No ?_))));cases t:xs[i]? with
 |none=>
  exact GM<|wpAny_nextOf_list_end u (y.extBut Z.extBut D.i1z) (K.extBut Z.extBut D.l1z) t λh e j m=>v h e (λc o q p Y x=>j _ _ p<|Z.extBut _ _ q x) m
 |some x=>
  have F:B[k]?=none:=by lia
  refine GM<|uD (y.extBut Z.extBut D.i1z) (K.extBut Z.extBut D.l1z) t λh N j=>IO (IO (GM<|GM<|No ?_));exact GM (wpAny_nextOf_list_end u ((H.extBut Z.extBut D.i2z).extBut j.extBut D.i12.symm)
   ((I.extBut Z.extBut D.l2z).extBut j.extBut D.l2i1) F λd e b m=>v d e (λc o q p L x=>b _ _ L (j.extBut _ _ p (Z.extBut _ _ q x))) m)
theorem ags:typeLookup (.type "zip") "__len__"=pure none:=O
theorem agt:typeLookup (.type "zip") "__length_hint__"=pure none:=O
theorem agu{r:Do}(h:s.TypeIs (.ref r) "zip"){Q:Gc->Ev->Prop}(a:Q true s):wpAny (model g w) A (Builtin.List.listLengthHint<|.ref r) Q E s:=by
 exact GM<|ST h ags (GM<|ST h agt (IO a))
def qX(h:FS)(z W T i1 i2 l1 l2 S:Do)(i:Nat):Prop:=IsPair h W (.ref i1) (.ref i2)/\h.IsListIter i1 l1 i/\h.IsListIter i2 l2 i/\
 ((IsZip h z W T .none/\∃a b,IsPair h T a b)\/∃a f o,tZ h z W T a f/\h.get? a=some o/\a≠z/\a≠T/\a≠i1/\a≠i2/\a≠S)
theorem agv{xs B:sK}{y:EQ}{Q:AC->Ev->Prop}(D:ZipApart z TW T i1 i2 l1 l2)(R:qX s.heap z TW T i1 i2 l1 l2 S i)(Y:S<s.heap.objs.size)(P:s.heap.IsList l1 xs)(N:s.heap.IsList l2 B)(I:xs[i]?=some x)(H:B[i]?=some y)(L:∀h,qX h z TW T i1 i2 l1 l2 S (i+1)->IsPair h s.heap.objs.size x y->h.objs.size=s.heap.objs.size+1->(∀c o,c≠z->c≠T->c≠i1->c≠i2->s.heap.get? c=some o->h.get? c=some o)->Q (some<|.ref s.heap.objs.size) {s with heap:=h}):
  wpAny (model g w) A (pyNext<|.ref z) Q E s:=by
 obtain⟨k,p,n,⟨j,a,b,M⟩|⟨a,f,U,j,J,G,X,C,v,V⟩⟩:=YG R;have l:∀{c o},s.heap.get? c=some o->s.heap.objs.size≠c:=λe=>XF (IN e);refine wpAny_pyNext_zip_item D j k M p n P N I H λh u a2 t r m q d=>L h ⟨d _ _ D.TIz D.TITO D.TIi1 D.TIi2 k,t,r,.inr (p4 _ false _ u m (l j) (l M) ?_ ?_ (XF Y))⟩ m q d;obtain⟨W,e,W⟩:=p;exact l e;obtain⟨W,e,W⟩:=n;exact l e;have K:s.TypeIs (.ref z) "zip":=nS _ j O;exact GM (wpAny_attempt (ZB K XL
  (wpAny_call_entry XL K F.entry_zip_next
   (agm D j J k p n P N I H λh u t r m q d=>IO (L h ⟨d _ _ D.TIz D.TIi1 D.TIi2 k,t,r,.inr (p4 a true U u (d _ _ G C v J) G X C v V)⟩ m q λc o c1 W c3 Z e=>d c o c1 c3 Z e)) (F.args_zip_next_1 _))))
theorem agw{xs B:sK}{Q:AC->Ev->Prop}(j:A.handled=none)(D:ZipApart z TW q i1 i2 l1 l2)(t:qX s.heap z TW q i1 i2 l1 l2 S i)(K:s.heap.IsList l1 xs)(n:s.heap.IsList l2 B)(v:xs[i]?=none\/B[i]?=none)(k:∀d,(∀c o,c≠z->c≠q->c≠i1->c≠i2->s.heap.get? c=some o->d.get? c=some o)->Q none {s with heap:=d}):wpAny (model g w) A (pyNext<|.ref z) Q E s:=by
 obtain⟨p,m,l,⟨h,a,b,G⟩|⟨a,f,L,h,C,U,R,P,N,M⟩⟩:=YG t;exact wpAny_pyNext_zip_end j D h p G m l K n v k;have T:s.TypeIs (.ref z) "zip":=⟨_,h,O⟩;refine GM (wpAny_attempt (ZB T XL
  (wpAny_call_entry XL T F.entry_zip_next (agq j D h C p m l K n v λd e u x=>?_) (F.args_zip_next_1 _))))
 obtain⟨o,r,y⟩:=x;exact GM<|wpAny_isInstance ⟨o,r,y⟩ isSubtype_stop (IO<|k _ λc o J Y I H e=>u c o J I H e)
theorem qX.keep{d:Do}(s:qX h0 z T d i1 i2 l1 l2 S i)(h:∀b o,b≠S->h0.get? b=some o->h'.get? b=some o)(n:z≠S/\T≠S/\d≠S/\i1≠S/\i2≠S):qX h' z T d i1 i2 l1 l2 S i:=by
 obtain⟨l,k,j,⟨c,a,b,x⟩|⟨a,f,m,c,u,t,r,q,p,g⟩⟩:=YG s;exact⟨h _ _ n.2.1 l,k.at λo e=>h _ o n.2.2.2.1 e,j.at λo e=>h _ o n.2.2.2.2 e,.inl ⟨h _ _ n.1 c,rP a b (h _ _ n.2.2.1 x)⟩⟩;exact⟨h _ _ n.2.1 l,k.at λo e=>h _ o n.2.2.2.1 e,j.at λo e=>h _ o n.2.2.2.2 e,.inr (p4 a f m (h _ _ n.1 c) (h _ _ g u) t r q p g)⟩
variable{R:Result->Ev->Prop}{f B:sK}
structure ZG(f B:sK)(lo:Nat)(h0:FS)(as:ii):Prop where
 rise:as.Pairwise (· < ·)
 above:∀a∈as,@LE.le Nat _ lo a
 pairs:∀(j:Nat)(a:Do),as[j]?=some a->∃x y,f[j]?=some x/\B[j]?=some y/\IsPair h0 a x y
theorem agx{lo:Nat}(hh:A.handled=none)(D:ZipApart z TW T i1 i2 l1 l2)(n:z≠S/\TW≠S/\T≠S/\i1≠S/\i2≠S)(hl: @LT.lt Nat _ z lo/\ @LT.lt Nat _ T lo/\ @LT.lt Nat _ i1 lo/\ @LT.lt Nat _ i2 lo/\ @LT.lt Nat _ S lo)(n1:l1≠S)(n2:l2≠S)(hn:min f.size B.size<=sizeLine)(r:EQ){h₁:FS}(hR:∀m t X c d,(∀b o,b≠S->b≠z->b≠T->b≠i1->b≠i2->h₁.get? b=some o->m.get? b=some o)->m.get? S=some {cls:=.type "list",dict:=none,data:=.seq X c,slots:= #[]}->d.length=min f.size B.size->ZG f B lo m d->
   X.toList=d.map Value.ref->R (.ok (.ret r)) {s with heap:=m,toks:=t}):
  ∀(k i:Nat)(h:FS)(t c:Nat)(X:sK)(d:ii),min f.size B.size - i=k->i<=min f.size B.size->qX h z TW T i1 i2 l1 l2 S i->h.IsList l1 f->h.IsList l2 B->(∀b o,b≠S->b≠z->b≠T->b≠i1->b≠i2->h₁.get? b=some o->h.get? b=some o)->
   h.get? S=some {cls:=.type "list",dict:=none,data:=.seq X c,slots:= #[]}->X.toList=d.map Value.ref->d.length=i->ZG f B lo h d-> @LE.le Nat _ lo h.objs.size->
   codeAny (model g w) A (.builtin "list.extend.loop" ⟨[.ref S,.ref z,r],[]⟩) R {s with heap:=h,toks:=t}:=by
 obtain⟨q1,q2,q3,q4,q5⟩:=hl;have Q5:∀{a:Do},@LE.le Nat _ lo a->a≠z/\a≠T/\a≠i1/\a≠i2/\a≠S:=λh=>⟨XF<|ZP q1 h,XF<|ZP q2 h,XF<|ZP q3 h,XF<|ZP q4 h,XF<|ZP q5 h⟩;intro k;induction k with
 |zero=>
  intro i h t c X d hk hi fV V M Hr H P N G Ao;have oz:i=min f.size B.size:=by lia
  refine codeAny_builtin PySem.F.entry_extend_loop ?_;rw[Around.under_plainId v3 _];show wpAny _ A.in1 (pyNext (.ref z) >>=_) _ _ _;have vU:f[i]?=none\/B[i]?=none:=by
   rcases Nat.le_total f.size B.size with q|q
   exact .inl (Array.getElem?_eq_none aH);exact .inr (Array.getElem?_eq_none aH)
  refine GM<|agw (s:={s with heap:=h,toks:=t}) (A:=A.in1) hh D fV V M vU λm he=>?_;refine IO<|hR m t X c d (λb o U L K J I e=>he b o L K J I<|Hr b o U L K J I e) (he S _ n.1.symm n.2.2.1.symm n.2.2.2.1.symm n.2.2.2.2.symm H) aH ⟨G.rise,G.above,λj a l=>?_⟩ P;obtain⟨x,y,e1,e2,e3⟩:=G.pairs j a l;obtain⟨f1,f2,f3,f4,f5⟩:=Q5 (G.above a<|YK l);exact oG x y e1 e2 (he a _ f1 f2 f3 f4 e3)
 |succ k ih=>
  intro i h t c X d hk hi fV V M Hr H P N G Ao;have Y:i<f.size:=by lia
  have W:i<B.size:=by lia
  have C:X.size=i:=by rw[<-x6,P,Wo,N]
  refine codeAny_builtin PySem.F.entry_extend_loop ?_;rw[Around.under_plainId v3 _];show wpAny _ A.in1 (pyNext (.ref z) >>=_) _ _ _;refine GM<|agv (s:={s with heap:=h,toks:=t}) (S:=S) D fV (IN H) V M (Y2 Y) (Y2 W) λm b' Z hz v=>?_;dsimp only at Z hz v⊢;have qv:=v S _ n.1.symm n.2.2.1.symm n.2.2.2.1.symm n.2.2.2.2.symm H;have u:∀b o,b≠S->m.get? b=some o->(m.update S (Obj.mapSeq (·.push (Value.ref h.objs.size)))).get? b=some o:=λb o E e=>(On _ _<|Ix E).trans e;have Q6:S<h.objs.size:=IN H;show wpAny _ A.in1 (updateSeq S (·.push (Value.ref h.objs.size)) >>=_) _ _ _;refine GM ?_;refine UF qv O (IO ⟨plainId_quiet v3 _,ih (i+1) _ t _ (X.push (Value.ref h.objs.size)) (d++[h.objs.size]) aH aH (b'.keep u n) (V.at λo e=>u l1 o n1 (v l1 o D.l1z D.l1TO D.l1i1 D.l1i2 e)) (M.at λo e=>u l2 o n2 (v l2 o D.l2z D.l2TO D.l2i1 D.l2i2 e))
   (λb o U L K J I e=>u b o U (v b o L K J I (Hr b o U L K J I e))) (Pw _ qv O) (by rw[Array.toList_push,P,Za];rfl) (by rw[JB,N];rfl) ⟨?_,?_,?_⟩ ?_⟩) (by rw[C];exact Y4 hi hn) (by show(X.push (Value.ref h.objs.size)).size<=sizeLine+1;rw[Array.size_push,C];exact X4 (Y4 hi hn) _)
  refine List.pairwise_append.mpr ⟨G.rise,List.pairwise_singleton _ _,λa p b E=>?_⟩;rw[Ya.mp E];obtain⟨j,l⟩:=WK.mp p;obtain⟨_,_,_,_,e⟩:=G.pairs j a l;exact IN e;intro a p;rcases Z4.mp p with p|p
  exact G.above a p;rw[Ya.mp p];exact Ao;intro j b l;rcases Nat.lt_trichotomy j d.length with Q|Q|Q
  rw[Yb Q] at l;obtain⟨x',y',e1,e2,e3⟩:=G.pairs j b l;obtain⟨f1,f2,f3,f4,f5⟩:=Q5 (G.above b<|YK l);exact oG x' y' e1 e2 (u b _ f5<|v b _ f1 f2 f3 f4 e3);subst Q;have E:h.objs.size=b:=by simpa using l
  subst E;refine oG (f[d.length]) (B[d.length]) ?_ ?_ (u _ _ (XF Q6) ?_);exact Y2 (yF (XX N) Y);exact Y2 (yF (XX N) W);subst N;exact Z;have a':(d++[h.objs.size])[j]?=none:=XC (by rw[JB,Xy];exact XS Q);rw[a'] at l;cases l;have e:(m.update S (Obj.mapSeq (·.push (Value.ref h.objs.size)))).get? h.objs.size=_:=u _ _ (XF Q6) Z;exact Zb<|yF Ao<|IN e
end
section
variable{k:Fk}{w:Fa}{A:FM}{E:ge}{s:Ev}{g B:sK}
theorem YA{R:Result->Ev->Prop}(N:A.handled=none)(D:ZipApart z TW T i1 i2 l1 l2)(t:z≠S/\TW≠S/\T≠S/\i1≠S/\i2≠S)(C:l1≠S)(y:l2≠S)(L:min g.size B.size<=sizeLine)(d:IsZip s.heap z TW T .none)(c5:IsPair s.heap TW (.ref i1) (.ref i2))(q:∃a b,IsPair s.heap T a b)(I:s.heap.IsListIter i1 l1 0)(H:s.heap.IsListIter i2 l2 0)(cK:s.heap.IsList l1 g)(Z:s.heap.IsList l2 B)(r:EQ)(i:Nat)(u:s.heap.get? S=some {cls:=.type "list",data:=.seq #[] i})(Q:∀p K X c v,(∀b o,b≠S->b≠z->b≠T->b≠i1->b≠i2->s.heap.get? b=some o->p.get? b=some o)->p.get? S=some {cls:=.type "list",dict:=none,data:=.seq X c,slots:= #[]}->v.length=min g.size B.size->ZG g B s.heap.objs.size p v->
   X.toList=v.map Value.ref->R (.ok (.ret r)) {s with heap:=p,toks:=K}):
  wpAny (model k w) A.in1 (Builtin.List.listExtendWith (.ref S) (.ref z) r)
   (λY' m=>match Y' with|.done f=>R (.ok f) m|.again J=>J.quiet=true/\codeAny (model k w) A J R m) (λe m=>R (.error e) m) s:=by
 have G:s.TypeIs (.ref z) "zip":=⟨_,d,O⟩;unfold Builtin.List.listExtendWith;refine GM<|wpAny_typeOf G ?_;have Y:Builtin.List.listSameRef (.ref S) (.ref z)=false:=by simp[Builtin.List.listSameRef,t.1.symm]
 have V:(Value.type "zip"==Value.type "list")=false:=by decide
 have U:(Value.type "zip"==Value.type "tuple")=false:=by decide
 simp only[Y,V,U,ZO,WW,SB];refine GM<|wpAny_pyIter_zip d ?_;refine GM<|No<|agu G ?_;refine GM<|wpAny_rule ?_;refine GM ?_;refine GM<|UF u O ?_;have x:=Pw (Obj.mapSeq (·.push Value.none)) u O;refine UF (hz:=by seq_fits) x O ?_;have h:=Pw (Obj.mapSeq (·.pop)) x O;have n:∀b o,b≠S->s.heap.get? b=some o->((s.heap.update S (Obj.mapSeq (·.push Value.none))).update S (Obj.mapSeq (·.pop))).get? b=some o:=
  λb o E e=>(On _ _<|Ix E).trans ((On _ _<|Ix E).trans e)
 have l:∀{c o},s.heap.get? c=some o-> @LT.lt Nat _ c s.heap.objs.size:=λe=>IN e;obtain⟨a,b,q⟩:=q;refine IO ⟨plainId_quiet F.plain_extend_loop _,agx (s:=s) (h₁:=s.heap) (lo:=s.heap.objs.size) N D t ⟨l d,l q,?_,?_,l u⟩ C y L r Q _ 0 _ _ _ _ [] O (Y_ _)
  (qX.keep ⟨c5,I,H,.inl ⟨d,a,b,q⟩⟩ n t) (cK.at λo e=>n l1 o C e) (Z.at λo e=>n l2 o y e) (λb o b0 W W W W e=>n b o b0 e) h O O ⟨List.Pairwise.nil,(λW P=>nomatch P),(λj a M=>by simp at M)⟩ ?_⟩
 obtain⟨W,e,W⟩:=I;exact l e;obtain⟨W,e,W⟩:=H;exact l e;rw[Heap.size_update,Heap.size_update];exact ZX _
theorem agE{R:Result->Ev->Prop}(J:A.handled=none)(D:ZipApart z TW T i1 i2 l1 l2)(n:z≠S/\TW≠S/\T≠S/\i1≠S/\i2≠S)(r:l1≠S)(q:l2≠S)(F:min g.size B.size<=sizeLine)(E:IsZip s.heap z TW T .none)(U:IsPair s.heap TW (.ref i1) (.ref i2))(p:∃a b,IsPair s.heap T a b)(N:s.heap.IsListIter i1 l1 0)(M:s.heap.IsListIter i2 l2 0)(Q:s.heap.IsList l1 g)(P:s.heap.IsList l2 B)(m:s.heap.get? S=some {cls:=.type "list",data:=.seq #[]})(L:∀h t X c d,(∀b o,b≠S->b≠z->b≠T->b≠i1->b≠i2->s.heap.get? b=some o->h.get? b=some o)->h.get? S=some {cls:=.type "list",dict:=none,data:=.seq X c,slots:= #[]}->d.length=min g.size B.size->ZG g B s.heap.objs.size h d->
   X.toList=d.map Value.ref->R (.ok (.ret .none)) {s with heap:=h,toks:=t}):
  wpAny (model k w) A.in1 (Builtin.«list.__init__» ⟨[.ref S,.ref z],[]⟩)
   (λY' j=>match Y' with|.done f=>R (.ok f) j|.again u=>u.quiet=true/\codeAny (model k w) A u R j) (λe j=>R (.error e) j) s:=by
 show wpAny _ _ (do let l <-Builtin.List.listItems (.ref S);Builtin.List.listUpdate (.ref S) (λW=> #[]);letGo l.toList.reverse;Builtin.List.listExtendWith (.ref S) (.ref z) .none) _ _ s;refine GM ?_;unfold Builtin.List.listItems;refine GM<|WP m O<|IO ?_;show wpAny _ _ (updateSeq S (λW=> #[]) >>=λW=>letGo (#[]:sK).toList.reverse>>=λW=>Builtin.List.listExtendWith (.ref S) (.ref z) .none) _ _ s;refine GM<|UF m O ?_;have x:=Pw (Obj.mapSeq<|λW=>(#[]:sK)) m O;have i:∀b o,b≠S->s.heap.get? b=some o->(s.heap.update S<|Obj.mapSeq<|λW=>(#[]:sK)).get? b=some o:=
  λb o K e=>(On _ _<|Ix K).trans e
 refine GM<|wpAny_letGo ?_;obtain⟨a,b,p⟩:=p;refine YA J D n r q F (i _ _ n.1 E) (i _ _ n.2.1 U) (rP a b (i _ _ n.2.2.1 p)) (N.at λo e=>i _ o n.2.2.2.1 e) (M.at λo e=>i _ o n.2.2.2.2 e) (Q.at λo e=>i l1 o r e) (P.at λo e=>i l2 o q e) .none _ x λh t X c d I y H G C=>?_;rw[Heap.size_update] at G;exact L h t X c d (λb o v b1 Z Y V e=>I b o v b1 Z Y V<|i b o v e) y H G C
theorem agF{Q:ge}(I:A.handled=none)(D:ZipApart z TW T i1 i2 l1 l2)(y:min g.size B.size<=sizeLine)(l:IsZip s.heap z TW T .none)(u:IsPair s.heap TW (.ref i1) (.ref i2))(i:∃a b,IsPair s.heap T a b)(q:s.heap.IsListIter i1 l1 0)(m:s.heap.IsListIter i2 l2 0)(K:s.heap.IsList l1 g)(r:s.heap.IsList l2 B)(J:∀h t X c f,(∀b o,b≠z->b≠T->b≠i1->b≠i2->s.heap.get? b=some o->h.get? b=some o)->h.get? s.heap.objs.size=some {cls:=.type "list",dict:=none,data:=.seq X c,slots:= #[]}->f.length=min g.size B.size->ZG g B (s.heap.objs.size+1) h f->
   X.toList=f.map Value.ref->Q (.ref s.heap.objs.size) {s with heap:=h,toks:=t}):
  wpAny (model k w) A (call (.type "list") [.ref z]) Q E s:=by
 refine callType_codes (Q₁:=λj U=>j=.ref s.heap.objs.size/\U={s with heap:=s.heap.push {cls:=.type "list",data:=.seq #[]}}) PySem.F.called_list (PySem.F.typeCall_list_1 _) PySem.F.entry_list_init
  (code_list_new _ ⟨O,O⟩) λj U d=>?_
 obtain⟨rfl,rfl⟩:=d;have S:(s.heap.push {cls:=.type "list",data:=.seq #[]}).get? s.heap.objs.size=some {cls:=.type "list",data:=.seq #[]}:=Nr _ O;have n:∀{c o},s.heap.get? c=some o->c≠s.heap.objs.size:=λe=>Ze (IN e);obtain⟨a,b,i⟩:=i;have p:∀c o,s.heap.get? c=some o->(s.heap.push {cls:=.type "list",data:=.seq #[]}).get? c=some o:=λc o e=>KF _ e;refine⟨⟨_,S,O⟩,PySem.F.args_list_init_2 _ _,agE I D ⟨n l,n u,n i,?_,?_⟩ ?_ ?_ y (p _ _ l) (p _ _ u) ⟨a,b,p _ _ i⟩ (q.at λo e=>p _ o e) (m.at λo e=>p _ o e) (K.at λo e=>p _ o e) (r.at λo e=>p _ o e) S λh t X c f H v C G x=>?_⟩;obtain⟨Y,e,Y⟩:=q;exact n e;obtain⟨Y,e,Y⟩:=m;exact n e;obtain⟨Y,e,Y⟩:=K;exact n e;obtain⟨Y,e,Y⟩:=r;exact n e;rw[Sc] at G;exact⟨O,J h t X c f (λb o P N M L e=>H b o (n e) P N M L<|p b o e) v C G x⟩
end
end ZL
section
open PyProof.Rows
def Hs(K:Frag):db->Hp->VK->Prop:=λs H Q=>∃a b xs B,s=[.r a,.r b]/\ag K H a xs/\ag K H b B/\∀(ts:ii)(l:Do)(Z:Hp),ts.length=min xs.length B.length->ar H Z->(∀c∈ts,H c=none)->H l=none->
 (∀(i:Nat)(c:Do),ts[i]?=some c->∃u v,xs[i]?=some u/\B[i]?=some v/\Z c=some (.t [u,v]))->Z l=some (.l<|ts.map V.r)->Q (.r l) Z
def Q7:Frag->TA->TE:=λK t=>iR (Hs K) t
section
variable{X:Cx}{f:gh}{F:St}{H:Hp}{s g:Ev}
theorem Q8(i:uP X f F H0 g):∀(ts:ii){H:Hp},uP X f F H s->(∀d∈ts,g.heap.objs.size<=d/\H d=none/\∃u v a b,lA a u/\lA b v/\s.heap.IsTuple d #[u,v])->ts.Nodup->
  ∃Z,uP X f F Z s/\ar H Z/\(∀d∈ts,∃u v a b,lA a u/\lA b v/\s.heap.IsTuple d #[u,v]/\Z d=some (.t [a,b]))/\∀c,c∉ts->Z c=H c
 |[],H,I,_,_=>pQ H I (λY Y e=>e) (λY j=>nomatch j) (λY Y=>O)
 |T::ts,H,I,j,w=>by
  obtain⟨l,K,u,v,a,b,m,r,k⟩:=j T Wu;have M:uP X f F (upd H T<|.t [a,b]) s:=by
   refine uP.Ar I K (Y4 i.sz l) (XF<|ZP i.lt l) (λx c e q=>?_) (λp J q=>?_) (qC (by show 2<=sizeLine;decide) [u,v] (.cons m<|.cons r .nil) k);obtain⟨P,G⟩:=i.cell x c e;have:=G.lt;rw[q] at this;cases Xx _ (ZP this l);have:=IN (i.pin p J).1;rw[q] at this;cases Xx _ (ZP this l)
  have y:=(YL.mp w).1;obtain⟨Z,N,B,L,n⟩:=Q8 i ts M (λd h=>by
   obtain⟨E,D,C⟩:=j d (Wb _ h);exact⟨E,by rw[aw (show d≠T from λe=>y aH)];exact D,C⟩) (YL.mp w).2
  refine pQ Z N (λc o e=>B _ _ (by rw[aw (λz=>by lia)];exact e)) (λd h=>?_) (λc A=>?_);rcases X9.mp h with rfl|h
  exact pF u v a b m r k (by rw[n _ y,aj]);exact L d h;rw[n c<|λq=>A<|Wb _ q,aw (show c≠T from λe=>A (e▸Wu))]
end
section
variable{CX:cP}{S:cZ}{W:ba}{X:Cx}{k f:Expr}{es:tz}{x y:Str}{p l E w:Pos}{m A:RE}{rs:wn}
theorem agG(hc:X.calm=true)(g1:Gl X "list")(m1:X.mg "list"=none)(g2:Gl X "zip")(m2:X.mg "zip"=none)(ha:PA X [k,f] t0)(hs:starEach [k,f] X.env=(false,eval k X.env)::starEach [f] X.env)(ke:(backTo w<|starEach [f] X.env).any (·.1)=false):
  PE X (.Call (.Name "list" p) [.Call (.Name "zip" l) [k,f] [] w] [] E) (iR (Hs X.K) t0):=by
 intro W s F H Q I h0;refine Ps<|my I g1 m1 E5 ?_ aQ aQ;refine Pi ?_ O O;refine Zj ?_;refine Ps<|my I g2 m2 zD ?_ aQ aQ;refine Pi ?_ hs ke;refine aF (ha w W s F H _ I h0) λus h ⟨vs,t,y,m,G⟩=>?_;obtain⟨l1,l2,xs,B,zq⟩:=YC G;obtain⟨rfl,hx,hy,q⟩:=YG zq;obtain⟨C,v,rfl,ru,rv⟩:=X3 m;cases ru;cases rv;obtain⟨lq,AH,p1,z1⟩:=y.list hx;obtain⟨fY,AI,l,z2⟩:=y.list hy;have cK:=AH.length;have d4:=AI.length;refine call_zip_2 p1.isList l.isList λh' a1 a2 a3 a4 a5 a6 hk=>?_;refine YT ?_;have EO: @LT.lt Nat _ l1 h.heap.objs.size:=by obtain⟨d,e,d⟩:=p1.isList;exact IN e
 have ER: @LT.lt Nat _ l2 h.heap.objs.size:=by obtain⟨d,e,d⟩:=l.isList;exact IN e
 have D:ZipApart (h.heap.objs.size+4) (h.heap.objs.size+2) (h.heap.objs.size+3) h.heap.objs.size (h.heap.objs.size+1) l1 l2:=by
  constructor<;>(show @Ne Nat _ _;lia)
 refine ZL.agF (s:={h with heap:=h'}) (g:=lq.toArray) (B:=fY.toArray) (I.ok.hd hc) D (by simp only[WD];lia) a1 a2 (rP _ _ a3) a4 a5 (p1.isList.at λo e=>hk _ o e) (l.isList.at λo e=>hk _ o e) λU tk X' c u kp eS ir J ia=>?_;dsimp only at kp eS J⊢;rw[a6] at J eS;have kk:∀b o,h.heap.get? b=some o->U.get? b=some o:=λb o e=>by
  have lt: @LT.lt Nat _ b h.heap.objs.size:=IN e;refine kp b o ?_ ?_ ?_ ?_ (hk b o e) <;>(show @Ne Nat _ _;lia)
 have I2:uP X W F t {h with heap:=U,toks:=tk}:=y.kept kk;have P:∀t0∈u,@LE.le Nat _ (h.heap.objs.size+6) t0:=λt0 A=>J.above t0 A;have yR:∀t0∈u,∃C v a b,lA a C/\lA b v/\U.IsTuple t0 #[C,v]:=λt0 A=>by
  obtain⟨j,hj⟩:=WK.mp A;obtain⟨C,v,k,f,e3⟩:=J.pairs j t0 hj;have k:lq[j]?=some C:=by simpa using k
  have f:fY[j]?=some v:=by simpa using f
  have T:j<xs.length:=by have:=(ZS.mp k).1;lia
  have R:j<B.length:=by have:=(ZS.mp f).1;lia
  obtain⟨Y,G,q2⟩:=AH.get (i:=j) (x:=xs[j]) (by simp[T]);obtain⟨N,L,q4⟩:=AI.get (i:=j) (x:=B[j]) (by simp[R]);rw[k] at G;cases G;rw[f] at L;cases L;exact rP C v ⟨_,_,q2,q4,nT _ e3 O ⟨_,O⟩⟩
 have nd:u.Nodup:=J.rise.imp λh0=>Ze h0;have fr:∀t0∈u,t t0=none:=λt0 A=>y.ay.fresh (Y4 (Xw _ 6)<|P t0 A);obtain⟨Z,I3,sm,al,ot⟩:=Q8 y u I2 (λt0 A=>⟨Y4 (Xw _ 6)<|P t0 A,fr t0 A,yR t0 A⟩) nd;have nl:h.heap.objs.size+5∉u:=λq=>absurd (P _ q) (Nat.not_le_of_gt (XA _));have S:h.heap.objs.size<=h.heap.objs.size+5:=Xw _ 5;have fl:t (h.heap.objs.size+5)=none:=y.ay.fresh S;have rl:Wz (u.map V.r) X'.toList:=by
  rw[ia];clear ia J ir yR nd fr al ot nl P;induction u with
  |nil=>exact .nil
  |cons t0 ts ih=>exact .cons O ih
 have ml:min xs.length B.length<=sizeLine:=by lia
 have Q9:u.length=min xs.length B.length:=by rw[ir];simp only[WD];lia
 have I4:uP X W F (upd Z (h.heap.objs.size+5)<|.l<|u.map V.r) {h with heap:=U,toks:=tk}:=by
  refine uP.Ar I3 (by rw[ot _ nl];exact fl) (Y4 y.sz S) (XF<|ZP y.lt S) (λx c e q=>?_) (λp hp q=>?_) (sA (by rw[Wo,Q9];exact ml) X'.toList c rl (by simpa using eS));obtain⟨N,q'⟩:=y.cell x c e;have:=q'.lt;rw[q] at this;exact absurd (ZP this S)<|Xx _;have:=IN (y.pin p hp).1;rw[q] at this;exact absurd (ZP this S)<|Xx _
 show EP X W F Q (.ref h'.objs.size) _;rw[a6];refine⟨.r<|h.heap.objs.size+5,_,I4,O,q u (h.heap.objs.size+5) _ Q9 (λb o e=>?_) fr fl (λi t0 hi=>?_) aj⟩;rw[aw (λz=>by rw[z,fl] at e;cases e)];exact sm _ _ e;obtain⟨C,v,k,f,e3⟩:=J.pairs i t0 hi;obtain⟨Y,N,a,b,zq⟩:=YC (al t0 (YK hi));obtain⟨ra,rb,tT,e⟩:=YG zq;have eu:Y=C/\N=v:=by
  obtain⟨o,ho,d,n,M⟩:=tT;rw[e3] at ho;cases ho;injection M with M
  simp at M;exact⟨M.1.symm,M.2.symm⟩
 obtain⟨rfl,rfl⟩:=eu;have k:lq[i]?=some Y:=by simpa using k
 have f:fY[i]?=some N:=by simpa using f
 have T:i<xs.length:=by have:=(ZS.mp k).1;lia
 have R:i<B.length:=by have:=(ZS.mp f).1;lia
 obtain⟨u2,G,q2⟩:=AH.get (i:=i) (x:=xs[i]) (by simp[T]);obtain⟨v2,L,q4⟩:=AI.get (i:=i) (x:=B[i]) (by simp[R]);rw[k] at G;cases G;rw[f] at L;cases L;refine oG (xs[i]) (B[i]) (by simp[T]) (by simp[R]) ?_;rw[aw (show t0≠h.heap.objs.size+5 from λz=>nl (by rw[<-z];exact YK hi)),e,ra.inj q2,rb.inj q4]
theorem agH(G:Good CX S W X)(c:PA X [k,f] (aR W [m,A]))(h:autoParam (kB S x "list"=true) ei)(a:autoParam (kB S y "zip"=true) ei)(b:autoParam (iG [k,f]=true) ei)(q:autoParam (S.m=0) cu):PE X (.Call (.Name x p) [.Call (.Name y l) [k,f] [] w] [] E) (af W<|.x Q7 [m,A]):=by
 simp only[kB,WZ,KK] at h a;obtain⟨⟨rfl,i⟩,g⟩:=h;obtain⟨⟨rfl,e⟩,d⟩:=a;show PE X _ (iR (Hs W.K)<|aR W [m,A]);rw[<-G.K];have n:=fH b;exact agG (G.calm q) (G.gl i) (G.gY _ g) (G.gl e) (G.gY _ d) c (eJ n.1)<|mI _ _ _ n.2
end
end
noncomputable def kids(Y:bi)(i:Nat):bn:=(List.range Y.length).filter λj=>Y[j]?==some (some i)
def bo(M:ii)(H Z:Hp):Prop:= ∀b o,H b=some o->b∉M->Z b=some o
theorem bo.trans(a:bo M H t)(b:bo M t u):bo M H u:=λc o e n=>b c o (a c o e n) n
theorem bo.of(s:ar H Z):bo M H Z:=λc o e Y=>s c o e
theorem bo.upd{o:HO}(h:c∈M):bo M H (upd H c o):=λb u e n=>by rw[aw (show b≠c from λz=>n (z▸h))];exact e
theorem aO{o:HO}(n:a≠b)(h:H a=some o):upd H b c a=some o:=by rw[aw n];exact h
def jF(M:ii)(H:Hp):Prop:= ∀x∈M,∃o,H x=some o/\∀B,o≠ .t B
theorem jF.same(a:jF M H)(s:ar H Z):jF M Z:=λx h=>(a x h).imp λo e=>⟨s _ _ e.1,e.2⟩
theorem jF.upd(a:jF M H):jF M (upd H c<|.l xs):=λx h=>by
 by_cases z:x=c;subst z;exact⟨_,aj,nofun⟩;rw[aw z];exact a x h
theorem jF.no(h:jF M H)(f:H a=none):a∉M:=λq=>by
 obtain⟨o,e,Y⟩:=h a q;rw[f] at e;cases e
theorem jF.bx(h:jF M H)(b:bo M H Z):bI H Z:=λc xs e=>b c _ e λq=>by
 obtain⟨o,a,n⟩:=h c q;rw[a] at e;exact n xs<|lF e
structure Cr(p lo pa ed be lg:Do)(bs:ii):Prop where
 nd:(p::lo::pa::ed::be::lg::bs).Nodup
section
variable{p c e f g k:Do}{b:ii}
theorem Cr.l(A:Cr p c e f g k b):(p≠c/\p≠e/\p≠f/\p≠g/\p≠k/\p∉b)/\(c≠e/\c≠f/\c≠g/\c≠k/\c∉b)/\(e≠f/\e≠g/\e≠k/\e∉b)/\(f≠g/\f≠k/\f∉b)/\(g≠k/\g∉b)/\k∉b/\b.Nodup:=by
 have h:=A.nd;simp at h;exact⟨⟨h.1.1,h.1.2.1,h.1.2.2.1,h.1.2.2.2.1,h.1.2.2.2.2.1,h.1.2.2.2.2.2⟩,⟨h.2.1.1,h.2.1.2.1,h.2.1.2.2.1,h.2.1.2.2.2.1,h.2.1.2.2.2.2⟩,⟨h.2.2.1.1,h.2.2.1.2.1,h.2.2.1.2.2.1,h.2.2.1.2.2.2⟩,⟨h.2.2.2.1.1,h.2.2.2.1.2.1,h.2.2.2.1.2.2⟩,⟨h.2.2.2.2.1.1,h.2.2.2.2.1.2⟩,h.2.2.2.2.2.1,h.2.2.2.2.2.2⟩
end
noncomputable def ub(es:db):ii:=es.filterMap λv=>match v with|.r a=>some a|_=>none
structure fN(C:Do)(H:Hp)(p:Do)(M Ed:ii)(N:Nat)(Y:bi)(ax:List bn)(last:bi)(T:Nat)(dx lo pa ed be lg:Do)(bs:ii)(es:db):Prop where
 ob:gk C H p dx lo pa ed be lg N (ax.map List.length) Y
 D:M=p::lo::pa::ed::be::lg::bs
 n:Cr p lo pa ed be lg bs
 F:H ed=some (.l es)
 le:es.length=Y.length
 R:ub es=Ed
 Q:es[0]?=some .a
 ev:vT H es Y ax T
 en:∀(i:Nat)(a:Do),es[i]?=some (V.r a)->a∉M
 t:H be=some (.l<|bs.map V.r)
 y:bs.length=Y.length
 hk:∀(i:Nat)(b:Do),bs[i]?=some b->H b=some (.l<|iV<|kids Y i)
 u:H lg=some (.l<|last.map gV)
 P:last.length=Y.length
def bf(C:Do)(H:Hp)(p:Do)(M Ed:ii)(N:Nat)(Y:bi)(ax:List bn)(l:bi)(T:Nat):Prop:= ∃dx lo a e be lg b es,fN C H p M Ed N Y ax l T dx lo a e be lg b es
section
variable{C:Do}{H Z:Hp}{p:Do}{M c:ii}{N:Nat}{Y:bi}{g:List bn}{m:bi}{T:Nat}{q w E G I J:Do}{K:ii}{l:db}
theorem fN.same(A:fN C H p M c N Y g m T q w E G I J K l)(s:ar H Z):fN C Z p M c N Y g m T q w E G I J K l:=
 ⟨A.ob.same s,A.D,A.n,s _ _ A.F,A.le,A.R,A.Q,A.ev.same s,A.en,s _ _ A.t,A.y,λi b e=>s _ _<|A.hk i b e,s _ _ A.u,A.P⟩
theorem bf.same(A:bf C H p M c N Y g m T)(s:ar H Z):bf C Z p M c N Y g m T:=by
 obtain⟨q,w,E,G,I,J,K,l,A⟩:=WU A;exact⟨q,w,E,G,I,J,K,l,A.same s⟩
theorem fN.live(A:fN C H p M c N Y g m T q w E G I J K l):jF M H:=λx h=>by
 rw[A.D] at h;rcases X9.mp h with rfl|h
 exact nS _ A.ob.ob nofun;rcases X9.mp h with rfl|h
 exact nS _ A.ob.d nofun;rcases X9.mp h with rfl|h
 exact nS _ A.ob.c nofun;rcases X9.mp h with rfl|h
 exact nS _ A.F nofun;rcases X9.mp h with rfl|h
 exact nS _ A.t nofun;rcases X9.mp h with rfl|h
 exact nS _ A.u nofun;obtain⟨i,a⟩:=WK.mp h;exact nS _ (A.hk i x a) nofun
theorem fN.nA(A:fN C H p M c N Y g m T q w E G I J K l)(f:a∈c):∃xs,H a=some (.l xs):=by
 rw[<-A.R] at f;obtain⟨v,n,e⟩:=Wg.mp f;obtain⟨i,d⟩:=WK.mp n;have e:v=.r a:=by
  cases v with
  |r b=>exact IR V.r (lF e)
  |_=>cases e
 subst e;have u:i≠0:=λz=>by rw[z,A.Q] at d;cases d
 obtain⟨j,o,Z⟩:=A.ob.tr.up i (CR u) (by rw[<-A.le];exact(ZS.mp d).1);obtain⟨y,h,s,t,zq⟩:=YC (A.ev i j o);obtain⟨k,Z,Z,⟨xs,x,Z⟩,Z⟩:=Y7 zq;rw[d] at k;cases k;exact⟨xs,x⟩
theorem fN.keep(A:fN C H p M c N Y g m T q w E G I J K l)(k:∀b o,b∈M\/b∈c->H b=some o->Z b=some o)(s:bI H Z):fN C Z p M c N Y g m T q w E G I J K l:=by
 have f:=λb o U e=>k b o (.inl (A.D▸U)) e;refine⟨⟨f _ _ aP A.ob.ob,f _ _ aP A.ob.d,f _ _ aP A.ob.c,A.ob.l,A.ob.tr,A.ob.h,A.ob.sz⟩,A.D,A.n,f _ _ aP A.F,A.le,A.R,A.Q,λi j e=>?_,A.en,f _ _ aP A.t,A.y,λi b e=>f _ _ (by simp[YK e])<|A.hk i b e,f _ _ aP A.u,A.P⟩;obtain⟨a,h,v,x,r,S,L,B,z⟩:=A.ev i j e;refine n4 a h v x r S L (B.keep (λo e=>k a o (.inr ?_) e) s) z;rw[<-A.R];exact Wg.mpr (nS _ (YK r) O)
theorem bf.keep(A:bf C H p M c N Y g m T)(k:∀b o,b∈M\/b∈c->H b=some o->Z b=some o)(t:bI H Z):bf C Z p M c N Y g m T:=by
 obtain⟨q,w,E,G,I,J,K,l,A⟩:=WU A;exact rO q w E G I J K l (A.keep k t)
theorem bf.own(A:bf C H p M c N Y g m T)(f:H a=none):a∉M/\a∉c:=by
 obtain⟨q,w,E,G,I,J,K,l,A⟩:=WU A;refine⟨A.live.no f,λh=>?_⟩;obtain⟨xs,e⟩:=A.nA h;rw[f] at e;cases e
theorem fN.Q_(A:fN C H p M c N Y g m T q w E G I J K l)(b:bo M H Z):vT Z l Y g T:=λi j e=>by
 obtain⟨a,h,f,k,zq⟩:=YC (A.ev i j e);obtain⟨d,t,s,r,n⟩:=Y7 zq;exact n4 a h f k d t s (r.keep (λo e=>b a o e<|A.en i a d)<|A.live.bx b) n
end
theorem Ht(T:bZ Y):kids (Y++[some h0]) i=kids Y i++(if h0=i then [Y.length] else []):=by
 unfold kids;rw[JB,Xy,jN,N9];congr 1;refine List.filter_congr λj a=>?_;rw[Yb<|Zn.mp a];by_cases z:h0=i;subst z;simp;simp[z]
theorem agI(T:bZ Y)(c:Y.length<=i):kids Y i=[]:=by
 refine List.filter_eq_nil_iff.mpr λj h=>?_;have h:=Zn.mp h;intro e;have e:=by simpa using e
 by_cases z:j=0;subst z;rw[T.r] at e;cases e;obtain⟨k,a,b⟩:=T.up j (CR z) h;rw[a] at e;cases e;exact (Xx _ (ZP (YR b h) c)).elim
section
variable{W:ba}{D:WH}{F:St}{H:Hp}{r:jp}{C p e l:Do}{b:on}{f:Str}{qY:db}
theorem Ra(h:af W x F H λv t=>ou W.K .t [v] t Q):af W (.t .t [x]) F H Q:=h
theorem yT{a:RE}(g:F[0]?=some (some<|.r p))(h:H p=some (.i C e b))(k:b.lookup f=some (.r l))(c:gP W.K C)(n:gC W.K C f)(j:H l=some (.l qY))(m:af W a F H λy u=>∃xs,u l=some (.l xs)/\xs.length<sizeLine/\av W r D F (upd u l<|.l<|xs++[y])):
  av W (.d (.Q .a (.f (.v 0) f) [a])::r) D F H:=
 bU (fK<|cT<|aa g ⟨p,C,e,b,_,O,h,c,n,k,.inl ⟨O,_,ag.of j⟩,m⟩)
end
theorem Hu(T:bZ Y){h:Nat}(b:h<Y.length):bZ (Y++[some h]):=by
 refine⟨by rw[Yb (yF (Y_ _) b)];exact T.r,λi c a=>?_⟩;rw[JB,Xy] at a;by_cases z:i<Y.length;rw[Yb z];exact T.up i c z;have:i=Y.length:=by lia
 subst this;exact⟨h,aP,b⟩
theorem Rb{N:Int}:bT "here" (V.i k) (h6 N lo p e be lg)=h6 k lo p e be lg:=aoR
structure kN(C:Do)(H:Hp)(p dx lo pa ed be lg:Do)(bs:ii)(hv:Int)(ls h es bv gs:db)(ks:Nat->db):Prop where
 a:H p=some (.i C dx<|h6 hv lo pa ed be lg)
 n:H lo=some (.l ls)
 o:H pa=some (.l h)
 j:H ed=some (.l es)
 d:H be=some (.l bv)
 r:H lg=some (.l gs)
 h7:∀i b,bs[i]?=some b->H b=some (.l<|ks i)
section
variable{C:Do}{H Z:Hp}{p E g l m q w:Do}{f:ii}{G:Int}{I h J K P xs:db}{x:Nat->db}
theorem kN.same(R:kN C H p E g l m q w f G I h J K P x)(s:ar H Z):kN C Z p E g l m q w f G I h J K P x:=
 ⟨s _ _ R.a,s _ _ R.n,s _ _ R.o,s _ _ R.j,s _ _ R.d,s _ _ R.r,λi b e=>s _ _<|R.h7 i b e⟩
theorem kN.set(A:Cr p g l m q w f)(R:kN C H p E g l m q w f G I h J K P x):
  kN C (upd H g<|.l xs) p E g l m q w f G xs h J K P x/\kN C (upd H l<|.l xs) p E g l m q w f G I xs J K P x/\kN C (upd H m<|.l xs) p E g l m q w f G I h xs K P x/\kN C (upd H q<|.l xs) p E g l m q w f G I h J xs P x/\kN C (upd H w<|.l xs) p E g l m q w f G I h J K xs x:=by
 obtain⟨⟨a1,Z,Y,X,W,a6⟩,⟨M,L,F,D,V⟩,⟨B,y,v,U⟩,⟨u,t,T⟩,⟨s,S⟩,Q,g2⟩:=A.l;have k:∀{c:Do},c∉f->∀i b,f[i]?=some b->upd H c (.l xs) b=some (.l<|x i):=λN i b e=>aO (λz=>N (z▸YK e)) (R.h7 i b e);exact⟨⟨aO a1 R.a,aj,aO M.symm R.o,aO L.symm R.j,aO F.symm R.d,aO D.symm R.r,k V⟩,⟨aO Z R.a,aO M R.n,aj,aO B.symm R.j,aO y.symm R.d,aO v.symm R.r,k U⟩,⟨aO Y R.a,aO L R.n,aO B R.o,aj,aO u.symm R.d,aO t.symm R.r,k T⟩,⟨aO X R.a,aO F R.n,aO y R.o,aO u R.j,aj,aO s.symm R.r,k S⟩,aO W R.a,aO D R.n,aO v R.o,aO t R.j,aO s R.d,aj,k Q⟩
end
section
variable{K:Frag}{C f:Do}
inductive Rc(C:Do)(v:db)(H:Hp)(Q:VK)(E:XK):Prop|i(p:Do)(M Ed:ii)(N:Nat)(Y:bi)(ax:List bn)(t:bi)(T:Nat)(c:Do)(h:cr)(l r:bn)(_:v=[.r p,.r c])(_:bf C H p M Ed N Y ax t T)(_:bM H c h l r)(_:c∉M)(_:ax[N]?=some l)(_:ao h<=T)(_:T<=100000)(_:Y.length<100000)(_:∀(b a:Do)(Z:Hp),bo M H Z->H b=none->H a=none->bf C Z p (M++[b]) (Ed++[a]) Y.length (Y++[some N]) (ax++[r]) (t++[none]) T->(∃xs,Z a=some (.l xs)/\aD Z xs h)->Q (.i (Y.length:Nat)) Z)
abbrev aoS(K:Frag)(C:Do)(f:Do)(E:XK):ba:=aG K [("sizes",jB)] [] [] [("need_over",C,Cn C f),("many",C,tY C)] (E:=E)
theorem agJ(X:fI K C):bz (Rc C) (λE=>aoS K C f E) NP NO:=by
 intro vs H Q E w;obtain⟨p,M,Ed,N,Y,ax,g,T,c,h,l,r,rfl,⟨dx,lo,I,v,be,lg,s,es,A⟩,hc,pd,hl,ht,hT,hn,q⟩:=w;have lX:(ax.map List.length)[N]?=some l.length:=by rw[Z_,hl];rfl
 refine bU<|ky C (Cn C f) O<|aa O ⟨p,dx,_,O,A.ob.ob,ip,aa O ⟨p,dx,lo,I,v,be,lg,N,_,Y,c,h,l,r,l.length,O,A.ob,hc,(Y4 ht hT),lX,.inl ⟨O,λt s1=>?_⟩⟩⟩;have L:=A.same s1;have c8:=hc.same s1;refine aY<|yv C (tY C) O<|aa O ⟨p,dx,_,O,L.ob.ob,ip,p,dx,lo,I,v,be,lg,N,_,Y,O,L.ob,?_⟩;obtain⟨⟨a1,a2,a3,a4,a5,a6⟩,⟨b1,b2,b3,b4,b5⟩,⟨c1,c2,c3,c4⟩,⟨d1,d2,d3⟩,⟨e1,e2⟩,g1,g2⟩:=A.n.l;have eM:=A.D;have qZ:p∈M/\lo∈M/\I∈M/\v∈M/\be∈M/\lg∈M/\∀b∈s,b∈M:=by rw[eM];simp;exact λb hb=>.inr (.inr<|.inr<|.inr<|.inr<|.inr hb)
 obtain⟨mp,ml,c',me,mb,mg,d'⟩:=qZ;have R1:kN C t p dx lo I v be lg s N _ _ es _ _ λi=>iV (kids Y i):=⟨L.ob.ob,L.ob.d,L.ob.c,L.F,L.t,L.u,L.hk⟩;have sz:=A.ob.sz;have Hv:(ax.map List.length).length=Y.length:=A.ob.l;have jG:ax.length=Y.length:=by rw[<-Hv,Wo]
 have G:∀{n:Nat},n<=100000->n<sizeLine:=λw=>bY (Y4 w (Xk _ _));have Rf:=L.live;refine yT O R1.a pA X.cl X.m R1.o<|cT<|aa O ⟨p,C,dx,_,_,O,R1.a,X.cl,X.i,j8,_,R1.o,G (by rw[Wo];exact sz),?_⟩;have ep:Y.map gV++[V.i (N:Nat)]=(Y++[some N]).map gV:=by rw[Za];rfl
 rw[ep];have k2:bo M t (upd t I<|.l<|(Y++[some N]).map gV):=bo.upd c';have R2:=(R1.set (xs:=(Y++[some N]).map gV) A.n).2.1;have yU:=Rf.upd (c:=I) (xs:=(Y++[some N]).map gV);have Rg:=c8.keep (λo e=>k2 c o e pd) (Rf.bx k2);generalize upd t I (.l<|(Y++[some N]).map gV)=u at k2 R2 Rg yU⊢;obtain⟨xs,k,gU,kO⟩:=Rg;refine yT O R2.a Cg X.cl X.vi R2.j<|Ra<|aa O ⟨xs,.inl<|ag.of k,λa fa=>nT _ (aO (λz=>by have:=R2.j;rw[z,fa] at this;cases this) R2.j) (G (by rw[A.le];exact sz)) ?_⟩;have s3:=V3 (o:=.l xs) fa;have S:a∉M:=yU.no fa;have Hw:=(yU.same s3).upd (c:=v) (xs:=es++[V.r a]);have b':a≠v:=λz=>S (by rw[z];exact me);have k3:bo M u (upd (upd u a<|.l xs) v<|.l<|es++[V.r a]):=(bo.of s3).trans (bo.upd me);have vW:upd (upd u a<|.l xs) v (.l<|es++[V.r a]) a=some (.l xs):=aO b' aj;have R3:=((R2.same s3).set (xs:=es++[V.r a]) A.n).2.2.1;have Rh:=k3 _ _ k pd;have Hx:=gU.mono (yU.bx k3);generalize upd (upd u a<|.l xs) v (.l<|es++[V.r a])=H3 at k3 vW R3 Rh Hx Hw⊢;have h':=k2.trans k3;have cl:h.length<=2*ao h+1:=jj h "" kO.ok kO.c;refine yT O R3.a Cf X.cl X.vh R3.n<|aN<|bu jB O<|aq<|aa O<|az ⟨c,xs,h,O,Rh,Hx,kO.ok,kO.c,aH,λt0 H4 s4 Cs=>aC<|vO Cs O ⟨_,s4 _ _ R3.n,G (by rw[Wo];exact Y4 (XX Hv) sz),?_⟩⟩;have eg:(sX h).sum=r.length:=kO.run.gives;rw[eg];have el:(ax.map List.length).map (λn=>V.i (n:Nat))++[V.i (r.length:Nat)]=((ax++[r]).map List.length).map (λn=>V.i (n:Nat)):=by rw[Za,Za];rfl
 rw[el];generalize eL:((ax++[r]).map List.length).map (λn=>V.i (n:Nat))=ll;have k5:bo M H3 (upd H4 lo<|.l ll):=(bo.of s4).trans (bo.upd ml);have Ct:=k5 _ _ vW S;have R5:=((R3.same s4).set (xs:=ll) A.n).1;have Cu:=(Hw.same s4).upd (c:=lo) (xs:=ll);have Ri:=Hx.mono (Hw.bx k5);generalize upd H4 lo (.l ll)=H5 at k5 Ct R5 Cu Ri⊢;have Hy:=h'.trans k5;refine yT O R5.a Ci X.cl X.xW R5.d<|cI<|az ⟨DH,λb fb=>nT _ (aO (λz=>by have:=R5.d;rw[z,fb] at this;cases this) R5.d) (G (by rw[Wo,A.y];exact sz)) ?_⟩;have s6:=V3 (o:=.l []) fb;have vX:b∉M:=Cu.no fb;have nb:b≠be:=λz=>vX (by rw[z];exact mb);have eb:s.map V.r++[V.r b]=(s++[b]).map V.r:=by rw[Za];rfl
 rw[eb];have na:a≠b:=λz=>by rw[z,fb] at Ct;cases Ct
 have k6:bo M H5 (upd (upd H5 b<|.l []) be<|.l<|(s++[b]).map V.r):=(bo.of s6).trans (bo.upd mb);have Rj:upd (upd H5 b<|.l []) be (.l<|(s++[b]).map V.r) b=some (.l []):=aO nb aj;have q9:=k6 _ _ Ct S;have R6:=((R5.same s6).set (xs:=(s++[b]).map V.r) A.n).2.2.2.1;have yV:=(Cu.same s6).upd (c:=be) (xs:=(s++[b]).map V.r);have Rk:=Ri.mono (Cu.bx k6);generalize upd (upd H5 b<|.l []) be (.l<|(s++[b]).map V.r)=H6 at k6 Rj q9 R6 yV Rk⊢;have g':=Hy.trans k6;refine yT O R6.a Hn X.cl X.Bg R6.r<|aC ⟨_,R6.r,G (by rw[Wo,A.P];exact sz),?_⟩;have k':g.map gV++[V.a]=(g++[none]).map gV:=by rw[Za];rfl
 rw[k'];have k7:bo M H6 (upd H6 lg<|.l<|(g++[none]).map gV):=bo.upd mg;have vY:=k7 _ _ Rj vX;have Cv:=k7 _ _ q9 S;have J:=(R6.set (xs:=(g++[none]).map gV) A.n).2.2.2.2;have Hz:=yV.upd (c:=lg) (xs:=(g++[none]).map gV);have Cw:=Rk.mono (yV.bx k7);generalize upd H6 lg (.l<|(g++[none]).map gV)=H7 at k7 vY Cv J Hz Cw⊢;have f':=g'.trans k7;have HA:=A.ob.h;have nB:N<s.length:=by rw[A.y];exact HA
 have eh:s[N]?=some s[N]:=XB nB;have qh:=J.h7 N _ eh;have mh:s[N]∈M:=d' _ (YK eh);have l':(iV<|kids Y N).length<=100000:=by
  rw[Wo];have:=YI (λj=>Y[j]?==some (some N)) (List.range Y.length);rw[Zd] at this;exact Y4 this sz
 have ai:fF ((s++[b]).map V.r) ((N:Nat):Int)=some (V.r s[N]):=bq (by rw[Z_,Yb nB,eh];rfl);refine bU<|fK<|aN<|cT<|aa O ⟨p,C,dx,_,_,O,J.a,X.cl,X.xW,Ci,cT<|aa O ⟨p,C,dx,_,_,O,J.a,X.cl,X.i,j8,br J.d ai ⟨.inl ⟨O,_,ag.of qh⟩,aa O (nT _ qh (G l') ?_)⟩⟩⟩;have j':iV (kids Y N)++[V.i (Y.length:Nat)]=iV (kids (Y++[some N]) N):=by rw[Ht A.ob.tr,GT O];unfold iV;rw[Za];rfl
 rw[j'];have k8:bo M H7 (upd H7 s[N] (.l<|iV<|kids (Y++[some N]) N)):=bo.upd mh;have nh:∀{x:Do},x∉s->x≠s[N]:=λw z=>w (by rw[z];exact YK eh);have Rl:=k8 _ _ vY vX;have HB:=k8 _ _ Cv S;have q8:∀(i:Nat)(x:Do),s[i]?=some x->upd H7 s[N] (.l<|iV<|kids (Y++[some N]) N) x=some (.l<|iV<|kids (Y++[some N]) i):=λi x hi=>by
  by_cases z:i=N;subst z;rw[eh] at hi;cases hi;exact aj;have jy:x≠s[N]:=λW=>z ((List.getElem?_inj (ZS.mp hi).1 g2).mp (by rw[hi,eh,W]));rw[aw jy,J.h7 i x hi,Ht A.ob.tr,Id<|λe=>z e.symm,jP]
 have U:kN C (upd H7 s[N] (.l<|iV<|kids (Y++[some N]) N)) p dx lo I v be lg s N ll _ _ _ _ λi=>iV (kids (Y++[some N]) i):=⟨aO (nh a6) J.a,aO (nh b5) J.n,aO (nh c4) J.o,aO (nh d3) J.j,aO (nh e2) J.d,aO (nh g1) J.r,q8⟩;have Rm:=Hz.upd (c:=s[N]) (xs:=iV (kids (Y++[some N]) N));have Rn:=Cw.mono (Hz.bx k8);generalize upd H7 s[N] (.l<|iV<|kids (Y++[some N]) N)=H8 at k8 Rl HB U Rm Rn⊢;have e':=f'.trans k8;refine nu<|aa O<|aa O ⟨p,C,dx,_,O,U.a,X.cl,X.i,(by show 6<1000;decide),?_⟩;rw[Rb];have k9:bo M H8 (upd H8 p<|.i C dx<|h6 (Y.length:Nat) lo I v be lg):=bo.upd mp;have Ro:=e'.trans k9;have i':vT (upd H8 p<|.i C dx<|h6 (Y.length:Nat) lo I v be lg) es Y ax T:=L.Q_ Ro;have Rp:=Rn.mono (Rm.bx k9);refine cA<|aa O<|q b a _ ((bo.of s1).trans Ro) ?_ ?_ ⟨dx,lo,I,v,be,lg,s++[b],es++[V.r a],?_⟩ (nS xs (aO (λz=>S (by rw[z];exact mp)) HB) Rp);cases hz:H b with
 |none=>rfl
 |some o=>
  have Z:=Hy b o (s1 _ _ hz) vX;rw[fb] at Z;cases Z
 cases hz:H a with
 |none=>rfl
 |some o=>
  have Z:=k2 a o (s1 _ _ hz) S;rw[fa] at Z;cases Z
 have GX:Y.length+1<=100000:=hn;refine⟨⟨aj,(by rw[eL];exact aO (Ix a1) U.n),aO (Ix a2) U.o,?_,Hu A.ob.tr HA,?_,?_⟩,?_,⟨?_⟩,aO (Ix a3) U.j,?_,(by unfold ub;rw[List.filterMap_append];show ub es++[a]=_;rw[A.R]),(by rw[Yb (by rw[A.le];exact yF (Y_ _) HA)];exact A.Q),?_,?_,aO (Ix a4) U.d,?_,?_,aO (Ix a5) U.r,?_⟩;rw[Wo,JB,JB,jG];rfl;rw[JB];exact XA _;rw[JB];exact GX;rw[eM];rfl;have w:=A.n.nd;rw[<-eM] at w;have:p::lo::I::v::be::lg::(s++[b])=M++[b]:=by rw[eM];rfl
 rw[this];exact List.nodup_append.mpr ⟨w,aP,λx k y hy e=>vX (by rw[<-Ya.mp hy,<-e];exact k)⟩;rw[JB,JB,A.le];rfl;intro i j Cy;by_cases z:i<Y.length;rw[Yb z] at Cy;obtain⟨a',mP,lj,li,h1,h2,h3,h4,Z⟩:=i' i j Cy;have jl:=(ZS.mp h2).1;exact n4 a' mP lj li (by rw[Yb (by rw[A.le];exact z)];exact h1) (by rw[Yb jl];exact h2) (by rw[Yb (by rw[jG];exact z)];exact h3) h4 Z;have zi:i=Y.length:=by
  have:=(ZS.mp Cy).1;rw[JB,Xy] at this;lia
 subst zi;have:N=j:=by simpa using Cy
 subst this;exact n4 a h l r (by rw[<-A.le];simp) (by rw[Yb (by rw[jG];exact HA)];exact hl) (by rw[<-jG];simp) (nT xs (aO (λz=>S (by rw[z];exact mp)) HB) Rp kO) ht;intro i x k;have nx:x∉M/\x≠b:=by
  by_cases z:i<es.length;rw[Yb z] at k;have h1:=A.en i x k;refine⟨h1,λW=>?_⟩;obtain⟨j,hj⟩:∃j,Y[i]?=some (some j):=by
   by_cases z0:i=0;rw[z0,A.Q] at k;cases k;obtain⟨j,q1,_⟩:=A.ob.tr.up i (CR z0) (by rw[<-A.le];exact z);exact oM j q1
  obtain⟨a',mP,lj,li,dv,_,_,h4,_⟩:=L.ev i j hj;rw[k] at dv;cases dv;obtain⟨B,hy,_⟩:=h4;have:=Hy _ _ hy h1;rw[W,fb] at this;cases this;have zi:i=es.length:=by
   have:=(ZS.mp k).1;rw[JB,Xy] at this;lia
  subst zi;have:a=x:=by simpa using k
  subst this;exact⟨S,na⟩
 intro w;rcases Z4.mp w with w|w
 exact nx.1 w;exact nx.2 (Ya.mp w);rw[JB,JB,A.y];rfl;intro i x k;by_cases z:i<s.length;rw[Yb z] at k;exact aO (λW=>a6 (by rw[<-W];exact YK k))<|U.h7 i x k;have zi:i=s.length:=by
  have:=(ZS.mp k).1;rw[JB,Xy] at this;lia
 subst zi;have:b=x:=by simpa using k
 subst this;rw[A.y,Ht A.ob.tr,agI A.ob.tr<|ZX _,Id (Ze HA)];exact aO (λW=>vX (by rw[W];exact mp)) Rl;rw[JB,JB,A.P];rfl
end
section
open PyProof.Rows
noncomputable def Rq:ca:=["self","way","steps","changes","change","node","other"]
noncomputable def Rr:jp:=
 [.a 2 (.x Q7 [.v 1,(.s (.v 1) (some (.c (.i 1))) none)]),
 .a 3 (.L [(.l 0 [(.L [(.T [(.c<|.s "keep"),(.i (.f (.v 0) "lengths")<|.f (.v 0) "here")])])])]),
 .a 4 (.l 1 [(.b .Add (.v 3)<|.C (some 2) [("self",0)] .l [.v 2] none<|.a 0 "edge" (.v 2) [.v 0,.v 1])]),
 .k [5,6] .l [.v 2] [.i (.p .Eq (.i (.f (.v 0) "parents")<|.v 5)<|.v 6) [.s (.f (.v 0) "last_gone") (.v 6)<|.v 5] []],
 .f (.v 0) "here" (.i (.v 1)<|.n<|.c<|.i 1),
 .r (.v 4)]
noncomputable def Lh:ca:=["neat","joined_all"]
noncomputable def agW:ca:=["list","zip"]
noncomputable def agX:ca:=["edge"]
end
def pG(H:Hp):db->Ch->Prop:=Paired λv p=>∃a,v=.r a/\H a=some (.t [p.1,p.2])
theorem pG.same(s:bI H Z):∀{xs:db}{h:Ch},pG H xs h->pG Z xs h:=by
 intro Y Y a;induction a with
 |nil=>exact .nil
 |cons x Y i=>obtain⟨t,e,a⟩:=x;exact .cons ⟨t,e,s _ _ a⟩ i
theorem pG.at:∀{xs:db}{h:Ch}{i:Nat}{v:V},pG H xs h->xs[i]?=some v->∃p c,h[i]?=some p/\v=.r c/\H c=some (.t [p.1,p.2]):=by
 intro Y Y i v d;induction d generalizing i with
 |nil=>intro e;simp at e
 |cons x Y f=>
  intro e;cases i with
  |zero=>obtain⟨c,g,d⟩:=x;simp at e;subst e;exact oG _ c O g d
  |succ i=>
   obtain⟨p,c,a,b⟩:=f (by simpa using e);exact o3 p c (by simpa using a) b
theorem Rt:∀{xs:List α}{B:List c},xs.length=B.length->(∀(i:Nat) x y,xs[i]?=some x->B[i]?=some y->R x y)->Paired R xs B:=by
 intro xs;induction xs with
 |nil=>
  intro B h Y;cases B with
  |nil=>exact .nil
  |cons Y Y=>cases h
 |cons x xs e=>
  intro B h k;cases B with
  |nil=>cases h
  |cons y B=>exact .cons (k 0 x y O O) (e (Nat.succ.inj h) λi a b g f=>k (i+1) a b (by simpa using g) (by simpa using f))
section
variable{K:Frag}
theorem Qv{Q:db->Hp->Do->Prop}{t:TE}(h:H a=some (.l xs))(j:pG H xs g)(M:g.length<=1000000)(P:Nat->db->Hp->Prop)(w:P 0 [] H)(e:∀i c B u,g[i]?=some c->ar H u->P i B u->∀k:VK,(∀y d,ar u d->P (i+1) (B++[y]) d->k y d)->t (some c.1::some c.2::bG F fv) u k)(Y:∀B u p,ar H u->P g.length B u->B.length=g.length->u p=none->Q B u p):∃W:Nat->Nat->db->Hp->Prop,(∃m,W 0 m [] H)/\∀i m B u,W i m B u->
   ((dH K a).stop i u/\∀p,u p=none->Q B u p)\/
   ((dH K a).go i u/\∀x d,(dH K a).eE i u x d->iE K (some 2) x d λz=>js none (z.map some++bG F fv) d λb n=>
    if b=true then t (z.map some++bG F fv) n λy L=>B.length<sizeLine/\∃f,f<m/\W (i+1) f (B++[y]) L else ∃f,f<m/\W (i+1) f B n):=by
 have A:=KB j;refine nS (λi m B u=>m=xs.length - i/\i<=xs.length/\B.length=i/\ar H u/\P i B u) (rR _ O (Y_ _) O (ar.refl _) w) ?_;rintro i m B u zq;obtain⟨rfl,N,C,s,p⟩:=Y7 zq;by_cases I:i<xs.length;refine .inr ⟨o3 xs (xs[i]) (ag.of<|s _ _ h) aP,?_⟩;rintro x d ⟨rfl,D⟩;obtain⟨c,o,S,rfl,E⟩:=pG.at j (D xs<|ag.of<|s _ _ h);exact oS o _ O (aA.of<|s _ _ E) O (e i c B _ S s p _ λy R r v=>qC (bY aH) (xs.length - (i+1)) aH ⟨O,I,by simp[C],s.trans r,v⟩);have J:i=xs.length:=XZ N (Z6 I)
 subst J;refine .inl ⟨nS xs (ag.of<|s _ _ h) (ZX _),λq G=>Y B _ q s ?_ aH G⟩;rw[<-A];exact p
end
def iu(Y:bi)(n m:Nat):Prop:=Y[m]?=some (some n)\/Y[n]?=some (some m)
def agZ(Y:bi)(s:bn):Prop:= ∀i n m,s[i]?=some n->s[i+1]?=some m->iu Y n m
noncomputable def eO(Y:bi)(l:bi)(p:Nat×Nat):bi:=if Y[p.1]?=some (some p.2) then l.set p.2 (some p.1) else l
def uc(Y:bi)(n:bn)(l:bi):bi:=(n.zip n.tail).foldl (eO Y) l
theorem HC:∀(h:List (Nat×Nat))(l:bi),(h.foldl (eO Y) l).length=l.length
 |[],_=>O
 |p::h,l=>by
  rw[k_,HC h];unfold eO;split;rw[V1];rfl
section
variable{K:Frag}{C:Do}
theorem Ho(n:Nat):ao (dr [.k (n:Int)])=0:=by
 rw[tK [.k (n:Int)] (by intro p h;cases Ya.mp h;show(0:Int)<=_;exact Wx _)];rfl
theorem ag1{a:Do}(j:H b=some (.l [.r a]))(d:H a=some (.t [.s "keep",.i (l.length:Int)]))(m:l.length<=100000)(q:∀(c:Do)(Z:Hp),ar H Z->H c=none->bM Z c (dr [.k (l.length:Int)]) l l->Q (.r c) Z):lJ [.r b] H Q E:=by
 refine⟨b,[.r a],[.k (l.length:Int)],O,j,.cons ⟨a,O,d⟩ .nil,aP,(by show 0+0<=100000;decide),λc Z B s f g h=>q c Z s f ⟨B,g,?_,G9⟩⟩;rw[qD [.k (l.length:Int)] (by intro p e;cases Ya.mp e;show(0:Int)<=_;exact Wx _)] at h;exact h
end
def g8(R:Nat->Nat->Prop):bn->Prop
 |a::b::r=>R a b/\g8 R (b::r)
 |_=>True
theorem HD:∀(l:bn),g8 R (l++[m])->g8 R (m::r)->g8 R (l++m::r)
 |[],_,h=>h
 |[a],h,c=>⟨h.1,c⟩
 |a::b::l,h,c=>⟨h.1,HD (b::l) h.2 c⟩
theorem ag2(h:R m k):∀(l:bn),g8 R (l++[m])->g8 R (l++[m]++[k]):=λl a=>by
 rw[Xm];exact HD l a ⟨h,trivial⟩
theorem HE:∀(p:bn),g8 R (p++x)->g8 R x
 |[],h=>h
 |[a],h=>by cases x with
  |nil=>trivial
  |cons b r=>exact h.2
 |a::b::p,h=>HE (b::p) h.2
theorem Cz:∀(l:bn),g8 R l->g8 (λa b=>R b a) l.reverse
 |[],_=>trivial
 |[a],_=>trivial
 |a::b::r,h=>by
  have i:=Cz (b::r) h.2;rw[XT] at i⊢;rw[XT];exact ag2 (R:=λa b=>R b a) h.1 r.reverse i
theorem HF{S:Nat->Nat->Prop}(h:∀a b,R a b->S a b):∀(l:bn),g8 R l->g8 S l
 |[],_=>trivial
 |[a],_=>trivial
 |a::b::r,k=>⟨h _ _ k.1,HF h (b::r) k.2⟩
theorem Ru:∀(l:bn),g8 R l->∀i n m,l[i]?=some n->l[i+1]?=some m->R n m
 |[],_,i,n,m,h,_=>by simp at h
 |[a],_,i,n,m,_,h=>by simp at h
 |a::b::r,k,0,n,m,h,c=>by simp at h c;subst h c;exact k.1
 |a::b::r,k,i+1,n,m,h,c=>Ru (b::r) k.2 i n m (by simpa using h) (by simpa using c)
section
variable{Y:bi}
theorem q_(T:bZ Y):∀n,n<Y.length->g8 (λa b=>Y[a]?=some (some b)) (ups Y n n)/\(∀k∈ups Y n n,k<Y.length)/\(∃r,ups Y n n=n::r)/\∃q,ups Y n n=q++[0]:=by
 intro n;induction n using Nat.strongRecOn with
 |ind n i=>
  intro c;by_cases z:n=0;subst z;exact⟨trivial,λk h=>by cases Ya.mp h;exact c,⟨[],O⟩,⟨[],O⟩⟩;obtain⟨j,f,B,e⟩:=lW T (CR z) c;obtain⟨d,g,⟨r,l⟩,⟨q,m⟩⟩:=YG (i j B (YR B c));rw[e];refine⟨?_,λk h=>?_,⟨_,O⟩,⟨n::q,m▸O⟩⟩;rw[l] at d⊢;exact⟨f,d⟩;rcases X9.mp h with rfl|h
  exact c;exact g k h
theorem CA:∀(x y:bn)(m:Nat)(xs B:bn),x=m::xs->y=m::B->∃d h P p q,ZJ x y=(d::h,d::P)/\x=p++d::h/\y=q++d::P:=by
 intro x;induction x with
 |nil=>intro y m xs B k;cases k
 |cons a o i=>
  intro y m xs B j g;cases j;subst g;match o,B,i with
  |[],B,_=>exact rP a [] ⟨B,[],[],vS a _,O,O⟩
  |b::s,[],_=>exact rP a (b::s) ⟨[],[],[],Cj _ a,O,O⟩
  |b::s,c::f,i=>
   by_cases z:b=c;subst z;obtain⟨d,h,P,p,q,zq⟩:=YH (i (b::f) b s f O O);obtain⟨e,n,l⟩:=Z5 zq;exact rP d h ⟨P,a::p,a::q,by rw[XQ,e],n▸O,l▸O⟩;exact rP a (b::s) ⟨c::f,[],[],Ck z,O,O⟩
theorem CB(T:bZ Y)(l:n<Y.length)(o:d<Y.length):∃(i v:bn)(m:Nat),dy Y n d=i++m::v/\(∃p,ups Y n n=i++m::p)/\(∃p,ups Y d d=v.reverse++m::p)/\g8 (iu Y) (dy Y n d)/\(∃r,dy Y n d=n::r)/\(∃q,dy Y n d=q++[d])/\(∀k∈dy Y n d,k<Y.length)/\i.length+v.length<=n+d:=by
 obtain⟨C,s,⟨L,c⟩,⟨A,G⟩⟩:=YG (q_ T n l);obtain⟨E,D,⟨K,g⟩,⟨z,F⟩⟩:=YG (q_ T d o);obtain⟨m,xs,B,p,q,zq⟩:=YH (CA (ups Y n n).reverse (ups Y d d).reverse 0 A.reverse z.reverse (by rw[G,Y9];rfl) (by rw[F,Y9];rfl));obtain⟨es,w,t⟩:=Z5 zq;have e:dy Y n d=xs.reverse++m::B:=by
  unfold dy;rw[es];rw[XT,Xm];rfl
 have u:=by
  have:=IR List.reverse w;rw[hA,Y9,XT,Xm] at this;exact this
 have f:=by
  have:=IR List.reverse t;rw[hA,Y9,XT,Xm] at this;exact this
 have J:g8 (iu Y) (xs.reverse++[m]):=by
  have x:=HE p (w▸Cz _ C);have:=Cz _ x;rw[XT] at this;exact HF (λa b j=>.inr j) _ this
 have I:g8 (iu Y) (m::B):=HF (λa b j=>.inl j) _ (HE q (t▸Cz _ E));have H:=vR T n l;have R:=vR T d o;rw[u] at H;rw[f] at R;simp at H R;refine p4 xs.reverse B m e (oM _ u) (oM _ f) (by rw[e];exact HD _ J I) ?_ ?_ ⟨?_,by rw[V_];lia⟩;rw[u] at c;rw[e];cases x:xs.reverse with
 |nil=>rw[x] at c;cases c;exact oM _ O
 |cons a b=>rw[x] at c;cases c;exact oM _ O
 rw[f] at g;rw[e];cases y:B.reverse with
 |nil=>
  have:B=[]:=List.reverse_eq_nil_iff.mp y;subst this;cases g;exact oM _ O
 |cons a b=>
  rw[y] at g;have:B=b.reverse++[a]:=by rw[<-hA B,y,XT]
  cases g;exact oM (xs.reverse++m::b.reverse) (by rw[this,Xm];rfl)
 intro k h;rw[e] at h;rcases Z4.mp h with h|h
 exact s k (by rw[u];exact Zh _ h);rcases X9.mp h with rfl|h
 exact s k (by rw[u];exact cQ _ Wu);exact D k (by rw[f];exact Zh _ (ZY.mpr h))
variable{K:Frag}{C g:Do}
abbrev z1:on:=[("here",.i 0)]
abbrev z2(lo:Do):on:=[("here",.i 0),("lengths",.r lo)]
abbrev z3(lo p:Do):on:=[("here",.i 0),("lengths",.r lo),("parents",.r p)]
abbrev z4(lo p e:Do):on:=[("here",.i 0),("lengths",.r lo),("parents",.r p),("edges",.r e)]
abbrev z5(lo p e be:Do):on:=[("here",.i 0),("lengths",.r lo),("parents",.r p),("edges",.r e),("below",.r be)]
inductive HH(C g:Do)(s:db)(H:Hp)(Q:VK)(E:XK):Prop|i(p dx:Do)(v:V)(_:s=[.r p,v])(_:H p=some (.i C dx []))(_:((∃(x:bn)(T:Nat),v=.i (x.length:Nat)/\∀(M:ii)(Z:Hp),aE p H Z->(∀a∈M,a≠p->H a=none)->bf C Z p M [] 0 [none] [x] [none] T->Q .a Z)\/((tP v H\/∃i:Int,v=.i i/\i<0)/\E (.ref g) none H)))
theorem Rx(b:aE p H Z)(f:Z a=none)(n:a≠p):H a=none:=by
 cases h:H a with
 |none=>rfl
 |some o=>rw[b a o h n] at f;cases f
theorem yW(b:aE p H t)(f:t a=none)(g:t p=some (.i C dx s)):a≠p/\H a=none/\aE p H (upd (upd t a<|.l xs) p<|.i C dx fs')/\upd (upd t a<|.l xs) p (.i C dx fs') p=some (.i C dx fs')/\upd (upd t a<|.l xs) p (.i C dx fs') a=some (.l xs)/\
  ∀c o,t c=some o->c≠p->c≠a/\upd (upd t a<|.l xs) p (.i C dx fs') c=some o:=by
 have n:a≠p:=λz=>by lia
 refine⟨n,Rx b f n,(b.same<|V3 f).trans aE.upd,aj,aO n aj,λc o e d=>⟨λz=>aH,aO d<|V3 f _ _ e⟩⟩
abbrev aoI(K:Frag)(g:Do)(E:XK):ba:=aG K [("is_whole",qL)] [] (et:=[("NoPlace",g)]) (E:=E)
theorem ag3(X:fI K C):bz (HH C g) (λE=>aoI K g E) NH NG:=by
 intro vs H Q E U;obtain⟨p,dx,v,rfl,hp,U⟩:=U;rcases U with⟨x,T,rfl,q⟩|⟨R,q⟩
 refine bQ (Ha<|kE<|kI qL O<|aq<|aa O<|az ⟨_,O,.inl ⟨_,O,j7<|iF (bw<|aa O<|aC<|Cq ⟨_,O,iF (ik ?_)<|ZN (Int.not_lt_of_ge (Wx _))⟩) O⟩⟩);refine nu<|aC<|aa O ⟨p,C,dx,_,O,hp,X.cl,X.i,(by show 0<1000;decide),?_⟩;rw[show bT "here" (V.i 0) []=z1 from O];have b1:aE p H (upd H p<|.i C dx z1):=aE.upd;have B:upd H p (.i C dx z1) p=some (.i C dx z1):=aj;generalize upd H p (.i C dx z1)=t at b1 B⊢;refine nu<|cI<|aq<|aa O<|az ⟨de,λlo f2=>aa O (oT p C dx _ O (aO (λz=>by rw[z,f2] at B;cases B) B) X.cl X.vh (by show 1<1000;decide) ?_)⟩;have e2:bT "lengths" (V.r lo) (z1)=z2 lo:=by rw[d5 (by decide+kernel)];rfl
 rw[e2];obtain⟨D,r2,b2,A,l2,w2⟩:=Xt (yW (fs':=z2 lo) (xs:=[V.i (x.length:Nat)]) b1 f2 B);clear w2;generalize upd (upd t lo<|.l [V.i (x.length:Nat)]) p (.i C dx<|z2 lo)=u at b2 A l2⊢;refine nu<|cI<|aq<|aC<|az ⟨de,λc f3=>aa O (oT p C dx _ O (aO (λz=>by rw[z,f3] at A;cases A) A) X.cl X.m (by show 2<1000;decide) ?_)⟩;have e3:bT "parents" (V.r c) (z2 lo)=z3 lo c:=by rw[d5 (by decide+kernel),d5 (by decide+kernel)];rfl
 rw[e3];obtain⟨I,r3,b3,n,l3,w3⟩:=Xt (yW (fs':=z3 lo c) (xs:=[V.a]) b2 f3 A);obtain⟨k',Ry⟩:=w3 _ _ l2 D;clear w3;generalize upd (upd u c<|.l [V.a]) p (.i C dx<|z3 lo c)=H3 at b3 n l3 Ry⊢;refine nu<|cI<|aq<|aC<|az ⟨de,λd f4=>aa O (oT p C dx _ O (aO (λz=>by rw[z,f4] at n;cases n) n) X.cl X.vi (by show 3<1000;decide) ?_)⟩;have e4:bT "edges" (V.r d) (z3 lo c)=z4 lo c d:=O;rw[e4];obtain⟨P,r4,Y,F,J,N⟩:=Xt (yW (fs':=z4 lo c d) (xs:=[V.a]) b3 f4 n);obtain⟨j',M⟩:=N _ _ Ry D;obtain⟨i',L⟩:=N _ _ l3 I;clear N;generalize upd (upd H3 d<|.l [V.a]) p (.i C dx<|z4 lo c d)=H4 at Y F J M L⊢;refine nu<|cI<|aq<|cI<|az ⟨DH,λb f=>az ⟨de,λbe W=>?_⟩⟩;have G:b≠p:=λz=>by rw[<-z,f] at F;cases F
 have rb:=Rx Y f G;have s:=V3 (o:=.l []) f;have Rz:=Y.same s;have y:=s _ _ F;have RA:upd H4 b (.l []) b=some (.l []):=aj;have ul:lo≠b:=λz=>by rw[z,f] at M;cases M
 have up:c≠b:=λz=>by rw[z,f] at L;cases L
 have ue:d≠b:=λz=>by rw[z,f] at J;cases J
 have RB:=s _ _ M;have RC:=s _ _ L;have RD:=s _ _ J;generalize upd H4 b (.l [])=H4' at Rz y RA RB RC RD W s⊢;refine(aa O (oT p C dx _ O (aO (λz=>by rw[z,W] at y;cases y) y) X.cl X.xW (by show 4<1000;decide) ?_));have e5:bT "below" (V.r be) (z4 lo c d)=z5 lo c d be:=O;rw[e5];obtain⟨n5,r5,b5,k,l5,h⟩:=Xt (yW (fs':=z5 lo c d be) (xs:=[V.r b]) Rz W y);obtain⟨h',RF⟩:=h _ _ RB D;obtain⟨g',RH⟩:=h _ _ RC I;obtain⟨f',RJ⟩:=h _ _ RD P;obtain⟨e',RK⟩:=h _ _ RA G;clear h;generalize upd (upd H4' be<|.l [V.r b]) p (.i C dx<|z5 lo c d be)=H5 at b5 k l5 RF RH RJ RK⊢;refine nu<|cI<|aq<|aC<|az ⟨de,λlg f6=>aa O (oT p C dx _ O (aO (λz=>by rw[z,f6] at k;cases k) k) X.cl X.Bg (by show 5<1000;decide) ?_)⟩;have e6:bT "last_gone" (V.r lg) (z5 lo c d be)=h6 (0:Nat) lo c d be lg:=O;rw[e6];obtain⟨n6,r6,b6,o6,l6,w⟩:=Xt (yW (fs':=h6 (0:Nat) lo c d be lg) (xs:=[V.a]) b5 f6 k);obtain⟨d',RL⟩:=w _ _ RF D;obtain⟨c',RM⟩:=w _ _ RH I;obtain⟨b',RN⟩:=w _ _ RJ P;obtain⟨a',RO⟩:=w _ _ RK G;obtain⟨Z,RP⟩:=w _ _ l5 n5;clear w;generalize upd (upd H5 lg<|.l [V.a]) p (.i C dx<|h6 (0:Nat) lo c d be lg)=H6 at b6 o6 l6 RL RM RN RO RP⊢;refine q [p,lo,c,d,be,lg,b] H6 b6 (λa ha na=>?_) (rO dx lo c d be lg [b] [V.a] ⟨ ⟨o6,RL,RM,O, ⟨O,λi h0 S=>?_⟩,Nat.zero_lt_one,(by show 1<=100000;decide)⟩,O, ⟨?_⟩,RN,O,O,O,λi j e=>?_,λi a e=>?_,RP,O,λi a e=>?_,l6,O⟩);simp only[X9,Yy,M2] at ha;rcases ha with rfl|rfl|rfl|rfl|rfl|rfl|rfl
 exact absurd O na;exact r2;exact r3;exact r4;exact r5;exact r6;exact rb;exact absurd S (by show ¬i<1;exact YF (XS h0));simp;exact⟨⟨Ix D,Ix I,Ix P,Ix n5,Ix n6,Ix G⟩,⟨k',j',h',d',ul⟩,⟨i',g',c',up⟩,⟨f',b',ue⟩,⟨Z,Ix e'⟩,Ix a'⟩;cases i with
 |zero=>cases e
 |succ i=>simp at e
 cases i with
 |zero=>cases e
 |succ i=>simp at e
 cases i with
 |zero=>cases e;exact RO
 |succ i=>simp at e
 rcases R with R|⟨i,rfl,S⟩
 exact bQ (Ha<|kE<|kI qL O<|aq<|aa O<|az ⟨_,O,.inr ⟨R,j7<|iT (iT ⟨de,q⟩ O) O⟩⟩);exact bQ (Ha<|kE<|kI qL O<|aq<|aa O<|az ⟨_,O,.inl ⟨_,O,j7<|iF (bw<|aa O<|aC<|Cq ⟨_,O,iT ⟨de,q⟩<|W_ S⟩) O⟩⟩)
end
section
open PyProof.Rows
noncomputable def RQ:ca:=["_law_above","_law_node","_law_found"]
noncomputable def RT:jp:=
 [.a 2 (.L [.v 1]),
 .R (.p .Gt (.i (.v 2)<|.n<|.c<|.i 1)<|.c<|.i 0) [.d<|.Q .a (.v 2) [(.i (.v 0)<|.i (.v 2)<|.n<|.c<|.i 1)]],
 .r (.v 2)]
noncomputable def RU:ca:=["_law_above","_law_one","_law_other","_law_up_here","_law_down","_law_meet"]
noncomputable def RV:jp:=
 [.a 3 (.l 0 [.v 0,.v 1]),
 .a 4 (.l 0 [.v 0,.v 2]),
 .a 5 (.i (.C none [("_law_down",4)] .l [.v 3] (some<|.p .In (.v 0)<|.v 1)<|.v 0)<|.c<|.i 0),
 .r (.b .Add (.b .Add (.s (.v 3) none (some (.Q .xx (.v 3) [.v 5]))) (.L [.v 5])) (.x (mQ none (-1)) [(.s (.v 4) none (some (.Q .xx (.v 4) [.v 5])))]))]
noncomputable def ahg:ca:=["_law_up"]
end
section
variable{Y:bi}
theorem yY(T:bZ Y):∀n,n<Y.length->∀k∈ups Y n n,k<=n:=by
 intro n;induction n using Nat.strongRecOn with
 |ind n i=>
  intro a k h;by_cases z:n=0;subst z;cases Ya.mp h;exact ZX _;obtain⟨j,b,B,e⟩:=lW T (CR z) a;rw[e] at h;rcases X9.mp h with rfl|h
  exact ZX _;have:=i j B (YR B a) k h;exact Zb (yF this B)
theorem RW(T:bZ Y):∀n,n<Y.length->∀k∈ups Y n n,∃q,ups Y n n=q++ups Y k k/\∀j∈q,k<j:=by
 intro n;induction n using Nat.strongRecOn with
 |ind n b=>
  intro d k h;by_cases z:n=0;subst z;cases Ya.mp h;exact⟨[],O,nofun⟩;obtain⟨j,g,B,e⟩:=lW T (CR z) d;rw[e] at h;rcases X9.mp h with rfl|R
  exact⟨[],O,nofun⟩;obtain⟨q,f,c⟩:=b j B (YR B d) k R;refine⟨n::q,by rw[e,f];rfl,λi a=>?_⟩;rcases X9.mp a with rfl|a
  have:=yY T j (YR B d) k R;exact yF this B;exact c i a
theorem RY(r:Nat)(x y:bn):∀c:bn,ZJ (c++r::x) (c++r::y)=ZJ (r::x) (r::y)
 |[]=>O
 |[a]=>XQ
 |a::b::c=>by
  have:=RY r x y (b::c);show ZJ (a::b::(c++r::x)) (a::b::(c++r::y))=_;rw[XQ];exact this
theorem ahh(T:bZ Y)(i:n<Y.length)(l:d<Y.length):∃(u v:bn)(m:Nat)(p q:bn),dy Y n d=u++m::v/\ups Y n n=u++m::p/\ups Y d d=v.reverse++m::q/\(∀k∈u,k∉ups Y d d)/\m∉u/\m∉v:=by
 obtain⟨Z,I,⟨W,e1⟩,⟨C,K⟩⟩:=YG (q_ T n i);obtain⟨g1,g2,⟨V,e2⟩,⟨A,J⟩⟩:=YG (q_ T d l);obtain⟨m,xs,B,p,q,zq⟩:=YH (CA (ups Y n n).reverse (ups Y d d).reverse 0 C.reverse A.reverse (by rw[K,Y9];rfl) (by rw[J,Y9];rfl));obtain⟨es,M,L⟩:=Z5 zq;have N:dy Y n d=xs.reverse++m::B:=by
  unfold dy;rw[es];rw[XT,Xm];rfl
 have f:=by
  have:=IR List.reverse M;rw[hA,Y9,XT,Xm] at this;exact this
 have t:=by
  have:=IR List.reverse L;rw[hA,Y9,XT,Xm] at this;exact this
 have y:∀k,k∈ups Y n n->k∈ups Y d d->k∉xs/\k∉B:=by
  intro k o U;obtain⟨a,Q,H⟩:=RW T n i k o;obtain⟨b,P,G⟩:=RW T d l k U;obtain⟨_,_,⟨r,s⟩,_⟩:=q_ T k (I k o);have z:(ups Y n n).reverse=r.reverse++k::a.reverse:=by rw[Q,s,Y9,XT,Xm];rfl
  have x:(ups Y d d).reverse=r.reverse++k::b.reverse:=by rw[P,s,Y9,XT,Xm];rfl
  rw[z,x,RY] at es;obtain⟨X,bh,dP,F,E,w,D,R⟩:=CA (k::a.reverse) (k::b.reverse) k _ _ O O;rw[es] at w;cases w;constructor;intro h;have:k∈a.reverse:=by
   cases F with
   |nil=>cases D;exact h
   |cons c S=>
    rw[((YJ D).2)];exact cQ _ (Wb _ h)
  exact Xx _<|H k<|ZY.mp this;intro h;have:k∈b.reverse:=by
   cases E with
   |nil=>cases R;exact h
   |cons c S=>
    rw[((YJ R).2)];exact cQ _ (Wb _ h)
  exact Xx _<|G k<|ZY.mp this
 have g:=y m (f▸cQ _ Wu) (t▸cQ _ Wu);exact pR xs.reverse B m p.reverse q.reverse N f t (λk j e=>(y k (f▸Zh _ j) e).1 (ZY.mp j)) (λe=>g.1<|ZY.mp e) g.2
end
section
variable{K:Frag}
theorem ahi{lo:u8}(h:af W e F H λx t=>qu W.K x lo none (some k) t Q):af W (.x (mQ lo k) [e]) F H Q:=h
inductive CH(v:db)(H:Hp)(Q:VK)(E:XK):Prop|i(a:Do)(Y:bi)(n:Nat)(_:v=[.r a,.i n])(_:H a=some (.l<|Y.map gV))(_:bZ Y)(_:n<Y.length)(_:Y.length<=100000)(_:∀b Z,ar H Z->H b=none->Z b=some (.l<|iV<|ups Y n n)->Q (.r b) Z)
theorem ahj:bz (CH) (λE=>bK K E) RT RQ:=by
 intro I H Q E A;obtain⟨a,Y,n,rfl,y,T,v,J,q⟩:=A;refine aY<|cI<|aq<|aa O<|az ⟨de,λL f=>?_⟩;have t:=V3 (o:=.l [V.i (n:Nat)]) f;refine m6 (λm F u=>∃(p:bn)(k:Nat),m=k/\F=[some<|.r a,some<|.i (n:Nat),some<|.r L]/\ar H u/\u L=some (.l<|iV p++[V.i (k:Nat)])/\k<Y.length/\p.length+k<=n/\ups Y n n=p++ups Y k k)
  (p4 n [] n O O t aj v aP O) ?_
 rintro m F u zq;obtain⟨p,k,zq⟩:=Z2 zq;obtain⟨rfl,rfl,s,h,w,M,d⟩:=AP zq;refine bw<|aN<|aa O<|kJ<|.inl ⟨L,_, -1,_,O,O,ag.of h,pY _ _,aC<|pj ⟨_,O,?_⟩⟩;by_cases z:m=0;subst z;refine iF ?_ aP;refine cA<|aa O<|q L u s f ?_;rw[d,QX];unfold iV;rw[Za];exact h;refine iT ?_ (W_ aH);obtain⟨j,x,C,es⟩:=lW T (CR z) w;refine⟨λg Z=>∃(p:bn)(k:Nat),k<m/\g=[some<|.r a,some<|.i (n:Nat),some<|.r L]/\ar H Z/\Z L=some (.l<|iV p++[V.i (k:Nat)])/\k<Y.length/\p.length+k<=n/\ups Y n n=p++ups Y k k,?_,?_⟩;rintro g Z ⟨G,b,D,e,N⟩;exact nS b D ⟨G,b,O,e,N⟩;refine bU (fK<|aa O ⟨.inl ⟨O,_,ag.of h⟩,aN<|aa O<|aN<|aa O<|kJ<|.inl ⟨L,_, -1,_,O,O,ag.of h,pY _ _,?_⟩⟩);refine br (s _ _ y) (bq (by rw[Z_,x];rfl)) ?_;refine nT _ h (bY (by rw[JB,Wo];show p.length+1<=1000000;lia)) ?_;have B:aE L u (upd u L<|.l<|(iV p++[V.i (m:Nat)])++[gV<|some j]):=aE.upd;refine oS (p++[m]) j C O (λc o e=>B c o (s _ _ e)<|aJ e f) ⟨?_,(YR C w),by rw[JB];show p.length+1+j<=n;lia,by rw[d,es,Xm];rfl⟩;rw[aj];unfold iV;rw[Za];rfl
theorem ahk{Q:db->Hp->Do->Prop}{t:TE}(f:V->Gc)(h:H a=some (.l xs))(C:xs.length<=1000000)(I:∀(x:V)(k:wv),x∈xs->k (f x) H->g (some x::bG F fv) H k)(e:∀(x:V)(k:VK),x∈xs->k x H->t (some x::bG F fv) H k)(Y:∀p,H p=none->Q (xs.filter f) H p):∃W:Nat->Nat->db->Hp->Prop,(∃m,W 0 m [] H)/\∀i m B u,W i m B u->
   ((dH K a).stop i u/\∀p,u p=none->Q B u p)\/
   ((dH K a).go i u/\∀x d,(dH K a).eE i u x d->iE K none x d λz=>js (some g) (z.map some++bG F fv) d λb s=>
    if b=true then t (z.map some++bG F fv) s λy A=>B.length<sizeLine/\∃c,c<m/\W (i+1) c (B++[y]) A else ∃c,c<m/\W (i+1) c B s):=by
 refine nS (λi m B u=>m=xs.length - i/\i<=xs.length/\B=(xs.take i).filter f/\u=H) (pQ _ O (Y_ _) O O) ?_;rintro i m B u ⟨rfl,D,rfl,rfl⟩;by_cases r:i<xs.length;refine .inr ⟨o3 xs (xs[i]) (ag.of h) aP,?_⟩;rintro x d ⟨rfl,v⟩;have Z:=v xs (ag.of h);have j:=YK Z;have o:(xs.take<|i+1).filter f=(xs.take i).filter f++[x].filter f:=by rw[qU Z,N9]
 refine I x _ j ?_;cases n:f x with
 |true=>
  refine iT (e x _ j (qC (bY ?_) (xs.length - (i+1)) aH ⟨O,r,?_,O⟩)) O;have:=YI f (xs.take i);rw[Xg] at this;lia;rw[o];simp[n]
 |false=>
  refine iF (rR (xs.length - (i+1)) aH O r ?_ O) O;rw[o];simp[n]
 have J:i=xs.length:=XZ D (Z6 r)
 subst J;refine .inl ⟨nS xs (ag.of h) (ZX _),λq w=>?_⟩;rw[Wc<|ZX _];exact Y q w
theorem CI:df (V.i (n:Nat)) (iV l)=l.contains n:=by
 unfold df iV;rw[List.any_map,List.contains_eq_any_beq];congr 1;funext k;show(((k:Nat):Int)==((n:Nat):Int))=(n==k);by_cases z:k=n;subst z;simp;have a:(((k:Nat):Int)==((n:Nat):Int))=false:=by lia
 have e:(n==k)=false:=by lia
 rw[a,e]
theorem HJ(l:bn):(iV l).all iS=true:=List.all_map▸m_.mpr λY Y=>O
theorem R0{m:Nat}(h:m∉u0):(iV (u0++m::p)).findIdx (λz=>f_ z<|V.i (m:Nat))=u0.length:=by
 induction u0 with
 |nil=>
  show List.findIdx _ (V.i (m:Nat)::_)=0;rw[List.findIdx_cons];have:f_ (V.i (m:Nat)) (V.i (m:Nat))=true:=by show(_==_)=true;simp
  rw[this];rfl
 |cons a u0 b=>
  show List.findIdx _ (V.i (a:Nat)::iV (u0++m::p))=_;rw[List.findIdx_cons];have:f_ (V.i (a:Nat)) (V.i (m:Nat))=false:=by
   show(((a:Nat):Int)==((m:Nat):Int))=false;have:a≠m:=λz=>h (z▸Wu);lia
  rw[this,b λq=>h (Wb _ q)];rfl
inductive y2(v:db)(H:Hp)(Q:VK)(E:XK):Prop|i(a:Do)(Y:bi)(n d:Nat)(_:v=[.r a,.i n,.i d])(_:H a=some (.l<|Y.map gV))(_:bZ Y)(_:n<Y.length)(_:d<Y.length)(_:Y.length<=100000)(_:∀b Z,ar H Z->H b=none->Z b=some (.l<|iV<|dy Y n d)->Q (.r b) Z)
abbrev adG(K:Frag)(E:XK):ba:=aG K [("_law_up",CH)] [] (E:=E)
theorem ahl:bz (y2) (λE=>adG K E) RV RU:=by
 intro vs H Q E F;obtain⟨a,Y,n,d,rfl,R,T,A,B,J,q⟩:=F;obtain⟨b,v,m,p,p',ew,e,c,D,mu,mv⟩:=ahh T A B;refine aY<|bu CH O<|aq<|aa O<|aq<|aa O<|az ⟨a,Y,n,O,R,T,A,J,λb1 t P f1 h1=>?_⟩;refine aY<|bu CH O<|aq<|aa O<|aq<|aa O<|az ⟨a,Y,d,O,P _ _ R,T,B,J,λb2 u N f2 S=>?_⟩;have r:=N _ _ h1;have lu:=vR T n A;have ld:=vR T d B;have w:(iV<|ups Y n n).length<=1000000:=by rw[Wo];lia
 have HG:(iV<|ups Y d d).length<=1000000:=by rw[Wo];lia
 refine aY<|aN ?_;refine rT _ O b1 O (oM _ (ag.of r)) (ahk (λx=>df x<|iV<|ups Y d d) r w ?_ (λx k _ q=>aa O q) ?_);intro x k y q;obtain⟨i,_,rfl⟩:=X_.mp y;exact bw<|aa O<|aa O ⟨b2,_,O,.inl<|ag.of S,O,HJ _,_,O,q⟩;intro b3 f3;have ef:(iV<|ups Y n n).filter (λx=>df x<|iV<|ups Y d d)=V.i (m:Nat)::(iV p).filter (λx=>df x<|iV<|ups Y d d):=by
  rw[e];unfold iV;rw[Za,N9];have X:(b.map λk=>V.i (k:Nat)).filter (λx=>df x<|iV<|ups Y d d)=[]:=by
   refine List.filter_eq_nil_iff.mpr λx y=>?_;obtain⟨k,hk,rfl⟩:=X_.mp y;rw[CI];simpa using D k hk
  have W:df (V.i (m:Nat)) (iV<|ups Y d d)=true:=by
   rw[CI,c];simp
  unfold iV at X W;rw[X,yk,Ww,List.filter_cons,GT W]
 rw[ef];have s:=V3 (o:=.l (V.i (m:Nat)::(iV p).filter (λx=>df x<|iV<|ups Y d d))) f3;have a0:fF (V.i (m:Nat)::(iV p).filter (λx=>df x<|iV<|ups Y d d)) 0=some (V.i (m:Nat)):=bq (j:=0) O;refine aC<|br aj a0 ?_;have C:=s _ _ r;have R9:=s _ _ S;have f:=(P.trans N).trans s;generalize upd u b3 (.l (V.i (m:Nat)::(iV p).filter (λx=>df x<|iV<|ups Y d d)))=H3 at s C R9 f⊢;have i1:(iV<|ups Y n n).findIdx (λz=>f_ z<|V.i (m:Nat))=b.length:=by rw[e];exact R0 mu
 have i2:(iV<|ups Y d d).findIdx (λz=>f_ z<|V.i (m:Nat))=v.length:=by rw[c,R0<|λF=>mv<|ZY.mp F,V_]
 have n1:df (V.i (m:Nat)) (iV<|ups Y n n)=true:=by rw[CI,e];simp
 have n2:df (V.i (m:Nat)) (iV<|ups Y d d)=true:=by rw[CI,c];simp
 refine cA<|cD<|cD<|Hh<|aa O<|fK<|aa O ⟨.inl ⟨O,_,ag.of C⟩,aa O ⟨_,ag.of C,O,HJ _,n1,?_⟩⟩;rw[i1];refine nS _ O (.inl (nS _ (ag.of C) (λb4 f4=>?_)));rw[QO];have t1:(iV<|ups Y n n).take b.length=iV b:=by rw[e];unfold iV;rw[<-List.map_take,Yr]
 rw[t1];have s4:=V3 (o:=.l (iV b)) f4;refine cI<|aq<|aa O<|az ⟨de,λZ f5=>?_⟩;have M:=V3 (o:=.l [V.i (m:Nat)]) f5;have a':b.length<=100000:=by have:=IR List.length e;simp at this;lia
 have yU:v.length<=100000:=by have:=IR List.length c;simp at this;lia
 refine .inl (oT b4 Z _ _ O O (M _ _ aj) aj (cx (by rw[Wo];show b.length+1<=_;lia)) (λG f6=>?_));have s6:=V3 (o:=.l (iV b++[V.i (m:Nat)])) f6;have I:=s4.trans (M.trans s6);have h6:upd (upd (upd H3 b4<|.l<|iV b) Z<|.l [V.i (m:Nat)]) G (.l<|iV b++[V.i (m:Nat)]) G=some (.l<|iV b++[V.i (m:Nat)]):=aj;have L:=I _ _ R9;refine ahi<|Hh<|aa O<|fK<|aa O ⟨.inl ⟨O,_,ag.of L⟩,aa O ⟨_,ag.of L,O,HJ _,n2,?_⟩⟩;rw[i2];refine nS _ O (.inl (nS _ (ag.of L) (λb7 f7=>?_)));rw[QO];have t2:(iV<|ups Y d d).take v.length=iV v.reverse:=by rw[c];unfold iV;rw[<-List.map_take,<-V_,Yr]
 rw[t2];have h:=V3 (o:=.l (iV v.reverse)) f7;refine oS b7 _ O (ag.of aj) aQ (λb8 f8=>?_);rw[acU];have e8:(iV v.reverse).reverse=iV v:=by rw[QZ,hA]
 rw[e8];have g:=V3 (o:=.l (iV v)) f8;refine .inl (oT G b8 _ _ O O ((h.trans g) _ _ h6) aj (cx (by rw[JB,Wo,Wo];show b.length+1+v.length<=_;lia)) (λb9 U=>?_));have s9:=V3 (o:=.l (iV b++[V.i (m:Nat)]++iV v)) U;refine q b9 _ (f.trans<|I.trans<|h.trans<|g.trans s9) ((f.trans<|I.trans<|h.trans g).free U) ?_;rw[aj,ew];unfold iV;rw[Za,Ww,Xm];rfl
end
noncomputable def iy(Y:bi)(p:Nat×Nat):Nat×Nat:=if Y[p.2]?=some (some p.1) then (p.1,p.2) else (p.2,p.1)
noncomputable def kP(l:bi)(p:Nat×Nat):bi:=l.set p.1 (some p.2)
def CM(Y:bi)(n:bn)(l:bi):bi:=(n.zip n.tail).foldl (λl p=>kP l<|iy Y p) l
structure cJ(Y:bi)(N:Nat)(R' T':bi):Prop where
 l:R'.length=Y.length
 ls:T'.length=Y.length
 up:∀(a b:Nat),a∈ups Y N N->Y[a]?=some (some b)->R'[b]?=some (some a)
 no:∀(i:Nat),i∉ (ups Y N N).tail->R'[i]?=T'[i]?
 ok:∀(i k:Nat),T'[i]?=some (some k)->Y[k]?=some (some i)
section
variable{Y:bi}
theorem ud(T:bZ Y)(h:Y[n]?=some (some j)):ups Y n n=n::ups Y j j/\j<n:=by
 have d:n≠0:=λz=>by rw[z,T.r] at h;cases h
 obtain⟨c,b,a,e⟩:=lW T (CR d) ((ZS.mp h).1);rw[h] at b;cases b;exact⟨e,a⟩
theorem aU(T:bZ Y)(h:Y[n]?=some (some j)):j<n/\n<Y.length:=⟨(ud T h).2,(ZS.mp h).1⟩
theorem rg(T:bZ Y)(h:n<Y.length):∃r,ups Y n n=n::r/\∀k∈r,k<n:=by
 by_cases z:n=0;subst z;exact⟨[],O,nofun⟩;obtain⟨j,b,B,e⟩:=lW T (CR z) h;exact⟨_,e,λk a=>by have:=yY T j (YR B h) k a;exact yF this B⟩
theorem cJ.move(T:bZ Y){t:bi}(R:cJ Y N t T')(m:N<Y.length)(h:iu Y N n):cJ Y n (kP t<|iy Y (N,n)) (eO Y T' (N,n)):=by
 rcases h with h|h
 
 obtain⟨e,B⟩:=ud T h;have s:iy Y (N,n)=(N,n):=by unfold iy;rw[GT h]
 have p:eO Y T' (N,n)=T':=by
  unfold eO;rw[Id];intro z;have:=(aU T z).1;exact (Xx _ (YR this B)).elim
 rw[s,p];unfold kP;refine⟨by rw[V1];exact R.l,R.ls,λa b c d=>?_,λi g=>?_,R.ok⟩;rw[e] at c;rcases X9.mp c with rfl|c
 rw[h] at d;cases d;rw[c7];simp[R.l,m];have v:b<N:=by
  have:=yY T N m a c;have:=(aU T d).1;lia
 rw[Yh (XF v)];exact R.up a b c d;rw[e] at g;have V:=g;obtain⟨r,o,Z⟩:=rg T m;have u:N≠i:=λz=>V (by rw[o,z];exact Wu);rw[Yh u];exact R.no i λz=>V (vn z)
 
 obtain⟨e,B⟩:=ud T h;have s:iy Y (N,n)=(n,N):=by
  unfold iy;rw[Id];intro z;have:=(aU T z).1;exact (Xx _ (YR this B)).elim
 have p:eO Y T' (N,n)=T'.set n (some N):=by unfold eO;rw[GT h]
 rw[s,p];unfold kP;have j:n<Y.length:=YR B m
 obtain⟨r,o,w⟩:=rg T j;refine⟨by rw[V1];exact R.l,by rw[V1];exact R.ls,λa b c d=>?_,λi g=>?_,λi k f=>?_⟩;have v:b<n:=by
  have:=yY T n j a c;have:=(aU T d).1;lia
 rw[Yh (XF v)];exact R.up a b (e▸Wb _ c) d;by_cases z:n=i;subst z;simp[R.l,R.ls,j];rw[Yh z,Yh z];refine R.no i λq=>?_;rw[e] at q;rw[o] at q g;rcases X9.mp q with q|q
 exact z q.symm;exact g q;by_cases z:n=i;subst z;rw[c7] at f;simp[R.ls,j] at f;rw[<-f];exact h;rw[Yh z] at f;exact R.ok i k f
theorem cJ.path(T:bZ Y):∀(a:bn)(N:Nat)(b T':bi),cJ Y N b T'->N<Y.length->(∀k∈a,k<Y.length)->g8 (iu Y) (N::a)->∃d,(N::a)[a.length]?=some d/\cJ Y d (CM Y (N::a) b) (uc Y (N::a) T')
 |[],N,b,T',R,_,_,_=>⟨N,O,R⟩
 |n::a,N,b,T',R,e,h,c=>by
  obtain⟨d,f,i⟩:=cJ.path T a n _ _ (R.move T e c.1) (h n Wu) (λk g=>h k<|Wb _ g) c.2;refine⟨d,by simpa using f,?_⟩;exact i
theorem R_:∀(h:List (Nat×Nat))(l:bi),(h.foldl (λl p=>kP l<|iy Y p) l).length=l.length
 |[],_=>O
 |p::h,l=>by rw[k_,R_ h];unfold kP;rw[V1]
theorem HK(y:bn):ZJ [] y=([],y):=O
theorem HL(y:bn):ZJ y []=(y,[]):=by unfold ZJ;simp
theorem aho:∀(x y:bn),ZJ y x=((ZJ x y).2,(ZJ x y).1):=by
 intro x;induction x with
 |nil=>intro y;rw[HK,HL]
 |cons a g i=>
  intro y;match g,y,i with
  |[],y,_=>
   cases y with
   |nil=>rw[HK,HL]
   |cons b s=>rw[vS,Cj]
  |b::s,[],_=>rw[HK,HL]
  |b::s,[c],_=>rw[vS,Cj]
  |b::s,c::d::f,i=>
   by_cases z:b=d;subst z;rw[XQ,XQ];exact i (b::f);rw[Ck z,Ck<|λe=>z e.symm]
theorem ahp(T:bZ Y)(h:n<Y.length)(c:d<Y.length):dy Y d n=(dy Y n d).reverse:=by
 obtain⟨Z,Z,Z,⟨b,e⟩⟩:=q_ T n h;obtain⟨Z,Z,Z,⟨a,f⟩⟩:=q_ T d c;obtain⟨m,xs,B,p,q,zq⟩:=YH (CA (ups Y n n).reverse (ups Y d d).reverse 0 b.reverse a.reverse (by rw[e,Y9];rfl) (by rw[f,Y9];rfl));obtain⟨es,x,y⟩:=Z5 zq;unfold dy;rw[aho,es];simp
end
section
variable{K:Frag}{C CN:Do}
theorem gk.m0(A:gk C H p dx lo e f be lg N bN Y)(b:W.ms j=(C,s))(d:F[i]?=some (some<|.r p))(c:s [.r p] H Q W.E)(h:autoParam (lV.all (λx=>decide<|¬m=x)=true) fe):af W (.a j m (.v i) []) F H Q:=
 yv C s b (aa d (qQ p dx _ O A.ob (ip h) c))
theorem gk.m1(A:gk C H p dx lo e f be lg N bN Y){a:RE}(b:W.ms j=(C,s))(d:F[i]?=some (some<|.r p))(c:af W a F H λy u=>s [.r p,y] u Q W.E)(h:autoParam (lV.all (λx=>decide<|¬m=x)=true) fe):af W (.a j m (.v i) [a]) F H Q:=
 ky C s b (aa d (qQ p dx _ O A.ob (ip h) c))
theorem gk.m2(A:gk C H p dx lo g k be lg N bN Y){a:RE}(c:W.ms j=(C,s))(e:F[i]?=some (some<|.r p))(d:af W a F H λy u=>af W b F u λz f=>s [.r p,y,z] f Q W.E)(h:autoParam (lV.all (λx=>decide<|¬m=x)=true) fe):af W (.a j m (.v i) [a,b]) F H Q:=
 Hf C s c (aa e (qQ p dx _ O A.ob (ip h) d))
theorem ahq{Q:db->Hp->Do->Prop}{t:TE}{lo:Int}(f:Nat->Gc)(s:n<=1000000)(I:∀(i:Nat)(k:wv),i<n->k (f i) H->g (some (.i<|lo+i)::bG F fv) H k)(e:∀(x:V)(k:VK),k x H->t (some x::bG F fv) H k)(Y:∀p,H p=none->Q (((List.range n).filter f).map λi=>V.i (lo+(i:Nat))) H p):∃W:Nat->Nat->db->Hp->Prop,(∃m,W 0 m [] H)/\∀i m B u,W i m B u->
   ((dY lo n).stop i u/\∀p,u p=none->Q B u p)\/
   ((dY lo n).go i u/\∀x d,(dY lo n).eE i u x d->iE K none x d λz=>js (some g) (z.map some++bG F fv) d λb l=>
    if b=true then t (z.map some++bG F fv) l λy r=>B.length<sizeLine/\∃a,a<m/\W (i+1) a (B++[y]) r else ∃a,a<m/\W (i+1) a B l):=by
 refine nS (λi m B u=>m=n - i/\i<=n/\B=((List.range i).filter f).map (λi=>V.i<|lo+(i:Nat))/\u=H) (pQ _ O (Y_ _) O O) ?_;rintro i m B u ⟨rfl,v,rfl,rfl⟩;by_cases c:i<n;refine .inr ⟨c,?_⟩;rintro x d ⟨rfl,rfl⟩;have j:((List.range<|i+1).filter f)=(List.range i).filter f++[i].filter f:=by rw[jN,N9]
 refine I i _ c ?_;cases h:f i with
 |true=>
  refine iT (e _ _ (qC (bY ?_) (n - (i+1)) aH ⟨O,c,?_,O⟩)) O;have:=YI f (List.range i);rw[Zd] at this;rw[Wo];exact Y4 this (Y4 v s);rw[j];simp[h]
 |false=>
  refine iF (rR (n - (i+1)) aH O c ?_ O) O;rw[j];simp[h]
 have J:i=n:=XZ v (Z6 c)
 subst J;exact .inl ⟨ZX _,λq o=>Y q o⟩
variable{Y:bi}
theorem ahr(T:bZ Y){a:Nat}(d:a<Y.length):∀k,k<Y.length->ups (Y++[some a]) k k=ups Y k k:=by
 intro k;induction k using Nat.strongRecOn with
 |ind k i=>
  intro h;by_cases z:k=0;subst z;rfl;obtain⟨j,c,B,e⟩:=lW T (CR z) h;obtain⟨g,b,Z,f⟩:=lW (Hu T d) (n:=k) (CR z) (by rw[JB];exact Xh h);rw[Yb h,c] at b;cases b;rw[e,f,i j B (YR Z h)]
theorem cJ.new(T:bZ Y){n:bi}(R:cJ Y N n T')(c:N<Y.length):cJ (Y++[some N]) Y.length ((n++[none]).set N<|some Y.length) (T'++[none]):=by
 have p:(Y++[some N])[Y.length]?=some (some N):=by simp
 obtain⟨e,Z⟩:=ud (Hu T c) p;rw[ahr T c N c] at e;have j:=R.l;have s:=R.ls;refine⟨by rw[V1,JB,JB,j];rfl,by rw[JB,JB,s];rfl,λa b d f=>?_,λi g=>?_,λi k h=>?_⟩;rw[e] at d;rcases X9.mp d with rfl|d
 rw[p] at f;cases f;rw[c7];simp;lia;rw[Yb ((q_ T N c).2.1 a d)] at f;have v:=aU T f;have q:=yY T N c a d;rw[Yh aH,Yb aH];exact R.up a b d f;rw[e] at g;obtain⟨r,u,Z⟩:=rg T c;have o:N≠i:=λz=>g (by rw[u,z];exact Wu);rw[Yh o];by_cases t:i<Y.length;rw[Yb aH,Yb aH];exact R.no i λz=>g (vn z);rw[Wf aH,Wf aH,j,s];by_cases t:i<Y.length;rw[Yb aH] at h;have:=R.ok i k h;rw[Yb (ZS.mp this).1];exact this;rw[Wf aH] at h;cases m:i - T'.length with
 |zero=>rw[m] at h;cases h
 |succ z=>rw[m] at h;simp at h
theorem Eh{r:jp}{i:bn}{y:RE}(h:aR W [x,y] F H λv t=>∃a b,v=[.r a,.r b]/\(∃xs,ag W.K t a xs)/\(∃B,ag W.K t b B)/\∃e:Nat->Nat->St->Hp->Prop,(∃m,e 0 m F t)/\∀j m F H,e j m F H->
  ((jw W.K a b).stop j H/\({D with nx:=av W r D}:WH).nx F H)\/((jw W.K a b).go j H/\∃N:St->Hp->Prop,(∀V Z,N V Z->∃f,f<m/\e (j+1) f V Z)/\∀x Z,(jw W.K a b).eE j H x Z->oB W.K i.length (mK i) x F Z λd u=>av W body {({D with nx:=av W r D}:WH) with nx:=N,c:=N,bk:=({D with nx:=av W r D}:WH).nx} d u)):
  av W (.k i .z [x,y] body::r) D F H:=h
theorem aht{g:TG}{h:TS}(z:B.length<=xs.length)(P:Nat->St->Hp->Prop)(v:P 0 F H)(n:∀i F H,P i F H->ag K H a xs/\ag K H b B)(s:∀i x y F H T,xs[i]?=some x->B[i]?=some y->P i F H->H T=none->g (.r T) F (upd H T<|.t [x,y]) λd u=>h {D with nx:=P (i+1),c:=P (i+1),bk:=D.nx} d u)(l:∀F H,P B.length F H->D.nx F H):
  ∃W:Nat->Nat->St->Hp->Prop,(∃m,W 0 m F H)/\∀i m F H,W i m F H->
   ((jw K a b).stop i H/\D.nx F H)\/((jw K a b).go i H/\∃N:St->Hp->Prop,(∀V Z,N V Z->∃j,j<m/\W (i+1) j V Z)/\∀x Z,(jw K a b).eE i H x Z->g x F Z λd u=>h {D with nx:=N,c:=N,bk:=D.nx} d u):=by
 refine nS (λi m F H=>m=B.length - i/\i<=B.length/\P i F H) (nT B.length O (Y_ _) v) ?_;rintro i m F H ⟨rfl,A,p⟩;obtain⟨f,q⟩:=n i F H p;by_cases Q:i<B.length;have w:i<xs.length:=ZP Q z
 refine .inr (qC (oS xs B f q w Q) (P<|i+1) (λV Z k=>pQ (B.length - (i+1)) aH O Q k) (λx Z y=>?_));obtain⟨T,o,rfl,y⟩:=y;have e:=y xs B xs[i] B[i] f q aP aP;subst e;exact s i xs[i] B[i] F H T aP aP p o;have e:i=B.length:=XZ A (Z6 Q)
 subst e;exact .inl ⟨oG xs B f q aH,l F H p⟩
end
section
open PyProof.Rows
noncomputable def Sa:ca:=["self","change","edges","gets","ahead","node","other","pair"]
noncomputable def Sb:jp:=
 [.d (.a 0 "need_over" (.v 0) [.v 1]),
 .a 2 (.t .t [(.f (.v 0) "edges")]),
 .a 3 (.x oH [(.f (.v 0) "here"),.v 1]),
 .a 4 (.L [(.f (.v 0) "here")]),
 .R (.p .Gt (.t .l [.v 4]) (.c (.i 0))) [.a 5 (.Q .p (.v 4) []),
  .g 6 .l [(.a 1 "neighbours" (.v 0) [.v 5])] [.i (.K (.v 6) (.v 3)) [.c] [],
   .a 7 (.l 0 [(.P (.v 3)<|.v 5),(.a 2 "edge" (.v 0) [.v 5,.v 6])]),
   .t (.v 3) (.v 6) (.i (.v 7)<|.c<|.i 0),
   .d (.Q .a (.v 4) [.v 6]),
   .i (.p .Eq (.i (.f (.v 0) "parents") (.v 6)) (.v 5)) [.s (.v 2) (.v 6) (.i (.v 7) (.c (.i 1)))] [.s (.v 2) (.v 5) (.l 1 [(.i (.v 7) (.c (.i 1)))])]]],
 .f (.v 0) "edges" (.v 2),
 .f (.v 0) "lengths" (.C none [("gets",3)] .f [(.a 3 "many" (.v 0) [])] none (.i (.l 2 [(.P (.v 1) (.v 0))]) (.c (.i 1))))]
noncomputable def ahu:ca:=["passed","back","sizes"]
noncomputable def ahv:ca:=["list","len","range"]
noncomputable def ahw:ca:=["need_over","neighbours","edge","many"]
end
theorem ahx{q:Pt}(h:p.word=q.word)(d:p.val=q.val):p=q:=by
 have a:¬("keep":Str)="put":=by decide+kernel
 have b:¬("keep":Str)="cut":=by decide+kernel
 have c:¬("put":Str)="cut":=by decide+kernel
 cases p<;>cases q<;>first
  |exact absurd h a|exact absurd h.symm a|exact absurd h b|exact absurd h.symm b|exact absurd h c|exact absurd h.symm c
  |(injection d with d;rw[d])
theorem ahy:∀{xs:db}{h qs:cr},aD H xs h->aD H xs qs->h=qs:=by
 intro xs h qs c;induction c generalizing qs with
 |nil=>intro k;cases k;rfl
 |cons x Y i=>
  intro k;cases k with
  |cons y d=>
   obtain⟨a,e,c⟩:=x;obtain⟨g,f,b⟩:=y;rw[e] at f;cases f;rw[c] at b;injection b with b
   injection b with b
   injection b with w b
   injection w with w
   injection b with x _
   rw[ahx w x,i d]
def gm(H:Hp)(Ed:ii)(J:Nat->cr->Prop):Prop:= ∀(i:Nat)(a:Do),Ed[i]?=some a->∃xs h,H a=some (.l xs)/\aD H xs h/\J (i+1) h
section
variable{C:Do}{H Z:Hp}{p:Do}{M c:ii}{N:Nat}{Y:bi}{g:List bn}{l:bi}{T:Nat}{m q x z G I:Do}{K:ii}{f:db}{J:Nat->cr->Prop}
theorem Sd:∀(f:db),(∀v∈f,∃a,v=V.r a)->f=(ub f).map V.r
 |[],_=>O
 |v::r,h=>by
  obtain⟨a,rfl⟩:=h v (.head _);have:=Sd r λw b=>h w (.tail _ b);show V.r a::r=V.r a::(ub r).map V.r;rw[<-this]
theorem fN.y3(A:fN C H p M c N Y g l T m q x z G I K f):f=V.a::c.map V.r:=by
 have e:=A.Q;cases f with
 |nil=>cases e
 |cons v r=>
  have:=lF e;subst this;have n:∀w∈r,∃a,w=V.r a:=λw k=>by
   obtain⟨i,b⟩:=WK.mp k;have o:i+1<Y.length:=by
    have:=A.le;have y:=(ZS.mp b).1;rw[Wt] at this;lia
   obtain⟨j,s,Z⟩:=A.ob.tr.up (i+1) (fP _) o;obtain⟨a,h,t,u,d,Z⟩:=YC (A.ev (i+1) j s);rw[Zl,b] at d;exact⟨a,lF d⟩
  rw[Sd r n];have:=A.R;rw[<-this];rfl
theorem gm.keep(E:gm H c J)(k:∀a o,a∈c->H a=some o->Z a=some o)(t:bI H Z):gm Z c J:=λi a e=>by
 obtain⟨xs,h,f,d,b⟩:=E i a e;exact⟨xs,h,k a _ (YK e) f,d.mono t,b⟩
theorem gm.same(E:gm H c J)(s:ar H Z):gm Z c J:=E.keep (λY Y Y e=>s _ _ e) (bB s)
theorem gm.but(E:gm H c J)(A:bf C H p M c N Y g l T)(b:bo M H Z):gm Z c J:=by
 obtain⟨m,q,x,z,G,I,K,f,A⟩:=A;refine E.keep (λa o d e=>b a o e ?_)<|A.live.bx b;obtain⟨i,h⟩:=WK.mp d;exact A.en (i+1) a (by rw[A.y3,Zl,Z_,h];rfl)
def y4(H:Hp)(f:db)(Y:bi)(g:List bn)(T:Nat)(J:Nat->cr->Prop):Prop:= ∀(i j:Nat),Y[i]?=some (some j)->∃(a:Do)(h:cr)(l b:bn),f[i]?=some (V.r a)/\g[j]?=some l/\g[i]?=some b/\bM H a h l b/\ao h<=T/\J i h
theorem fN.CO(A:fN C H p M c N Y g l T m q x z G I K f)(E:gm H c J):y4 H f Y g T J:=λi j e=>by
 obtain⟨a,h,r,s,zq⟩:=YC (A.ev i j e);obtain⟨b,D,y,⟨xs,o,n,F⟩,w⟩:=Y7 zq;refine oT a h r s b D y (nT xs o n F) w ?_;have d:=b;rw[A.y3] at d;cases i with
 |zero=>cases d
 |succ i=>
  rw[Zl,Z_] at d;obtain⟨P,v,L⟩:=WC.mp d;cases L;obtain⟨B,qs,k,u,t⟩:=E i a v;rw[o] at k;cases k;rw[ahy n u];exact t
end
section
variable{K:Frag}{C CF:Do}
inductive CQ(C:Do)(v:db)(H:Hp)(Q:VK)(E:XK):Prop|i(p dx lo f e be lg:Do)(N:Nat)(bN:bn)(Y:bi)(es:db)(ax:List bn)(T n m:Nat)(a b:bn)(J:Nat->cr->Prop)(_:v=[.r p,.i n,.i m])(_:gk C H p dx lo f e be lg N bN Y)(_:H e=some (.l es))(_:y4 H es Y ax T J)(_:T<=14000)(_:ax[n]?=some a)(_:ax[m]?=some b)(_:m<Y.length)(_:(Y[m]?=some (some n)\/(Y[m]?≠some (some n)/\Y[n]?=some (some m))))(_:∀(c:Do)(h:cr)(Z:Hp),ar H Z->bM Z c h a b->ao h<=T->(Y[m]?=some (some n)/\J m h\/Y[n]?=some (some m)/\∃d,J n d/\h=bk d)->Q (.r c) Z)
abbrev ahG(K:Frag)(E:XK):ba:=aG K [("back",vx)] [] (E:=E)
theorem OK(T:fI K C):bz (CQ C) (λE=>ahG K E) NR NQ:=by
 intro D H Q E B;obtain⟨p,dx,lo,G,S,be,lg,N,bN,Y,es,ax,F,n,m,I,L,J,rfl,A,r,t,M,l,o,i,d,q⟩:=B;have g:=XB i;refine cA<|yL<|bw<|aN<|cT<|aa O ⟨p,C,dx,_,_,O,A.ob,T.cl,T.m,pA,aa O<|br A.c (bq (by rw[Z_,g];rfl))<|aa O<|yQ ⟨_,O,?_⟩⟩;by_cases z:Y[m]=some n;refine iT ?_ (W_ z);rw[z] at g;obtain⟨a,h,w,x,zq⟩:=YC (t m n g);obtain⟨k,f,e,b,v,j⟩:=Xt zq;rw[l] at f;cases f;rw[o] at e;cases e;exact aN<|cT<|aa O ⟨p,C,dx,_,_,O,A.ob,T.cl,T.vi,Cg,aa O<|br r (bq k)<|q a h H (ar.refl _) b v<|.inl ⟨g,j⟩⟩;refine iF ?_ (ZN z);have u:Y[n]?=some (some m):=by
  rcases d with d|d
  rw[g] at d;cases z (lF d);exact d.2
 obtain⟨a,h,w,x,zq⟩:=YC (t n m u);obtain⟨k,f,e,b,v,j⟩:=Xt zq;rw[o] at f;cases f;rw[l] at e;cases e;have U:=jj h "" b.chg.ok b.chg.c;have P:=(b.chg.bk aH).2;refine bu vx O<|aq<|aN<|cT<|aa O ⟨p,C,dx,_,_,O,A.ob,T.cl,T.vi,Cg,aa O<|br r (bq k)<|az<|QG b aH aH λc Z s R y=>q c _ Z s y ?_ (.inr ⟨u,h,j,O⟩)⟩;lia
def nC(Y:bi)(n:Nat):bn:=(match Y[n]? with|some (some j)=>[j]|_=>[])++kids Y n
theorem ahB:m∈kids Y n↔Y[m]?=some (some n):=by
 unfold kids;rw[List.mem_filter,Zn];constructor;intro h;simpa using h.2;intro h;exact⟨(ZS.mp h).1,aH⟩
theorem Se:m∈nC Y n↔iu Y n m:=by
 unfold nC iu;rw[Z4,ahB];constructor;rintro(h|h);right;split at h;rename_i j e;rw[Ya.mp h];exact e;cases h;exact .inl h;rintro(h|h);exact .inr h;left;rw[h];simp
inductive Sf(C:Do)(v:db)(H:Hp)(Q:VK)(E:XK):Prop|i(p:Do)(M Ed:ii)(N:Nat)(Y:bi)(ax:List bn)(t:bi)(T n:Nat)(_:v=[.r p,.i n])(_:bf C H p M Ed N Y ax t T)(_:n<Y.length)(_:∀b Z,ar H Z->H b=none->Z b=some (.l<|iV<|nC Y n)->Q (.r b) Z)
theorem ahC{a:RE}(h:a_ W c F H λd t=>if d=true then af W a F t Q else af W b F t Q):af W (.k c a b) F H Q:=h
theorem ahD(X:fI K C):bz (Sf C) (λE=>bK K E) N3 N2:=by
 intro S H Q E P;obtain⟨p,M,Ed,N,Y,ax,h,T,n,rfl,⟨dx,lo,W,ed,be,lg,B,es,A⟩,k,q⟩:=P;have U:=A.ob.sz;obtain⟨b,u⟩:∃b,B[n]?=some b:=⟨_,XB (A.y▸k)⟩;have G:(B.map V.r)[n]?=some (V.r b):=by rw[Z_,u];rfl
 have I:=A.hk n b u;have kl:(kids Y n).length<=Y.length:=by
  have:=YI (λj=>Y[j]?==some (some n)) (List.range Y.length);rw[Zd] at this;exact this
 have D:∀(L:Do)(d:bn)(t:Hp),d.length<=1->ar H t->H L=none->t L=some (.l<|iV d)->d++kids Y n=nC Y n->av (bK K E) [.r<|.b .Add (.v 2)<|.i (.f (.v 0) "below")<|.v 1] (Dn Q) [some<|.r p,some<|.i (n:Nat),some<|.r L] t:=by
  intro L d t Z s a J e;have F:=A.same s;refine cA<|cD<|aa O<|aN<|cT<|aa O ⟨p,C,dx,_,_,O,F.ob.ob,X.cl,X.xW,Ci,aa O<|br F.t (bq G)<|.inl ⟨L,b,_,_,O,O,J,s _ _ I,cx ?_,λw x=>?_⟩⟩;unfold iV;rw[Wo,Wo];lia;have R:iV d++iV (kids Y n)=iV (nC Y n):=by rw[<-e];unfold iV;rw[Za]
  rw[R];exact q w _ (s.trans<|V3 x) (s.free x) aj
 refine aY<|ahC<|bw<|aa O<|aC<|nr ⟨_,O,?_⟩;by_cases z:n=0;refine iT ?_ (W_ aH);refine cI<|az ⟨Y_ _,λL a=>D L [] _ (Y_ _) (V3 a) a aj ?_⟩;unfold nC;rw[z,A.ob.tr.r];refine iF ?_ (ZN aH);obtain⟨j,o,_⟩:=A.ob.tr.up n (CR z) k;have g:(Y.map gV)[n]?=some (V.i (j:Nat)):=by rw[Z_,o];rfl
 refine cI<|aq<|aN<|cT<|aa O ⟨p,C,dx,_,_,O,A.ob.ob,X.cl,X.m,pA,aa O<|br A.ob.c (bq g)<|az ⟨de,λL a=>D L [j] _ (ZX 1) (V3 a) a aj ?_⟩⟩;unfold nC;rw[o]
def pH(Y:bi)(v:bn):Prop:= ∃t∈v,∀k∈v,t<=k/\(k=t\/∃j∈v,Y[k]?=some (some j))
theorem pH.add{v:bn}(T:bZ Y)(c:pH Y v){a:Nat}(l:a∈v)(m:b∉v)(g:iu Y a b):pH Y (v++[b])/\∀x∈v,iu Y b x->x=a:=by
 obtain⟨t,p,c⟩:=c;rcases g with g|g
 have o:=(aU T g).1;refine⟨nS t (Zh _ p) (λk h=>?_),λx i d=>?_⟩;rcases Z4.mp h with h|h
 refine⟨(c k h).1,?_⟩;rcases (c k h).2 with e|⟨j,f,e⟩
 exact .inl e;exact .inr (nS j (Zh _ f) e);rw[Ya.mp h];have:=(c a l).1;exact⟨(Zb (yF this o)),.inr (nS a (Zh _ l) g)⟩;rcases d with d|d
 rcases (c x i).2 with e|⟨j,f,e⟩
 have:=(aU T d).1;have:=(c a l).1;lia;rw[d] at e;cases e;cases m f;rw[g] at d;cases d;rfl;have o:=(aU T g).1;have n:a=t:=by
  rcases (c a l).2 with e|⟨j,f,e⟩
  exact e;rw[g] at e;cases e;cases m f
 subst n;refine⟨nS b (cQ _<|.head _) (λk h=>?_),λx i d=>?_⟩;rcases Z4.mp h with h|h
 have:=(c k h).1;refine⟨(Zb (ZP o this)),.inr ?_⟩;rcases (c k h).2 with e|⟨j,f,e⟩
 exact nS b (cQ _<|.head _) aH;exact nS j (Zh _ f) e;rw[Ya.mp h];exact⟨ZX _,.inl O⟩;rcases d with d|d
 rcases (c x i).2 with e|⟨j,f,e⟩
 exact e;rw[d] at e;cases e;cases m f;have:=(aU T d).1;have:=(c x i).1;lia
theorem Sh{v:bn}(T:bZ Y)(e:b∈v)(l:∀k∈v,k<Y.length)(c:∀k∈v,∀m,iu Y k m->m∈v):∀k,k<Y.length->k∈v:=by
 have u:∀n,n∈v->0∈v:=by
  intro n;induction n using Nat.strongRecOn with
  |ind n i=>
   intro h;by_cases z:n=0;rw[<-z];exact h;obtain⟨j,a,B⟩:=T.up n (CR z) (l n h);exact i j B<|c n h j<|.inr a
 intro k;induction k using Nat.strongRecOn with
 |ind k i=>
  intro d;by_cases z:k=0;rw[z];exact (u b e);obtain⟨j,a,B⟩:=T.up k (CR z) d;exact c j (i j B (YR B d)) k<|.inl a
end
noncomputable def cq(v:bn)(a:Nat->Do):nH:=v.map λk=>((Sum.inl ((k:Nat):Int):gS),V.r<|a k)
theorem uf:∀{v:bn},k∈v->dO (cq v ad) (.inl ((k:Nat):Int))=some (.r<|ad k)
 |j::r,h=>by
  by_cases z:j=k;subst z;exact nZ O;refine(uO<|λe=>z ?_).trans (uf ?_);lia;rcases X9.mp h with h|h
  cases z h.symm;exact h
theorem y6:∀{v:bn},k∉v->dO (cq v ad) (.inl ((k:Nat):Int))=none
 |[],_=>O
 |j::r,h=>by
  refine(uO<|λe=>h ?_).trans<|y6 λz=>h (Wb _ z);have:j=k:=by lia
  rw[this];exact Wu
noncomputable def dF{b:Type}(f:Nat->b)(k:Nat)(a:b):Nat->b:=λj=>if j=k then a else f j
theorem j9{a:b}:dF f k a k=a:=GT O
theorem fE{a:b}(h:j≠k):dF f k a j=f j:=Id h
theorem Si{v:bn}{a:Nat->Do}(h:k∉v):iJ (cq v a) (.inl ((k:Nat):Int)) (V.r c)=cq (v++[k]) (dF a k c):=by
 rw[aaC _<|y6 h];unfold cq;rw[Za];congr 1;refine Xb λj b=>?_;rw[fE<|λz=>h aH];show[((Sum.inl ((k:Nat):Int):gS),V.r c)]=[((Sum.inl ((k:Nat):Int):gS),V.r<|dF a k c k)];rw[j9]
structure Fg(H0 H:Hp)(Y:bi)(ax:List bn)(T U:Nat)(I J':Nat->cr->Prop)(e2 g3 a4:Do)(Xf st:bn)(ad:Nat->Do)(nt:Nat->bn)(es:db):Prop where
 sm:ar H0 H
 t:H e2=some (.l es)
 n:H g3=some (.d<|cq Xf ad)
 hs:H a4=some (.l<|iV st)
 fr:H0 e2=none/\H0 g3=none/\H0 a4=none
 ne:e2≠g3/\e2≠a4/\g3≠a4
 nd:Xf.Nodup
 lv:∀k∈Xf,k<Y.length
 ls:∀k∈st,k∈Xf
 tp:pH Y Xf
 gt:∀k∈Xf,ad k∉ [e2,g3,a4]/\∃g l,ax[k]?=some l/\bM H (ad k) g l (nt k)/\I k g/\ao g<=U
 le:es.length=Y.length
 e0:es[0]?=some .a
 ed:∀i j,Y[i]?=some (some j)->i∈Xf->j∈Xf->∃a q,es[i]?=some (.r a)/\a∉ [e2,g3,a4]/\H0 a=none/\bM H a q (nt j) (nt i)/\J' i q/\ao q<=T
section
variable{G H Z:Hp}{Y:bi}{J:List bn}{T U:Nat}{I w:Nat->cr->Prop}{b f m:Do}{A K:bn}{P:Nat->Do}{p:Nat->bn}{E:db}
theorem Fg.same(F:Fg G H Y J T U I w b f m A K P p E)(s:ar H Z):Fg G Z Y J T U I w b f m A K P p E:=by
 refine⟨F.sm.trans s,s _ _ F.t,s _ _ F.n,s _ _ F.hs,F.fr,F.ne,F.nd,F.lv,F.ls,F.tp,λk o=>?_,F.le,F.e0,λi j e u r=>?_⟩;obtain⟨a,g,l,d,c,h⟩:=F.gt k o;exact sA a g l d ⟨c.same s,h⟩;obtain⟨a,q,zq⟩:=Z2 (F.ed i j e u r);obtain⟨d,c,h,x,v⟩:=Y7 zq;exact oS a q d c h ⟨x.same s,v⟩
theorem Fg.add(F:Fg G H Y J T U I w b f m A K P p E)(v:bZ Y){E':Nat}{d:Do}(k:∀y o,y∉ [b,f,m]->H y=some o->Z y=some o)(tu:bI H Z)(he:Z b=some (.l<|E.set i<|.r d))(hg:Z f=some (.d<|cq (A++[E'])<|dF P E' c))(hs:Z m=some (.l<|iV<|K++[E']))(hn:W'∈A)(B:E'∉A)(ol:E'<Y.length)(hl:J[E']?=some l)(hc:bM Z c h l r)(cW:c∉ [b,f,m])(hI:I E' h)(tI:ao h<=U)(dW:d∉ [b,f,m])(d0:G d=none)(tq:ao qs<=T)(u:Y[E']?=some (some W')/\i=E'/\bM Z d qs (p W') r/\w E' qs\/Y[W']?=some (some E')/\i=W'/\bM Z d qs r (p W')/\w W' qs):
  Fg G Z Y J T U I w b f m (A++[E']) (K++[E']) (dF P E' c) (dF p E' r) (E.set i<|.r d):=by
 have CS:iu Y W' E':=by
  rcases u with c|c
  exact .inl c.1;exact .inr c.1
 obtain⟨tp,n⟩:=F.tp.add v hn B CS;have X:W'≠E':=λz=>B (by rw[<-z];exact hn);have kc:∀{a:Do}{g:cr}{x y:bn},a∉ [b,f,m]->bM H a g x y->bM Z a g x y:=λt q=>q.keep (λo e=>k _ o t e) tu;have il:i<E.length:=by
  rw[F.le];rcases u with⟨_,rfl,_⟩|⟨_,rfl,_⟩
  exact ol;exact F.lv _ hn
 have i0:i≠0:=by
  rcases u with⟨e,rfl,_⟩|⟨e,rfl,_⟩
  have:=(aU v e).1;lia;have:=(aU v e).1;lia
 refine⟨λy o e=>k y o (λz=>?_)<|F.sm _ _ e,he,hg,hs,F.fr,F.ne,?_,λx j=>?_,λx j=>?_,tp,λx j=>?_,by rw[V1];exact F.le,by rw[Yh i0];exact F.e0,λx y e j S=>?_⟩;simp at z;rcases z with rfl|rfl|rfl
 rw[F.fr.1] at e;cases e;rw[F.fr.2.1] at e;cases e;rw[F.fr.2.2] at e;cases e;exact List.nodup_append.mpr ⟨F.nd,aP,λx j y S e=>B (by rw[<-Ya.mp S,<-e];exact j)⟩;rcases Z4.mp j with j|j
 exact F.lv x j;rw[Ya.mp j];exact ol;rcases Z4.mp j with j|j
 exact Zh _ (F.ls x j);exact cQ _ j;rcases Z4.mp j with j|j
 have:x≠E':=λz=>B (by rw[<-z];exact j);rw[fE this,fE this];obtain⟨a,g,l',h1,W,h3⟩:=F.gt x j;exact sA a g l' h1 ⟨kc a W,h3⟩;rw[Ya.mp j,j9,j9];exact sA cW h l hl ⟨hc,hI,tI⟩;have D:x=i->y=(if i=E' then W' else E')->∃a q,(E.set i<|.r d)[x]?=some (V.r a)/\a∉ [b,f,m]/\G a=none/\bM Z a q (dF p E' r y) (dF p E' r x)/\w x q/\ao q<=T:=by
  intro e1 R;subst e1;refine oS d qs (by rw[Yl il]) dW d0 ⟨?_,?_,tq⟩;rcases u with⟨_,rfl,t,_⟩|⟨_,rfl,t,_⟩
  rw[GT O] at R;subst R;rw[j9,fE X];exact t;rw[Id X] at R;subst R;rw[j9,fE X];exact t;rcases u with⟨_,rfl,_,t⟩|⟨_,rfl,_,t⟩ <;>exact t
 rcases Z4.mp j with L|L
 have Q:x≠E':=λz=>B (by rw[<-z];exact L);rcases Z4.mp S with s|s
 have N:y≠E':=λz=>B (by rw[<-z];exact s);have xi:i≠x:=λz=>by
  rcases u with⟨_,rfl,_⟩|⟨C,rfl,_⟩
  exact Q z.symm;rw[z,e] at C;cases C;exact N O
 obtain⟨a,q,h1,W,h3,h4,h5⟩:=F.ed x y e L s;exact oS a q (by rw[Yh xi];exact h1) W h3 ⟨by rw[fE Q,fE N];exact kc W h4,h5⟩;have N:=Ya.mp s;subst N;have xn:=n x L (.inl e);subst xn;rcases u with⟨C,_⟩|⟨_,M,_⟩
 have:=(aU v C).1;have:=(aU v e).1;lia;exact D M.symm (by rw[M,Id X]);have Q:=Ya.mp L;subst Q;rcases Z4.mp S with s|s
 have yn:=n y s (.inr e);subst yn;rcases u with⟨_,M,_⟩|⟨C,_⟩
 exact D M.symm (by rw[M,GT O]);have:=(aU v C).1;have:=(aU v e).1;lia;rw[Ya.mp s] at e;have:=(aU v e).1;exact (Xx _ this).elim
end
section
variable{K:Frag}{C s:Do}
theorem rm:∀(n:Nat)(l:bn),l.Nodup->(∀x∈l,x<n)->l.length<=n
 | 0,[],_,_=>ZX _
 | 0,x::_,_,h=>absurd (h x<|.head _) (Nat.not_lt_zero _)
 |n+1,l,d,h=>by
  by_cases z:n∈l;have e:=List.length_erase_of_mem z;have:=rm n (l.erase n) (d.erase n) λx a=>by
   have b:=(d.mem_erase_iff).mp a;have:=h x b.2;lia
  lia;have:=rm n l d λx a=>by
   have:=h x a;have:x≠n:=λe=>z aH;lia
  exact WX this
def Nx(Y:bi)(N a b:Nat):Prop:=iu Y a b/\∃v,pH Y v/\N∈v/\a∈v/\b∉v
def CU(Y:bi)(N:Nat)(I J d:Nat->cr->Prop):Prop:= ∀(a b:Nat)(g e h qs:cr)(l m n:bn),Nx Y N a b->I a g->(Y[b]?=some (some a)/\J b e\/Y[a]?=some (some b)/\∃c,J a c/\e=bk c)->cE g l m->cE e l n->XJ g e h qs l m n->I b h/\(Y[b]?=some (some a)->d b qs)/\(Y[a]?=some (some b)->d a (bk qs))
abbrev GF(K:Frag)(C s:Do)(E:XK):ba:=aG K [("passed",B3),("back",vx),("sizes",jB)] [] [] [("need_over",C,Cn C s),("neighbours",C,Sf C),("edge",C,CQ C),("many",C,tY C)] (E:=E)
noncomputable def Sj:jp:=[.i (.K (.v 6) (.v 3)) [.c] [],
   .a 7 (.l 0 [(.P (.v 3)<|.v 5),(.a 2 "edge" (.v 0) [.v 5,.v 6])]),
   .t (.v 3) (.v 6) (.i (.v 7)<|.c<|.i 0),
   .d (.Q .a (.v 4) [.v 6]),
   .i (.p .Eq (.i (.f (.v 0) "parents") (.v 6)) (.v 5)) [.s (.v 2) (.v 6) (.i (.v 7) (.c (.i 1)))] [.s (.v 2) (.v 5) (.l 1 [(.i (.v 7) (.c (.i 1)))])]]
theorem Sk{a:Type}{l:List a}(h:i<l.length):fZ l.length ((i:Nat):Int)=some i:=by
 unfold fZ;rw[GT (Wx _),GT aH];rfl
theorem HM{r:jp}{i:RE}(h:af W e F H λv t=>af W o F t λx u=>af W i F u λy c=>∃a b,x=.r a/\mF c a y v b/\av W r D F b):av W (.t o i e::r) D F H:=h
theorem ug{a:RE}(h:af W a F H λx t=>af W b F t λy u=>∃d v,x=.r d/\eU u d y (some v)/\Q v u):af W (.P a b) F H Q:=h
theorem HN{Q:wv}{a:RE}(h:af W a F H λy t=>af W b F t λx u=>∃d o,x=.r d/\eU u d y o/\∃k,V.b o.isSome=.b k/\Q k u):a_ W (.K a b) F H Q:=h
theorem ahF{L Q:Do}{v:bn}{W:Nat->Do}{E':Nat}(X:fI K C)(A:fN C H0 p M Ed N Y ax a' T dx lo pa ed be lg bs g7)(EJ:y4 H0 g7 Y ax T J)(w:Fg H0 H Y ax T U I J' L G Q v st W nt es)(hh:N∈v)(fV:CU Y N I J J')(vZ:T+U<=14000)(n':Y.length<=50000)(Cb:st.length<=50000)(hn:W'∈v)(rn:iu Y W' E')(N0:Db)(Sl:∀F H,N0 F H->D.nx F H)(sY:∀F H,N0 F H->D.c F H)(q0:E'∈v->N0 [some<|.r p,some c0,some<|.r L,some<|.r G,some<|.r Q,some<|.i (W':Nat),some<|.i (E':Nat),u7] H)(q:∀(t0 c:Do)(r:bn)(dB:db)(Z:Hp),E'∉v->Fg H0 Z Y ax T U I J' L G Q (v++[E']) (st++[E']) (dF W E' c) (dF nt E' r) dB->(∀y o,y∉ [L,G,Q]->H y=some o->Z y=some o)->N0 [some<|.r p,some c0,some<|.r L,some<|.r G,some<|.r Q,some<|.i (W':Nat),some<|.i (E':Nat),some<|.r t0] Z):
  av (GF K C s E) Sj D [some<|.r p,some c0,some<|.r L,some<|.r G,some<|.r Q,some<|.i (W':Nat),some<|.i (E':Nat),u7] H:=by
 have ol:E'<Y.length:=by
  rcases rn with e|e
  exact(ZS.mp e).1;have:=aU A.ob.tr e;lia
 by_cases hv:E'∈v;refine bQ (HN<|aa O<|aa O ⟨G,_,O,eU.k (k:=.inl ((E':Nat):Int)) w.n,_,O,iT (sY _ _<|q0 hv) (by rw[uf hv];rfl)⟩);refine bQ (HN<|aa O<|aa O ⟨G,_,O,eU.k (k:=.inl ((E':Nat):Int)) w.n,_,O,iF (ik ?_) (by rw[y6 hv];rfl)⟩);obtain⟨aW,g,ln,Bc,hg,hI,hU⟩:=w.gt W' hn;have jG:ax.length=Y.length:=by have:=A.ob.l;rw[Wo] at this;exact this
 obtain⟨lm,Sm⟩:∃lm,ax[E']?=some lm:=oM _ (XB aH);have A1:=A.same w.sm;have k':Y[E']?=some (some W')\/(Y[E']?≠some (some W')/\Y[W']?=some (some E')):=by
  rcases rn with e|e
  exact .inl e;refine .inr ⟨λz=>?_,e⟩;have:=(aU A.ob.tr e).1;have:=(aU A.ob.tr z).1;lia
 have m':y4 H g7 Y ax T J:=λi j e=>by
  obtain⟨a,h,lj,li,zq⟩:=YC (EJ i j e);obtain⟨h1,h2,h3,h4,h5⟩:=Y7 zq;exact n4 a h lj li h1 h2 h3 (h4.same w.sm) h5
 refine aY<|bu B3 O<|aq<|ug<|aa O<|aa O ⟨G,V.r<|W W',O,(by rw[<-uf (ad:=W) hn];exact eU.k (k:=.inl ((W':Nat):Int)) w.n),aq<|A1.ob.m2 O O<|aa O<|aa O ⟨p,dx,lo,pa,ed,be,lg,N,_,Y,g7,ax,T,W',E',ln,lm,J,O,A1.ob,A1.F,m',(Y4 (Xw _ _) vZ),Bc,Sm,ol,k',λe pe t s1 CV te hJ=>az<|af4 (hg.same s1) CV ?_ ?_ λt0 c d u h qs r s2 fc fd ht hc hd P=>?_⟩⟩;have h1:g.length<=2*ao g+1:=jj g "" hg.chg.ok hg.chg.c;have h2:pe.length<=2*ao pe+1:=jj pe "" CV.chg.ok CV.chg.c;lia;lia;have eP:=s1.trans s2;have F2:=w.same eP;have v8:=s1.free fc;have Sn:=s1.free fd;have So:∀{y:Do},H y=none->y∉ [L,G,Q]:=λf h0=>by
  simp only[X9,Yy,M2] at h0;rcases h0 with rfl|rfl|rfl
  rw[w.t] at f;cases f;rw[w.n] at f;cases f;rw[w.hs] at f;cases f
 obtain⟨g',f',e'⟩:=fV W' E' g pe h qs ln (nt W') lm (qC rn v w.tp ⟨hh,hn,hv⟩) hI hJ hg.chg CV.chg P;have t1:=P.Qk;have t2:=P.aft;have vl:v.length<=Y.length:=rm _ _ w.nd w.lv;obtain⟨y7,v9,v_⟩:=w.ne;have kl:(cq v W).length=v.length:=by unfold cq;rw[Wo]
 refine HM<|aN<|aa O<|aC<|vO ht O<|aa O<|aa O ⟨G,_,O,mF.k (k:=.inl ((E':Nat):Int)) F2.n<|bY (by rw[kl];lia),?_⟩;rw[Si hv];have b3:aE G u (upd u G<|.d<|cq (v++[E'])<|dF W E' c):=aE.upd;have Sq:upd u G (.d<|cq (v++[E'])<|dF W E' c) G=some (.d<|cq (v++[E'])<|dF W E' c):=aj;have n_:=b3 _ _ F2.hs (Ix v_);have y8:=b3 _ _ F2.t y7;have Sr:bI u (upd u G<|.d<|cq (v++[E'])<|dF W E' c):=λy B e=>b3 y _ e λz=>by rw[z,F2.n] at e;cases e
 generalize upd u G (.d<|cq (v++[E'])<|dF W E' c)=H3 at b3 Sq n_ y8 Sr⊢;refine bU<|fK<|aa O ⟨.inl ⟨O,_,ag.of n_⟩,aa O ⟨_,n_,bY (by unfold iV;rw[Wo];exact Y4 Cb (Xk _ _)),?_⟩⟩;have h':iV st++[V.i (E':Nat)]=iV (st++[E']):=by unfold iV;rw[Za];rfl
 rw[h'];have b4:aE Q H3 (upd H3 Q<|.l<|iV<|st++[E']):=aE.upd;have HP:upd H3 Q (.l<|iV<|st++[E']) Q=some (.l<|iV<|st++[E']):=aj;have wb:=b4 _ _ Sq v_;have rq:=b4 _ _ y8 v9;have Ss:=b4.bx n_;generalize upd H3 Q (.l<|iV<|st++[E'])=H4 at b4 HP wb rq Ss⊢;have wc:∀y o,y∉ [L,G,Q]->u y=some o->H4 y=some o:=λy o ne e=>b4 y o (b3 y o e λz=>ne (by rw[z];simp)) λz=>ne (by rw[z];simp);have CW:bI u H4:=λy B e=>Ss _ _ (Sr _ _ e);have Cs:=CW _ _ ht;have cW:=So v8;have dW:=So Sn;have HQ:=hc.keep (λo e=>wc c o cW e) CW;have iq:=hd.keep (λo e=>wc d o dW e) CW;have l':H0 d=none:=w.sm.free Sn;have b':H4 p=some (.i C dx (h6 (N:Nat) lo pa ed be lg)):=wc _ _ (λz=>by
  have e:=A.ob.ob;simp only[X9,Yy,M2] at z;rcases z with rfl|rfl|rfl
  rw[w.fr.1] at e;cases e;rw[w.fr.2.1] at e;cases e;rw[w.fr.2.2] at e;cases e) ((w.sm.trans eP) _ _ A.ob.ob)
 have j':H4 pa=some (.l (Y.map gV)):=wc _ _ (λz=>by
  have e:=A.ob.c;simp only[X9,Yy,M2] at z;rcases z with rfl|rfl|rfl
  rw[w.fr.1] at e;cases e;rw[w.fr.2.1] at e;cases e;rw[w.fr.2.2] at e;cases e) ((w.sm.trans eP) _ _ A.ob.c)
 have ym:Y[E']?=some Y[E']:=XB ol;have jH:(Y.map gV)[E']?=some (gV Y[E']):=by rw[Z_,ym];rfl
 refine bQ<|bw<|aN<|cT<|aa O ⟨p,C,dx,_,_,O,b',X.cl,X.m,pA,aa O<|br j' (bq jH)<|aa O<|yQ ⟨_,O,?_⟩⟩;have Y':∀(i:Nat)(R:Do)(q':cr)(S:Hp),ar H4 S->R∉ [L,G,Q]->H0 R=none->ao q'<=T->i<es.length->(Y[E']?=some (some W')/\i=E'/\bM S R q' (nt W') r/\J' E' q'\/Y[W']?=some (some E')/\i=W'/\bM S R q' r (nt W')/\J' W' q')->
   Fg H0 (upd S L<|.l<|es.set i<|.r R) Y ax T U I J' L G Q (v++[E']) (st++[E']) (dF W E' c) (dF nt E' r) (es.set i<|.r R)/\∀y o,y∉ [L,G,Q]->H y=some o->upd S L (.l<|es.set i<|.r R) y=some o:=by
  intro i R q' S s5 Su i' tq il cs;have b5:aE L S (upd S L<|.l<|es.set i<|.r R):=aE.upd;have uh:=b5.bx (s5 _ _ rq);have kk:∀y o,y∉ [L,G,Q]->H y=some o->upd S L (.l<|es.set i<|.r R) y=some o:=λy o ne e=>b5 y o (s5 _ _<|wc y o ne<|eP _ _ e) λz=>ne (by rw[z];simp);refine⟨w.add A.ob.tr kk (λy B e=>uh _ _<|s5 _ _<|CW _ _<|eP _ _ e) aj (b5 _ _ (s5 _ _ wb)<|Ix y7) (b5 _ _ (s5 _ _ HP)<|Ix v9) hn hv ol Sm ((HQ.same s5).keep (λo e=>b5 c o e λz=>cW (by rw[z];simp)) uh) cW g' (Y4 t1 hU) Su i' tq ?_,kk⟩;have dk:∀{x y:bn},bM S R q' x y->bM (upd S L<|.l<|es.set i<|.r R) R q' x y:=λh0=>h0.keep (λo e=>b5 R o e λz=>Su (by rw[z];simp)) uh;rcases cs with⟨e1,lY,e3,e4⟩|⟨e1,lY,e3,e4⟩
  exact .inl ⟨e1,lY,dk e3,e4⟩;exact .inr ⟨e1,lY,dk e3,e4⟩
 by_cases z:Y[E']=some W';refine iT ?_ (W_ z);have hp:Y[E']?=some (some W'):=by rw[ym,z]
 have il:E'<es.length:=by rw[w.le];exact ol
 obtain⟨F5,k5⟩:=Y' E' d qs H4 (ar.refl _) dW l' (Y4 t2 te) il (.inl ⟨hp,O,iq,f' hp⟩);exact qT<|aN<|aa O<|aC<|vO Cs O<|aa O<|aa O ⟨L,_,_,E',O,O,rq,Sk il,Sl _ _<|q t0 c r _ _ hv F5 k5⟩;refine iF ?_ (ZN z);have hp:Y[W']?=some (some E'):=by
  rcases rn with e|e
  rw[ym] at e;exact absurd (lF e) z;exact e
 have il:W'<es.length:=by rw[w.le];exact w.lv _ hn
 have ql:qs.length<=2*ao qs+1:=jj qs "" iq.chg.ok iq.chg.c;have hb:=((iq.chg.bk aH).2).1;refine qT<|bu vx O<|aq<|aN<|aa O<|aC<|vO Cs O<|az<|QG iq aH aH λb S s5 fb c'=>?_;have CY:b∉ [L,G,Q]:=λh0=>by
  simp only[X9,Yy,M2] at h0;rcases h0 with rfl|rfl|rfl
  rw[rq] at fb;cases fb;rw[wb] at fb;cases fb;rw[HP] at fb;cases fb
 have b0:H0 b=none:=by
  cases hz:H0 b with
  |none=>rfl
  |some o=>rw[wc b o CY<|(w.sm.trans eP) _ _ hz] at fb;cases fb
 obtain⟨F5,k5⟩:=Y' W' b (bk qs) S s5 CY b0 aH il (.inr ⟨hp,O,c',e' hp⟩);exact aa O<|aa O ⟨L,_,_,W',O,O,s5 _ _ rq,Sk il,Sl _ _<|q t0 c r _ _ hv F5 k5⟩
structure Fl(H0 H:Hp)(Y:bi)(ax:List bn)(T U:Nat)(I J':Nat->cr->Prop)(e2 g3 a4:Do)(N:Nat)(r:bn)(Xf st:bn)(ad:Nat->Do)(nt:Nat->bn)(es:db):Prop where
 f:Fg H0 H Y ax T U I J' e2 g3 a4 Xf st ad nt es
 hh:N∈Xf
 nh:nt N=r
 cl:∀k∈Xf,k∉st->∀m,iu Y k m->m∈Xf
def ahR:jp:=[.a 5 (.Q .p (.v 4) []),
  .g 6 .l [(.a 1 "neighbours" (.v 0) [.v 5])] Sj]
theorem Xv(h:af W o F H λx t=>sj W.K (uW m) x t/\sI W.K m x [] t Q):af W (.Q m o []) F H Q:=h
theorem ahT{Q:Do}{v:bn}{W S:sB}(X:fI K C)(A:fN C H0 p M Ed N Y ax a' T dx lo pa ed be lg bs g7)(EJ:y4 H0 g7 Y ax T J)(L:Fl H0 H Y ax T U I J' e2 g3 Q N r v (G++[W']) ad nt es)(fV:CU Y N I J J')(vZ:T+U<=14000)(c':Y.length<=40000)(Cb:G.length<=v.length)(N0:Db)(hD:∀F H,N0 F H->D.nx F H)(q:∀(B P:bn)(iz:Nat->Do)(lZ:Nat->bn)(dB:db)(W S:sB)(Z:Hp),Fl H0 Z Y ax T U I J' e2 g3 Q N r B P iz lZ dB->P.length+v.length=G.length+B.length->v.length<=B.length->N0 [some<|.r p,some c0,some<|.r e2,some<|.r g3,some<|.r Q,some<|.i (W':Nat),W,S] Z):
  av (GF K C s E) ahR D [some<|.r p,some c0,some<|.r e2,some<|.r g3,some<|.r Q,u5,W,S] H:=by
 have d:=L.f;obtain⟨y7,v9,v_⟩:=d.ne;have hl:(iV<|G++[W'])[(iV<|G++[W']).length - 1]?=some (V.i (W':Nat)):=by unfold iV;simp
 refine aY<|Xv<|aa O ⟨.inl ⟨O,_,ag.of d.hs⟩,_,_,d.hs,hl,?_⟩;have CZ:(iV<|G++[W']).dropLast=iV G:=by unfold iV;rw[Za];exact uC
 rw[CZ];have b1:aE Q H (upd H Q<|.l<|iV G):=aE.upd;have HR:=b1.bx d.hs;have Sv:upd H Q (.l<|iV G) Q=some (.l<|iV G):=aj;have Sw:W'∈v:=d.ls W' (cQ _<|.head _);have F1:Fg H0 (upd H Q<|.l<|iV G) Y ax T U I J' e2 g3 Q v G ad nt es:=by
  refine⟨λy o e=>b1 y o (d.sm _ _ e) λz=>(by rw[z,d.fr.2.2] at e;cases e),b1 _ _ d.t v9,b1 _ _ d.n v_,Sv,d.fr,d.ne,d.nd,d.lv,λk w=>d.ls k<|Zh _ w,d.tp,λk w=>?_,d.le,d.e0,λi j e hi hj=>?_⟩;obtain⟨a,g,l,R,h2,h3⟩:=d.gt k w;exact sA a g l R ⟨h2.keep (λo e=>b1 _ o e λz=>a (by rw[z];simp)) HR,h3⟩;obtain⟨a,q,zq⟩:=Z2 (d.ed i j e hi hj);obtain⟨R,h2,h3,h4,h5⟩:=Y7 zq;exact oS a q R h2 h3 ⟨h4.keep (λo e=>b1 _ o e λz=>h2 (by rw[z];simp)) HR,h5⟩
 have A1:=A.same F1.sm;refine Hg<|A1.ob.m1 O O<|aa O ⟨p,M,Ed,N,Y,ax,a',T,W',O,⟨dx,lo,pa,ed,be,lg,bs,g7,A1⟩,d.lv _ Sw,λb u s2 fb hb=>?_⟩;have CY:b∉ [e2,g3,Q]:=λh=>by
  simp only[X9,Yy,M2] at h;rcases h with rfl|rfl|rfl
  rw[F1.t] at fb;cases fb;rw[F1.n] at fb;cases fb;rw[F1.hs] at fb;cases fb
 refine nT b O (oM _ (ag.of hb)) (kU (K:=K) (a:=b) (xs:=iV (nC Y W')) (λi F H3=>CJ λ(B P:bn)(iz:Nat->Do)(lZ:Nat->bn)(dB:db)(W S:sB)=>apP (F=[some<|.r p,some c0,some<|.r e2,some<|.r g3,some<|.r Q,some<|.i (W':Nat),W,S]) (Fg H0 H3 Y ax T U I J' e2 g3 Q B P iz lZ dB) (∀k∈v,k∈B) (∀k∈G,k∈P) (∀k∈B,k∈v\/k∈P) (lZ N=r) (∀k,k<i->∀m,(nC Y W')[k]?=some m->m∈B) (P.length+v.length=G.length+B.length) (v.length<=B.length) (H3 b=some (.l<|iV<|nC Y W'))) ?_ ?_ ?_ ?_);exact⟨v,G,ad,nt,es,W,S,O,F1.same s2,λ_ h=>h,λ_ h=>h,λ_ h=>.inl h,L.nh,λk w=>absurd w<|Nat.not_lt_zero _,O,ZX _,hb⟩;rintro i F H3 _ ⟨B,P,iz,lZ,dB,W,S,rfl,F3,_,_,_,_,_,_,_,y9⟩;exact ag.of y9;rintro i x F H3 hi ⟨B,P,iz,lZ,dB,W,S,rfl,F3,R,h2,h3,h4,h5,h6,h7,y9⟩;unfold iV at hi;rw[Z_] at hi;obtain⟨m,hm,rfl⟩:=WC.mp hi;have rn:iu Y W' m:=Se.mp (YK hm);have vl:=rm _ _ F3.nd F3.lv;refine ahF X A EJ F3 (R _ L.hh) fV vZ (Y4 c' (Xk _ _)) aH (R _ Sw) rn _ (λ_ _ h=>h) (λ_ _ h=>h) (λhv=>?_) λt0 c r' pI H4 b' F4 k4=>?_;refine⟨B,P,iz,lZ,dB,_,S,O,F3,R,h2,h3,h4,λk w m' lB=>?_,h6,h7,y9⟩;by_cases z:k=i;subst z;rw[hm] at lB;cases lB;exact hv;exact h5 k (Xs (Yu w) z) m' lB;refine⟨B++[m],P++[m],_,_,pI,_,_,O,F4,λk w=>Zh _<|R k w,λk w=>Zh _<|h2 k w,λk w=>?_,?_,λk w m' lB=>?_,?_,?_,k4 _ _ CY y9⟩;rcases Z4.mp w with w|w
 rcases h3 k w with h|h
 exact .inl h;exact .inr (Zh _ h);exact .inr (cQ _ w);rw[fE<|λz=>b' (by rw[<-z];exact R _ L.hh)];exact h4;by_cases z:k=i;subst z;rw[hm] at lB;cases lB;exact cQ _ (.head _);exact Zh _ (h5 k (Xs (Yu w) z) m' lB);rw[JB,JB,Xy];lia;rw[JB];exact WX h7;rintro F H3 ⟨B,P,iz,lZ,dB,W,S,rfl,F3,R,h2,h3,h4,h5,h6,h7,y9⟩;refine hD _ _<|q B P iz lZ dB _ _ H3 ⟨F3,R _ L.hh,h4,λk w hn m hm=>?_⟩ h6 h7;have kv:k∈v:=by
  rcases h3 k w with h|h
  exact h;exact absurd h hn
 by_cases z:k=W';subst z;obtain⟨i,hi⟩:=WK.mp (Se.mpr hm);exact h5 i (by unfold iV;rw[Wo];exact(ZS.mp hi).1) m hi;exact R _ (L.cl k kv (λh=>by
  rcases Z4.mp h with h|h
  exact hn (h2 k h);exact z (Ya.mp h)) m hm)
theorem ahV{N:Int}:bT "edges" (V.r x) (h6 N lo p e be lg)=h6 N lo p x be lg:=O
theorem ahW{N:Int}:bT "lengths" (V.r x) (h6 N lo p e be lg)=h6 N x p e be lg:=O
theorem C0(h:∀p,H p=none->aR W as F (upd H p<|.d []) λv u=>u p=some (.d [])/\∃K:nH,v=sR K/\K.length<=15/\Q (.r p) (upd u p<|.d<|iH [] K)):af W (.x oH as) F H Q:=h
theorem HS(h:af W x F H λv t=>∃j:Int,[v]=[.i j]/\ -(2 ^ 62)<=j/\j<2 ^ 62/\∃c:Nat->Nat->db->Hp->Prop,(∃m,c 0 m [] t)/\∀i m B u,c i m B u->
   ((dY 0 j.toNat).stop i u/\∀p,u p=none->Q (.r p) (upd u p<|.l B))\/
   ((dY 0 j.toNat).go i u/\∀x d,(dY 0 j.toNat).eE i u x d->iE W.K none x d λz=>js none (z.map some++bG F fv) d λb g=>
    if b=true then af W.calm e (z.map some++bG F fv) g λy k=>B.length<sizeLine/\∃a,a<m/\c (i+1) a (B++[y]) k else ∃a,a<m/\c (i+1) a B g)):af W (.C none fv .f [x] none e) F H Q:=yK _ _ (λY Y=>Re) h
inductive Sx(C:Do)(v:db)(H:Hp)(Q:VK)(E:XK):Prop|i(p c:Do)(M Ed:ii)(N:Nat)(Y:bi)(ax:List bn)(t:bi)(T U:Nat)(I J j:Nat->cr->Prop)(h:cr)(l r:bn)(_:v=[.r p,.r c])(_:bf C H p M Ed N Y ax t T)(_:gm H Ed J)(_:bM H c h l r)(_:ax[N]?=some l)(_:ao h<=U)(_:T+U<=14000)(_:Y.length<=40000)(_:I N h)(_:CU Y N I J j)(_:∀(f d:ii)(X:List bn)(Z:Hp),bo M H Z->(∀y∈f,y∈M\/H y=none)->(∀y∈d,H y=none)->bf C Z p f d N Y X t T->gm Z d j->X[N]?=some r->(∀k,k<Y.length->∃g e b,I k g/\ax[k]?=some e/\X[k]?=some b/\cE g e b)->Q .a Z)
noncomputable def ahX:jp:=[.f (.v 0) "edges" (.v 2),
 .f (.v 0) "lengths" (.C none [("gets",3)] .f [(.a 3 "many" (.v 0) [])] none (.i (.l 2 [(.P (.v 1) (.v 0))]) (.c (.i 1))))]
theorem ahY{S:Do}{W:Nat->bn}(X:fI K C)(A:fN C H0 p M Ed N Y ax b' T dx lo S ed be lg bs g7)(L:Fl H0 H Y ax T U I J' J g3 a4 N r c' [] ad W es)(vZ:T+U<=14000)(k':Y.length<=40000)(q:∀(M' dz:ii)(dX:List bn)(Z:Hp),bo M H0 Z->(∀y∈M',y∈M\/H0 y=none)->(∀y∈dz,H0 y=none)->bf C Z p M' dz N Y dX b' T->gm Z dz J'->dX[N]?=some r->(∀k,k<Y.length->∃g lk y_,I k g/\ax[k]?=some lk/\dX[k]?=some y_/\cE g lk y_)->Q .a Z):
  av (GF K C s E) ahX (Dn Q) [some<|.r p,some c0,some<|.r J,some<|.r g3,some<|.r a4,u5,u6,u7] H:=by
 have F:=L.f;have R:=Sh A.ob.tr L.hh F.lv λk hk m hm=>L.cl k hk aP m hm;have A1:=A.same F.sm;obtain⟨⟨a1,a2,a3,Sy,a5,a6⟩,⟨b1,b2,b3,b4,b5⟩,⟨c1,c2,c3,c4⟩,⟨d1,d2,d3⟩,⟨e1,lY⟩,g1,g2⟩:=A.n.l;have za:∀{y:Do}{o:HO},H0 y=some o->y≠J/\y≠g3/\y≠a4:=λe=>⟨λz=>(by rw[z,F.fr.1] at e;cases e),λz=>(by rw[z,F.fr.2.1] at e;cases e),λz=>(by rw[z,F.fr.2.2] at e;cases e)⟩;refine nu<|aa O<|aa O ⟨p,C,dx,_,O,A1.ob.ob,X.cl,X.vi,(by show 6<1000;decide),?_⟩;rw[ahV];have p5:aE p H (upd H p<|.i C dx<|h6 (N:Nat) lo S J be lg):=aE.upd;have o5:upd H p (.i C dx<|h6 (N:Nat) lo S J be lg) p=some (.i C dx<|h6 (N:Nat) lo S J be lg):=aj;have uh:bI H (upd H p<|.i C dx<|h6 (N:Nat) lo S J be lg):=λy B e=>p5 y _ e λz=>by rw[z,A1.ob.ob] at e;cases e
 generalize upd H p (.i C dx<|h6 (N:Nat) lo S J be lg)=H5 at p5 o5 uh⊢;have pW:p≠J/\p≠g3/\p≠a4:=za A.ob.ob;have g':=p5 _ _ F.n (Ix pW.2.1);have l':=p5 _ _ F.t (Ix pW.1);have Sz:gk C H5 p dx lo S J be lg N (ax.map List.length) Y:=⟨o5,p5 _ _ A1.ob.d<|Ix a1,p5 _ _ A1.ob.c<|Ix a2,A.ob.l,A.ob.tr,A.ob.h,A.ob.sz⟩;have h':∀k,k<Y.length->∃g lk,ax[k]?=some lk/\bM H5 (ad k) g lk (W k)/\I k g/\ao g<=U:=λk hk=>by
  obtain⟨_,g,lk,h1,h2,G,h4⟩:=F.gt k (R k hk);refine oS g lk h1 (h2.keep (λo e=>p5 _ o e λz=>?_) uh) G h4;obtain⟨xs,hx,_⟩:=h2;rw[z,A1.ob.ob] at hx;cases hx
 refine nu<|HS<|Sz.m0 O O ⟨p,dx,lo,S,J,be,lg,N,_,Y,O,Sz,_,O,aH,aH,He (K:=K) (lo:=0) aH (λi B u=>B=iV ((List.range i).map λk=>(W k).length)) O ?_ ?_⟩;rintro i B u hi s2 rfl Q' q';have tm:i<Y.length:=by lia
 obtain⟨g,lk,h1,⟨xs,hx,pv,kO⟩,G,h4⟩:=h' i tm;have e0:(0:Int)+(i:Nat)=((i:Nat):Int):=by lia
 rw[e0];have cl:g.length<=2*ao g+1:=jj g "" kO.ok kO.c;refine aN<|bu jB O<|aq<|ug<|aa O<|aa O ⟨g3,V.r<|ad i,O,(by rw[<-uf (ad:=ad) (R i tm)];exact eU.k (k:=.inl ((i:Nat):Int)) (s2 _ _ g')),az ⟨ad i,xs,g,O,s2 _ _ hx,pv.mono<|bB s2,kO.ok,kO.c,aH,λt0 H3 s3 ht=>aC<|vO ht O ?_⟩⟩;have eg:(sX g).sum=(W i).length:=kO.run.gives;rw[eg];refine q' _ _ s3 ?_;rw[jN];unfold iV;rw[Za,Za];rfl;rintro B H6 L6 s6 rfl fL;have en:((Y.length:Nat):Int).toNat=Y.length:=WN _
 rw[en];have s7:=V3 (o:=.l (iV<|(List.range Y.length).map λk=>(W k).length)) fL;have B9:upd H6 L6 (.l<|iV<|(List.range Y.length).map λk=>(W k).length) L6=some (.l<|iV<|(List.range Y.length).map λk=>(W k).length):=aj;have zb:=s6.trans s7;generalize upd H6 L6 (.l<|iV<|(List.range Y.length).map λk=>(W k).length)=H7 at s7 B9 zb⊢;refine aa O (oT p C dx _ O (zb _ _ o5) X.cl X.vh (by show 6<1000;decide) ?_);rw[ahW];have p8:aE p H7 (upd H7 p<|.i C dx<|h6 (N:Nat) L6 S J be lg):=aE.upd;have o8:upd H7 p (.i C dx<|h6 (N:Nat) L6 S J be lg) p=some (.i C dx<|h6 (N:Nat) L6 S J be lg):=aj;have SA:bI H7 (upd H7 p<|.i C dx<|h6 (N:Nat) L6 S J be lg):=λy B e=>p8 y _ e λz=>by rw[z,zb _ _ o5] at e;cases e
 generalize upd H7 p (.i C dx<|h6 (N:Nat) L6 S J be lg)=H8 at p8 o8 SA⊢;have k8:∀y o,y≠p->H y=some o->H8 y=some o:=λy o ne e=>p8 y o (zb _ _<|p5 y o e ne) ne;have tu:bI H H8:=λy B e=>SA _ _ (zb _ _<|uh _ _ e);have zc:∀y o,y≠p->H0 y=some o->H8 y=some o:=λy o ne e=>k8 y o ne (F.sm _ _ e);have C1:H5 L6=none:=s6.free fL;have nF:∀{y:Do}{o:HO},H y=some o->L6≠y:=λe z=>by
  by_cases w:L6=p;rw[w,o5] at C1;cases C1;rw[p5 _ _ (by rw[<-z] at e;exact e) w] at C1;cases C1
 have HU:H0 L6=none:=by
  cases hz:H0 L6 with
  |none=>rfl
  |some o=>exact absurd O (nF<|F.sm _ _ hz)
 have jG:ax.length=Y.length:=by have:=A.ob.l;rw[Wo] at this;exact this
 have C2:∀(i:Nat)(a:Do),es[i]?=some (V.r a)->∃j q,Y[i]?=some (some j)/\a∉ [J,g3,a4]/\H0 a=none/\bM H8 a q (W j) (W i)/\J' i q/\ao q<=T:=λi a e=>by
  have il:i<Y.length:=by rw[<-F.le];exact(ZS.mp e).1
  have i0:i≠0:=λz=>by rw[z,F.e0] at e;cases e
  obtain⟨j,hj,aB⟩:=A.ob.tr.up i (CR i0) il;obtain⟨a',q',h1,h2,G,h4,h5,h6⟩:=F.ed i j hj (R i il) (R j (YR aB il));rw[e] at h1;cases h1;refine oS j q' hj h2 G ⟨h4.keep (λo e=>k8 _ o (λz=>?_) e) tu,h5,h6⟩;rw[z,A.ob.ob] at G;cases G
 have f':∀(y:Do),y∈ub es->∃i,es[i]?=some (V.r y):=λy x=>by
  obtain⟨v,hv,e⟩:=Wg.mp x;obtain⟨i,hi⟩:=WK.mp hv;have:v=.r y:=by
   cases v with
   |r b=>exact IR V.r (lF e)
   |_=>cases e
  rw[this] at hi;exact oM i hi
 have HV:∀{i:Nat}{b:Do},bs[i]?=some b->H0 b=some (.l<|iV<|kids Y i):=λx=>A.hk _ _ x;have nx:∀{k:Nat}{lk:bn},k<Y.length->((List.range Y.length).map W)[k]?=some (W k):=λx=>by rw[Z_,tG x];rfl
 have d':∀{b:Do},b∈bs->b≠p:=λx z=>a6 (by rw[<-z];exact x);have B8:fN C H8 p (p::L6::S::J::be::lg::bs) (ub es) N Y ((List.range Y.length).map W) b' T dx L6 S J be lg bs es:=by
  refine⟨⟨o8,?_,zc _ _ (Ix a2) A.ob.c,by rw[Wo,Wo,Zd],A.ob.tr,A.ob.h,A.ob.sz⟩,O,⟨?_⟩,k8 _ _ (Ix pW.1) F.t,F.le,O,F.e0,λi j e=>?_,λi a e x=>?_,zc _ _ (Ix Sy) A.t,A.y,λi b e=>zc _ _ (d'<|YK e)<|A.hk i b e,zc _ _ (Ix a5) A.u,A.P⟩;rw[Y3,Y3];have:=p8 _ _ B9 (nF A1.ob.ob);unfold iV at this;rw[Y3] at this;exact this;simp only[YL,X9,not_or];refine⟨⟨Ix<|nF A1.ob.ob,a2,pW.1,Sy,a5,a6⟩,⟨nF A1.ob.c,nF F.t,nF A1.t,nF A1.u,λx=>?_⟩,⟨(za A.ob.c).1,c2,c3,c4⟩,⟨Ix (za A.t).1,Ix (za A.u).1,λx=>?_⟩,⟨e1,lY⟩,g1,g2⟩;obtain⟨i,hi⟩:=WK.mp x;rw[HV hi] at HU;cases HU;obtain⟨i,hi⟩:=WK.mp x;exact(za<|HV hi).1 O;have il:=(ZS.mp e).1;have jl:=(aU A.ob.tr e).1;obtain⟨a,q',h1,_,_,_⟩:=F.ed i j e (R i il) (R j (YR jl il));obtain⟨j',q2,e',_,_,h4,_,h6⟩:=C2 i a h1;rw[e] at e';cases e';exact n4 a q2 (W j) (W i) h1 (nx (lk:=[]) (YR jl il)) (nx (lk:=[]) il) h4 h6;obtain⟨j,q',_,h2,G,⟨xs,h4,_⟩,_⟩:=C2 i a e;have HW:∃o,H a=some o:=by
   obtain⟨j1,Bn,aB⟩:=A.ob.tr.up i (by
    by_cases z:i=0;rw[z,F.e0] at e;cases e;exact CR z) (by rw[<-F.le];exact(ZS.mp e).1)
   have il:=(ZS.mp Bn).1;obtain⟨a',q1,k1,_,_,⟨B,k4,_⟩,_⟩:=F.ed i j1 Bn (R i il) (R j1 (YR aB il));rw[e] at k1;cases k1;exact oM _ k4
  obtain⟨o,HW⟩:=HW;simp only[X9] at x;rcases x with rfl|rfl|rfl|rfl|rfl|rfl|x
  rw[A.ob.ob] at G;cases G;exact nF HW O;rw[A.ob.c] at G;cases G;exact h2 aP;rw[A.t] at G;cases G;rw[A.u] at G;cases G;obtain⟨i',eV⟩:=WK.mp x;rw[HV eV] at G;cases G
 have qZ:p∈M/\S∈M/\be∈M/\lg∈M/\∀b∈bs,b∈M:=by rw[A.D];simp;exact λb hb=>.inr (.inr<|.inr<|.inr<|.inr<|.inr hb)
 refine q _ _ _ H8 (λy o e ne=>zc y o (λz=>ne (by rw[z];exact qZ.1)) e) (λy x=>?_) (λy x=>?_) (rO dx L6 S J be lg bs es B8) (λi a e=>?_) ?_ λk hk=>?_;simp only[X9] at x;rcases x with rfl|rfl|rfl|rfl|rfl|rfl|x
 exact .inl qZ.1;exact .inr HU;exact .inl qZ.2.1;exact .inr F.fr.1;exact .inl qZ.2.2.1;exact .inl qZ.2.2.2.1;exact .inl (qZ.2.2.2.2 _ x);obtain⟨i,hi⟩:=f' _ x;obtain⟨_,_,_,_,G,_⟩:=C2 i y hi;exact G;have e':es[i+1]?=some (V.r a):=by
  rw[B8.y3,Zl,Z_,e];rfl
 obtain⟨j,q',_,_,_,⟨xs,h4,h5,_⟩,h6,_⟩:=C2 (i+1) a e';exact oG xs q' h4 h5 h6;rw[nx (lk:=[]) A.ob.h,L.nh];obtain⟨_,g,lk,h1,h2,G,h4⟩:=F.gt k (R k hk);exact qQ g lk (W k) G h1 (nx (lk:=[]) hk) h2.chg
theorem KQ(X:fI K C):bz (Sx C) (λE=>GF K C s E) Sb Sa:=by
 intro vs H Q E w;obtain⟨p,c,M,Ed,N,Y,ax,a',T,U,I,J,J',h,l,r,rfl,⟨dx,lo,pa,ed,be,lg,bs,g7,A⟩,EP,hc,hl,ht,vZ,D,hI,fV,q⟩:=w;have lX:(ax.map List.length)[N]?=some l.length:=by rw[Z_,hl];rfl
 refine bU<|A.ob.m1 O O<|aa O ⟨p,dx,lo,pa,ed,be,lg,N,_,Y,c,h,l,r,l.length,O,A.ob,hc,aH,lX,.inl ⟨O,λt s1=>?_⟩⟩;have A1:=A.same s1;refine aY<|Ra<|cT<|aa O ⟨p,C,dx,_,_,O,A1.ob.ob,X.cl,X.vi,Cg,_,.inl<|ag.of A1.F,λa f2=>?_⟩;have s2:=V3 (o:=.l g7) f2;have A2:=A1.same s2;refine aY<|C0 λg G=>?_;have s3:=V3 (o:=.d []) G;have A3:=A2.same s3;refine aq<|cT<|aa O ⟨p,C,dx,_,_,O,A3.ob.ob,X.cl,X.i,j8,aq<|aa O<|az ⟨aj,[(Sum.inl ((N:Nat):Int),V.r c)],O,(by show 1<=15;decide),?_⟩⟩;have ek:iH [] [((Sum.inl ((N:Nat):Int):gS),V.r c)]=cq [N] (λ_=>c):=O;rw[ek];have HX:ar (upd t a<|.l g7) (upd (upd (upd t a<|.l g7) g<|.d []) g<|.d<|cq [N] λ_=>c):=λy o e=>by
  have ne:y≠g:=aJ e G;rw[aw ne];exact s3 _ _ e
 have hg:upd (upd (upd t a<|.l g7) g<|.d []) g (.d<|cq [N] λ_=>c) g=some (.d<|cq [N] λ_=>c):=aj;have he:=HX _ _ aj;have y7:a≠g:=λz=>by rw[<-z,aj] at G;cases G
 have SD:H g=none:=s1.free (s2.free G);have eP:=(s1.trans s2).trans HX;generalize upd (upd (upd t a<|.l g7) g<|.d []) g (.d<|cq [N] λ_=>c)=H3 at HX hg he eP⊢;have A4:=A.same eP;refine aY<|cI<|aq<|cT<|aa O ⟨p,C,dx,_,_,O,A4.ob.ob,X.cl,X.i,j8,az ⟨de,λb B=>?_⟩⟩;have W:=V3 (o:=.l [V.i (N:Nat)]) B;have hs:upd H3 b (.l [V.i (N:Nat)]) b=some (.l<|iV [N]):=aj;have rq:=W _ _ he;have wb:=W _ _ hg;have v9:a≠b:=λz=>by rw[<-z,he] at B;cases B
 have v_:g≠b:=λz=>by rw[<-z,hg] at B;cases B
 have SE:H b=none:=eP.free B;have vL:=eP.trans W;generalize upd H3 b (.l [V.i (N:Nat)])=H4 at W hs rq wb vL⊢;have SF:H a=none:=s1.free f2;have cW:c∉ [a,g,b]:=λw=>by
  obtain⟨xs,x,_⟩:=hc;simp only[X9,Yy,M2] at w;rcases w with rfl|rfl|rfl
  rw[SF] at x;cases x;rw[SD] at x;cases x;rw[SE] at x;cases x
 have F0:Fl H H4 Y ax T U I J' a g b N r [N] [N] (λ_=>c) (λ_=>r) g7:=by
  refine⟨⟨vL,rq,wb,hs,⟨SF,SD,SE⟩,⟨y7,v9,v_⟩,aP,λk u=>?_,λk u=>u,nS N (.head _) (λk u=>?_),λk u=>?_,A.le,A.Q,λi j e hi hj=>?_⟩,.head _,O,λk u hn=>absurd u hn⟩;rw[Ya.mp u];exact A.ob.h;rw[Ya.mp u];exact⟨ZX _,.inl O⟩;rw[Ya.mp u];exact sA cW h l hl ⟨hc.same vL,hI,ht⟩;rw[Ya.mp hi,Ya.mp hj] at e;have:=(aU A.ob.tr e).1;exact (Xx _ this).elim
 have EJ:=A.CO EP;refine m6 (λm F H5=>∃(v n:bn)(ad:Nat->Do)(nt:Nat->bn)(es:db)(S R P:sB),m=2* (Y.length - v.length)+n.length/\F=[some<|.r p,some<|.r c,some<|.r a,some<|.r g,some<|.r b,S,R,P]/\Fl H H5 Y ax T U I J' a g b N r v n ad nt es/\n.length<=v.length) (rO _ [N] [N] _ _ g7 none none ⟨none,O,O,F0,ZX _⟩) ?_;rintro m F H5 ⟨v,n,ad,nt,es,S,R,P,rfl,rfl,L,Cb⟩;refine bw<|dU<|aa O<|.inl ⟨_,ag.of L.f.hs,aC<|pj ⟨_,O,?_⟩⟩;have il:(iV n).length=n.length:=by unfold iV;rw[Wo]
 rw[il];rcases List.eq_nil_or_concat n with rfl|⟨gz,W',rfl⟩
 exact iF (ahY X A L vZ D q) O;rw[List.concat_eq_append] at L Cb⊢;have ls:(gz++[W']).length=gz.length+1:=by rw[JB];rfl
 refine iT ?_<|W_ aH;have vl:=rm _ _ L.f.nd L.f.lv;refine⟨λV' Z=>∃m',m'<2* (Y.length - v.length)+(gz++[W']).length/\∃(v n:bn)(ad:Nat->Do)(nt:Nat->bn)(es:db)(S R P:sB),m'=2* (Y.length - v.length)+n.length/\V'=[some<|.r p,some<|.r c,some<|.r a,some<|.r g,some<|.r b,S,R,P]/\Fl H Z Y ax T U I J' a g b N r v n ad nt es/\n.length<=v.length,λ_ _ w=>w,?_⟩;refine ahT X A EJ L fV vZ D aH _ (λ_ _ w=>w) λc9 eF iz lZ dB v6 v7 Z L' e1 lY=>?_;have b':=rm _ _ L'.f.nd L'.f.lv;exact⟨_,(by rw[ls];lia),c9,eF,iz,lZ,dB,_,v6,v7,O,O,L',aH⟩
end
def dG(J:Nat->Nat->cr->Prop)(H:Hp):db->Nat->Nat->bn->bn->Nat->Prop
 |[],o,b,l,r,t=>o=b/\l=r/\t=0
 |v::s,o,b,l,r,t=>∃a h j m c,v=.r a/\bM H a h l m/\J o j h/\dG J H s j b m r c/\t=ao h+c
theorem dG.same(s:ar H Z):∀{o c:Nat}{l r:bn}{t:Nat},dG J H b o c l r t->dG J Z b o c l r t:=by
 induction b with
 |nil=>exact λn=>n
 |cons v b i=>
  rintro o c l r t zq;obtain⟨a,h,j,m,d,zq⟩:=YH zq;obtain⟨e,k,x,g,f⟩:=Y7 zq;exact r_ a h j m d e (k.same s) x (i g) f
theorem dG.app:∀{o d c:Nat}{l m r:bn}{t b:Nat},dG J H xs o d l m t->dG J H B d c m r b->dG J H (xs++B) o c l r (t+b):=by
 induction xs with
 |nil=>rintro o d c l m r t b ⟨rfl,rfl,rfl⟩ f;rw[Z9];exact f
 |cons v s i=>
  rintro o d c l m r t b ⟨a,h,j,g,p,e,n,x,k,q⟩ f;exact r_ a h j g _ e n x (i k f) aH
def JC(J:Nat->Nat->cr->Prop):Prop:= ∀(i j k:Nat)(a b c:cr)(l m r:bn),J i j a->J j k b->cE a l m->cE b m r->tU a b c l r->J i k c
inductive HY(v:db)(H:Hp)(Q:VK)(E:XK):Prop|i(a:Do)(xs:db)(J:Nat->Nat->cr->Prop)(o b:Nat)(l r:bn)(t:Nat)(_:v=[.r a])(_:H a=some (.l xs))(_:JC J)(_:dG J H xs o b l r t)(_:1<=xs.length)(_:xs.length<=10000)(_:t<=85000)(_:∀(c:Do)(h:cr)(Z:Hp),ar H Z->bM Z c h l r->J o b h->ao h<=t->(H c=none\/xs=[.r c])->Q (.r c) Z)
section
variable{K:Frag}
inductive SH(H:Hp)(J:Nat->Nat->cr->Prop)(o c:Nat)(l r:bn)(b:Nat)(q:db)(m:Nat)(F:St)(u:Hp):Prop|i(a:Do)(xs:db)(t:Nat)(d:sB)(_:m=xs.length)(_:F=[some<|.r a,d])(_:ar H u)(_:u a=some (.l xs))(_:dG J u xs o c l r t)(_:1<=xs.length)(_:xs.length<=10000)(_:t<=b)(_:(xs=q\/Hl H xs)):SH H J o c l r b q m F u
abbrev apS(K:Frag)(E:XK):ba:=aG K [("then",BY)] [] (E:=E)
theorem ah3:bz (HY) (λE=>apS K E) NF ND:=by
 intro vs H Q E h0;obtain⟨a0,qY,J,o,o',l,r,L,rfl,ha,hJ,hc,h1,h2,ht,q⟩:=h0;refine m6 (SH H J o o' l r L qY) ⟨_,a0,qY,L,none,O,O,ar.refl _,ha,hc,h1,h2,ZX _,.inl O⟩ ?_;rintro m F u ⟨a,xs,t2,G,rfl,rfl,s2,S,cY,k1,k2,k3,k4⟩;refine bw<|dU<|aa O<|.inl ⟨_,ag.of S,aC<|pj ⟨_,O,?_⟩⟩;by_cases z:1<xs.length;refine iT ?_ (W_ aH);refine⟨λV' Z=>∃(B:Do)(f:db)(I:Nat)(G:sB),f.length<xs.length/\V'=[some<|.r B,G]/\ar H Z/\Z B=some (.l f)/\dG J Z f o o' l r I/\1<=f.length/\f.length<=10000/\I<=L/\(f=qY\/Hl H f),?_,?_⟩;rintro V' Z ⟨B,f,I,G,aB,e,s',jC,eR,j1,R,j3,j4⟩;exact nS _ aB ⟨B,f,I,G,O,e,s',jC,eR,j1,R,j3,j4⟩;refine Hi ?_;refine nS _ O ⟨a,xs,O,ag.of S,aQ,λP f1=>?_⟩;rw[acV];have s3:=V3 (o:=.l (dD xs)) f1;have jd:upd u P (.l<|dD xs) P=some (.l<|dD xs):=aj;have X:=s3 _ _ S;generalize upd u P (.l<|dD xs)=H3 at s3 jd X⊢;refine nS _ O ⟨a,xs,O,ag.of X,aQ,λp2 f2=>?_⟩;rw[acW];have s4:=V3 (o:=.l (dD<|xs.drop 1)) f2;have kf:upd H3 p2 (.l<|dD<|xs.drop 1) p2=some (.l<|dD<|xs.drop 1):=aj;have HZ:=s4 _ _ jd;have rz:=s4 _ _ X;have g_:=s3.trans s4;have HQ:=dG.same g_ cY;have SI:=Hk xs;have H_:=Hk (xs.drop 1);rw[Yj] at H_;refine oS P p2 O (oM _ (ag.of HZ)) (oM _ (ag.of kf)) ?_;refine af6 HZ kf aH (λi b k=>b.length=i/\(i=0\/Hl H b)/\∃(j:Nat)(m:bn)(t p:Nat),dG J k b o j l m t/\dG J k (xs.drop<|2*i) j o' m r p/\t+p<=L) ⟨O,.inl O,rP o l ⟨0,t2, ⟨O,O,O⟩,HQ,aH⟩⟩ (λi b k H6 ⟨e,n,j,m,t,p,D,g,V⟩ s=>⟨e,n,rP j m ⟨t,p,dG.same s D,dG.same s g,V⟩⟩) ?_ ?_;intro i x y b k hx hy M ⟨A,n,j,m,t,p,D,g,V⟩ Q' kk;rw[QU] at hx hy;have wZ:xs[2*i+1]?=some y:=by
  rw[List.getElem?_drop] at hy;rw[show 2*i+1=1+2*i by lia];exact hy
 rw[af8 (H:=k) hx wZ] at g;obtain⟨a1,jW,j1,m1,t7,rfl,U,x1,⟨a2,Ia,R,m2,t8,rfl,T,x2,c4,e8⟩,e7⟩:=g;have n1:=jj jW "" U.chg.ok U.chg.c;have n2:=jj Ia "" T.chg.ok T.chg.c;have l1:jW.length<=2*ao jW+1:=n1;have l2:Ia.length<=2*ao Ia+1:=n2;refine bu BY O<|aq<|aa O<|aq<|aa O<|az<|afW U T aH aH λc H6 h d fc dc Jd=>kk _ _ d ?_;have jt:=Jd.ao;refine⟨by rw[JB,A];rfl,.inr ?_,rP R m2 ⟨t+ao h,t8,dG.app (dG.same d D) (r_ c h R m2 0 O dc (hJ _ _ _ _ _ _ _ _ _ x1 x2 U.chg T.chg Jd) ⟨O,O,O⟩ O),dG.same d c4,aH⟩⟩;have v8:H c=none:=(s2.trans<|g_.trans M).free fc;rcases n with rfl|⟨W,r0,rfl,C⟩
 have:b=[]:=List.eq_nil_of_length_eq_zero A;subst this;exact o3 c [] O v8;exact o3 W (r0++[.r c]) O C;intro b k N M ⟨A,n,j,m,t,p,D,g,V⟩ f5;rw[SI,H_] at A g;have en:min ((xs.length+1) / 2) ((xs.length - 1+1) / 2)=xs.length / 2:=by lia
 rw[en] at A g;have d:=V3 (o:=.l b) f5;have h5:upd k N (.l b) N=some (.l b):=aj;have q9:=(M.trans d) _ _ rz;have Ib:=dG.same d D;have C3:=dG.same d g;generalize upd k N (.l b)=H6 at d h5 q9 Ib C3⊢;have rA:=(g_.trans M).trans d;refine aY<|cD<|aa O<|QR<|aa O<|cD<|aC<|dU<|aa O<|.inl ⟨_,ag.of h5,⟨.inl ⟨aQ,aQ⟩,⟨_,O,.inl ⟨xs,ag.of q9,λw fw=>?_⟩⟩⟩⟩;have ew:dZ xs (some<|2* ((b.length:Nat):Int)) none=xs.drop (2* (xs.length / 2)):=by
  rw[show 2* ((b.length:Nat):Int)=((2* (xs.length / 2):Nat):Int) by rw[A];lia,Hj]
 rw[ew];have Y:=V3 (o:=.l (xs.drop<|2* (xs.length / 2))) fw;refine .inl (oT N w b _ O O (Y _ _ h5) aj (cx (by rw[Yj];lia)) (λB b'=>?_));have s8:=V3 (o:=.l (b++xs.drop (2* (xs.length / 2)))) b';refine oT B _ (t+p) _ ?_ O (s2.trans<|(rA.trans Y).trans s8) aj (dG.same (Y.trans s8)<|dG.app Ib C3) ⟨?_,?_,V,.inr ?_⟩;rw[JB,Yj];lia;rw[JB,Yj];lia;rw[JB,Yj];lia;rw[SI,H_,en] at n;rcases n with n|⟨W,r0,e0,C⟩
 exact absurd n aH;exact o3 W _ (by rw[e0];rfl) C;refine iF ?_ (ZN aH);obtain⟨v,rfl⟩:∃v,xs=[v]:=by
  match xs,k1,z with
  |[v],_,_=>exact oM v O
  |v::w::r,_,z=>exact absurd (by show 1<r.length+1+1;exact Af (Xk _ _)) z
 obtain⟨c,h,j,m,t',rfl,dt,hj,⟨rfl,rfl,rfl⟩,e⟩:=cY;refine cA<|aN<|aa O<|aC<|br S O<|q c h u s2 dt hj aH ?_;rcases k4 with k4|⟨W,r0,e0,C⟩
 exact .inr k4.symm;cases e0;exact .inl C
end
structure Wy(Y:bi)(ns l:bn)(JE:Nat->cr->Prop)(J:Nat->Nat->cr->Prop):Prop where
 c:JC J
 z:J 0 0 (dr [.k (l.length:Int)])
 s:∀(i n m:Nat)(e:cr),ns[i]?=some n->ns[i+1]?=some m->(Y[m]?=some (some n)/\JE m e\/Y[n]?=some (some m)/\∃e0,JE n e0/\e=bk e0)->J i (i+1) e
section
variable{K:Frag}{C:Do}
inductive ui(C:Do)(v:db)(H:Hp)(Q:VK)(E:XK):Prop|i(p:Do)(M Ed:ii)(N d:Nat)(Y:bi)(ax:List bn)(t:bi)(T:Nat)(w:Do)(a:bn)(l r:bn)(b:Nat->cr->Prop)(J:Nat->Nat->cr->Prop)(_:v=[.r p,.r w])(_:bf C H p M Ed N Y ax t T)(_:H w=some (.l<|iV (N::a)))(_:w∉M)(_:gm H Ed b)(_:Wy Y (N::a) l b J)(_:agZ Y (N::a))(_:(∀n∈a,n<Y.length))(_:a.length<=9000)(_:T*a.length<=85000)(_:T<=14000)(_:(N::a)[a.length]?=some d)(_:ax[N]?=some l)(_:ax[d]?=some r)(_:l.length<=100000)(_:∀(c:Do)(h:cr)(Z:Hp),bo M H Z->H c=none->c∉M->bM Z c h l r->J 0 a.length h->ao h<=T*a.length->bf C Z p M Ed d Y ax (uc Y (N::a) t) T->Q (.r c) Z)
abbrev anM(K:Frag)(C:Do)(E:XK):ba:=aG K [("neat",lJ),("joined_all",HY)] [] [] [("edge",C,CQ C)] (E:=E)
theorem ah5(X:fI K C):bz (ui C) (λE=>anM K C E) Rr Rq:=by
 intro vs H Q E U;obtain⟨p,M,Ed,N,d,Y,ax,g,T,w,f,l,r,JE,J,rfl,⟨dx,lo,pa,ed,be,lg,bs,es,A⟩,hw,nw,hE,hJ,fV,oz,q',hT,Ic,hd,hl,hr,lX,q⟩:=U;have sz:=A.ob.sz;have Hv:(ax.map List.length).length=Y.length:=A.ob.l;have jG:ax.length=Y.length:=by rw[<-Hv,Wo]
 refine aY ?_;refine pB _ O _ O (nS _ O (.inl (nS _ (ag.of hw) (λw2 e'=>?_))));have ec:dZ (iV (N::f)) (some (1:Int)) none=iV f:=by
  rw[show((1:Int))=((1:Nat):Int) from O,Hj];rfl
 have s1:=V3 (o:=.l (dZ (iV (N::f)) (some (1:Int)) none)) e';have Ie:upd H w2 (.l<|dZ (iV (N::f)) (some (1:Int)) none) w2=some (.l<|iV f):=by rw[aj,ec]
 refine pF w w2 _ _ O (ag.of<|s1 _ _ hw) (ag.of Ie) (λts L u Ig s2 SJ fL mW hL=>?_);generalize upd H w2 (.l<|dZ (iV (N::f)) (some (1:Int)) none)=t at s1 Ie s2 SJ fL mW;have jh:=s1.trans s2;have Ig:ts.length=f.length:=by
  rw[Ig,Wo,Wo,Wt];lia
 have hP:pG u (ts.map V.r) (((N::f).zip f).map λp=>(V.i (p.1:Nat),V.i (p.2:Nat))):=by
  refine Rt (by rw[Wo,Wo,List.length_zip,Wt];lia) λi v pr hv hp=>?_;rw[Z_] at hv hp;obtain⟨j,Z,rfl⟩:=WC.mp hv;obtain⟨⟨n,m⟩,wd,rfl⟩:=WC.mp hp;obtain⟨h1,h2⟩:=Zr.mp wd;obtain⟨u0,v,e1,e2,e3⟩:=mW i j Z;rw[Z_,h1] at e1;rw[Z_,h2] at e2;cases e1;cases e2;exact nS j O e3
 have Ih:((N::f).zip f).length=f.length:=by rw[List.length_zip,Wt];lia
 have A2:=A.same jh;have G1:=s2 _ _ (s1 _ _ hw);clear mW SJ s2 Ie;have c':(ax.map List.length)[N]?=some l.length:=by rw[Z_,hl];rfl
 refine aY<|cI<|aq<|bu lJ O<|aq<|cI<|aq<|j6<|aq<|aC<|aq<|aN<|cT<|aa O ⟨p,C,dx,_,_,O,A2.ob.ob,X.cl,X.vh,Cf,cT<|aa O ⟨p,C,dx,_,_,O,A2.ob.ob,X.cl,X.i,j8,br A2.ob.d (bq (by rw[Z_,c'];rfl))<|az ⟨cM,λj ft=>az ⟨de,λb fb=>az ?_⟩⟩⟩⟩;have s3:=V3 (o:=.t [V.s "keep",V.i (l.length:Nat)]) ft;have s4:=V3 (o:=.l [V.r j]) fb;refine ag1 aj (s4 _ _ aj) lX λc0 H5 s5 f' SK=>az ⟨de,λL2 nG=>?_⟩;have rB:=(s3.trans s4).trans s5;have o':=(jh.trans<|s3.trans s4).free f';have s6:=V3 (o:=.l [V.r c0]) nG;have rA:=rB.trans s6;have t_:upd H5 L2 (.l [V.r c0]) L2=some (.l [V.r c0]):=aj;have SM:=SK.same s6;have A6:=A2.same rA;have Ii:=hP.same (bB rA);have C4:=rA _ _ hL;have lU:=rA _ _ G1;have C5:=jh.trans rA;generalize upd H5 L2 (.l [V.r c0])=H6 at s6 rA t_ SM A6 Ii C4 lU C5⊢;clear s3 s4 s5 rB SK ft fb nG;have m':∀n,n<Y.length->∃x,ax[n]?=some x:=λn U=>oM _ (XB (by rw[jG];exact U));have zd:∀(i n:Nat),(N::f)[i]?=some n->n<Y.length:=λi n e=>by
  rcases X9.mp (YK e) with rfl|U
  exact A.ob.h;exact oz n U
 refine aY<|bu HY O<|aq<|cD<|aa O ?_;refine rT _ O L O (oM _ (ag.of C4)) (Qv C4 Ii (by rw[Wo,Ih];exact Y4 q' (Xk _ _)) (λi B H7=>∃(n j:Nat)(x:bn),(N::f)[i]?=some n/\ax[n]?=some x/\dG J H7 B 0 i l x j/\j<=T*i) (qQ N 0 l O hl ⟨O,O,O⟩ (Y_ _)) ?_ ?_);intro i c B H7 hc s7 ⟨n,j,x,S,W,cv,Z⟩ Q' kk;rw[Z_] at hc;obtain⟨⟨n',m⟩,wd,rfl⟩:=WC.mp hc;obtain⟨h1,h2⟩:=Zr.mp wd;rw[S] at h1;have e:n=n':=lF h1;subst e;have i_:(N::f)[i+1]?=some m:=by rw[Zl];exact h2
 obtain⟨y,hy⟩:=m' m (zd _ _ i_);have A7:=A6.same s7;have rn:Y[m]?=some (some n)\/(Y[m]?≠some (some n)/\Y[n]?=some (some m)):=by
  rcases fV i n m S i_ with U|U
  exact .inl U;by_cases z:Y[m]?=some (some n);exact .inl z;exact .inr ⟨z,U⟩
 refine Hf C (CQ C) O<|aa O ⟨p,dx,_,O,A7.ob.ob,ip,aa O<|aa O ⟨p,dx,lo,pa,ed,be,lg,N,_,Y,es,ax,T,n,m,x,y,JE,O,A7.ob,A7.F,A7.CO<|hE.same<|C5.trans s7,Ic,W,hy,zd _ _ i_,rn,λc h H8 s8 d' tt hj=>kk _ _ s8 (qQ m (j+ao h) y i_ hy (dG.app (dG.same s8 cv) (r_ c h (i+1) y 0 O d' (hJ.s i n m h S i_ hj) ⟨O,O,O⟩ O)) ?_)⟩⟩;rw[Nat.mul_add,Nat.mul_one];exact CG Z tt;intro B H7 b7 s7 ⟨n,j,x,S,W,cv,Z⟩ ly f7;rw[Wo,Ih] at S Z ly cv;rw[hd] at S;cases S;rw[hr] at W;cases W;have s8:=V3 (o:=.l B) f7;refine .inl (oT L2 b7 _ _ O O (s8 _ _<|s7 _ _ t_) aj (cx (by show 1+B.length<=_;lia)) (λb9 f9=>az ?_));have s9:=V3 (o:=.l ([V.r c0]++B)) f9;have rC:=s7.trans (s8.trans s9);have p':([V.r c0]++B).length=1+B.length:=by rw[JB];rfl
 refine⟨b9,[V.r c0]++B,J,0,f.length,l,r,0+j,O,aj,hJ.c,r_ c0 _ 0 l j O (SM.same rC) hJ.z (dG.same (s8.trans s9) cv) (by rw[Ho]),aH,aH,aH,λc h gN Ij l' hj tt fc=>?_⟩;have ze:=rC.trans Ij;have sH:=C5.trans ze;have I:=A6.same ze;have v8:H c=none:=by
  rcases fc with fc|fc
  exact(C5.trans rC).free fc;cases B with
  |nil=>cases fc;exact o'
  |cons y r'=>cases fc
 have pd:c∉M:=A.live.no v8;have k':=Ii.same (bB ze);have SN:=ze _ _ C4;have j':=ze _ _ lU;have nF:H L=none:=s1.free fL;have a':L∉M:=A.live.no nF;have lv:=I.live;have Ik:lg∈M:=by rw[A.D];simp
 have mp:p∈M:=by rw[A.D];simp
 obtain⟨⟨a1,a2,a3,a4,a5,a6⟩,⟨b1,b2,b3,b4,b5⟩,⟨c1,c2,c3,c4⟩,⟨d1,d2,d3⟩,⟨e1,e2⟩,g1,g2⟩:=AP A.n.l;have s':((N::f).zip f)=(N::f).zip (N::f).tail:=O;refine QM<|aa O ⟨L,O,⟨_,ag.of SN⟩,kU (K:=K) (a:=L) (xs:=ts.map V.r) (λi F G=>∃u5 u6,F=[some<|.r p,some<|.r w,some<|.r L,some<|.r L2,some<|.r c,u5,u6]/\aE lg gN G/\G lg=some (.l<|((((N::f).zip f).take i).foldl (eO Y) g).map gV)) ⟨none,none,O,λ_ _ e _=>e,I.u⟩ ?_ ?_ ?_⟩;rintro i F G _ ⟨u5,u6,rfl,b,_⟩;exact ag.of<|b _ _ SN λz=>a' (by rw[z];exact Ik);rintro i x F G hi ⟨u5,u6,rfl,b,hg⟩;obtain⟨pr,j,zq⟩:=Z2 (pG.at k' hi);obtain⟨yR,rfl,Z⟩:=Z5 zq;rw[Z_] at yR;obtain⟨⟨n,m⟩,wd,rfl⟩:=WC.mp yR;obtain⟨h1,h2⟩:=Zr.mp wd;have S:=zd _ _ h1;have hm:=zd (i+1) m (by rw[Zl];exact h2);have i':=b _ _ Z λz=>by rw[z,I.u] at Z;cases Z
 refine o4 j _ O (.inl<|aA.of i') O _ _ O _ _ O O ?_;have op:=b _ _ I.ob.c c3;have oo:=b _ _ I.ob.ob a5;have Il:Y[n]?=some Y[n]:=XB S;have b':=HC (Y:=Y) (((N::f).zip f).take i) g;have ll:=A.P;refine bQ<|bw<|aN<|cT<|aa O ⟨p,C,dx,_,_,O,oo,X.cl,X.m,pA,aa O<|br op (bq (by rw[Z_,Il];rfl))<|aa O<|yQ ⟨_,O,?_⟩⟩;have tR:(((N::f).zip f).take<|i+1).foldl (eO Y) g=eO Y ((((N::f).zip f).take i).foldl (eO Y) g) (n,m):=by
  rw[qU wd,xN];rfl
 by_cases z:Y[n]=some m;refine iT ?_ (W_ z);refine qT<|aa O<|cT<|aa O ⟨p,C,dx,_,_,O,oo,X.cl,X.Bg,Hn,aa O ⟨lg,_,_,m,O,O,hg,?_,?_⟩⟩;rw[Wo,b',ll];unfold fZ;rw[GT (Wx _),GT aH];rfl;refine oG _ _ O (b.trans aE.upd) ?_;rw[aj,tR];unfold eO;rw[Il,z,GT O,XV];rfl;refine iF ?_ (ZN z);refine oG _ _ O b ?_;rw[tR];unfold eO;rw[Il,Id<|λe=>z<|lF e];exact hg;rintro F G ⟨u5,u6,rfl,b,hg⟩;rw[Wo,Ig,Wc (by rw[Ih];exact ZX _)] at hg;have oo:=b _ _ I.ob.ob a5;have h':=b _ _ j' λz=>nw (by rw[z];exact Ik);have bL:bo M gN G:=λx o e n=>b x o e λz=>n (by rw[z];exact Ik);have g':fF (iV (N::f)) (-1)=some (V.i (d:Nat)):=by
  have e1:(N::f)=(N::f).dropLast++[d]:=by
   have e2:(N::f).getLast aP=d:=by
    rw[List.getLast_eq_getElem];have:=(ZS.mp hd).2;simpa using this
   rw[<-e2,wH]
  rw[e1];unfold iV;rw[Za];exact pY _ _
 refine nu<|aN<|aa O<|kJ<|.inl ⟨w,_, -1,_,O,O,ag.of h',g',aa O ⟨p,C,dx,_,O,oo,X.cl,X.i,(by show 6<1000;decide),?_⟩⟩;rw[Rb];have bp:bo M G (upd G p<|.i C dx<|h6 (d:Nat) lo pa ed be lg):=bo.upd mp;have bb:=bL.trans bp;have k:∀{x:Do}{o:HO},gN x=some o->x≠lg->x≠p->upd G p (.i C dx<|h6 (d:Nat) lo pa ed be lg) x=some o:=λe n1 n2=>aO n2 (b _ _ e n1);refine cA<|aa O<|q c h _ ((bo.of sH).trans bb) v8 pd (l'.keep (λo e=>bb c o e pd)<|lv.bx bb) hj aH ⟨dx,lo,pa,ed,be,lg,bs,es,?_⟩;exact⟨⟨aj,k I.ob.d b4<|Ix a1,k I.ob.c c3<|Ix a2,A.ob.l,A.ob.tr,zd _ _ hd,A.ob.sz⟩,A.D,A.n,k I.F d2<|Ix a3,A.le,A.R,A.Q,I.Q_ bb,A.en,k I.t e1<|Ix a4,A.y,λi x W=>k (I.hk i x W) (λz=>g1 (by rw[<-z];exact YK W))<|λz=>a6 (by rw[<-z];exact YK W),by rw[aw<|Ix a5];exact hg,by show(((N::f).zip f).foldl (eO Y) g).length=_;rw[HC];exact A.P⟩
variable{e:Do}
def pJ(J:Nat->Nat->cr->Prop)(C:Do)(H:Hp)(p:Do)(M Ed:ii)(N d:Nat)(a:bn)(Y:bi)(ax:List bn)(t:bi)(T:Nat)(l r:bn)(Q:VK):Prop:=
 ∀(c:Do)(h:cr)(Z:Hp),bo M H Z->H c=none->c∉M->bM Z c h l r->J 0 a.length h->ao h<=T*a.length->bf C Z p M Ed d Y ax (uc Y (N::a) t) T->Q (.r c) Z
inductive zf(C e:Do)(v:db)(H:Hp)(Q:VK)(E:XK):Prop|i(p:Do)(M Ed:ii)(N:Nat)(Y:bi)(ax:List bn)(t:bi)(T:Nat)(_:v=[.r p])(_:bf C H p M Ed N Y ax t T)(_:T<=14000)(_:((∃(j:Nat)(l r:bn)(a:Nat->cr->Prop)(J:Nat->Nat->cr->Prop),gm H Ed a/\Wy Y [N,j] l a J/\Y[N]?=some (some j)/\ax[N]?=some l/\ax[j]?=some r/\l.length<=100000/\pJ J C H p M Ed N j [j] Y ax t T l r Q)\/(N=0/\E (.ref e) none H)))
inductive zg(C e:Do)(v:db)(H:Hp)(Q:VK)(E:XK):Prop|i(p:Do)(M Ed:ii)(N:Nat)(Y:bi)(ax:List bn)(t:bi)(T:Nat)(_:v=[.r p])(_:bf C H p M Ed N Y ax t T)(_:T<=14000)(_:((∃(j:Nat)(l r:bn)(a:Nat->cr->Prop)(J:Nat->Nat->cr->Prop),gm H Ed a/\Wy Y [N,j] l a J/\t[N]?=some (some j)/\Y[j]?=some (some N)/\ax[N]?=some l/\ax[j]?=some r/\l.length<=100000/\pJ J C H p M Ed N j [j] Y ax t T l r Q)\/(t[N]?=some none/\E (.ref e) none H)))
inductive zh(C:Do)(v:db)(H:Hp)(Q:VK)(E:XK):Prop|i(p:Do)(M Ed:ii)(N d:Nat)(Y:bi)(ax:List bn)(t:bi)(T:Nat)(a:bn)(l r:bn)(b:Nat->cr->Prop)(J:Nat->Nat->cr->Prop)(_:v=[.r p,.i d])(_:bf C H p M Ed N Y ax t T)(_:d<Y.length)(_:gm H Ed b)(_:Wy Y (N::a) l b J)(_:dy Y N d=N::a)(_:a.length<=9000)(_:T*a.length<=85000)(_:T<=14000)(_:ax[N]?=some l)(_:ax[d]?=some r)(_:l.length<=100000)(_:pJ J C H p M Ed N d a Y ax t T l r Q)
theorem pJ.same{e:bn}{a:bi}(g:pJ J C H p M Ed N d e Y ax a T l r Q)(s:ar H t):pJ J C t p M Ed N d e Y ax a T l r Q:=
 λc h Z b f n k j i x=>g c h Z ((bo.of s).trans b) (s.free f) n k j i x
abbrev j2(K:Frag)(C:Do)(e:Do)(E:XK):ba:=aG K [] [] [] [("along",C,ui C)] (et:=[("NoNode",e)]) (E:=E)
theorem aik(X:fI K C):bz (zf C e) (λE=>j2 K C e E) NT mT:=by
 intro S H Q E b;obtain⟨p,M,Ed,N,Y,ax,t,T,rfl,⟨dx,lo,k,I,be,lg,L,es,A⟩,B,b⟩:=b;refine bQ<|bw<|cT<|aa O ⟨p,C,dx,_,_,O,A.ob.ob,X.cl,X.i,j8,aC<|nr ⟨_,O,?_⟩⟩;rcases b with⟨j,l,r,R,J,F,D,a,y,v,u,q⟩|⟨rfl,q⟩
 have V:N≠0:=λz=>by rw[z,A.ob.tr.r] at a;cases a
 refine iF (ik ?_)<|ZN aH;obtain⟨U,g,P⟩:=A.ob.tr.up N (CR V) A.ob.h;rw[a] at g;cases g;refine cA<|ky C (ui C) O<|aa O ⟨p,dx,_,O,A.ob.ob,ip,cI<|aq<|cT<|aa O ⟨p,C,dx,_,_,O,A.ob.ob,X.cl,X.i,j8,aq<|aN<|cT<|aa O ⟨p,C,dx,_,_,O,A.ob.ob,X.cl,X.m,pA,cT<|aa O ⟨p,C,dx,_,_,O,A.ob.ob,X.cl,X.i,j8,br A.ob.c (bq (by rw[Z_,a];rfl))<|az ⟨cM,λw f=>?_⟩⟩⟩⟩⟩;have s:=V3 (o:=.l (iV [N,j])) f;refine⟨p,M,Ed,N,j,Y,ax,t,T,w,[j],l,r,R,J,O,rO dx lo k I be lg L es (A.same s),aj,A.live.no f,F.same s,D,λi n m G d=>?_,λn x=>by cases Ya.mp x;exact YR P A.ob.h,aP,by show T*1<=_;lia,B,O,y,v,u,pJ.same q s⟩;cases i with
 |zero=>cases G;cases d;exact .inr a
 |succ i=>simp at d
 exact iT ⟨de,q⟩ O
theorem ail(X:fI K C):bz (zg C e) (λE=>j2 K C e E) NW NV:=by
 intro S H Q E c;obtain⟨p,M,Ed,N,Y,ax,t,T,rfl,⟨dx,lo,v,I,be,lg,L,es,A⟩,B,c⟩:=c;obtain⟨o,b⟩:∃o,t[N]?=some o:=oM _ (XB (by rw[A.P];exact A.ob.h));refine aY<|aN<|cT<|aa O ⟨p,C,dx,_,_,O,A.ob.ob,X.cl,X.Bg,Hn,cT<|aa O ⟨p,C,dx,_,_,O,A.ob.ob,X.cl,X.i,j8,br A.u (bq (by rw[Z_,b];rfl)) ?_⟩⟩;rcases c with⟨j,l,r,R,J,F,D,f,d,z,y,x,q⟩|⟨a,q⟩
 rw[b] at f;cases f;have Z:=(ZS.mp d).1;refine bQ<|bw<|aa O<|aC ⟨O,_,O,iF (ik ?_) O⟩;refine cA<|ky C (ui C) O<|aa O ⟨p,dx,_,O,A.ob.ob,ip,cI<|aq<|cT<|aa O ⟨p,C,dx,_,_,O,A.ob.ob,X.cl,X.i,j8,aq<|aa O<|az ⟨cM,λw k=>?_⟩⟩⟩;have s:=V3 (o:=.l (iV [N,j])) k;refine⟨p,M,Ed,N,j,Y,ax,t,T,w,[j],l,r,R,J,O,rO dx lo v I be lg L es (A.same s),aj,A.live.no k,F.same s,D,λi n m G g=>?_,λn a=>by cases Ya.mp a;exact Z,aP,by show T*1<=_;lia,B,O,z,y,x,pJ.same q s⟩;cases i with
 |zero=>cases G;cases g;exact .inl d
 |succ i=>simp at g
 rw[b] at a;cases a;exact bQ<|bw<|aa O<|aC ⟨O,_,O,iT ⟨de,q⟩ O⟩
abbrev apQ(K:Frag)(C:Do)(E:XK):ba:=aG K [] [] [] [("along",C,ui C),("way",C,Cm C)] (E:=E)
theorem aim(X:fI K C):bz (zh C) (λE=>apQ K C E) NX mS:=by
 intro vs H Q E S;obtain⟨p,M,Ed,N,d,Y,ax,a,T,b,l,r,Z,J,rfl,⟨dx,lo,g,x,be,lg,W,es,A⟩,o,L,I,V,e,G,Ic,F,B,z,q⟩:=S;refine cA<|ky C (ui C) O<|aa O ⟨p,dx,_,O,A.ob.ob,ip,Hf C (Cm C) O<|aa O ⟨p,dx,_,O,A.ob.ob,ip,cT<|aa O ⟨p,C,dx,_,_,O,A.ob.ob,X.cl,X.i,j8,aa O ⟨p,dx,lo,g,x,be,lg,N,_,Y,N,d,O,A.ob,A.ob.h,o,λw t s U j=>?_⟩⟩⟩⟩;obtain⟨u0,v,m,e1,_,_,u,_,⟨y,f⟩,k,_⟩:=CB A.ob.tr A.ob.h o;rw[V] at j u f k;have c:(N::b)[b.length]?=some d:=by
  rw[f];have:y.length=b.length:=by
   have:=IR List.length f;simp at this;lia
  rw[<-this];simp
 exact⟨p,M,Ed,N,d,Y,ax,a,T,w,b,l,r,Z,J,O,rO dx lo g x be lg W es (A.same s),j,A.live.no U,L.same s,I,λi n m R P=>Ru _ u i n m R P,λn D=>k n<|Wb _ D,e,G,Ic,c,F,B,z,pJ.same q s⟩
end
section
open PyProof.Rows
end
section
open PyProof.Rows
variable{X:Cx}
end
section
open PyProof.Rows
end
section
open PyProof.Rows PySem.W
end
section
open PyProof.Rows
section
variable{CX:cP}{S:cZ}{W:ba}{X:Cx}{a v:Expr}{p q:Pos}{b r:RE}
theorem aio{o:Expr}:swapsWith v (some<|.Attribute o f p) l e=pure false:=by
 cases v<;>rfl
theorem SO(G:dQ CX S W X)(h:PE X a (af W b))(e:PE X v (af W r)):PS X (.Assign [.Attribute a f p] v q) (dC W<|.f b f r):=by
 show PS X _ (Ac W.K (af W b) (af W r) f);rw[<-G.K];exact Kx h e (by exact aio)
end
end
section
open PyProof.Rows PySem.W
end
section
open PyProof.Rows
section
variable{X:Cx}
theorem aip{body:Cl}{Im:Cl}(fV:X.stack=X.env::X.r)(xF:X.env.frame=some X.env.locals)(C':X.ex=[])(E1:Gl X x)(hd:(x==("__debug__":Str))=false)(so:X.mg x=some (.ref C))(hb:∀(pn:gh)(xe:ge)(E:XK),PassesOwn (model X.prog X.w) X.A X.env xe->hV (gX X.prog X.w) (X.alt X.A X.calm pn xe) E->eT (X.alt X.A X.calm pn xe) body (tb E))(hh:∀(a:Do)(pn:gh),eT (X.alt (X.A.mark<|some<|.ref a) false pn λ_ _=>False) (k::Im)<|th a):
  PS X (.Try body [.ExceptHandler (some<|.Name x np) none (k::Im) C6] [] [] b') (AD X.K C X.N.length X.N.length tb th):=by
 intro u s F H D I h0;refine wpAny_Try_except ?_;have P1:hV (gX X.prog X.w) (X.alt X.A X.calm (X.n++u) λe U'=>wpAny (model X.prog X.w) X.A (noteFrame e X.env) (λ_ Z'=>wpAny (model X.prog X.w) X.A (setFlight e none) (λ_ U=>wpAny (model X.prog X.w) X.A (handleBy e X.env [.ExceptHandler (some<|.Name x np) none (k::Im) C6]) (SP X u D) X.xe U) X.xe Z') X.xe U') (LJ X.K C X.N.length X.N.length th D):=by
  intro i V t Y e' d I1 hx;obtain⟨a,c,T,B1,Z,rfl,os,G,u0,ay,fl,xE,oy,c1,c2,hm,k'⟩:=hx;have w':X.A.frames=some (X.env::X.r):=by rw[I.ok.frames,fV]
  have ki:Heap.FlyingW B1 (X.env::X.r) a c (.ref T) d.heap:=by rw[<-fV];exact fl
  refine KM (xD L3 xE<|wpAny_looks_onW (Q:=λ_ iQ=>∃j,iQ={d with heap:=j}/\Heap.HeldW B1 (X.env::X.r) a c (.ref T) X.env.locals j/\d.heap.UpToSlots j) (E:=λ_ _=>False) w' xF ki λh4 iq Io=>nT h4 O iq Io)
   (λ_ s4 hq=>?_) (λ_ _ z=>z.1.elim)
  obtain⟨⟨h4,rfl,iq,Io⟩,j'⟩:=hq;refine KM (xD EU j'<|wpAny_landsW (s:={d with heap:=h4}) (Q:=λ_ iQ=>∃j,iQ={d with heap:=j}/\Heap.FlyingW B1 (X.env::X.r) a c (.ref T) j/\h4.UpToSlots j) (E:=λ_ _=>False) iq λB R Ip=>nT B O R Ip)
   (λ_ s5 hq=>?_) (λ_ _ z=>z.1.elim)
  obtain⟨⟨B,rfl,u',Ip⟩,i'⟩:=hq;have R:Heap.FlyingW B1 X.stack a c (.ref T) B:=by rw[fV];exact u'
  obtain⟨u5,SQ,r',p'⟩:=L7 (l:=X.stack) u0 ay fl.2.2.1 c1 c2 R.1 (Io.trans Ip);obtain⟨oe,ws,l',t',F',E'⟩:=R.first
  have I5:=I1.DN (s':={d with heap:=B}) (ch:=[]) os u5 SQ G (λb z=>absurd z Yy);refine wpAny_handleBy_cons (codeAny_handlers_test ?_) (by intro q;cases q);have wO:uP (X.alt (X.A.mark<|some<|.ref a) false (X.n++u) λ_ _=>False) [] V Z {d with heap:=B}:=I5.alt (A':=X.A.mark (some<|.ref a)) (calm':=false) (pn':=X.n++u) (pins':=[]) O (λz=>nomatch z) (λp g=>Z4.mpr<|.inl (by rw[jP] at g;exact g));refine zV wO E1 so ?_ hd;have LT:PySem.W.Looks (model X.prog X.w) B (typeOf<|.ref a) c:=by
   subst t';exact(PySem.W.Looks.ld l').andThen .now
  refine(PySem.W.exm_one I5.dA LT hm).here ?_;refine codeAny_handlers_suite ?_;refine KM (xD EU i'<|lands_againW (s:={d with heap:=B}) (Q:=λ_ iQ=>∃j,iQ={d with heap:=j}/\Heap.FlyingW B1 X.stack a c (.ref T) j/\B.UpToSlots j) (E:=λ_ _=>False) R λL P Iq=>nT L O P Iq)
   (λ_ s6 hq=>?_) (λ_ _ z=>z.1.elim)
  obtain⟨⟨L,rfl,P,Iq⟩,g'⟩:=hq;obtain⟨J,d',Ib,C3⟩:=L7 (l:=X.stack) u5 SQ R.2.2.1 r' p' P.1 Iq;obtain⟨M,SR,C7,x',Ir,_⟩:=P.first
  have m':AB M c SR:=by
   obtain⟨o',B',q1,q2,q3,q4⟩:=g';have mZ:L.get? a=some o':=q1;rw[C7] at mZ;cases mZ;rw[Ir] at q2;cases q2;exact⟨x',Ir,q3,q4⟩
  have f':Y.heap.get? a=none:=by
   cases q:Y.heap.get? a with
   |none=>rfl
   |some o1=>
    by_cases SS:a∈bA X.stack;obtain⟨o2,gE,n'⟩:=(P.2.2.1.mem SS).2;rw[C7] at gE;cases gE;exact(n' _ Ir).elim;have:=C3 a o1 q SS M C7;rw[P.2.1] at this;cases this
  have u7:Un (bA X.stack) [] t (upd Z a (.b M sE)) Y.heap L:=⟨J.keep,J.slot,λb o q n hx=>by
    rw[aw (λz=>by rw[z,f'] at q;cases q)];exact J.free b o q n hx,J.there,λb xs q=>by
    have y:=J.bx b xs q;rw[aw<|aJ y oy];exact y,λb o v q=>by
    have y:=J.iC b o v q;rw[aw<|aJ y oy];exact y,λb h q=>by
    obtain⟨a',y⟩:=J.iP b h q;exact oM a' (by rw[aw (aJ y oy)];exact y)⟩
  have c':bX X.prog X.w (upd Z a<|.b M sE) L:=d'.more oy (aaT C7);have I7:=I1.DN (s':={d with heap:=L}) (ch:=[]) os u7 c' G (λb z=>absurd z Yy);have I8:uP (X.alt (X.A.mark<|some<|.ref a) false (X.n++u) λ_ _=>False) [] V (upd Z a<|.b M sE) {d with heap:=L}:=I7.alt (A':=X.A.mark (some<|.ref a)) (calm':=false) (pn':=X.n++u) (pins':=[]) O (λz=>nomatch z) (λp g=>Z4.mpr<|.inl (by rw[jP] at g;exact g));refine KM (hh a (X.n++u) [] _ _ _ {nx:=λ_ _=>False,r:=D.r} I8 (by have z:=k' a M SR V oy I1.len m';rw[List.set_eq_of_length_le (show V.length<=X.N.length from XX I1.len)] at z;exact z)) (λf Ij m=>?_) λ_ _ z=>z.elim;cases f with
  |next=>obtain⟨_,_,_,z⟩:=m;exact z.elim
  |brk=>obtain⟨_,_,_,z⟩:=m;exact z.elim
  |cont=>obtain⟨_,_,_,z⟩:=m;exact z.elim
  |ret v=>
   obtain⟨v',S,gN,z',r,q⟩:=m;have y':uP X u S gN Ij:=z'.E3 I.ok (λp g=>by simpa using g);exact rP v' _ ⟨gN,y',r,q⟩
 refine KM (hb _ _ _ PassesOwn.looking P1 [] s F H {nx:=D.nx,r:=D.r} (I.alt O I.ok.hd (λp g=>by simpa using g)) h0) (λf Y m=>?_) λe' d hx=>hx;cases f with
 |next=>
  obtain⟨V,Z,I',q⟩:=m;exact JX u Y V Z D (I'.E3 I.ok (λp g=>by simpa using g)) q
 |brk=>obtain⟨_,_,_,z⟩:=m;exact z.elim
 |cont=>obtain⟨_,_,_,z⟩:=m;exact z.elim
 |ret v=>
  obtain⟨v',V,Z,I',r,q⟩:=m;exact rP v' V ⟨Z,I'.E3 I.ok (λp g=>by simpa using g),r,q⟩
variable{b:cP}{S:cZ}{W:ba}{e:Expr}{es:tz}{x:Str}{p q pos:Pos}{r:RE}{rs:wn}{i j:Nat}
theorem aiH{body u:Cl}{a:Fr}{d:jp}(G:dQ b S W X)(f:kG S j x=true)(i:decide (S.N.length=n)=true)(y:∀{W:ba}{X:Cx},dQ b (tS S) W X->eT X body (av W d))(m:∀{W:ba}{X:Cx},dQ b (hS S) W X->eT X (a::u) (av W z)):
  PS X (.Try body [.ExceptHandler (some<|.Name x J) none (a::u) C6] [] [] pos) (dC W<|.EH n n j d z):=by
 simp only[kG,WZ,KK,Ot] at f i;obtain⟨B,v,g⟩:=G.fG j x f.1.1;intro A s F H D I q;obtain⟨C,e,q⟩:=(show ∃C,W.gv j=.r C/\AD W.K C n n (λE=>av {W with E:=E} d) (λc=>av {W with E:=E0,h:=some c} z) D F H from q);rw[e] at g;subst g;have w:=G.N▸i;have l:AD X.K C X.N.length X.N.length (λE=>av {W with E:=E} d) (λc=>av {W with E:=E0,h:=some c} z) D F H:=by rw[G.K,w];exact q
 exact aip G.kQ G.iZ G.vb (G.gl f.1.2) f.2 v
  (λp k E t o=>y<|G.ab0 p k E t o) (λc p=>m<|G.held c p) A s F H D I l
end
noncomputable def aX(i:Nat):Fr:=(PySem.Challenge.pw_inkloom_k26_foreign_by_passing.main.body).getD i (.Pass ⟨0,0,0,0⟩)
def SU:Fr:=aX 8
abbrev iN(s:Fr)(k:Nat):Fr:=(gQ s).getD k (.Pass ⟨0,0,0,0⟩)
abbrev iO(b:jp)(k:Nat):RS:=b.getD k (.r<|.c .a)
abbrev MX(N:ca)(s:Fr)(f g l m k e h:ca)(b:jp)(d:Nat):Prop:= ∀{C:cP}{W:ba}{X:Cx},dQ C (AZ N (gT s) f g l m k e h d) W X->eT X (gQ s) (av W b)
abbrev MY(N:ca)(s:Fr)(f g l m n e h:ca)(b:jp)(d k:Nat):Prop:= ∀{C:cP}{W:ba}{X:Cx},dQ C (AZ N (gT s) f g l m n e h d) W X->PS X (iN s k) (dC W<|iO b k)
theorem aV{P:Prop}(H:P:=by intro G;have g:=G.toGood;repeat' first|exact aM g|refine b_ ?_ ?_|refine bR ?_ ?_|exact c6|exact ib|exact gZ|exact oC|refine qp g ?_ ?_|refine lH G ?_|refine vf g ?_ ?_|refine lG g ?_|refine sO ?_|refine xO g ?_ ?_|refine AV ?_ ?_ ?_|refine AU ?_|refine oE g ?_|refine xQ g ?_|refine sN ?_|refine vd g ?_ ?_|refine Mr g ?_ ?_|refine xR g ?_ ?_|refine abN ?_|refine E_ g ?_|refine AR g ?_|refine abP ?_|exact E8|refine abD ?_|refine Mo g ?_ ?_|refine Mv ?_|refine MC G ?_ ?_|refine Vj g ?_|refine E6 g ?_|exact ve|exact E9|refine abZ G ?_|refine MD G ?_ ?_|refine Mt g ?_ ?_ ?_|refine abR ?_ ?_|refine Fd ?_ ?_ ?_|refine abG ?_ ?_|refine abT ?_ ?_|refine abQ ?_|refine Fe G ?_ ?_|refine abF ?_|refine Mq g ?_|refine Fb g ?_|refine abS ?_|refine abI ?_ ?_ ?_|refine ME [(_,_),(_,_)] G ?_ ?_|refine ME [(_,_),(_,_),(_,_)] G ?_ ?_|refine MB G ?_ ?_ ?_|refine abV g ?_|exact Mu|refine sT ?_ ?_ ?_|refine MF [(_,_),(_,_)] G ?_|refine MF [(_,_),(_,_),(_,_)] G ?_|refine abH g ?_|refine Mp g ?_|refine My g ?_ ?_|refine FC ?_|exact FA|refine Ms g ?_ ?_|refine Mx g ?_ ?_|exact d_g g|exact MG|refine FE g ?_ ?_ ?_|refine abM g ?_ ?_|refine abE g ?_ ?_ ?_|refine agH g ?_|refine acI g ?_|refine SO G ?_ ?_|refine acu g ?_ ?_|refine abO g ?_ ?_ λY g=>?_|refine Mw λY g=>?_|refine PW.pt ?_):P:=H
theorem Zk:MX oF SU ae ae ML ae ae ae ae MK 0:=aV
def SW:Fr:=aX 9
theorem IP:MX Nn SW Nq ae ae ae ae ae ae Np 0:=aV
def SX:Fr:=aX 10
theorem aiL:MX Ft SX ae ae MM ae ae ae ae Fu 0:=aV
def SY:Fr:=aX 11
theorem aiM:MX oF SY ae ab2 MM ae ae ae ae Fv 0:=aV
def S_:Fr:=aX 14
theorem aiN:MX oF S_ ab3 ae ab4 ae ae ae ae A_ 0:=aV
def Ta:Fr:=aX 15
theorem aiO:MX MN Ta ae ae ae ae ae ae ae MO 0:=aV
def Tb:Fr:=aX 16
theorem Gs:MX MP Tb ab5 ae ab6 ae ae ab7 ae MQ 0:=aV
def Tc:Fr:=aX 17
theorem aiQ:MX MR Tc ae ae jT ae ae ae ae MS 0:=aV
def Td:Fr:=aX 18
theorem aiR:MX MT Td ab8 ae KE ae ae ae ae MU 0:=aV
def Te:Fr:=mU (aX 19) 0
theorem XD:MX Bf Te ae ae FK ae ae ae ae O4 0:=aV
def Tf:Fr:=mU (aX 19) 1
theorem aiT:MX mT Tf ae ae jT ae ae ae ae O5 0:=aV
def Tg:Fr:=mU (aX 19) 2
theorem CT:MX mT Tg O7 ae ae ae ae ae ae O6 0:=aV
def Th:Fr:=mU (aX 19) 3
theorem aiV:MX O8 Th ae ae ae aek ae ae ae Gq 0:=aV
def Ti:Fr:=aX 20
theorem aiW:MX MV Ti ae ae jT ae ae ae ae MW 0:=aV
def Tj:Fr:=aX 21
theorem aiX:MX MZ Tj ae ae ae ae ae ae ae M0 0:=aV
def Tn:Fr:=aX 22
theorem aiY:MX M1 Tn ab_ ae ae ae ae ae ae M3 0:=aV
def To:Fr:=aX 23
theorem aiZ:MX M4 To CL acb ae ae ae ae ae M5 0:=aV
def Tp:Fr:=aX 25
theorem YN:MX Pg Tp ae ae ae ae ae xV ae Ph 0:=aV
def Tq:Fr:=aX 26
theorem ai1:MX Pj Tq YQ ae Pe Pl ae ae ae Pk 0:=aV
def Ts:Fr:=aX 27
theorem ai2:MX Pm Ts aep ae ae Pl Pf xV ae Pn 0:=aV
def Tt:Fr:=aX 29
theorem ai3:MX O9 Tt O7 ae ae Q4 ae ae ae O_ 0:=aV
def Tu:Fr:=aX 30
theorem ai4:MX Pa Tu ae ae ae ae ae xV ae Pb 0:=aV
def Tv:Fr:=aX 31
theorem ai5:MX Pc Tv aem ae Pe aen Pf xV ae Pd 0:=aV
def Tw:Fr:=aX 33
theorem Wd:MX ND Tw acJ ae acK ae ae ae ae NF 0:=λG=>have g:=G.toGood;(bR (Fe G (vf g (oE g<|b_ (aM g) c6) gZ)<|bR (Fc (ln:=["one","other"]) G (O) (O) (O) (My g (FE g (aM g) gZ gZ)<|FE g (aM g) gZ gZ) ve<|λY g=>(lG g<|b_ (aM g)<|b_ (aM g) c6))<|bR (lH G<|xO g (aM g)<|Mt g (aM g) (Mv<|xO g gZ<|oE g<|b_ (aM g) c6) Mu) ib)<|bR (sO<|qp g (aM g) gZ) ib)
def Tx:Fr:=mU (aX 34) 0
theorem RX:MX NG Tx Nq ae ae ae ae acL ae NH 0:=aV
def Tz:Fr:=mU (aX 34) 1
theorem ai8:MX mS Tz acM ae ae acN ae Be ae NI 0:=aV
def TB:Fr:=mU (aX 34) 2
theorem ai9:MX Bf TB NK ae ae ae ae xV ae NJ 0:=aV
noncomputable def TC:jp:=
 [.r<|.f (.v 0) "here"]
def TF:Fr:=mU (aX 34) 3
theorem Od:MX mT TF ae ae ae ae ae ae ae TC 0:=aV
def TH:Fr:=mU (aX 34) 4
theorem aja:MX mT TH ae ae jT ae ae ae ae NL 0:=aV
def TJ:Fr:=mU (aX 34) 5
theorem ajb:MX mS TJ ae ae ae FJ ae ae ae NM 0:=aV
noncomputable def TK:jp:=
 [.d (.a 0 "need_node" (.v 0) [.v 1]),
 .r (.t .t [(.i (.f (.v 0) "below") (.v 1))])]
def TL:Fr:=mU (aX 34) 6
theorem ajc:MX mS TL ae ae FK FJ ae ae ae TK 0:=aV
def TM:Fr:=mU (aX 34) 7
theorem ajd:MX mS TM ae ae ae FJ ae ae ae NN 0:=aV
def TN:Fr:=mU (aX 34) 8
theorem aje:MX NO TN NK ae FK acO ae ae ae NP 0:=aV
def TQ:Fr:=mU (aX 34) 10
theorem ajf:MX NQ TQ acP ae ae ae ae ae ae NR 0:=aV
def TR:Fr:=mU (aX 34) 11
theorem ajg:MX Rq TR Lh ae agW agX ae ae ae Rr 0:=aV
def TU:Fr:=mU (aX 34) 12
theorem ajh:MX mT TU ae ae ae NU ae Be ae NT 0:=aV
def TV:Fr:=mU (aX 34) 13
theorem aji:MX NV TV ae ae ae NU ae Be ae NW 0:=aV
def TX:Fr:=mU (aX 34) 14
theorem ajj:MX mS TX ae ae ae acQ ae ae ae NX 0:=aV
def TY:Fr:=mU (aX 34) 15
theorem XI:MX NY TY ae ae ae ae ae ae ae NZ 0:=aV
def TZ:Fr:=mU (aX 34) 16
theorem ajl:MX N1 TZ ae ae acR acS ae ae ae FL 0:=aV
def T_:Fr:=mU (aX 34) 17
theorem DL:MX N2 T_ ae ae ae ae ae ae ae N3 0:=aV
def Ua:Fr:=mU (aX 34) 18
theorem ajn:MX Sa Ua ahu ae ahv ahw ae ae ae Sb 0:=λG=>have g:=G.toGood;(bR (AU<|xR g (aM g)<|b_ (aM g) c6)<|bR (lH G<|oE g<|b_ (xQ g<|aM g) c6)<|bR (lH G<|FC<|sT (xQ g<|aM g) (aM g) FA)<|bR (lH G<|sN<|b_ (xQ g<|aM g) c6)<|bR (Fe G (vf g (oE g<|b_ (aM g) c6) gZ)<|bR (lH G<|Mq g<|aM g)<|bR (MD G (AR g<|xR g (aM g)<|b_ (aM g) c6)<|bR (AV (Ms g (aM g)<|aM g) (bR MG ib) ib)<|bR (lH G<|lG g<|b_ (vd g (aM g)<|aM g)<|b_ (xR g (aM g)<|b_ (aM g)<|b_ (aM g) c6) c6)<|bR (MB G (qp g (aM g) gZ) (aM g)<|aM g)<|bR (AU<|Mr g (aM g)<|b_ (aM g) c6)<|bR (AV (vf g (qp g (xQ g<|aM g)<|aM g)<|aM g) (bR (Fd (qp g (aM g) gZ) (aM g)<|aM g) ib)<|bR (Fd (lG g<|b_ (qp g (aM g) gZ) c6) (aM g)<|aM g) ib) ib) ib)<|bR (MC G (aM g)<|aM g)<|bR (SO G (aM g)<|AQ (ln:=["node"]) g (O) (Fb g<|E_ g<|aM g) ve<|λY g=>(qp g (lG g<|b_ (vd g (aM g)<|aM g) c6) gZ)) ib)
def Ub:Fr:=aX 36
theorem ajo:MX M6 Ub ae ae jT ae ae ae ae M7 0:=aV
noncomputable def zcB:ca:=["_law_found"]
def Uc:Fr:=aX 37
theorem ajp:MX zcB Uc ae ae ML ae ae ae ae MK 0:=aV
def Ud:Fr:=aX 38
theorem ajq:MX M8 Ud ae ae ae ae ae ae ae M9 0:=aV
def Ue:Fr:=aX 39
theorem ajr:MX M_ Ue acd ae jz ae ae ae ae Na 0:=aV
def Ug:Fr:=aX 40
theorem ajs:MX Nb Ug ae ae ae ae ae ae ae Nc 0:=aV
def Uh:Fr:=aX 41
theorem ajt:MX Nd Uh ace ae acf ae ae ae ae Nf 0:=aV
def Ui:Fr:=aX 42
theorem aju:MX Ng Ui ae ae acg ae ae ae ae Nh 0:=aV
def Uj:Fr:=aX 43
theorem ajv:MX Ni Uj ach ae ae ae ae ae ae Nj 0:=aV
noncomputable def zcA:ca:=["_law_text_here","_law_change_here","_law_found","_law_at","_law_word","_law_thing"]
def Uk:Fr:=aX 44
theorem ajw:MX zcA Uk ae ae jT ae ae ae ae Nm 0:=aV
def Ul:Fr:=aX 45
theorem ajx:MX Nk Ul aci ae Hq ae ae ae ae Nl 0:=aV
noncomputable def Um:ca:=["_law_change_here","_law_others"]
noncomputable def Uo:jp:=
 [.a 1 (.x oH [(.c (.s "keep")),(.c (.s "keep")),(.c (.s "put")),(.c (.s "cut")),(.c (.s "cut")),(.c (.s "put"))]),
 .r (.l 0 [(.C (some 2) [("_law_others",1)] .l [.v 0] none (.T [(.P (.v 2) (.v 0)),.v 1]))])]
noncomputable def ajy:ca:=["_law_neat"]
def Up:Fr:=aX 46
theorem ajz:MX Um Up ajy ae ae ae ae ae ae Uo 0:=aV
noncomputable def Uq:ca:=["_law_change_here","_law_puts","_law_signs","_law_word","_law_thing","_law_some"]
noncomputable def Ur:jp:=
 [.a 1 (.L [(.c (.s ""))]),
 .a 2 (.L []),
 .k [3,4] .l [.v 0] [.i (.p .Eq (.v 3) (.c (.s "put"))) [.s (.v 1) (.n (.c (.i 1))) (.b .Add (.i (.v 1) (.n (.c (.i 1)))) (.v 4))] [.a 5 (.k (.p .Eq (.v 3) (.c (.s "cut"))) (.t .t [.v 4]) (.b .Mult (.L [.c .a]) (.v 4))),
   .a 2 (.b .Add (.v 2)<|.v 5),
   .a 1 (.b .Add (.v 1) (.b .Mult (.L [(.c (.s ""))]) (.t .l [.v 5])))]],
 .r (.T [.v 1,.v 2])]
noncomputable def ajA:ca:=["list","len"]
def Us:Fr:=aX 47
theorem ajB:MX Uq Us ae ae ajA ae ae ae ae Ur 0:=aV
noncomputable def C8:ca:=["_law_one","_law_other","_law_mine","_law_cuts","_law_puts","_law_lost","_law_parts_here","_law_k"]
noncomputable def Ut:jp:=
 [.q [2,3] (.l 0 [.v 0]),
 .q [4,5] (.l 0 [.v 1]),
 .a 6 (.L []),
 .g 7 .f [(.t .l [.v 2])] [.a 6 (.b .Add (.v 6) (.L [(.T [(.c (.s "put")),(.i (.v 2) (.v 7))]),(.T [(.c (.s "keep")),(.t .l [(.i (.v 4) (.v 7))])])])),
  .i (.d [(.p .Lt (.v 7) (.t .l [.v 3])),(.p .Is (.i (.v 5) (.v 7)) (.c .a))]) [.d (.Q .a (.v 6) [(.k (.p .Is (.i (.v 3) (.v 7)) (.c .a)) (.T [(.c (.s "keep")),(.c (.i 1))]) (.T [(.c (.s "cut")),(.i (.v 3) (.v 7))]))])] []],
 .r (.l 1 [.v 6])]
noncomputable def Uu:ca:=["_law_gaps","_law_neat"]
def Uv:Fr:=aX 48
theorem ajC:MX C8 Uv Uu ae jz ae ae ae ae Ut 0:=aV
noncomputable def Uw:jp:=
 [.q [2,3] (.l 0 [.v 0]),
 .q [4,5] (.l 0 [.v 1]),
 .a 6 (.L []),
 .g 7 .f [(.t .l [.v 2])] [.a 6 (.b .Add (.v 6) (.L [(.T [(.c (.s "keep")),(.t .l [(.i (.v 2) (.v 7))])]),(.T [(.c (.s "put")),(.i (.v 4) (.v 7))])])),
  .i (.d [(.p .Lt (.v 7) (.t .l [.v 3])),(.p .Is (.i (.v 3) (.v 7)) (.c .a))]) [.d (.Q .a (.v 6) [(.k (.p .Is (.i (.v 5) (.v 7)) (.c .a)) (.T [(.c (.s "keep")),(.c (.i 1))]) (.T [(.c (.s "cut")),(.i (.v 5) (.v 7))]))])] []],
 .r (.l 1 [.v 6])]
def Ux:Fr:=aX 49
theorem ajD:MX C8 Ux Uu ae jz ae ae ae ae Uw 0:=aV
noncomputable def Uy:ca:=["_law_rows","_law_change_here","_law_edges","_law_spread_here","_law_turn","_law_node","_law_above","_law_up_here"]
noncomputable def Uz:jp:=
 [.a 2 (.t .t [(.P (.v 0) (.c (.s "edges")))]),
 .a 3 (.x oH [(.P (.v 0)<|.c<|.s "here"),.v 1]),
 .g 4 .f [(.t .l [.v 2])] [.g 5 .s [(.c (.i 1)),(.t .l [.v 2])] [.a 6 (.i (.P (.v 0) (.c (.s "above"))) (.v 5)),
   .i (.d [(.K (.v 6) (.v 3)),(.q (.v 5) (.v 3))]) [.t (.v 3) (.v 5) (.l 0 [(.P (.v 3) (.v 6)),(.i (.P (.v 0) (.c (.s "edges"))) (.v 5))]),
    .s (.v 2) (.v 5) (.l 1 [(.P (.v 3) (.v 6)),(.i (.P (.v 0) (.c (.s "edges"))) (.v 5))])] [.i (.d [(.K (.v 5) (.v 3)),(.q (.v 6) (.v 3))]) [.a 7 (.l 2 [(.i (.P (.v 0) (.c (.s "edges"))) (.v 5))]),
     .t (.v 3) (.v 6) (.l 0 [(.P (.v 3)<|.v 5),.v 7]),
     .s (.v 2) (.v 5) (.l 2 [(.l 1 [(.P (.v 3) (.v 5)),.v 7])])] []]]],
 .r (.T [.v 2,.v 3])]
noncomputable def ajE:ca:=["_law_passed","_law_passed_on","_law_back"]
noncomputable def UA:ca:=["list","range","len"]
def UB:Fr:=aX 50
theorem EZ:MX Uy UB ajE ae UA ae ae ae ae Uz 0:=aV
def UC:Fr:=aX 51
theorem ajG:MX RQ UC ae ae ae ae ae ae ae RT 0:=aV
def UD:Fr:=aX 52
theorem ajH:MX RU UD ahg ae ae ae ae ae ae RV 0:=aV
noncomputable def UE:ca:=["_law_rows","_law_goal","_law_way_here","_law_one","_law_other"]
noncomputable def UG:jp:=
 [.a 2 (.l 0 [(.P (.v 0) (.c (.s "above"))),(.P (.v 0) (.c (.s "here"))),.v 1]),
 .k [3,4] .z [.v 2,(.s (.v 2) (some<|.c<|.i 1) none)] [.i (.p .Eq (.i (.P (.v 0)<|.c<|.s "above")<|.v 4)<|.v 3) [.s (.P (.v 0)<|.c<|.s "latest") (.v 3)<|.v 4] [.s (.P (.v 0)<|.c<|.s "latest") (.v 4)<|.v 3]],
 .t (.v 0) (.c (.s "here")) (.v 1)]
noncomputable def ajI:ca:=["_law_way"]
noncomputable def ajJ:ca:=["zip"]
def UH:Fr:=aX 53
theorem ajK:MX UE UH ajI ae ajJ ae ae ae ae UG 0:=aV
noncomputable def UI:ca:=["_law_history","_law_rows","_law_cell","_law_here","_law_goal","_law_change_here","_law_node"]
noncomputable def UJ:jp:=
 [.a 3 (.P (.v 1) (.c (.s "here"))),
 .i (.p .Eq (.b .Mod (.v 2) (.c (.i 5))) (.c (.i 0))) [.a 4 (.b .Mod (.b .FloorDiv (.v 2) (.c (.i 5))) (.t .l [(.P (.v 1) (.c (.s "texts")))])),
  .d (.a 0 "go" (.v 0) [.v 4]),
  .d (.l 0 [.v 1,.v 4])] [.i (.d [(.p .Eq (.b .Mod (.v 2) (.c (.i 5))) (.c (.i 1))),(.p .Gt (.v 3) (.c (.i 0)))]) [.d (.a 1 "undo" (.v 0) []),
   .d (.l 0 [.v 1,(.i (.P (.v 1) (.c (.s "above"))) (.v 3))])] [.a 5 (.l 1 [(.b .FloorDiv (.v 2) (.c (.i 5))),(.i (.P (.v 1) (.c (.s "texts"))) (.v 3)),(.b .Mod (.b .FloorDiv (.v 2) (.c (.i 7))) (.c (.i 9)))]),
   .d (.Q .a (.P (.v 1)<|.c<|.s "above") [.v 3]),
   .d (.Q .a (.P (.v 1)<|.c<|.s "latest") [.c .a]),
   .d (.Q .a (.P (.v 1)<|.c<|.s "edges") [(.t .t [.v 5])]),
   .d (.Q .a (.P (.v 1)<|.c<|.s "texts") [(.l 2 [(.i (.P (.v 1)<|.c<|.s "texts")<|.v 3),.v 5])]),
   .a 6 (.a 2 "do" (.v 0) [.v 5]),
   .s (.P (.v 1)<|.c<|.s "latest") (.v 3) (.v 6),
   .t (.v 1) (.c (.s "here")) (.v 6)]]]
noncomputable def ajL:ca:=["_law_moved","_law_change","_law_done"]
noncomputable def ajM:ca:=["len","list"]
noncomputable def ajN:ca:=["go","undo","do"]
def UK:Fr:=aX 54
theorem ajO:MX UI UK ajL ae ajM ajN ae ae ae UJ 0:=aV
noncomputable def l9:ca:=["_law_history","_law_rows","_law_turn","_law_cell","_law_above","_law_nodes","_law_due"]
noncomputable def fO:jp:=
 [.a 4 (.P (.v 1) (.c (.s "above"))),
 .uV 5 (.C none [("_law_cell",3),("_law_above",4)] .f [(.t .l [.v 4])] none<|.b .Mod (.b .Add (.v 1)<|.v 0)<|.t .l [.v 2]),
 .i (.p .Eq (.v 2)<|.c<|.i 0) [.r<|.p .Eq (.a 0 "now" (.v 0) [])<|.P (.v 1)<|.c<|.s "here"] [],
 .i (.p .Eq (.v 2)<|.c<|.i 1) [.r<|.p .Eq (.a 1 "many" (.v 0) [])<|.t .l [.v 4]] [],
 .i (.p .Eq (.v 2)<|.c<|.i 2) [.r<|.p .Eq (.C none [("_law_history",0)] .l [.v 5] none<|.a 2 "size" (.v 1) [.v 0])<|.C none [("_law_rows",1)] .l [.v 5] none<|.t .l [(.i (.P (.v 1)<|.c<|.s "texts")<|.v 0)]] [],
 .i (.p .Eq (.v 2)<|.c<|.i 3) [.r<|.p .Eq (.C none [("_law_history",0)] .l [.v 5] none<|.a 3 "parent" (.v 1) [.v 0])<|.C none [("_law_above",4)] .l [.v 5] none<|.i (.v 1)<|.v 0] [],
 .i (.p .Eq (.v 2) (.c (.i 4))) [.uV 6 (.C none [("_law_above",4)] .l [.v 5] none (.C none [("_law_node",0),("_law_above",1)] .s [(.c (.i 1)),(.t .l [.v 1])] (some (.p .Eq (.i (.v 2) (.v 0)) (.v 1))) (.v 0))),
  .r (.p .Eq (.C none [("_law_history",0)] .l [.v 5] none (.a 4 "children" (.v 1) [.v 0])) (.v 6))] [],
 .i (.p .Eq (.v 2)<|.c<|.i 5) [.r<|.p .Eq (.a 5 "way" (.v 0) [(.P (.v 1)<|.c<|.s "here"),(.i (.v 5)<|.n<|.c<|.i 1)])<|.l 0 [.v 4,(.P (.v 1)<|.c<|.s "here"),(.i (.v 5)<|.n<|.c<|.i 1)]] [],
 .r (.l 1 [.v 0,.v 1])]
noncomputable def nI:ca:=["_law_way","_law_on_again"]
noncomputable def nJ:ca:=["now","many","size","parent","children","way"]
def fQ:Fr:=aX 55
theorem ajP:MY l9 fQ nI ae jz nJ ae ae ae fO 0 0:=by
 intro C W X G;have g:=G.toGood;show PS X (.Assign [.Name "_law_above" _] _ _) (dC W<|.a 4 _)
 with_reducible exact(lH G<|vd g (aM g) oC)
theorem ajQ:MY l9 fQ nI ae jz nJ ae ae ae fO 0 1:=λG=>have g:=G.toGood;(Fc (ln:=["_law_k"]) G (O) (O) (O) (Fb g<|oE g<|b_ (aM g) c6) ve<|λY g=>(xO g (xO g (aM g)<|aM g)<|oE g<|b_ (aM g) c6))
theorem ajR:MY l9 fQ nI ae jz nJ ae ae ae fO 0 2:=aV
theorem LX:MY l9 fQ nI ae jz nJ ae ae ae fO 0 3:=aV
theorem ajT:MY l9 fQ nI ae jz nJ ae ae ae fO 0 4:=aV
theorem ajU:MY l9 fQ nI ae jz nJ ae ae ae fO 0 5:=aV
theorem ajV:MY l9 fQ nI ae jz nJ ae ae ae fO 0 6:=λG=>have g:=G.toGood;(AV (vf g (aM g) gZ) (bR (Fc (ln:=["_law_node"]) G (O) (O) (O) (AR g<|aM g) ve<|λY g=>(AQ (ln:=["_law_k"]) g (O) (Mx g gZ<|oE g<|b_ (aM g) c6) (Mw λY g=>(vf g (qp g (aM g)<|aM g)<|aM g))<|λY g=>(aM g)))<|bR (sO<|Mo g (AQ (ln:=["_law_node"]) g (O) (AR g<|aM g) ve<|λY g=>(xR g (aM g)<|b_ (aM g) c6))<|aM g) ib) ib)
theorem ajW:MY l9 fQ nI ae jz nJ ae ae ae fO 0 7:=aV
theorem ajX:MY l9 fQ nI ae jz nJ ae ae ae fO 0 8:=by
 intro C W X G;have g:=G.toGood;show PS X (.Return (some _) _) (dC W<|.r _)
 with_reducible exact(sO<|lG g<|b_ (aM g)<|b_ (aM g) c6)
theorem ajY:MX l9 fQ nI ae jz nJ ae ae ae fO 0:=by
 intro C W X G;have e:gQ fQ=[iN fQ 0,iN fQ 1,iN fQ 2,iN fQ 3,iN fQ 4,iN fQ 5,iN fQ 6,iN fQ 7,iN fQ 8]:=O;have a:fO=[iO fO 0,iO fO 1,iO fO 2,iO fO 3,iO fO 4,iO fO 5,iO fO 6,iO fO 7,iO fO 8]:=O;rw[e,a]
 with_reducible exact bR (ajP G) (bR (ajQ G)<|bR (ajR G)<|bR (LX G)<|bR (ajT G)<|bR (ajU G)<|bR (ajV G)<|bR (ajW G)<|bR (ajX G)<|ib)
noncomputable def UL:ca:=["_law_history","_law_rows","_law_cell","_law_change_here","_law_edges","_law_spread_here","_law_k"]
noncomputable def UM:jp:=
 [.a 3 (.l 0 [(.b .FloorDiv (.v 2) (.c (.i 9))),(.i (.P (.v 1) (.c (.s "texts"))) (.P (.v 1) (.c (.s "here")))),(.b .Mod (.v 2) (.c (.i 9)))]),
 .q [4,5] (.l 1 [.v 1,(.t .t [.v 3])]),
 .i (.p .IsNot (.a 0 "foreign" (.v 0) [.v 3])<|.c .a) [.r<|.c<|.b false] [],
 .d (.Q .c (.v 3) []),
 .t (.v 1) (.c<|.s "edges") (.v 4),
 .t (.v 1) (.c<|.s "texts") (.C none [("_law_spread_here",5),("_law_rows",1)] .f [(.t .l [.v 4])] none<|.l 2 [(.i (.P (.v 2)<|.c<|.s "texts")<|.v 0),(.P (.v 1)<|.v 0)]),
 .g 6 .f [(.c<|.i 7)] [.i (.N<|.l 3 [.v 0,.v 1,(.b .Mod (.b .Add (.b .FloorDiv (.v 2)<|.c<|.i 7)<|.b .Mult (.v 6)<|.b .Add (.c<|.i 1)<|.b .Mod (.v 2)<|.c<|.i 6)<|.c<|.i 7),.v 2]) [.r<|.c<|.b false] []],
 .r (.c (.b true))]
noncomputable def ajZ:ca:=["_law_change","_law_spread","_law_done","_law_asked"]
noncomputable def aj0:ca:=["foreign"]
def UN:Fr:=aX 56
theorem Px:MX UL UN ajZ ae UA aj0 ae ae ae UM 0:=aV
noncomputable def UO:ca:=["_law_history"]
noncomputable def UP:jp:=
 [.EH 1 1 0 [.d (.a 0 "redo" (.v 0) [])] [.r (.c (.b true))],
 .r (.c (.b false))]
noncomputable def aj2:ca:=["redo"]
def UQ:Fr:=aX 57
theorem aj3:MX UO UQ ae Be ae aj2 ae ae ae UP 0:=λG=>have g:=G.toGood;(bR (aiH G (O) (O) (λG=>(λg=>(bR (AU<|E_ g<|aM g) ib)) G.toGood)<|λG=>(λg=>(bR (sO E8) ib)) G.toGood)<|bR (sO E8) ib)
noncomputable def UR:ca:=["_law_history","_law_rows","_law_at","_law_told"]
noncomputable def US:jp:=
 [.a 2 (.P (.v 1) (.c (.s "here"))),
 .R (.p .IsNot (.i (.P (.v 1) (.c (.s "latest"))) (.v 2)) (.c .a)) [.a 2 (.i (.P (.v 1) (.c (.s "latest"))) (.v 2)),
  .a 3 (.a 0 "redo" (.v 0) []),
  .i (.o [(.N<|.l 0 [.v 3,(.i (.P (.v 1)<|.c<|.s "edges")<|.v 2)]),(.p .NotEq (.a 1 "now" (.v 0) [])<|.v 2)]) [.r<|.c<|.b false] [],
  .d (.Q .c (.v 3) [])],
 .i (.N<|.l 1 [.v 0]) [.r<|.c<|.b false] [],
 .R (.p .NotEq (.v 2) (.P (.v 1) (.c (.s "here")))) [.a 3 (.a 2 "undo" (.v 0) []),
  .i (.N<|.l 0 [.v 3,(.l 2 [(.i (.P (.v 1)<|.c<|.s "edges")<|.v 2)])]) [.r<|.c<|.b false] [],
  .d (.Q .c (.v 3) []),
  .a 2 (.i (.P (.v 1) (.c (.s "above"))) (.v 2))],
 .r (.p .Eq (.a 1 "now" (.v 0) []) (.v 2))]
noncomputable def aj4:ca:=["_law_same","_law_no_redo","_law_back"]
noncomputable def aj5:ca:=["redo","now","undo"]
def UT:Fr:=aX 58
theorem V6:MX UR UT aj4 ae ae aj5 ae ae ae US 0:=aV
noncomputable def UU:ca:=["_law_history","_law_edges","_law_above","_law_node","_law_told"]
noncomputable def UW:jp:=
 [.g 3 .s [(.c (.i 1)),(.t .l [.v 1])] [.d (.a 0 "go" (.v 0) [(.i (.v 2) (.v 3))]),
  .a 4 (.a 0 "go" (.v 0) [.v 3]),
  .i (.N<|.l 0 [.v 4,(.i (.v 1)<|.v 3)]) [.r<|.c<|.b false] [],
  .d (.Q .c (.v 4) []),
  .a 4 (.a 1 "undo" (.v 0) []),
  .i (.N<|.l 0 [.v 4,(.l 1 [(.i (.v 1)<|.v 3)])]) [.r<|.c<|.b false] [],
  .d (.Q .c (.v 4) []),
  .i (.o [(.N (.l 0 [(.a 2 "redo" (.v 0) []),(.i (.v 1) (.v 3))])),(.p .NotEq (.a 3 "now" (.v 0) []) (.v 3))]) [.r (.c (.b false))] []],
 .r (.c (.b true))]
noncomputable def Qb:ca:=["_law_same","_law_back"]
noncomputable def YO:ca:=["go","undo","redo","now"]
def UX:Fr:=aX 59
theorem aj9:MX UU UX Qb ae jz YO ae ae ae UW 0:=aV
noncomputable def rD:ca:=["_law_script","_law_text_here","_law_history","_law_rows","_law_cell"]
noncomputable def iA:jp:=
 [.a 1 (.l 0 [(.l 1 [.v 0,(.c (.i 1))]),(.l 2 [(.l 1 [.v 0,(.c (.i 0))])])]),
 .a 2 (.m 0 [(.t .l [.v 1])]),
 .a 3 (.x oH [(.c<|.s "above"),(.L [.c .a]),(.c<|.s "latest"),(.L [.c .a]),(.c<|.s "edges"),(.L [(.L [])]),(.c<|.s "texts"),(.L [.v 1]),(.c<|.s "here"),(.c<|.i 0)]),
 .g 4 .l [(.s (.v 0) (some<|.c<|.i 4)<|some<|.c<|.i 14)] [.d<|.l 3 [.v 2,.v 3,.v 4]],
 .g 4 .l [(.L [(.l 1 [.v 0,(.c<|.i 2)]),(.l 1 [.v 0,(.c<|.i 3)])])] [.i (.N<|.l 4 [.v 2,.v 3,.v 4]) [.r<|.c<|.b false] []],
 .r (.l 5 [.v 2,(.P (.v 3) (.c (.s "edges"))),(.P (.v 3) (.c (.s "above")))])]
noncomputable def uj:ca:=["_law_text","_law_cell_at","_law_size","_law_deed","_law_foreign","_law_edges_right"]
noncomputable def uk:ca:=["History"]
def jk:Fr:=aX 60
theorem aj_:MY rD jk uj ae jT ae uk ae ae iA 0 0:=by
 intro C W X G;have g:=G.toGood;show PS X (.Assign [.Name "_law_text_here" _] _ _) (dC W<|.a 1 _)
 with_reducible exact(lH G<|lG g<|b_ (lG g<|b_ (aM g)<|b_ gZ c6)<|b_ (lG g<|b_ (lG g<|b_ (aM g)<|b_ gZ c6) c6) c6)
theorem aka:MY rD jk uj ae jT ae uk ae ae iA 0 1:=by
 intro C W X G;have g:=G.toGood;show PS X (.Assign [.Name "_law_history" _] _ _) (dC W<|.a 2 _)
 with_reducible exact(lH G<|Mp g<|b_ (oE g<|b_ (aM g) c6) c6)
theorem akb:MY rD jk uj ae jT ae uk ae ae iA 0 2:=by
 intro C W X G;show PS X (.Assign [.Name "_law_rows" _] _ _) (dC W<|.a 3 _)
 with_reducible exact(lH G<|FC<|sT oC (sN<|b_ E9 c6)<|sT oC (sN<|b_ E9 c6)<|sT oC (sN<|b_ (sN c6) c6)<|sT oC (sN<|b_ (aM G.toGood) c6)<|sT oC gZ FA)
theorem W2:MY rD jk uj ae jT ae uk ae ae iA 0 3:=aV
theorem akd:MY rD jk uj ae jT ae uk ae ae iA 0 4:=aV
theorem ake:MY rD jk uj ae jT ae uk ae ae iA 0 5:=by
 intro C W X G;have g:=G.toGood;show PS X (.Return (some _) _) (dC W<|.r _)
 with_reducible exact(sO<|lG g<|b_ (aM g)<|b_ (vd g (aM g) oC)<|b_ (vd g (aM g) oC) c6)
theorem akf:MX rD jk uj ae jT ae uk ae ae iA 0:=by
 intro C W X G;have e:gQ jk=[iN jk 0,iN jk 1,iN jk 2,iN jk 3,iN jk 4,iN jk 5]:=O;have a:iA=[iO iA 0,iO iA 1,iO iA 2,iO iA 3,iO iA 4,iO iA 5]:=O;rw[e,a]
 with_reducible exact bR (aj_ G) (bR (aka G)<|bR (akb G)<|bR (W2 G)<|bR (akd G)<|bR (ake G)<|ib)
inductive UY(v:db)(H:Hp)(Q:VK)(E:XK):Prop|i(c:Int)(x:Str)(m:Int)(_:v=[.i c,.s x,.i m])(_:good x)(_:x.length<=16000)(_:0<=m)(_:m<=100)(_:∀b Z B h q,ar H Z->H b=none->Z b=some (.l B)->aD Z B h->(∀p∈h,eK p)->h.length<=101->ao h<=40*m.toNat->Yp x.cps.toList h q->Q (.r b) Z)
inductive Iu(b:Do)(H:Hp)(c m:Int)(x:Str)(i:Nat)(F:St)(u:Hp):Prop|i(a v w z:sB)(B:db)(h:cr)(l1 l2 q:bn)(_:F=[some<|.i c,some<|.s x,some<|.i m,some<|.r b,some<|.i ((l1.length:Nat):Int),a,v,w,z])(_:ar H u)(_:u b=some (.l B))(_:aD u B h)(_:h.length=i)(_:(∀p∈h,eK p))(_:ao h<=40*i)(_:x.cps.toList=l1++l2)(_:Yp l1 h q):Iu b H c m x i F u
abbrev adB(K:Frag)(E:XK):ba:=aG K ad5 [] (E:=E)
theorem akg{K:Frag}(vs:db)(H:Hp)(Q:VK)(E:XK)(h0:UY vs H Q E):av (adB K E) Nf {nx:=λ_ Z=>Q .a Z,r:=Q} (WR Nd vs) H:=by
 obtain⟨c,x,m,rfl,hx,GG,BD,Gp,k⟩:=h0;refine⟨Y_ _,λb hb=>?_⟩;refine rT _ O m O aH ⟨aH,rX (lo:=0) (n:=m.toNat) (Iu b H c m x)
 ⟨none,none,none,none,[],[],[],x.cps.toList,[],O,V3 hb,aj,.nil,O,(λp X=>by cases X),ZX _,O,.N⟩ ?_ ?_⟩
 rintro i F u hi ⟨u0,v,w,z,B,h,l1,l2,q,rfl,s2,T,bE,hl,ay,W,L,U⟩;have Y:=KB bE;have d':x.length=l1.length+l2.length:=by rw[YM,L];simp
 refine pB _ O _ O ⟨c,_,O,?_⟩;generalize mixed c (50+(0+(i:Int)))=j;refine⟨amW,λt1 g6=>?_⟩;have j0:0<=j / 4 % 6:=X7 _ aQ;have j1:j / 4 % 6<6:=Yw _ aQ;obtain⟨I,e5,b',i'⟩:=ad4 (j / 4 % 6) j0 j1;refine⟨_,O,⟨aQ,aQ⟩,(by show(0:Int) <6;decide),.inl (n4 _ _ _ _ O O (ag.of aj) e5 ?_)⟩;have s3:ar H (upd u t1<|.l [.i 1,.i 2,.i 0,.i 3,.i 5,.i 40]):=s2.trans (V3 g6);have P:upd u t1 (.l [.i 1,.i 2,.i 0,.i 3,.i 5,.i 40]) b=some (.l B):=by rw[aw<|aJ T g6];exact T
 have vo:=bE.mono (bB<|V3 (o:=.l [.i 1,.i 2,.i 0,.i 3,.i 5,.i 40]) g6);generalize upd u t1 (.l [.i 1,.i 2,.i 0,.i 3,.i 5,.i 40])=H3 at s3 P vo;refine⟨_,O,_,O,cx (Y4 GG (Xk _ _)),_,O,trivial,?_⟩;obtain⟨g,UZ⟩:∃g,g=(if (x.length:Int) - (l1.length:Int) <I then (x.length:Int) - (l1.length:Int) else I):=⟨_,O⟩;have c':0<=g/\g<=40/\g<= (l2.length:Int):=by
  rw[UZ];split<;>lia
 show av _ _ _ [some<|V.i c,some<|V.s x,some<|V.i m,some<|V.r b,some<|V.i ((l1.length:Nat):Int),some<|V.i<|0+(i:Int),some<|V.i j,some<|V.i I,some<|V.i (if (x.length:Int) - (l1.length:Int) <I then (x.length:Int) - (l1.length:Int) else I)] H3;rw[<-UZ];obtain⟨A,lb,e2,Iv⟩:∃A lb,l2=A++lb/\g=(A.length:Int):=⟨l2.take g.toNat,l2.drop g.toNat,(Yt _ _).symm,by rw[Xg];lia⟩;have R:∀(p:Pt)(M:Hp),ar H M->M b=some (.l B)->aD M B h->∀f,M f=none->
   upd M f (.t [.s p.word,p.val]) b=some (.l B)/\B.length<sizeLine/\
    ar H (upd (upd M f<|.t [.s p.word,p.val]) b<|.l<|B++[.r f])/\aD (upd (upd M f<|.t [.s p.word,p.val]) b<|.l<|B++[.r f]) (B++[.r f]) (h++[p]):=by
  intro p M s4 Iw h' f W;have C9:b≠f:=aJ Iw W;refine⟨(by rw[aw C9];exact Iw),bY aH,qw s4 hb<|sameBut (V3 W) aE.upd,?_⟩;refine aD.snoc (h'.mono<|(sameBut (V3 W) aE.upd).bx Iw) ⟨f,O,?_⟩;rw[aw C9.symm,aj]
 have U0:∀p,eK p->∀q∈h++[p],eK q:=by
  intro p X q hq;rcases Z4.mp hq with z|z
  exact ay q z;rw[Ya.mp z];exact X
 have a':∀c∈A,SG.cps.contains c=true:=λc hc=>hx.2 c (by rw[L,e2];simp[hc]);refine⟨_,O,(by show(0:Int) <4;decide),_,O,?_⟩;refine gH (λh0=>?_)<|λh0=>?_;have h3:j % 4=3:=by
  have:=Os (show decide (V.i (j % 4)=V.i 3)=true from by rw[<-WG (decide _)];exact h0);injection this
 refine⟨_,O,.inl ⟨O,_,ag.of P⟩,_,O,_,O,j,I,O,b',aH,λy S gy ly G=>⟨cM,λf J=>?_⟩⟩;obtain⟨a1,a2,a3,a4⟩:=YG (R (.p y) S (s3.trans G) (G _ _ P) (vo.mono<|bB G) f J);refine⟨B,a1,a2,?_⟩;refine⟨_,O,(by show(0:Int) <4;decide),trivial,_,O,iF ?_<|ZN aH⟩;have D:=U.app (Yp.t (s:=y) Yp.N);rw[jP,jP] at D;refine⟨_,_,_,_,B++[V.r f],h++[Pt.p y],l1,l2,_,O,a3,aj,a4,by simp[hl],U0 _ ⟨gy,aH⟩,?_,L,D⟩;rw[Gh];show ao h+(y.length+0)<=_;lia;have h3:j % 4≠3:=λz=>h0 (by show(false ^^ decide (V.i (j % 4)=V.i 3))=true;rw[z];rfl);have h4:j % 4<3:=by have:=Yw j (show(0:Int) <4 by decide);lia
 have Y':∀(p:Pt)(S:Hp)(dP:db)(q':bn),ar H S->S b=some (.l dP)->aD S dP (h++[p])->eK p->dq p<=40->Yp (l1++A) (h++[p]) q'->
   Iu b H c m x (i+1) [some<|V.i c,some<|V.s x,some<|V.i m,some<|V.r b,some<|V.i<|(l1.length:Int)+g,some<|V.i<|0+(i:Int),some<|V.i j,some<|V.i I,some<|V.i g] S:=by
  intro p S dP q' G h5 f' rp tp D;refine⟨some<|.i<|0+(i:Int),some<|.i j,some<|.i I,some<|.i g,dP,h++[p],l1++A,lb,q',?_,G,h5,f',by simp[hl],U0 p rp,?_,by rw[L,e2];simp,D⟩;rw[JB,Iv,Xd];rw[Gh];have:ao [p]=dq p:=by simp[ao]
  lia
 refine⟨_,O,(by show(0:Int) <4;decide),_,O,?_⟩;refine gH (λh5=>?_)<|λh5=>?_;refine⟨_,O,.inl ⟨O,_,ag.of P⟩,_,O,_,O,_,O,_,O,_,O,_,O,cx (Y4 GG (Xk _ _)),?_⟩;rw[OR (by rw[L,e2]) g Iv];refine⟨cM,λf J=>?_⟩;obtain⟨a1,a2,a3,a4⟩:=R (.c ⟨A.toArray⟩) H3 s3 P vo f J;refine⟨B,a1,a2,?_⟩;refine⟨_,O,(by show(0:Int) <4;decide),trivial,_,O,iT ?_<|W_ h4⟩;refine⟨_,O,_,O,?_⟩;have D:=U.app (Yp.C (s:=⟨A.toArray⟩) Yp.N);rw[jP] at D;have ll:(⟨A.toArray⟩:Str).length=A.length:=by rw[YM]
 exact Y' (.c ⟨A.toArray⟩) _ _ _ a3 aj a4 ⟨⟨by rw[ll];lia,a'⟩,by rw[ll];lia⟩ (by show(⟨A.toArray⟩:Str).length<=40;rw[ll];lia) D;refine⟨_,O,.inl ⟨O,_,ag.of P⟩,_,O,cM,λf J=>?_⟩;obtain⟨a1,a2,a3,a4⟩:=R (.k g) H3 s3 P vo f J;refine⟨B,a1,a2,?_⟩;refine⟨_,O,(by show(0:Int) <4;decide),trivial,_,O,iT ?_<|W_ h4⟩;refine⟨_,O,_,O,?_⟩;have D:=U.app (Yp.k (a:=A) Iv Yp.N);rw[jP] at D;exact Y' (.k g) _ _ _ a3 aj a4 c'.1 (by show 0<=40;decide) D;rintro F u ⟨u0,v,w,z,B,h,l1,l2,q,rfl,s2,T,bE,hl,ay,W,L,U⟩;have Y:=KB bE;have d':x.length=l1.length+l2.length:=by rw[YM,L];simp
 refine⟨_,O,_,O,cx (Y4 GG (Xk _ _)),_,O,trivial,cM,λf J=>⟨de,λd hd=>?_⟩⟩;have C9:b≠f:=aJ T J;have vC:upd u f (.t [.s "keep",.i<|(x.length:Int) - (l1.length:Int)]) b=some (.l B):=by rw[aw C9];exact T
 have xI:b≠d:=aJ vC hd;have U1:f≠d:=λz=>by rw[<-z,aj] at hd;cases hd
 have s4:ar u (upd (upd u f<|.t [.s "keep",.i<|(x.length:Int) - (l1.length:Int)]) d<|.l [.r f]):=(V3 J).trans (V3 hd);refine .inl ⟨b,d,B,[.r f],O,O,(by rw[aw xI];exact vC),aj,cx bc,λe he=>?_⟩;have G:=s4.trans (V3 (o:=.l (B++[.r f])) he);have g':u e=none:=s4.free he;have D:=U.app (Yp.k (a:=l2) (n:=(x.length:Int) - (l1.length:Int)) aH Yp.N);rw[jP,<-L] at D;have e':f≠e:=λz=>by rw[<-z,aw U1,aj] at he;cases he
 refine k e _ (B++[.r f]) (h++[.k<|(x.length:Int) - (l1.length:Int)]) _ (s2.trans G) (s2.free g') aj (aD.snoc (bE.mono<|bB G) ⟨f,O,?_⟩) ?_ bc ?_ D;rw[aw e',aw U1,aj];rfl;intro p X;rcases Z4.mp X with z|z
 exact ay p z;rw[Ya.mp z];show(0:Int)<=_;lia;rw[Gh];show ao h+(0+0)<=40*m.toNat;exact W
abbrev RZ:wr:=[("_law_neat",mX),("_law_parts",UY)]
inductive zl(v:db)(H:Hp)(Q:VK)(E:XK):Prop|i(c:Int)(x:Str)(m:Int)(_:v=[.i c,.s x,.i m])(_:good x)(_:x.length<=16000)(_:0<=m)(_:m<=100)(_:∀b Z B h q,ar H Z->H b=none->Z b=some (.l B)->aD Z B h->(∀p∈h,aK p)->hY "" h=true->h.length<=305->ao h<=40*m.toNat->Yp x.cps.toList h q->Q (.r b) Z)
abbrev afI(K:Frag)(E:XK):ba:=aG K RZ [] (E:=E)
theorem akq{K:Frag}(v:db)(H:Hp)(Q:VK)(E:XK)(w:zl v H Q E):av (afI K E) Nj {nx:=λY Z=>Q .a Z,r:=Q} (WR Ni v) H:=by
 obtain⟨c,x,m,rfl,i,F,I,G,k⟩:=w;refine pB _ O _ O ⟨_,O,c,x,m,O,i,F,I,G,λb t B h q s L o p e J l j=> ⟨b,B,h,O,o,p,(Y4 J (Xk _ _)),aH,λd u z f C n g=>?_⟩⟩;obtain⟨A,y,Y⟩:=qF h e aH;have D:=yd h;rw[qD h e] at D;exact k d u z (dr h) q (s.trans f) (s.free C) n g y A aH (by rw[tK h e];exact l)<|vw j
end
noncomputable def gO(c:Nat):List bn->List bn
 |[]=>[[c]]
 |p::h=>(c::p)::h
def gp:lc->List bn×bi
 |[]=>([[]],[])
 |.P c::xs=>(gO c (gp xs).1,(gp xs).2)
 |.K::xs=>([]::(gp xs).1,none::(gp xs).2)
 |.C c::xs=>([]::(gp xs).1,some c::(gp xs).2)
theorem jm:∀xs:lc,∃p h,(gp xs).1=p::h
 |[]=>⟨_,_,O⟩
 |.P c::xs=>by
  obtain⟨p,h,e⟩:=jm xs;exact⟨c::p,h,by show gO c (gp xs).1=_;rw[e];rfl⟩
 |.K::xs=>⟨_,_,O⟩
 |.C c::xs=>⟨_,_,O⟩
theorem pK:∀xs:lc,(gp xs).1.length=(gp xs).2.length+1
 |[]=>O
 |.P c::xs=>by
  obtain⟨p,h,e⟩:=jm xs;have:=pK xs;show(gO c (gp xs).1).length=_;rw[e] at this⊢;exact this
 |.K::xs=>by show(gp xs).1.length+1=(gp xs).2.length+1+1;rw[pK xs]
 |.C c::xs=>by show(gp xs).1.length+1=(gp xs).2.length+1+1;rw[pK xs]
theorem rE:∀xs:lc,(gp xs).2.length=bC xs
 |[]=>O
 |.P c::xs=>rE xs
 |.K::xs=>by show(gp xs).2.length+1=bC xs+1;rw[rE xs]
 |.C c::xs=>by show(gp xs).2.length+1=bC xs+1;rw[rE xs]
noncomputable def l_(s:bn):List bn->List bn
 |[]=>[]
 |[p]=>[p++s]
 |p::q::r=>p::l_ s (q::r)
theorem Iy{h:List bn}(a:h≠ []):l_ s (p::h)=p::l_ s h:=by
 cases h with
 |nil=>exact absurd O a
 |cons q r=>rfl
theorem akr:∀h:List bn,h≠ []->l_ s (gO c h)=gO c (l_ s h)
 |[],a=>absurd O a
 |[p],_=>O
 |p::q::r,_=>O
theorem C_(s:bn):∀xs:lc,gp (xs++s.map .P)=(l_ s (gp xs).1,(gp xs).2)
 |[]=>by
  induction s with
  |nil=>rfl
  |cons c s i=>show(gO c (gp<|s.map .P).1,(gp<|s.map .P).2)=_;rw[show gp (s.map At.P)=_ from i];rfl
 |.P c::xs=>by
  obtain⟨p,h,e⟩:=jm xs;show(gO c (gp<|xs++s.map .P).1,(gp<|xs++s.map .P).2)=(l_ s<|gO c (gp xs).1,(gp xs).2);rw[C_ s xs,akr _ aH]
 |.K::xs=>by
  obtain⟨p,h,e⟩:=jm xs;show([]::(gp<|xs++s.map .P).1,none::(gp<|xs++s.map .P).2)=(l_ s ([]::(gp xs).1),none::(gp xs).2);rw[C_ s xs,Iy aH]
 |.C c::xs=>by
  obtain⟨p,h,e⟩:=jm xs;show([]::(gp<|xs++s.map .P).1,some c::(gp<|xs++s.map .P).2)=(l_ s ([]::(gp xs).1),some c::(gp xs).2);rw[C_ s xs,Iy aH]
theorem aks{r:List bn}:∀h:List bn,h≠ []->gO c h++r=gO c (h++r)
 |[],a=>absurd O a
 |p::h,_=>O
noncomputable def jn:ww->At
 |none=>.K
 |some c=>.C c
theorem zm(s:bi):∀xs:lc,gp (xs++s.map jn)=((gp xs).1++List.replicate s.length [],(gp xs).2++s)
 |[]=>by
  induction s with
  |nil=>rfl
  |cons o s i=>
   cases o with
   |none=>show([]::(gp<|s.map jn).1,none::(gp<|s.map jn).2)=_;rw[show gp (s.map jn)=_ from i];rfl
   |some c=>show([]::(gp<|s.map jn).1,some c::(gp<|s.map jn).2)=_;rw[show gp (s.map jn)=_ from i];rfl
 |.P c::xs=>by
  obtain⟨p,h,e⟩:=jm xs;show(gO c (gp<|xs++s.map jn).1,(gp<|xs++s.map jn).2)=(gO c (gp xs).1++_,_);rw[zm s xs,aks _ aH];rfl
 |.K::xs=>by
  show([]::(gp<|xs++s.map jn).1,none::(gp<|xs++s.map jn).2)=_;rw[zm s xs];rfl
 |.C c::xs=>by
  show([]::(gp<|xs++s.map jn).1,some c::(gp<|xs++s.map jn).2)=_;rw[zm s xs];rfl
noncomputable def Iz:v4->v4->lc
 |some none,some none=>[.K]
 |some none,some (some c)=>[.C c]
 |_,_=>[]
def wk(m p:bn)(a b:v4):lc:=rK m.length++(p.map .P++Iz a b)
def mg:List bn->List bn->bi->bi->lc
 |m::s,p::h,c,l=>wk m p c.head? l.head?++mg s h c.tail l.tail
 |_,_,_,_=>[]
theorem akt{a:bi}(d:s≠ [])(b:p≠ []):mg (gO c s) p a l=.K::mg s p a l:=by
 match s,p,d,b with
 |m::s,p::h,_,_=>
  rfl
theorem U2{xs B o:lc}(g:dm xs B o ts):ts=mg (gp xs).1 (gp B).1 (gp xs).2 (gp B).2:=by
 induction g with
 |n=>rfl
 | @P c xs B o ts _ i=>
  obtain⟨p,h,e⟩:=jm xs;obtain⟨q,qs,b⟩:=jm B;show _=mg (gO c (gp xs).1) (gp B).1 (gp xs).2 (gp B).2;rw[akt aH aH,<-i]
 | @p c xs B o ts f _ i=>
  obtain⟨q,qs,b⟩:=jm B;obtain⟨m,e⟩:∃m,(gp xs).1=[]::m:=by
   cases xs with
   |nil=>exact⟨_,O⟩
   |cons a xs=>
    cases a with
    |P d=>exact absurd O (f d xs)
    |K=>exact⟨_,O⟩
    |C d=>exact⟨_,O⟩
  show _=mg (gp xs).1 (gO c (gp B).1) (gp xs).2 (gp B).2;rw[i,e,b];rfl
 |k Y i=>rw[i];rfl
 |c Y i=>rw[i];rfl
 |C Y i=>rw[i];rfl
 |a Y i=>rw[i];rfl
noncomputable def j_:v4->v4->cr
 |some none,some none=>[.k 1]
 |some none,some (some c)=>[.c ⟨#[c]⟩]
 |_,_=>[]
def jJ(m p:bn)(a b:v4):cr:=[.k (m.length:Nat),.p ⟨p.toArray⟩]++j_ a b
def rF:List bn->List bn->bi->bi->cr
 |m::s,p::h,c,l=>jJ m p c.head? l.head?++rF s h c.tail l.tail
 |_,_,_,_=>[]
theorem U3(a b:v4):ah (j_ a b)=Iz a b:=by
 cases a with
 |none=>rfl
 |some a=>
  cases a with
  |some c=>rfl
  |none=>
   cases b with
   |none=>rfl
   |some b=>cases b<;>rfl
theorem aku(m p:bn)(a b:v4):ah (jJ m p a b)=wk m p a b:=by
 unfold jJ wk;rw[fg,U3,<-Xm];congr 1;show rK (m.length:Int).toNat++(((⟨p.toArray⟩:Str).cps.toList.map At.P)++[])=_;rw[jP,WN]
theorem IA:∀(s h:List bn)(c l:bi),ah (rF s h c l)=mg s h c l
 |[],_,_,_=>O
 |_::_,[],_,_=>O
 |m::s,p::h,c,l=>by
  show ah (jJ m p c.head? l.head?++rF s h c.tail l.tail)=_;rw[fg,aku,IA s h];rfl
theorem Dc{xs B o:lc}(h:dm xs B o ts):∀a:At,a≠ .K->a∈ts->a∈B:=by
 induction h with
 |n=>exact λa Y h=>h
 |P Y i=>
  intro a n h;rcases X9.mp h with h|h
  cases n h;exact i a n h
 |p Y Y i=>
  intro a n h;rcases X9.mp h with h|h
  rw[h];exact .head _;exact .tail _ (i a n h)
 |k Y i=>
  intro a n h;rcases X9.mp h with h|h
  cases n h;exact .tail _ (i a n h)
 |c Y i=>
  intro a n h;rcases X9.mp h with h|h
  rw[h];exact .head _;exact .tail _ (i a n h)
 |C Y i=>exact λa n h=>.tail _ (i a n h)
 |a Y i=>exact λa n h=>.tail _ (i a n h)
theorem U4{xs B o:lc}(h:dm xs B o ts):cnt ts<=cnt B:=by
 induction h with
 |n=>exact ZX _
 |P Y i=>exact i
 |p Y Y i=>exact Nat.succ_le_succ i
 |k Y i=>exact i
 |c Y i=>exact Nat.succ_le_succ i
 |C Y i=>exact i
 |a Y i=>exact Nat.le_succ_of_le i
theorem wm{a:At}(b:p∈h)(c:a∈aS p):a∈ah h:=by
 exact WO.mpr ⟨_,Z0 b,c⟩
theorem wo(t:∀p∈h,aK p)(b: .P c∈ah h\/ .C c∈ah h):SG.cps.contains c=true:=by
 have j:∀a:At,(a=.P c\/a=.C c)->a∈ah h->SG.cps.contains c=true:=λa g r=>by
  obtain⟨l,q,i⟩:=WO.mp r;obtain⟨p,m,rfl⟩:=X_.mp q;have o:=t p m;cases p with
  |k n=>
   have:=List.eq_of_mem_replicate (show a∈rK n.toNat from i);rcases g with rfl|rfl<;>cases this
  |p s=>
   obtain⟨d,f,rfl⟩:=X_.mp (show a∈s.cps.toList.map At.P from i);rcases g with e|e<;>cases e
   exact o.1.2 _ f
  |c s=>
   obtain⟨d,f,rfl⟩:=X_.mp (show a∈s.cps.toList.map At.C from i);rcases g with e|e<;>cases e
   exact o.1.2 _ f
 rcases b with b|b
 exact j _ (.inl O) b;exact j _ (.inr O) b
theorem IB:∀(s h:List bn)(c l:bi)(n:Int),.k n∈rF s h c l->0<=n
 |[],_,_,_,n,a=>by cases ‹List bn› <;>cases a
 |_::_,[],_,_,n,a=>by cases a
 |m::s,p::h,c,l,n,a=>by
  rcases Z4.mp (show Pt.k n∈jJ m p c.head? l.head?++rF s h c.tail l.tail from a) with a|a
  rcases Z4.mp (show Pt.k n∈ [.k (m.length:Nat),.p ⟨p.toArray⟩]++j_ c.head? l.head? from a) with a|a
  simp only[X9,Yy,M2] at a;rcases a with a|a
  cases a;exact Wx _;cases a;unfold j_ at a;split at a;simp at a;cases a;decide;simp only[X9,Yy,M2] at a;cases a;cases a;exact IB s h _ _ n a
abbrev fi(o E':cr):cr:=rF (gp<|ah o).1 (gp<|ah E').1 (gp<|ah o).2 (gp<|ah E').2
theorem U5{n:bn}(j:∀p∈E',aK p)(P:XJ one E' h qs l m n)(y:ao E'<=100000):dr (fi one E')=qs/\ao (fi one E')<=ao E':=by
 obtain⟨w,ts,a,z,v⟩:=P.Ql;have x:ah (fi one E')=ts:=by rw[IA,<-(U2 a)]
 have t:=by
  have d:=U4 a;rw[<-x,iL,iL] at d;exact d
 have r:∀p∈fi one E',eK p:=λp g=>by
  have b:∀s:Str,(p=.p s\/p=.c s)->s.length<=ao (fi one E'):=λs f=>by
   have:=vv g;rcases f with rfl|rfl<;>exact this
  have i:∀s:Str,(p=.p s\/p=.c s)->∀c∈s.cps.toList,SG.cps.contains c=true:=λs f c d=>by
   rcases f with rfl|rfl
   have e:=wm g (Z0 d);rw[x] at e;exact wo j<|.inl<|Dc a _ aH e;have e:=wm g (Z0 d);rw[x] at e;exact wo j<|.inr<|Dc a _ aH e
  cases p with
  |k n=>exact IB _ _ _ _ n g
  |p s=>have:=b s (.inl O);exact⟨⟨aH,i s<|.inl O⟩,(Y4 this (Y4 t y))⟩
  |c s=>have:=b s (.inr O);exact⟨⟨aH,i s<|.inr O⟩,(Y4 this (Y4 t y))⟩
 obtain⟨u,q,Y⟩:=qF _ r (Y4 t y);refine⟨BE _ _ "" "" u P.Qj q P.qP ?_,t⟩;rw[<-qD _ r,qI _ λp a=>yg (r p a),x,v]
noncomputable def sV(h:List bn):db:=h.map λp=>V.s ⟨p.toArray⟩
noncomputable def oV:ww->V
 |none=>.a
 |some c=>.s ⟨#[c]⟩
theorem anS(v:V):∀n:Nat,(List.replicate n [v]).flatten=List.replicate n v
 :=by simp
section
variable{K:Frag}{H Z:Hp}{Q:VK}{W:ba}{F:St}{i j:Int}
theorem akv{a:Str}(h:a.length+b.length<=1000000)(q:Q (.s<|a++b) H):og K .Add (.s a) (.s b) H Q:=⟨cx h,q⟩
theorem Dd(e:H a=some (.l xs))(d:H b=some (.l B))(h:xs.length+B.length<=1000000)(q:∀c,H c=none->Q (.r c) (upd H c<|.l<|xs++B)):og K .Add (.r a) (.r b) H Q:=
 .inl ⟨a,b,xs,B,O,O,e,d,cx h,q⟩
theorem U7(h:H a=some (.l [v]))(b:n<=1000000)(q:∀c,H c=none->Q (.r c) (upd H c<|.l<|List.replicate n v)):og K .Mult (.r a) (.i (n:Nat)) H Q:=by
 refine p4 a _ _ O O h aH aH (cx (by show 1*n<=_;lia)) (λc f=>?_);rw[anS];exact q c f
theorem zo{a:RE}(h:af W a F H λx t=>ou W.K .t [x] t Q):af W (.t .t [a]) F H Q:=h
theorem U8(s:Str):(s==s)=true:=by simp
end
theorem zK(s z:bn):∀A:List bn,l_ s (A++[z])=A++[z++s]
 |[]=>O
 |p::A=>by
  show l_ s (p::(A++[z]))=p::(A++[z++s]);rw[Iy aP,zK s z A]
theorem U9{a:Type}:∀{l:List a},l≠ []->∃A z,l=A++[z]
 |l,h=>⟨l.dropLast,l.getLast h,(wH h).symm⟩
theorem akw(a b:bn):(⟨a.toArray⟩:Str)++(⟨b.toArray⟩:Str)=⟨(a++b).toArray⟩:=by
 show(⟨a.toArray++b.toArray⟩:Str)=_;rw[List.append_toArray]
theorem akx(s:Str):(⟨s.cps.toList.toArray⟩:Str)=s:=O
section
variable{K:Frag}{H Z:Hp}
inductive pL(v:db)(H:Hp)(Q:VK)(E:XK):Prop|i(a:Do)(xs:db)(h:cr)(_:v=[.r a])(_:H a=some (.l xs))(_:aD H xs h)(_:(∀p∈h,aK p))(_:cG h<=10000)(_:ao h<=10000)(_:h.length<=100000)(_:∀b c d Z,ar H Z->H c=none->H d=none->Z b=some (.t [.r c,.r d])->Z c=some (.l<|sV (gp<|ah h).1)->Z d=some (.l<|(gp<|ah h).2.map oV)->Q (.r b) Z)
theorem zp(h:cr)(d:∀p∈h,aK p):bC (ah h)=cG h:=by
 induction h with
 |nil=>rfl
 |cons p h i=>
  rw[cR];have o:∀xs B:lc,bC (xs++B)=bC xs+bC B:=by
   intro xs B;induction xs with
   |nil=>simp[bC]
   |cons a xs i=>cases a<;>simp only[WT,bC,i] <;>lia
  rw[o,(i λq b=>d q (.tail _ b))];cases p with
  |k n=>
   have:∀n:Nat,bC (rK n)=n:=by
    intro n;induction n with
    |zero=>rfl
    |succ n i=>show bC (.K::rK n)=_;simp only[bC,i]
   show bC (rK n.toNat)+cG h=n.toNat+cG h;rw[this]
  |p s=>
   have:∀l:bn,bC (l.map .P)=0:=by
    intro l;induction l with
    |nil=>rfl
    |cons c l i=>exact i
   show bC (s.cps.toList.map .P)+cG h=cG h;rw[this,Z9]
  |c s=>
   have:∀l:bn,bC (l.map .C)=l.length:=by
    intro l;induction l with
    |nil=>rfl
    |cons c l i=>show bC (l.map .C)+1=_;rw[i];rfl
   show bC (s.cps.toList.map .C)+cG h=s.length+cG h;rw[this];simp[Str.length]
theorem akz:bz (pL) (λE=>bK K E) Ur Uq:=by
 intro vs H Q E j;obtain⟨a,xs,h,rfl,ha,pv,ok,ho,ht,hl,q⟩:=j;have lx:=KB pv;refine aY<|cI<|aq<|aC<|az ⟨de,λP U=>?_⟩;have s1:=V3 (o:=.l [V.s ""]) U;have x:upd H P (.l [V.s ""]) P=some (.l<|sV (gp<|ah<|h.take 0).1):=aj;generalize upd H P (.l [V.s ""])=t at s1 x⊢;refine aY<|cI<|az ⟨Y_ _,λS T=>?_⟩;have s2:=V3 (o:=.l []) T;have R:upd t S (.l []) S=some (.l<|(gp<|ah<|h.take 0).2.map oV):=aj;have IC:=s2 _ _ x;have X:P≠S:=aJ x T;generalize upd t S (.l [])=u at s2 R IC⊢;have U_:∀i,(gp<|ah<|h.take i).2.length<=cG h/\cnt (ah<|h.take i)<=ao h:=λi=>by
  refine⟨?_,?_⟩;rw[rE,zp _ λp hp=>ok p (Z1 hp)];have e:cG h=cG (h.take i)+cG (h.drop i):=by
   have oa:∀us ws:cr,cG (us++ws)=cG us+cG ws:=by
    intro us ws;induction us with
    |nil=>simp[cG]
    |cons u0 us Y=>cases u0<;>simp only[WT,cG,Y] <;>lia
   rw[<-oa,Yt]
  lia;rw[iL];have e:ao h=ao (h.take i)+ao (h.drop i):=by
   unfold ao;rw[<-yX,<-Za,Yt]
  lia
 refine QM (aa O (nT a O (oM _ (ag.of (s2 _ _ (s1 _ _ ha)))) (kU (K:=K) (a:=a) (xs:=xs) (λi F B=>yO λ(P S:Do)(M J G:sB)=>Ws (F=[some (.r a),some (.r P),some (.r S),M,J,G]) (H P=none) (H S=none) (P≠S) (ar H B) (B P=some (.l (sV (gp (ah (h.take i))).1))) (B S=some (.l ((gp (ah (h.take i))).2.map oV))))
 ⟨P,S,none,none,none,O,U,s1.free T,X,s1.trans s2,IC,R⟩ (λi F B _ ⟨_,_,_,_,_,_,_,_,_,s,_,_⟩=>ag.of (s _ _ ha)) ?_ ?_)))
 clear x IC R X U T s1 s2;rintro i v F B hv ⟨P,S,M,J,G,rfl,U,T,X,s,x,R⟩;obtain⟨p,uo,t0,rfl,oO⟩:=QP pv hv;have ay:=ok p (YK uo);have n:ah (h.take<|i+1)=ah (h.take i)++aS p:=by rw[qU uo,fg,gK]
 obtain⟨b1,b2⟩:=U_ i;obtain⟨c1,c2⟩:=U_ (i+1);have gl:=pK (ah<|h.take i);have ID:=pK (ah<|h.take<|i+1);rw[n] at c1 c2 ID;refine vQ (s _ _ oO) ?_;show av (bK K E) _ _ [some<|.r a,some<|.r P,some<|.r S,some<|.s p.word,some p.val,G] B;have g:∀(d:bi)(W:Do)(H4:Hp)(D:WH),ar B H4->H4 W=some (.l<|d.map oV)->aS p=d.map jn->(∀(y f:Do)(M J G:sB)(I:Hp),H y=none->H f=none->y≠f->ar H I->I y=some (.l<|sV (gp<|ah<|h.take<|i+1).1)->I f=some (.l<|(gp<|ah<|h.take<|i+1).2.map oV)->D.nx [some<|.r a,some<|.r y,some<|.r f,M,J,G] I)->
   av (bK K E) [.a 2<|.b .Add (.v 2)<|.v 5,.a 1<|.b .Add (.v 1)<|.b .Mult (.L [(.c<|.s "")])<|.t .l [.v 5]] D [some<|.r a,some<|.r P,some<|.r S,some<|.s p.word,some p.val,some<|.r W] H4:=by
  intro d W H4 D N hW f' kk;have Z:=zm d (ah<|h.take i);rw[f'] at n c1 ID;rw[Z] at c1 ID;have lo:d.length<=cG h:=by rw[JB] at c1;exact Y4 (Xk _ _) c1
  have b':=N _ _ R;have h':=N _ _ x;have l1:((gp<|ah<|h.take i).2.map oV).length+(d.map oV).length<=1000000:=by rw[Wo,Wo];lia
  refine aY<|cD<|aa O<|aa O<|Dd b' hW l1 λf f5=>?_;have t5:=V3 (o:=.l ((gp<|ah<|h.take i).2.map oV++d.map oV)) f5;have IE:upd H4 f (.l<|(gp<|ah<|h.take i).2.map oV++d.map oV) f=some (.l<|(gp<|ah<|h.take<|i+1).2.map oV):=by rw[aj,<-Za,n,Z]
  generalize upd H4 f (.l<|(gp<|ah<|h.take i).2.map oV++d.map oV)=I at t5 IE⊢;refine aY<|cD<|aa O<|cD<|cI<|aq<|aC<|az ⟨de,λBs fB=>?_⟩;have t6:=V3 (o:=.l [V.s ""]) fB;have hB:upd I Bs (.l [V.s ""]) Bs=some (.l [V.s ""]):=aj;generalize upd I Bs (.l [V.s ""])=H6 at t6 hB⊢;refine dU<|aa O<|.inl ⟨_,ag.of<|t6 _ _<|t5 _ _ hW,?_⟩;rw[Wo];refine U7 hB aH λB2 e'=>?_;have t7:=V3 (o:=.l (List.replicate d.length<|V.s "")) e';have Va:upd H6 B2 (.l<|List.replicate d.length<|V.s "") B2=some (.l<|List.replicate d.length<|V.s ""):=aj;generalize upd H6 B2 (.l<|List.replicate d.length<|V.s "")=H7 at t7 Va⊢;have l2:(sV (gp<|ah<|h.take i).1).length+(List.replicate d.length<|V.s "").length<=1000000:=by unfold sV;rw[Wo,We];lia
  have IF:=((N.trans t5).trans t6).trans t7;refine Dd (IF _ _ x) Va l2 λy f8=>?_;have t8:=V3 (o:=.l (sV (gp<|ah<|h.take i).1++List.replicate d.length (V.s ""))) f8;have s5:ar H I:=(s.trans N).trans t5;have c':H f=none:=(s.trans N).free f5;have d':H y=none:=(s.trans IF).free f8;have a':=t8 _ _ (t7 _ _<|t6 _ _ IE);refine kk y f _ _ _ _ d' c' (λz=>?_) ((s.trans IF).trans t8) ?_ a';have:H7 f=none:=by rw[<-z];exact f8
  rw[t7 _ _<|t6 _ _ IE] at this;cases this;rw[aj,n,Z];unfold sV;rw[Za,XU];rfl
 cases p with
 |p z=>
  refine bQ<|bw<|aa O<|aC<|m7 ⟨_,O,iT ?_<|U8 _⟩;obtain⟨A,w,eA⟩:=U9 (show(gp<|ah<|h.take i).1≠ [] by obtain⟨_,_,e⟩:=jm (ah<|h.take i);rw[e];exact zbt _ _);have Z:=C_ z.cps.toList (ah<|h.take i);have Vb:aS (.p z)=z.cps.toList.map At.P:=O;have Vc:B P=some (.l<|sV A++[V.s ⟨w.toArray⟩]):=by rw[x,eA];unfold sV;rw[Za];rfl
  have lw:w.length<=20000/\z.length<=20000:=by
   have hz:dq (.p z)<=ao h:=vv (YK uo);refine⟨?_,by have:dq (.p z)=z.length:=O;lia⟩;have gw:∀(xs:lc)(q:bn),q∈ (gp xs).1->q.length<=cnt xs:=by
    intro xs;induction xs with
    |nil=>intro q hq;rw[Ya.mp hq];exact Y_ _
    |cons b xs Y=>
     intro q hq;cases b with
     |P c=>
      obtain⟨p0,p1,e⟩:=jm xs;have kY:q∈gO c (gp xs).1:=hq;rw[e] at kY;rcases X9.mp kY with j|j
      rw[j];have:=Y p0 (by rw[e];exact .head _);show p0.length+1<=cnt xs+1;exact X4 this _;have:=Y q (by rw[e];exact .tail _ j);show q.length<=cnt xs+1;exact WX this
     |K=>
      rcases X9.mp (show q∈ []::(gp xs).1 from hq) with j|j
      rw[j];exact Y_ _;exact Y q j
     |C c=>
      rcases X9.mp (show q∈ []::(gp xs).1 from hq) with j|j
      rw[j];exact Y_ _;have:=Y q j;show q.length<=cnt xs+1;exact WX this
   have:=gw _ w (by rw[eA];exact cQ _ (.head _));lia
  refine qT<|cD<|aN<|aa O<|kJ<|br Vc (pY _ _)<|aa O<|akv (by simp[Str.length] at*;lia)<|aa O<|kJ ⟨P,_,_,(sV A).length,O,O,Vc,by rw[JB];exact af2 _,?_⟩;have bP:aE P B (upd B P<|.l<|(sV A++[V.s ⟨w.toArray⟩]).set (sV A).length<|V.s<|(⟨w.toArray⟩:Str)++z):=aE.upd;refine⟨P,S,_,_,_,O,U,T,X,λb o e=>bP _ _ (s _ _ e)<|aJ e U,?_,?_⟩;rw[aj,n,Vb,Z,eA,zK];have:(⟨w.toArray⟩:Str)++z=⟨(w++z.cps.toList).toArray⟩:=by rw[<-akw,akx]
  rw[this,List.set_append_right _ _<|ZX _,XO];unfold sV;rw[Za];rfl;rw[n,Vb,Z];exact bP _ _ R (Ix X)
 |k k=>
  have hk:1<=k:=ay;obtain⟨m,rfl⟩:∃m:Nat,k=(m:Int):=oM k.toNat aH;refine bQ<|bw<|aa O<|aC<|m7 ⟨_,O,iF ?_ (show((Str.ofString "keep")==Str.ofString "put")=false by decide+kernel)⟩;refine aY<|yL<|bw<|aa O<|aC<|m7 ⟨_,O,iF ?_ (show((Str.ofString "keep")==Str.ofString "cut")=false by decide+kernel)⟩;refine cD<|cI<|aq<|aC<|az ⟨de,λBs fB=>?_⟩;have t4:=V3 (o:=.l [V.a]) fB;have mo:m<=cG h:=by
   have e1:aS (.k (m:Int))=(List.replicate m none).map jn:=by show rK (m:Int).toNat=_;rw[WN,XU];rfl
   rw[e1,zm] at c1;have g':((gp<|ah<|h.take i).2++List.replicate m none).length<=cG h:=c1;rw[JB,We] at g';exact Y4 (Xk _ _) g'
  refine aa O<|U7 (aj (a:=Bs)) aH λW fW=>?_;refine g (List.replicate m none) W _ _ (t4.trans<|V3 fW) (by rw[aj,XU];rfl) (by show rK (m:Int).toNat=_;rw[WN,XU];rfl) λy f M J G I k1 k2 k3 k4 k5 k6=>⟨y,f,M,J,G,O,k1,k2,k3,k4,k5,k6⟩
 |c z=>
  refine bQ<|bw<|aa O<|aC<|m7 ⟨_,O,iF ?_ (show((Str.ofString "cut")==Str.ofString "put")=false by decide+kernel)⟩;refine aY<|yL<|bw<|aa O<|aC<|m7 ⟨_,O,iT ?_<|U8 _⟩;have hz:dq (.c z)<=ao h:=vv (YK uo);have mJ:z.length<=ao h:=hz;refine zo<|aa O ⟨cx aH,λW fW=>?_⟩;refine g (z.cps.toList.map some) W _ _ (V3 fW) (by rw[aj,Y3];rfl) (by rw[Y3];rfl) λy f M J G I k1 k2 k3 k4 k5 k6=>⟨y,f,M,J,G,O,k1,k2,k3,k4,k5,k6⟩
 rintro F B ⟨P,S,M,J,G,rfl,U,T,X,s,x,R⟩;rw[lx,Hd] at x R;refine cA<|j6<|aq<|aa O<|aq<|aa O<|az ⟨cM,λt0 ft=>?_⟩;have N:=V3 (o:=.t [V.r P,V.r S]) ft;exact q t0 P S _ (s.trans N) U T aj (N _ _ x)<|N _ _ R
end
def mf(m h:List bn)(c l:bi)(i:Nat):cr:=(List.range i).flatMap λk=>jJ (m.getD k []) (h.getD k []) c[k]? l[k]?
theorem Vd(m h:List bn)(c l:bi)(i:Nat):mf m h c l (i+1)=mf m h c l i++jJ (m.getD i []) (h.getD i []) c[i]? l[i]?:=by
 unfold mf;rw[jN];simp
theorem Ve:∀(s h:List bn)(c l:bi),s.length=h.length->rF s h c l=mf s h c l s.length
 |[],[],_,_,_=>O
 |[],_::_,_,_,a=>O
 |_::_,[],_,_,a=>by cases a
 |m::s,p::h,c,l,a=>by
  show jJ m p c.head? l.head?++rF s h c.tail l.tail=_;rw[Ve s h c.tail l.tail<|Nat.succ.inj a];unfold mf;rw[Wt,Xe,List.flatMap_cons,List.flatMap_map];congr 1;cases c<;>cases l<;>rfl
  refine IR List.flatten (Xb λk Y=>?_);rw[Xl,Xl];rfl
theorem akH(m p:bn)(a b:v4):(jJ m p a b).length<=3:=by
 unfold jJ j_;split<;>simp
theorem IG(m h:List bn)(c l:bi):∀i,(mf m h c l i).length<=3*i
 | 0=>ZX _
 |i+1=>by
  rw[Vd,JB];have:=IG m h c l i;have:=akH (m.getD i []) (h.getD i []) c[i]? l[i]?;lia
section
variable{K:Frag}{H Z:Hp}
theorem De(q:Q (.b<|decide<|v=.a) H):dh K .Is v .a H Q:=⟨O,q⟩
theorem rG:∀(xs:lc)(q:bn),q∈ (gp xs).1->q.length<=cnt xs
 |[],q,a=>by rw[Ya.mp a];exact Y_ _
 |.P c::xs,q,a=>by
  obtain⟨p,b,e⟩:=jm xs;have k:q∈gO c (gp xs).1:=a;rw[e] at k;rcases X9.mp k with h|h
  rw[h];have:=rG xs p (e▸.head _);show p.length+1<=cnt xs+1;exact X4 this _;have:=rG xs q (e▸.tail _ h);show q.length<=cnt xs+1;exact WX this
 |.K::xs,q,a=>by
  rcases X9.mp (show q∈ []::(gp xs).1 from a) with h|h
  rw[h];exact Y_ _;exact rG xs q h
 |.C c::xs,q,a=>by
  rcases X9.mp (show q∈ []::(gp xs).1 from a) with h|h
  rw[h];exact Y_ _;have:=rG xs q h;show q.length<=cnt xs+1;exact WX this
inductive zq(v:db)(H:Hp)(Q:VK)(E:XK):Prop|i(a b:Do)(xs B:db)(o E':cr)(_:v=[.r a,.r b])(_:H a=some (.l xs))(_:H b=some (.l B))(_:aD H xs o)(_:aD H B E')(_:(∀p∈o,aK p))(_:(∀p∈E',aK p))(_:cG o=cG E')(_:cG o<=10000)(_:ao o<=10000)(_:ao E'<=10000)(_:o.length<=100000)(_:E'.length<=100000)(_:ao (fi o E')<=100000)(_:∀c Z z,ar H Z->H c=none->Z c=some (.l z)->aD Z z (dr<|fi o E')->Q (.r c) Z)
abbrev awP(K:Frag)(E:XK):ba:=aG K [("_law_gaps",pL),("_law_neat",mX)] [] (E:=E)
theorem JO:bz (zq) (λE=>aG K [("_law_gaps",pL),("_law_neat",mX)] [] (E:=E)) Uw C8:=by
 intro vs H Q E h0;obtain⟨a,b,xs,B,d,E',rfl,ha,hb,IH,wt,qO,qP,eo,lo,t1,t2,l1,l2,tp,q⟩:=h0;refine yM<|bu pL O<|aq<|aa O<|az ⟨a,xs,d,O,ha,IH,qO,lo,t1,l1,λg1 c1 d1 t s1 f1 GN II c8 jE=>vQ II ?_⟩;refine yM<|bu pL O<|aq<|aa O<|az ⟨b,B,E',O,s1 _ _ hb,wt.mono<|bB s1,qP,aH,t2,l2,λg2 c2 d2 u s2 f2 f' rH cY W=>vQ rH ?_⟩
 have c8:=s2 _ _ c8;have jE:=s2 _ _ jE;have eP:=s1.trans s2;have n1:=pK (ah d);have n2:=pK (ah E');have m1:(gp<|ah d).2.length=cG d:=by rw[rE,zp _ qO]
 have m2:(gp<|ah E').2.length=cG E':=by rw[rE,zp _ qP]
 have w1:∀q∈ (gp<|ah d).1,q.length<=10000:=λq hq=>by have:=rG _ q hq;rw[iL] at this;exact Y4 this t1
 have w2:∀q∈ (gp<|ah E').1,q.length<=10000:=λq hq=>by have:=rG _ q hq;rw[iL] at this;exact Y4 this t2
 have zr:fi d E'=mf (gp<|ah d).1 (gp<|ah E').1 (gp<|ah d).2 (gp<|ah E').2 (gp<|ah d).1.length:=Ve _ _ _ _ aH
 rw[zr] at q tp;have b':(gp<|ah d).2.length=(gp<|ah E').2.length:=by lia
 have e':(gp<|ah d).1.length<=10001:=by lia
 have d':(gp<|ah d).1.length=(gp<|ah E').1.length:=by lia
 have c':(gp<|ah d).1.length=(gp<|ah d).2.length+1:=n1;clear n1 n2 m1 m2 zr;generalize (gp<|ah d).1=n at*;generalize (gp<|ah d).2=g at*;generalize (gp<|ah E').1=h at*;generalize (gp<|ah E').2=v at*;refine aY<|cI<|az ⟨Y_ _,λL X=>?_⟩;have s3:=V3 (o:=.l []) X;have P:upd u L (.l []) L=some (.l []):=aj;generalize upd u L (.l [])=H3 at s3 P⊢;refine Cd<|dU<|aa O<|.inl ⟨_,ag.of<|s3 _ _ c8,_,O,?_,?_,rX (lo:=0) (λi F R=>∃(L:Do) (f:db) (M:sB),F=[some<|.r a,some<|.r b,some<|.r c1,some<|.r d1,some<|.r c2,some<|.r d2,some<|.r L,M]/\u L=none/\ar u R/\R L=some (.l f)/\aD R f (mf n h g v i)) (pE L [] none O X s3 P .nil) ?_ ?_⟩
 ·lia
 ·unfold sV;rw[Wo];lia
 ·clear P s3 X;rintro i F R hi zq;obtain⟨L,f,M,zq⟩:=jR zq;obtain⟨rfl,X,N,P,U⟩:=Y7 zq;have eV:i<n.length:=by rw[WN] at hi;unfold sV at hi;rwa [Wo] at hi
  have IJ:i<h.length:=ZP eV (XX d')
  rw[ZV];have lz:=KB U;have lg:=IG n h g v i;have em:n[i]?=some (n.getD i []):=by rw[Xu,XB eV];rfl
  have ep:h[i]?=some (h.getD i []):=by rw[Xu,XB IJ];rfl
  have lm:=w1 _ (YK em);have nx:=Vd n h g v i;generalize n.getD i []=G at em lm nx;generalize h.getD i []=pi at ep nx;have am:(sV n)[i]?=some (.s ⟨G.toArray⟩):=by unfold sV;rw[Z_,em];rfl
  have ap:(sV h)[i]?=some (.s ⟨pi.toArray⟩):=by unfold sV;rw[Z_,ep];rfl
  have IL:(⟨G.toArray⟩:Str).length=G.length:=by simp[Str.length]
  refine aY<|cD<|aa O<|cI<|aq<|j6<|aq<|aC<|aq<|dU<|aN<|aa O<|aa O<|br (N _ _ c8) (bq am) ⟨cx aH,?_⟩
  rw[IL];refine az ⟨cM,λm fa=>?_⟩;have u1:=V3 (o:=.t [V.s "keep",V.i (G.length:Nat)]) fa;have x:upd R m (.t [V.s "keep",V.i (G.length:Nat)]) m=some (.t [V.s "keep",V.i (G.length:Nat)]):=aj;generalize upd R m (.t [V.s "keep",V.i (G.length:Nat)])=H5 at u1 x⊢;refine aq<|j6<|aq<|aC<|aq<|aN<|aa O<|aa O<|br (u1 _ _<|N _ _ cY) (bq ap)<|az ⟨cM,λj fb=>?_⟩;have u2:=V3 (o:=.t [V.s "put",V.s ⟨pi.toArray⟩]) fb;have J:upd H5 j (.t [V.s "put",V.s ⟨pi.toArray⟩]) j=some (.t [V.s "put",V.s ⟨pi.toArray⟩]):=aj;have x:=u2 _ _ x;generalize upd H5 j (.t [V.s "put",V.s ⟨pi.toArray⟩])=H6 at u2 x J⊢;refine az ⟨cM,λw fw=>?_⟩;have u3:=V3 (o:=.l [V.r m,V.r j]) fw;have hw:upd H6 w (.l [V.r m,V.r j]) w=some (.l [V.r m,V.r j]):=aj;have x:=u3 _ _ x;have J:=u3 _ _ J;generalize upd H6 w (.l [V.r m,V.r j])=H7 at u3 x J hw⊢;have uq:=(u1.trans u2).trans u3;refine Dd (uq _ _ P) hw (by rw[lz];show _+2<=1000000;lia) λA f8=>?_
  have u4:=V3 (o:=.l (f++[V.r m,V.r j])) f8;have nk:upd H7 A (.l<|f++[V.r m,V.r j]) A=some (.l<|f++[V.r m,V.r j]):=aj;have x:=u4 _ _ x;have J:=u4 _ _ J;have ur:=uq.trans u4;have nG:u A=none:=(N.trans uq).free f8;generalize upd H7 A (.l<|f++[V.r m,V.r j])=H8 at u4 x J nk ur⊢;have S:=N.trans ur;have zt:aD H8 (f++[V.r m,V.r j]) (mf n h g v i++[.k (G.length:Nat),.p ⟨pi.toArray⟩]):=Paired.app (U.mono<|bB ur) (.cons ⟨m,O,x⟩<|.cons ⟨j,O,J⟩ .nil);have I:∀M:sB,j_ g[i]? v[i]?=[]->∃(L:Do) (f:db) (uu:sB),[some<|.r a,some<|.r b,some<|.r c1,some<|.r d1,some<|.r c2,some<|.r d2,some<|.r A,M]=[some<|.r a,some<|.r b,some<|.r c1,some<|.r d1,some<|.r c2,some<|.r d2,some<|.r L,uu]/\u L=none/\ar u H8/\H8 L=some (.l f)/\aD H8 f (mf n h g v<|i+1):=λM nB=>by
   refine pE A _ M O nG S nk ?_;rw[nx];unfold jJ;rw[nB,jP];exact zt
  have zu:(g.map oV).length=g.length:=Wo ..;refine bQ<|nq<|bw<|aa O<|dU<|aa O<|.inl ⟨_,ag.of<|S _ _ jE,⟨trivial,_,O,gH (λaB=>?_)<|λaB=>iF (ik<|I _ ?_) O⟩⟩
  rotate_left
  ·have:¬i<g.length:=λz=>aB (W_ (by rw[zu];lia))
   rw[XC (Z6 this)];rfl
  have IM:i<g.length:=by have:=Os aB;rw[zu] at this;lia
  have tm:i<v.length:=ZP IM (XX b')
  have Y:g[i]?=some g[i]:=XB IM;have el:v[i]?=some v[i]:=XB tm;generalize g[i]=ci at Y;generalize v[i]=li at el;have ac:(g.map oV)[i]?=some (oV ci):=by rw[Z_,Y];rfl
  have al:(v.map oV)[i]?=some (oV li):=by rw[Z_,el];rfl
  refine bw<|aN<|aa O<|aa O<|br (S _ _ jE) (bq ac)<|aC<|De ⟨_,O,?_⟩;cases ci with
  |some c=>exact iF (ik<|I _ (by rw[Y];rfl)) (ZN (by intro z;cases z))
  |none=>
   refine iT ?_<|W_ O;refine bU<|fK<|aa O ⟨.inl ⟨O,_,ag.of nk⟩,yL<|bw<|aN<|aa O<|aa O<|br (S _ _ W) (bq al)<|aC<|De ⟨_,O,?_⟩⟩;have a':(f++[V.r m,V.r j]).length<=100000:=by rw[JB,lz];show _+2<=100000;lia
   have D:∀(p:Pt) (C:Do) (T:Hp),ar H8 T->T C=some (.t [.s p.word,p.val])->j_ g[i]? v[i]?=[p]->sI K .a (.r A) [.r C] T λ_ gN=>∃(L:Do) (f:db) (uu:sB),[some<|.r a,some<|.r b,some<|.r c1,some<|.r d1,some<|.r c2,some<|.r d2,some<|.r A,some<|.i (i:Int)]=[some<|.r a,some<|.r b,some<|.r c1,some<|.r d1,some<|.r c2,some<|.r d2,some<|.r L,uu]/\u L=none/\ar u gN/\gN L=some (.l f)/\aD gN f (mf n h g v<|i+1):=λp C T s9 h9 nB=>by
    have zv:=s9 _ _ nk;refine nT _ zv (bY (Y4 a' (Xk _ _))) ⟨A,_,_,O,nG,λz o e=>?_,aj,?_⟩
    ·rw[aw<|aJ e nG];exact s9 _ _ (S _ _ e)
    ·have tT:bI T (upd T A<|.l<|f++[V.r m,V.r j]++[V.r C]):=λy us e=>by rw[aw (λz=>by rw[z,zv] at e;cases e)];exact e
     rw[nx];unfold jJ;rw[nB,<-Xm];exact SL ((zt.mono<|bB s9).mono tT) ⟨C,O,tT _ _ h9⟩
   cases li with
   |none=>
    refine iT ?_<|W_ O;refine j6<|aq<|aC<|aq<|aC<|az ⟨cM,λC f9=>?_⟩;exact D (.k 1) C _ (V3 f9) aj (by rw[Y,el];rfl)
   |some c=>
    refine iF ?_<|ZN (by intro z;cases z)
    refine j6<|aq<|aC<|aq<|aN<|aa O<|aa O<|br (S _ _ W) (bq al)<|az ⟨cM,λC f9=>?_⟩;exact D (.c ⟨#[c]⟩) C _ (V3 f9) aj (by rw[Y,el];rfl)
 ·rintro F R ⟨L,f,M,rfl,X,N,P,U⟩;have e:(((sV n).length:Nat):Int).toNat=n.length:=by rw[WN];unfold sV;rw[Wo]
  rw[e] at U;have lg:=IG n h g v n.length;exact cA<|bu mX O<|aq<|aa O<|az ⟨L,f,_,O,P,U,aH,tp,λc Z ws s' fc hc pw=>q c Z ws (eP.trans<|N.trans s') ((eP.trans N).free fc) hc pw⟩
end
theorem pN:∀(k:Nat)(xs B:lc)(l:bn),xs.length+B.length<=k->Xr l xs->Xr l B->∃o ts,dm xs B o ts
 |k,.P c::xs,B,l,h,g,b=>by
  cases k with
  |zero=>simp at h
  |succ k=>
   obtain⟨o,ts,f⟩:=pN k xs B l (by simp at h;lia) g b;exact rP _ _ (.P f)
 |k,[],B,l,h,g,b=>by
  cases B with
  |nil=>exact rP [] [] .n
  |cons y B=>
   cases k with
   |zero=>simp at h
   |succ k=>
    cases y with
    |P c=>
     obtain⟨o,ts,f⟩:=pN k [] B l (by simp at h⊢;exact h) g b;exact rP _ _ (.p (λd s z=>by cases z) f)
    |K=>
     cases l with
     |nil=>exact absurd b (by simp[Xr])
     |cons a l=>exact absurd g (by simp[Xr])
    |C c=>
     cases l with
     |nil=>exact absurd b (by simp[Xr])
     |cons a l=>exact absurd g (by simp[Xr])
 |k,.K::xs,B,l,h,g,b=>by
  cases k with
  |zero=>simp at h
  |succ k=>
   cases l with
   |nil=>exact absurd g (by simp[Xr])
   |cons a l=>
    have v:Xr l xs:=by simpa[Xr] using g
    cases B with
    |nil=>exact absurd b (by simp[Xr])
    |cons y B=>
     cases y with
     |P c=>
      obtain⟨o,ts,f⟩:=pN k (.K::xs) B (a::l) (by simp at h⊢;exact yP h) g b;exact rP _ _ (.p (λd s z=>by cases z) f)
     |K=>
      obtain⟨o,ts,f⟩:=pN k xs B l (by simp at h;lia) v (by simpa[Xr] using b);exact rP _ _ (.k f)
     |C c=>
      have i:a=c/\Xr l B:=by simpa[Xr] using b
      obtain⟨o,ts,f⟩:=pN k xs B l (by simp at h;lia) v i.2;exact rP _ _ (.c f)
 |k,.C c::xs,B,l,h,g,b=>by
  cases k with
  |zero=>simp at h
  |succ k=>
   cases l with
   |nil=>exact absurd g (by simp[Xr])
   |cons a l=>
    have v:a=c/\Xr l xs:=by simpa[Xr] using g
    cases B with
    |nil=>exact absurd b (by simp[Xr])
    |cons y B=>
     cases y with
     |P e=>
      obtain⟨o,ts,f⟩:=pN k (.C c::xs) B (a::l) (by simp at h⊢;exact yP h) g b;exact rP _ _ (.p (λd s z=>by cases z) f)
     |K=>
      obtain⟨o,ts,f⟩:=pN k xs B l (by simp at h;lia) v.2 (by simpa[Xr] using b);exact rP _ _ (.C f)
     |C e=>
      have i:a=e/\Xr l B:=by simpa[Xr] using b
      obtain⟨o,ts,f⟩:=pN k xs B l (by simp at h;lia) v.2 i.2;obtain⟨m,Y⟩:=v;obtain⟨j,Y⟩:=i;subst m;subst j;exact rP _ _ (.a f)
theorem Vf{xs B o:lc}(h:dm xs B o ts):cX xs B o ts:=by
 induction h with
 |n=>exact .n
 |P Y i=>exact .p1 i
 |p Y Y i=>exact .p2 i
 |k Y i=>exact .kk i
 |c Y i=>exact .kc i
 |C Y i=>exact .ck i
 |a Y i=>exact .cc i
def nK(o E':cr):cr:=dr (fi o E')
theorem akO{j:lc}(i:∀p∈E',aK p)(b:dm (ah one) (ah E') j ts)(m:ao E'<=100000):ah (fi one E')=ts/\ao (fi one E')<=ao E'/\∀p∈fi one E',eK p:=by
 have e:ah (fi one E')=ts:=by rw[IA,<-(U2 b)]
 have t:=by
  have h:=U4 b;rw[<-e,iL,iL] at h;exact h
 refine⟨e,t,λp g=>?_⟩;have l:∀s:Str,(p=.p s\/p=.c s)->s.length<=ao (fi one E'):=λs d=>by
  have:=vv g;rcases d with rfl|rfl<;>exact this
 have f:∀s:Str,(p=.p s\/p=.c s)->∀c∈s.cps.toList,SG.cps.contains c=true:=λs d c h=>by
  rcases d with rfl|rfl
  have a:=wm g (Z0 h);rw[e] at a;exact wo i<|.inl<|Dc b _ aH a;have a:=wm g (Z0 h);rw[e] at a;exact wo i<|.inr<|Dc b _ aH a
 cases p with
 |k n=>exact IB _ _ _ _ n g
 |p s=>have:=l s (.inl O);exact⟨⟨aH,f s<|.inl O⟩,(Y4 this (Y4 t m))⟩
 |c s=>have:=l s (.inr O);exact⟨⟨aH,f s<|.inr O⟩,(Y4 this (Y4 t m))⟩
def zw(m p:bn)(a b:v4):lc:=m.map .P++(rK p.length++Iz b a)
def zx:List bn->List bn->bi->bi->lc
 |m::s,p::h,c,l=>zw m p c.head? l.head?++zx s h c.tail l.tail
 |_,_,_,_=>[]
theorem akP{xs B o:lc}(g:dm xs B o ts):o=zx (gp xs).1 (gp B).1 (gp xs).2 (gp B).2:=by
 induction g with
 |n=>rfl
 | @P c xs B o ts _ i=>
  obtain⟨p,h,e⟩:=jm xs;obtain⟨q,qs,b⟩:=jm B;show _=zx (gO c (gp xs).1) (gp B).1 (gp xs).2 (gp B).2;rw[i,e,b];rfl
 | @p c xs B o ts f _ i=>
  obtain⟨q,qs,b⟩:=jm B;obtain⟨m,e⟩:∃m,(gp xs).1=[]::m:=by
   cases xs with
   |nil=>exact⟨_,O⟩
   |cons a xs=>
    cases a with
    |P d=>exact absurd O (f d xs)
    |K=>exact⟨_,O⟩
    |C d=>exact⟨_,O⟩
  show _=zx (gp xs).1 (gO c (gp B).1) (gp xs).2 (gp B).2;rw[i,e,b];rfl
 |k Y i=>rw[i];rfl
 |c Y i=>rw[i];rfl
 |C Y i=>rw[i];rfl
 |a Y i=>rw[i];rfl
def jK(m p:bn)(a b:v4):cr:=[.p ⟨m.toArray⟩,.k (p.length:Nat)]++j_ b a
def rJ:List bn->List bn->bi->bi->cr
 |m::s,p::h,c,l=>jK m p c.head? l.head?++rJ s h c.tail l.tail
 |_,_,_,_=>[]
theorem akQ(m p:bn)(a b:v4):ah (jK m p a b)=zw m p a b:=by
 unfold jK zw;rw[fg,U3,<-Xm];congr 1;show((⟨m.toArray⟩:Str).cps.toList.map At.P)++(rK (p.length:Int).toNat++[])=_;rw[jP,WN]
theorem Vg:∀(s h:List bn)(c l:bi),ah (rJ s h c l)=zx s h c l
 |[],_,_,_=>O
 |_::_,[],_,_=>O
 |m::s,p::h,c,l=>by
  show ah (jK m p c.head? l.head?++rJ s h c.tail l.tail)=_;rw[fg,akQ,Vg s h];rfl
theorem akR{xs B o:lc}(h:dm xs B o ts):∀a:At,a≠ .K->a∈o->a∈xs:=by
 have k:∀{a b:At}{l d:lc},(a≠ .K->a∈l->a∈d)->a≠ .K->a∈b::l->(b=.K->a∈d)/\(b≠ .K->a∈b::d):=λf n h=>⟨λe=>(X9.mp h).elim (λz=>absurd (z.trans e) n)<|f n,λY=>(X9.mp h).elim (λz=>z ▸ .head _) λz=>.tail _ (f n z)⟩;induction h with
 |n=>exact λa Y h=>h
 |P Y i=>exact λa n h=>(k (i a) n h).2 aH
 |p Y Y i=>exact λa n h=>(k (i a) n h).1 O
 |k Y i=>exact λa n h=>.tail _ ((k (i a) n h).1 O)
 |c Y i=>exact λa n h=>.tail _ (i a n h)
 |C Y i=>exact λa n h=>(k (i a) n h).2 aH
 |a Y i=>exact λa n h=>.tail _ (i a n h)
theorem Vh:∀(s h:List bn)(c l:bi)(n:Int),.k n∈rJ s h c l->0<=n
 |[],_,_,_,n,a=>by cases ‹List bn› <;>cases a
 |_::_,[],_,_,n,a=>by cases a
 |m::s,p::h,c,l,n,a=>by
  rcases Z4.mp (show Pt.k n∈jK m p c.head? l.head?++rJ s h c.tail l.tail from a) with a|a
  rcases Z4.mp (show Pt.k n∈ [.p ⟨m.toArray⟩,.k (p.length:Nat)]++j_ l.head? c.head? from a) with a|a
  simp only[X9,Yy,M2] at a;rcases a with a|a
  cases a;cases a;exact Wx _;unfold j_ at a;split at a;simp at a;cases a;decide;simp only[X9,Yy,M2] at a;cases a;cases a;exact Vh s h _ _ n a
abbrev nN(o E':cr):cr:=rJ (gp<|ah o).1 (gp<|ah E').1 (gp<|ah o).2 (gp<|ah E').2
theorem akS(d:∀p∈b,aK p)(x:ah z=w)(o:∀a:At,a≠ .K->a∈w->a∈ah b)(t:ao z<=100000)(i:∀n,.k n∈z->0<=n):∀p∈z,eK p:=λp g=>by
 have l:∀s:Str,(p=.p s\/p=.c s)->s.length<=ao z:=λs d=>by
  have:=vv g;rcases d with rfl|rfl<;>exact this
 have e:∀s:Str,(p=.p s\/p=.c s)->∀c∈s.cps.toList,SG.cps.contains c=true:=λs v c f=>by
  rcases v with rfl|rfl
  have h:=wm g (Z0 f);rw[x] at h;exact wo d<|.inl<|o _ aH h;have h:=wm g (Z0 f);rw[x] at h;exact wo d<|.inr<|o _ aH h
 cases p with
 |k n=>exact i n g
 |p s=>have:=l s (.inl O);exact⟨⟨aH,e s<|.inl O⟩,(Y4 this t)⟩
 |c s=>have:=l s (.inr O);exact⟨⟨aH,e s<|.inr O⟩,(Y4 this t)⟩
def nO(o E':cr):cr:=dr (nN o E')
theorem Vi(a:∀p∈one,aK p)(h:dm (ah one) (ah E') s ts)(b:ao one<=100000):ah (nN one E')=s/\ao (nN one E')<=ao one/\∀p∈nN one E',eK p:=by
 have e:ah (nN one E')=s:=by rw[Vg,<-akP h]
 have t:=by
  have c:=(Vf h).P4.1;rw[<-e,iL,iL] at c;exact c
 exact⟨e,t,akS a e (akR h) (Y4 t b)<|Vh _ _ _ _⟩
theorem KJ{n:bn}(c:∀p∈one,aK p)(P:XJ one E' h qs l m n)(t:ao one<=100000):nO one E'=h:=by
 obtain⟨s,ts,a,d,g⟩:=P.Ql;obtain⟨e,f,r⟩:=Vi c a t;obtain⟨b,k,Y⟩:=qF _ r (Y4 f t);refine BE _ _ "" "" b P.Qi k P.qO ?_;unfold nO;rw[<-qD _ r,qI _ λp a=>yg (r p a),e,d]
theorem Df{n:bn}(b:cE one l m)(a:cE E' l n)(y:ao one<=100000)(v:ao E'<=100000):(∃r,cE (nK one E') m r/\cE (nO one E') n r)/\ao (nK one E')<=ao E'/\ao (nO one E')<=ao one/\ao (fi one E')<=ao E'/\ao (nN one E')<=ao one:=by
 obtain⟨j,i⟩:=b.run.fits;obtain⟨e,f⟩:=a.run.fits;obtain⟨z,ts,h⟩:=pN _ _ _ l (ZX _) j e;obtain⟨x,t,w⟩:=akO a.ok h v;obtain⟨S,V,I⟩:=Vi b.ok h y;obtain⟨d,c,g⟩:=(Vf h).fits l j e;rw[i,f] at g;rw[i,<-x] at d;rw[f,<-S] at c;obtain⟨q,k,Y⟩:=qF _ w (Y4 t v);obtain⟨u,s,Y⟩:=qF _ I (Y4 V y);refine⟨⟨YX m ts,⟨k,q,?_⟩,⟨s,u,?_⟩⟩,by unfold nK;rw[tK _ w];exact t,by unfold nO;rw[tK _ I];exact V,t,V⟩;have:=vw (qH _ m (λp h=>yg<|w p h) d);rw[x] at this;exact this;have:=vw (qH _ n (λp h=>yg<|I p h) c);rw[S,<-g] at this;exact this
def mj(m h:List bn)(c l:bi)(i:Nat):cr:=(List.range i).flatMap λk=>jK (m.getD k []) (h.getD k []) c[k]? l[k]?
theorem Vk(m h:List bn)(c l:bi)(i:Nat):mj m h c l (i+1)=mj m h c l i++jK (m.getD i []) (h.getD i []) c[i]? l[i]?:=by
 unfold mj;rw[jN];simp
theorem Vl:∀(s h:List bn)(c l:bi),s.length=h.length->rJ s h c l=mj s h c l s.length
 |[],[],_,_,_=>O
 |[],_::_,_,_,a=>O
 |_::_,[],_,_,a=>by cases a
 |m::s,p::h,c,l,a=>by
  show jK m p c.head? l.head?++rJ s h c.tail l.tail=_;rw[Vl s h c.tail l.tail<|Nat.succ.inj a];unfold mj;rw[Wt,Xe,List.flatMap_cons,List.flatMap_map];congr 1;cases c<;>cases l<;>rfl
  refine IR List.flatten (Xb λk Y=>?_);rw[Xl,Xl];rfl
theorem akU(m p:bn)(a b:v4):(jK m p a b).length<=3:=by
 unfold jK j_;split<;>simp
theorem IQ(m h:List bn)(c l:bi):∀i,(mj m h c l i).length<=3*i
 | 0=>ZX _
 |i+1=>by
  rw[Vk,JB];have:=IQ m h c l i;have:=akU (m.getD i []) (h.getD i []) c[i]? l[i]?;lia
section
variable{K:Frag}{H Z:Hp}
inductive zy(v:db)(H:Hp)(Q:VK)(E:XK):Prop|i(a b:Do)(xs B:db)(o E':cr)(_:v=[.r a,.r b])(_:H a=some (.l xs))(_:H b=some (.l B))(_:aD H xs o)(_:aD H B E')(_:(∀p∈o,aK p))(_:(∀p∈E',aK p))(_:cG o=cG E')(_:cG o<=10000)(_:ao o<=10000)(_:ao E'<=10000)(_:o.length<=100000)(_:E'.length<=100000)(_:ao (nN o E')<=100000)(_:∀c Z z,ar H Z->H c=none->Z c=some (.l z)->aD Z z (dr<|nN o E')->Q (.r c) Z)
theorem akV:bz (zy) (λE=>aG K [("_law_gaps",pL),("_law_neat",mX)] [] (E:=E)) Ut C8:=by
 intro vs H Q E h0;obtain⟨a,b,xs,B,d,E',rfl,ha,hb,IH,wt,qO,qP,eo,lo,t1,t2,l1,l2,tp,q⟩:=h0;refine yM<|bu pL O<|aq<|aa O<|az ⟨a,xs,d,O,ha,IH,qO,lo,t1,l1,λg1 c1 d1 t s1 f1 GN II c8 W=>vQ II ?_⟩;refine yM<|bu pL O<|aq<|aa O<|az ⟨b,B,E',O,s1 _ _ hb,wt.mono<|bB s1,qP,aH,t2,l2,λg2 c2 d2 u s2 f2 g' rH cY a'=>vQ rH ?_⟩
 have c8:=s2 _ _ c8;have W:=s2 _ _ W;have eP:=s1.trans s2;have n1:=pK (ah d);have n2:=pK (ah E');have m1:(gp<|ah d).2.length=cG d:=by rw[rE,zp _ qO]
 have m2:(gp<|ah E').2.length=cG E':=by rw[rE,zp _ qP]
 have w1:∀q∈ (gp<|ah d).1,q.length<=10000:=λq hq=>by have:=rG _ q hq;rw[iL] at this;exact Y4 this t1
 have w2:∀q∈ (gp<|ah E').1,q.length<=10000:=λq hq=>by have:=rG _ q hq;rw[iL] at this;exact Y4 this t2
 have zr:nN d E'=mj (gp<|ah d).1 (gp<|ah E').1 (gp<|ah d).2 (gp<|ah E').2 (gp<|ah d).1.length:=Vl _ _ _ _ aH
 rw[zr] at q tp;have c':(gp<|ah d).2.length=(gp<|ah E').2.length:=by lia
 have f':(gp<|ah d).1.length<=10001:=by lia
 have e':(gp<|ah d).1.length=(gp<|ah E').1.length:=by lia
 have d':(gp<|ah d).1.length=(gp<|ah d).2.length+1:=n1;clear n1 n2 m1 m2 zr;generalize (gp<|ah d).1=n at*;generalize (gp<|ah d).2=g at*;generalize (gp<|ah E').1=h at*;generalize (gp<|ah E').2=v at*;refine aY<|cI<|az ⟨Y_ _,λL X=>?_⟩;have s3:=V3 (o:=.l []) X;have P:upd u L (.l []) L=some (.l []):=aj;generalize upd u L (.l [])=H3 at s3 P⊢;refine Cd<|dU<|aa O<|.inl ⟨_,ag.of<|s3 _ _ c8,_,O,?_,?_,rX (lo:=0) (λi F R=>∃(L:Do) (f:db) (M:sB),F=[some<|.r a,some<|.r b,some<|.r c1,some<|.r d1,some<|.r c2,some<|.r d2,some<|.r L,M]/\u L=none/\ar u R/\R L=some (.l f)/\aD R f (mj n h g v i)) (pE L [] none O X s3 P .nil) ?_ ?_⟩
 ·lia
 ·unfold sV;rw[Wo];lia
 ·clear P s3 X;rintro i F R hi zq;obtain⟨L,f,M,zq⟩:=jR zq;obtain⟨rfl,X,N,P,U⟩:=Y7 zq;have eV:i<n.length:=by rw[WN] at hi;unfold sV at hi;rwa [Wo] at hi
  have IJ:i<h.length:=ZP eV (XX e')
  rw[ZV];have lz:=KB U;have lg:=IQ n h g v i;have em:n[i]?=some (n.getD i []):=by rw[Xu,XB eV];rfl
  have ep:h[i]?=some (h.getD i []):=by rw[Xu,XB IJ];rfl
  have lm:=w2 _ (YK ep);have nx:=Vk n h g v i;generalize n.getD i []=mi at em nx;generalize h.getD i []=D at ep lm nx;have am:(sV n)[i]?=some (.s ⟨mi.toArray⟩):=by unfold sV;rw[Z_,em];rfl
  have ap:(sV h)[i]?=some (.s ⟨D.toArray⟩):=by unfold sV;rw[Z_,ep];rfl
  have IL:(⟨D.toArray⟩:Str).length=D.length:=by simp[Str.length]
  refine aY<|cD<|aa O<|cI<|aq<|j6<|aq<|aC<|aq<|aN<|aa O<|aa O<|br (N _ _ c8) (bq am)<|az ⟨cM,λm fa=>?_⟩;have u1:=V3 (o:=.t [V.s "put",V.s ⟨mi.toArray⟩]) fa;have x:upd R m (.t [V.s "put",V.s ⟨mi.toArray⟩]) m=some (.t [V.s "put",V.s ⟨mi.toArray⟩]):=aj;generalize upd R m (.t [V.s "put",V.s ⟨mi.toArray⟩])=H5 at u1 x⊢;refine aq<|j6<|aq<|aC<|aq<|dU<|aN<|aa O<|aa O<|br (u1 _ _<|N _ _ cY) (bq ap) ⟨cx aH,?_⟩
  rw[IL];refine az ⟨cM,λj fb=>?_⟩;have u2:=V3 (o:=.t [V.s "keep",V.i (D.length:Nat)]) fb;have J:upd H5 j (.t [V.s "keep",V.i (D.length:Nat)]) j=some (.t [V.s "keep",V.i (D.length:Nat)]):=aj;have x:=u2 _ _ x;generalize upd H5 j (.t [V.s "keep",V.i (D.length:Nat)])=H6 at u2 x J⊢;refine az ⟨cM,λw fw=>?_⟩;have u3:=V3 (o:=.l [V.r m,V.r j]) fw;have hw:upd H6 w (.l [V.r m,V.r j]) w=some (.l [V.r m,V.r j]):=aj;have x:=u3 _ _ x;have J:=u3 _ _ J;generalize upd H6 w (.l [V.r m,V.r j])=H7 at u3 x J hw⊢;have uq:=(u1.trans u2).trans u3;refine Dd (uq _ _ P) hw (by rw[lz];show _+2<=1000000;lia) λA f8=>?_
  have u4:=V3 (o:=.l (f++[V.r m,V.r j])) f8;have nk:upd H7 A (.l<|f++[V.r m,V.r j]) A=some (.l<|f++[V.r m,V.r j]):=aj;have x:=u4 _ _ x;have J:=u4 _ _ J;have ur:=uq.trans u4;have nG:u A=none:=(N.trans uq).free f8;generalize upd H7 A (.l<|f++[V.r m,V.r j])=H8 at u4 x J nk ur⊢;have S:=N.trans ur;have zt:aD H8 (f++[V.r m,V.r j]) (mj n h g v i++[.p ⟨mi.toArray⟩,.k (D.length:Nat)]):=Paired.app (U.mono<|bB ur) (.cons ⟨m,O,x⟩<|.cons ⟨j,O,J⟩ .nil);have I:∀M:sB,j_ v[i]? g[i]?=[]->∃(L:Do) (f:db) (uu:sB),[some<|.r a,some<|.r b,some<|.r c1,some<|.r d1,some<|.r c2,some<|.r d2,some<|.r A,M]=[some<|.r a,some<|.r b,some<|.r c1,some<|.r d1,some<|.r c2,some<|.r d2,some<|.r L,uu]/\u L=none/\ar u H8/\H8 L=some (.l f)/\aD H8 f (mj n h g v<|i+1):=λM nB=>by
   refine pE A _ M O nG S nk ?_;rw[nx];unfold jK;rw[nB,jP];exact zt
  have zu:(g.map oV).length=g.length:=Wo ..;refine bQ<|nq<|bw<|aa O<|dU<|aa O<|.inl ⟨_,ag.of<|S _ _ W,⟨trivial,_,O,gH (λaB=>?_)<|λaB=>iF (ik<|I _ ?_) O⟩⟩
  rotate_left
  ·have:¬i<g.length:=λz=>aB (W_ (by rw[zu];lia))
   rw[XC aH];rfl
  have IM:i<g.length:=by have:=Os aB;rw[zu] at this;lia
  have tm:i<v.length:=ZP IM (XX c')
  have ec:g[i]?=some g[i]:=XB IM;have Y:v[i]?=some v[i]:=XB tm;generalize g[i]=ci at ec;generalize v[i]=li at Y;have ac:(g.map oV)[i]?=some (oV ci):=by rw[Z_,ec];rfl
  have al:(v.map oV)[i]?=some (oV li):=by rw[Z_,Y];rfl
  refine bw<|aN<|aa O<|aa O<|br (S _ _ a') (bq al)<|aC<|De ⟨_,O,?_⟩;cases li with
  |some c=>exact iF (ik<|I _ (by rw[Y];rfl)) (ZN (by intro z;cases z))
  |none=>
   refine iT ?_<|W_ O;refine bU<|fK<|aa O ⟨.inl ⟨O,_,ag.of nk⟩,yL<|bw<|aN<|aa O<|aa O<|br (S _ _ W) (bq ac)<|aC<|De ⟨_,O,?_⟩⟩;have b':(f++[V.r m,V.r j]).length<=100000:=by rw[JB,lz];show _+2<=100000;lia
   have G:∀(p:Pt) (C:Do) (T:Hp),ar H8 T->T C=some (.t [.s p.word,p.val])->j_ v[i]? g[i]?=[p]->sI K .a (.r A) [.r C] T λ_ gN=>∃(L:Do) (f:db) (uu:sB),[some<|.r a,some<|.r b,some<|.r c1,some<|.r d1,some<|.r c2,some<|.r d2,some<|.r A,some<|.i (i:Int)]=[some<|.r a,some<|.r b,some<|.r c1,some<|.r d1,some<|.r c2,some<|.r d2,some<|.r L,uu]/\u L=none/\ar u gN/\gN L=some (.l f)/\aD gN f (mj n h g v<|i+1):=λp C T s9 h9 nB=>by
    have zv:=s9 _ _ nk;refine nT _ zv (bY (Y4 b' (Xk _ _))) ⟨A,_,_,O,nG,λz o e=>?_,aj,?_⟩
    ·rw[aw<|aJ e nG];exact s9 _ _ (S _ _ e)
    ·have tT:bI T (upd T A<|.l<|f++[V.r m,V.r j]++[V.r C]):=λy us e=>by rw[aw (λz=>by rw[z,zv] at e;cases e)];exact e
     rw[nx];unfold jK;rw[nB,<-Xm];exact SL ((zt.mono<|bB s9).mono tT) ⟨C,O,tT _ _ h9⟩
   cases ci with
   |none=>
    refine iT ?_<|W_ O;refine j6<|aq<|aC<|aq<|aC<|az ⟨cM,λC f9=>?_⟩;exact G (.k 1) C _ (V3 f9) aj (by rw[ec,Y];rfl)
   |some c=>
    refine iF ?_<|ZN (by intro z;cases z)
    refine j6<|aq<|aC<|aq<|aN<|aa O<|aa O<|br (S _ _ W) (bq ac)<|az ⟨cM,λC f9=>?_⟩;exact G (.c ⟨#[c]⟩) C _ (V3 f9) aj (by rw[ec,Y];rfl)
 ·rintro F R ⟨L,f,M,rfl,X,N,P,U⟩;have e:(((sV n).length:Nat):Int).toNat=n.length:=by rw[WN];unfold sV;rw[Wo]
  rw[e] at U;have lg:=IQ n h g v n.length;exact cA<|bu mX O<|aq<|aa O<|az ⟨L,f,_,O,P,U,aH,tp,λc Z ws s' fc hc pw=>q c Z ws (eP.trans<|N.trans s') ((eP.trans N).free fc) hc pw⟩
end
noncomputable def cB(a l e t:Do)(N:Nat):nH:=[(.inr "above",.r a),(.inr "latest",.r l),(.inr "edges",.r e),(.inr "texts",.r t),(.inr "here",.i (N:Nat))]
section
variable{c g l m:Do}{N:Nat}
theorem axH{a:Str}{r:nH}(h:¬a=b):dO (((Sum.inr a:gS),v)::r) (.inr b)=dO r (.inr b):=uO λz=>h (Sum.inr.inj z)
theorem rL:dO (cB c g l m N) (.inr "above")=some (.r c):=O
theorem wu:dO (cB c g l m N) (.inr "latest")=some (.r g):=O
theorem rM:dO (cB c g l m N) (.inr "edges")=some (.r l):=O
theorem uv:dO (cB c g l m N) (.inr "texts")=some (.r m):=O
theorem pO:dO (cB c g l m N) (.inr "here")=some (.i (N:Nat)):=O
theorem Vm:iJ (cB c g l m N) (.inr "here") (V.i (k:Nat))=cB c g l m k:=O
theorem akW:iJ (cB c g l m N) (.inr "edges") (V.r k)=cB c g k m N:=O
theorem akX:iJ (cB c g l m N) (.inr "texts") (V.r k)=cB c g l k N:=O
theorem Dg:(cB c g l m N).length<sizeLine:=bY (by show 5<=1000000;decide)
variable{W:ba}{D:WH}{F:St}{H:Hp}{r:jp}{Q:VK}{i:Nat}{w:Do}{f:Str}{b:nH}{v:V}
theorem cw(h:F[i]?=some (some<|.r w))(e:H w=some (.d b))(a:dO b (.inr f)=some v)(q:Q v H):af W (.P (.v i)<|.c<|.s f) F H Q:=⟨_,h,w,v,O,.inl ⟨b,.inr f,.inl e,O,a.symm⟩,q⟩
theorem Dh(h:af W e F H λv t=>af W (.v i) F t λx u=>∃a b,x=.r a/\mF u a (.s f) v b/\av W r D F b):av W (.t (.v i) (.c<|.s f) e::r) D F H:=h
theorem Di(h:F[i]?=some (some<|.r w))(j:H w=some (.d b))(g:b.length<sizeLine)(e:av W r D F (upd H w<|.d<|iJ b (.inr f) v)):af W (.v i) F H λx u=>∃a c,x=.r a/\mF u a (.s f) v c/\av W r D F c:=
 nS _ h ⟨w,_,O,.inl (oS b (.inr f) j O g O),e⟩
theorem jo{G:ca}(h:G[d]?=some x):(G.map V.s)[d]?=some (V.s x)/\(G.map λx=>x.cps.toList)[d]?=some x.cps.toList:=by
 rw[Z_,Z_,h];exact⟨O,O⟩
theorem IS(h:i<n):fZ n ((i:Nat):Int)=some i:=by
 unfold fZ;rw[GT (Wx _),GT aH];rfl
end
structure Rw(H:Hp)(wA ab la eg tx:Do)(hr:Nat)(Y R':bi)(as:ii)(G':ca):Prop where
 r:H wA=some (.d<|cB ab la eg tx hr)
 h:H ab=some (.l<|Y.map gV)
 j:H la=some (.l<|R'.map gV)
 r5:H eg=some (.l<|as.map V.r)
 n:H tx=some (.l<|G'.map V.s)
 nd:[wA,ab,la,eg,tx].Nodup
section
variable{C:Do}{H Z:Hp}{hp m e f g l:Do}{M Ed p z:ii}{q N:Nat}{Y E s G T':bi}{w I:ca}{n:Nat}{T:Nat}{J:List bn}
theorem bf.cO(A:bf C H hp M Ed N Y J T' T):bZ Y/\N<Y.length/\J.length=Y.length/\jF M H:=by
 obtain⟨dx,lo,p,e,be,lg,b,es,A⟩:=WU A;have:=A.ob.l;rw[Wo] at this;exact⟨A.ob.tr,A.ob.h,this,A.live⟩
theorem Rw.keep(R:Rw H m e f g l q Y s p w)(k:∀a∈ [m,e,f,g,l],∀o,H a=some o->Z a=some o):Rw Z m e f g l q Y s p w:=⟨k _ aP _ R.r,k _ aP _ R.h,k _ aP _ R.j,k _ aP _ R.r5,k _ aP _ R.n,R.nd⟩
theorem Rw.ne(R:Rw H m e f g l q Y s p w):(m≠e/\m≠f/\m≠g/\m≠l)/\(e≠f/\e≠g/\e≠l)/\(f≠g/\f≠l)/\g≠l:=by
 have h:=R.nd;simp at h;exact⟨h.1,h.2.1,h.2.2.1,h.2.2.2⟩
theorem Rw.live(R:Rw H m e f g l q Y s p w):jF [m,e,f,g,l] H:=λx a=>by
 simp at a;rcases a with rfl|rfl|rfl|rfl|rfl
 exact⟨_,R.r,nofun⟩;exact⟨_,R.h,nofun⟩;exact⟨_,R.j,nofun⟩;exact⟨_,R.r5,nofun⟩;exact⟨_,R.n,nofun⟩
theorem Rw.Bh(R:Rw H m e f g l q Y s p w)(d:Nat):Rw (upd H m<|.d<|cB e f g l d) m e f g l d Y s p w:=by
 obtain⟨⟨a,b,c,d⟩,Z⟩:=R.ne;exact⟨aj,aO a.symm R.h,aO b.symm R.j,aO c.symm R.r5,aO d.symm R.n,R.nd⟩
theorem Rw.put2(R:Rw H m e f g l q Y s p w):Rw (upd H e<|.l<|E.map gV) m e f g l q E s p w:=by
 obtain⟨⟨a,Z⟩,⟨b,c,d⟩,Z⟩:=R.ne;exact⟨aO a R.r,aj,aO b.symm R.j,aO c.symm R.r5,aO d.symm R.n,R.nd⟩
theorem Rw.put3(R:Rw H m e f g l q Y s p w):Rw (upd H f<|.l<|G.map gV) m e f g l q Y G p w:=by
 obtain⟨⟨Z,a,Z⟩,⟨b,Z⟩,⟨c,d⟩,Z⟩:=R.ne;exact⟨aO a R.r,aO b R.h,aj,aO c.symm R.r5,aO d.symm R.n,R.nd⟩
theorem Rw.akY(R:Rw H m e f g l q Y s p w):Rw (upd H g<|.l<|z.map V.r) m e f g l q Y s z w:=by
 obtain⟨⟨Z,Z,a,Z⟩,⟨Z,b,Z⟩,⟨c,Z⟩,d⟩:=R.ne;exact⟨aO a R.r,aO b R.h,aO c R.j,aj,aO d.symm R.n,R.nd⟩
theorem Rw.akZ(R:Rw H m e f g l q Y s p w):Rw (upd H l<|.l<|I.map V.s) m e f g l q Y s p I:=by
 obtain⟨⟨Z,Z,Z,a⟩,⟨Z,Z,b⟩,⟨Z,c⟩,d⟩:=R.ne;exact⟨aO a R.r,aO b R.h,aO c R.j,aO d R.r5,aj,R.nd⟩
end
def Lp(H:Hp)(a:Do)(p:cr):Prop:= ∃xs,H a=some (.l xs)/\aD H xs p
structure SV(C:Do)(Kp:wS)(H:Hp)(hp wA ab la eg tx:Do)(M Ed as:ii)(hr N:Nat)(Y:bi)(G':ca)(R' T':bi)(es:List cr)(n:Nat):Prop where
 hi:bf C H hp M Ed N Y (G'.map λx=>x.cps.toList) T' 320
 v:gm H Ed (λi h=>es[i]?=some h)
 R:Rw H wA ab la eg tx hr Y R' as G'
 le:Paired (Lp H) as es
 dj:∀a∈ [wA,ab,la,eg,tx],a∉M/\a∉Ed/\a∉as
 da:∀a∈as,a∉M
 kp:∀a o,Kp a o->H a=some o/\a∉M/\a∉ [wA,ab,la,eg,tx]
 gd:∀x∈G',good x/\x.length<=400+320*n
 sz:Y.length<=11
 u:es.length=Y.length
section
variable{C:Do}{T:wS}{H Z:Hp}{U G I w J K:Do}{M P g:ii}{R N:Nat}{Y p m X:bi}{l:ca}{E:List cr}{n:Nat}
theorem Lp.keep(c:Lp H a p0)(k:∀o,H a=some o->Z a=some o)(t:bI H Z):Lp Z a p0:=by
 obtain⟨xs,b,h⟩:=c;exact⟨xs,k _ b,h.mono t⟩
theorem wx(h:Paired (Lp H) g E)(k:∀a∈g,∀o,H a=some o->Z a=some o)(t:bI H Z):Paired (Lp Z) g E:=by
 induction h with
 |nil=>exact .nil
 |cons h Y i=>exact .cons (h.keep (k _<|.head _) t) (i λa b=>k a (.tail _ b))
theorem zB(h:Paired (Lp H) g E)(e:g[i]?=some a):∃p,E[i]?=some p/\Lp H a p:=by
 induction h generalizing i with
 |nil=>simp at e
 |cons h Y b=>
  cases i with
  |zero=>simp at e;subst e;exact⟨_,O,h⟩
  |succ i=>exact b (by simpa using e)
theorem SV.jG(S:SV C T H U G I w J K M P g R N Y l p X E n):l.length=Y.length:=by
 have:=(bf.cO S.hi).2.2.1;rw[Wo] at this;exact this
theorem SV.bD(S:SV C T H U G I w J K M P g R N Y l p X E n):g.length=Y.length:=(KB S.le).trans S.u
theorem SV.same(S:SV C T H U G I w J K M P g R N Y l p X E n)(s:ar H Z):SV C T Z U G I w J K M P g R N Y l p X E n:=
 ⟨S.hi.same s,S.v.same s,S.R.keep λW W W e=>s _ _ e,wx S.le (λW W W e=>s _ _ e)<|bB s,S.dj,S.da,λa o k=>⟨s _ _ (S.kp a o k).1,(S.kp a o k).2⟩,S.gd,S.sz,S.u⟩
theorem SV.at(S:SV C T H U G I w J K M P g R N Y l p X E n)(a:d<Y.length):∃x,l[d]?=some x/\good x/\x.length<=400+320*n:=by
 obtain⟨x,h⟩:∃x,l[d]?=some x:=⟨_,XB (S.jG▸a)⟩;exact⟨x,h,S.gd x<|YK h⟩
theorem SV.up(S:SV C T H U G I w J K M P g R N Y l p X E n){m:Nat}(a:n<=m):SV C T H U G I w J K M P g R N Y l p X E m:=⟨S.hi,S.v,S.R,S.le,S.dj,S.da,S.kp,λx h=>⟨(S.gd x h).1,by have:=(S.gd x h).2;lia⟩,S.sz,S.u⟩
theorem SV.no(S:SV C T H U G I w J K M P g R N Y l p X E n)(f:H a=none):a∉M/\a∉P/\a∉ [G,I,w,J,K]/\a∉g/\∀o,¬T a o:=⟨(S.hi.own f).1,(S.hi.own f).2,S.R.live.no f,(λz=>by
 obtain⟨i,b⟩:=WK.mp z;obtain⟨c,Z,xs,h,Z⟩:=zB S.le b;rw[f] at h;cases h),λo k=>by rw[(S.kp a o k).1] at f;cases f⟩
theorem SV.rows(S:SV C T H U G I w J K M P g R N Y l p X E n)(b:bo [G,I,w,J,K] H Z){B:Nat}(c:Rw Z G I w J K B Y m g l):SV C T Z U G I w J K M P g B N Y l m X E n:=by
 have t:=S.R.live.bx b;exact⟨S.hi.keep (λa o h e=>b a o e λq=>h.elim (S.dj a q).1 (S.dj a q).2.1) t,S.v.keep (λa o h e=>b a o e λq=>(S.dj a q).2.1 h) t,c,wx S.le (λa h o e=>b a o e λq=>(S.dj a q).2.2 h) t,S.dj,S.da,λa o k=>⟨b _ _ (S.kp a o k).1 (S.kp a o k).2.2,(S.kp a o k).2⟩,S.gd,S.sz,S.u⟩
theorem SV.Dj(S:SV C T H U G I w J K M P g R N Y l p X E n){D:bi}(b:bo M H Z)(A:bf C Z U M P d Y (l.map λx=>x.cps.toList) D 320):SV C T Z U G I w J K M P g R d Y l p D E n:=
 ⟨A,S.v.but S.hi b,S.R.keep λa h o e=>b _ _ e (S.dj a h).1,wx S.le (λa h o e=>b a o e<|S.da a h)<|(bf.cO S.hi).2.2.2.bx b,S.dj,S.da,λa o k=>⟨b _ _ (S.kp a o k).1 (S.kp a o k).2.1,(S.kp a o k).2⟩,S.gd,S.sz,S.u⟩
theorem SV.now(S:SV C T H U G I w J K M P g R N Y l p X E n)(d:Nat):SV C T (upd H G<|.d<|cB I w J K d) U G I w J K M P g d N Y l p X E n:=S.rows (bo.upd aP) (S.R.Bh d)
theorem SV.putL(S:SV C T H U G I w J K M P g R N Y l p X E n):SV C T (upd H w<|.l<|m.map gV) U G I w J K M P g R N Y l m X E n:=S.rows (bo.upd aP) S.R.put3
theorem SV.clear(S:SV C T H U G I w J K M P g R N Y l p X E n)(d:H c=some (.l xs))(h:c∉M/\c∉P/\c∉ [G,I,w,J,K]/\c∉g/\∀o,¬T c o):SV C T (upd H c<|.l B) U G I w J K M P g R N Y l p X E n:=by
 have b:aE c H (upd H c<|.l B):=aE.upd;have t:=b.bx d;exact⟨S.hi.keep (λa o q e=>b _ _ e λz=>by lia) t,S.v.keep (λa o q e=>b _ _ e λz=>h.2.1 (z ▸ q)) t,S.R.keep λa q o e=>b _ _ e λz=>h.2.2.1 (z ▸ q),wx S.le (λa q o e=>b _ _ e λz=>h.2.2.2.1 (z ▸ q)) t,S.dj,S.da,λa o k=>⟨b _ _ (S.kp a o k).1 λz=>h.2.2.2.2 o (z ▸ k),(S.kp a o k).2⟩,S.gd,S.sz,S.u⟩
theorem SV.nA(S:SV C T H U G I w J K M P g R N Y l p X E n)(q:Y[i]?=some (some j)):∃e x y,E[i]?=some e/\l[j]?=some x/\l[i]?=some y/\cE e x.cps.toList y.cps.toList/\ao e<=320:=by
 obtain⟨dx,lo,r,B,be,lg,D,z,A⟩:=WU S.hi;obtain⟨a,h,s,t,zq⟩:=YC (A.CO S.v i j q);obtain⟨u,c,b,o,m,k⟩:=Xt zq;rw[Z_] at c b;obtain⟨x,f,rfl⟩:=WC.mp c;obtain⟨y,d,rfl⟩:=WC.mp b;exact pE h x y k f d o.chg m
theorem SV.ept(S:SV C T H U G I w J K M P g R N Y l p X E n):gm H P (λi h=>E[i]?=some h/\ao h<=320/\∃x y,cE h x y):=by
 obtain⟨dx,lo,u,L,be,lg,Q,t,A⟩:=WU S.hi;intro i a e;have d:t[i+1]?=some (V.r a):=by rw[A.y3,Zl,Z_,e];rfl
 have b:=(ZS.mp d).1;rw[A.le] at b;obtain⟨j,f,Z⟩:=A.ob.tr.up (i+1) (fP _) b;obtain⟨W,h,z,B,zq⟩:=YC (A.CO S.v _ j f);obtain⟨c,F,D,⟨xs,s,q,o⟩,m,k⟩:=Xt zq;rw[d] at c;cases c;exact oS xs h s q k ⟨m,_,_,o⟩
theorem SV.more(S:SV C T H U G I w J K M P g R N Y l p X E n){o:HO}(f:H c=none)(s:ar H Z)(i:Z c=some o):SV C (λa d=>T a d\/a=c/\d=o) Z U G I w J K M P g R N Y l p X E n:=by
 have b:=S.same s;obtain⟨h,W,e,W⟩:=YG (S.no f);exact⟨b.hi,b.v,b.R,b.le,b.dj,b.da,λa d k=>k.elim (b.kp a d) aH,b.gd,b.sz,b.u⟩
end
section
open PyProof.Rows
end
section
variable{K:Frag}{CP C CE CD:Do}
end
theorem wy(b:Yp l h r):cG h=l.length:=by
 induction b with
 |N=>rfl
 | @k a l r k h e _ i=>show k.toNat+cG h=_;rw[JB];lia
 |t Y i=>exact i
 | @C s l r h _ i=>show s.length+cG h=_;rw[i,JB,YM]
section
variable{Y:bi}{S V:bn}{N a b c x:Nat}
theorem ak1(T:bZ Y)(f:pH Y S)(h:pH Y V)(i:x∈S)(g:x∈V):∃d,d∈S/\d∈V/\∀k,k∈S->k∈V->k≠d->∃j,Y[k]?=some (some j)/\j∈S/\j∈V:=by
 obtain⟨c,Z,f⟩:=f;obtain⟨t,Z,h⟩:=h;have u:∀k,k∈S->k∈V->k≠max c t->∃j,Y[k]?=some (some j)/\j∈S/\j∈V:=λk a b m=>by
  obtain⟨l1,l⟩:=f k a;obtain⟨l2,q⟩:=h k b;rcases l with l|⟨j,v,e⟩
  cases m (show k=max c t by lia);rcases q with q|⟨w,K,o⟩
  cases m (show k=max c t by lia);rw[e] at o;cases o;exact⟨j,e,v,K⟩
 refine⟨max c t,?_⟩;have p:∀n x,x<=n->x∈S->x∈V->max c t∈S/\max c t∈V:=λn=>by
  induction n with
  |zero=>
   intro x s a b;by_cases z:x=max c t;rw[<-z];exact⟨a,b⟩;obtain⟨j,e,Z⟩:=u x a b z;have:=(aU T e).1;exact (WA _ (ZP this s)).elim
  |succ n r=>
   intro x s a b;by_cases z:x=max c t;rw[<-z];exact⟨a,b⟩;obtain⟨j,e,a,b⟩:=u x a b z;exact r j (by have:=(aU T e).1;exact Yu (ZP this s)) a b
 exact⟨(p x x (ZX _) i g).1,(p x x (ZX _) i g).2,u⟩
theorem Nx.bt(T:bZ Y)(i:Nx Y N a b)(x:pH Y S)(m:N∈S)(A:b∈S):a∈S:=by
 obtain⟨E,V,w,v,q,l⟩:=i;obtain⟨W,o⟩:=w.add T q l E;obtain⟨t,H,G,u⟩:=ak1 T x W m (Zh _ v);have D:b∈V++[b]:=cQ _ (.head _);have p:∀{k},k∈V++[b]->k≠b->k∈V:=λi n=>(Z4.mp i).resolve_right λz=>n (Ya.mp z);by_cases z:b=t;have F:∀n k,k<=n->k∈S->k∈V++[b]->k≠b->∃c,Y[c]?=some (some b)/\c∈S/\c∈V++[b]:=λn=>by
  induction n with
  |zero=>
   intro k s a d f;obtain⟨j,e,Z⟩:=u k a d (z ▸ f);have:=(aU T e).1;exact (WA _ (ZP this s)).elim
  |succ n r=>
   intro k s a d f;obtain⟨j,e,h,g⟩:=u k a d (z ▸ f);by_cases y:j=b;exact⟨k,aH,a,d⟩;exact r j (by have:=(aU T e).1;exact Yu (ZP this s)) h g y
 obtain⟨c,e,C,B⟩:=F N N (ZX _) m (Zh _ v) λy=>l (y ▸ v);rw[<-o c (p B (by have:=(aU T e).1;exact XF this)) (.inl e)];exact C;obtain⟨j,e,h,g⟩:=u b A D z;rw[<-o j (p g (by have:=(aU T e).1;exact Ze this)) (.inr e)];exact h
theorem Nx.un(T:bZ Y)(h:Nx Y N a b)(i:Nx Y N c b):a=c:=by
 obtain⟨j,V,g,f,d,v⟩:=id i;obtain⟨W,o⟩:=g.add T d v j;have:=h.bt T W (Zh _ f) (cQ _<|.head _);refine o a ((Z4.mp this).resolve_right λz=>?_) (h.1.elim .inr .inl);have e:=Ya.mp z;rcases h.1 with e|e
 have:=(aU T e).1;lia;have:=(aU T e).1;lia
theorem Nx.as(T:bZ Y)(e:Nx Y N a b)(f:Nx Y N b a):False:=by
 obtain⟨Z,V,h,d,c,v⟩:=f;exact v<|e.bt T h d c
end
def nP(Y:bi)(es:List cr)(a b:Nat):cr:=if Y[b]?=some (some a) then es.getD b [] else bk (es.getD a [])
structure Vn(Y:bi)(N:Nat)(es:List cr)(gL eL:Nat->cr)(i j:Nat):Prop where
 e:Nx Y N j i/\eL i=nK (gL j) (es.getD i [])\/Nx Y N i j/\eL i=bk (nK (gL i)<|bk<|es.getD i [])
structure IT(Y:bi)(N:Nat)(es:List cr)(gL eL:Nat->cr):Prop where
 b:∀b,b<Y.length->b≠N->∃a,Nx Y N a b/\gL b=nO (gL a) (nP Y es a b)
 e:∀i j,Y[i]?=some (some j)->Vn Y N es gL eL i j
theorem IT.psg{es:List cr}{L v:Nat->cr}(T:bZ Y)(S:IT Y N es L v):CU Y N (λk g=>g=L k/\ao g<=320) (λi h=>es[i]?=some h/\ao h<=320/\∃x y,cE h x y) λi h=>h=v i:=by
 rintro a b g e h qs l m n o ⟨rfl,I⟩ J E w P;have M:=P.Qk;have u:b≠N/\b<Y.length:=by
  obtain⟨H,V,Z,B,Z,A⟩:=o;refine⟨λz=>A<|z ▸ B,?_⟩;rcases H with e|e
  exact(aU T e).2;have:=aU T e;lia
 obtain⟨j,G,p⟩:=S.b b u.2 u.1;have:=G.un T o;subst this;have d:=KJ E.ok P (Y4 I (Xk _ _));rcases J with⟨q,f,C,Z⟩|⟨s,D,⟨f,C,x,y,F⟩,rfl⟩
 have r:nP Y es j b=e:=by unfold nP;rw[GT q,Xu,f];rfl
 rw[r,d] at p;refine⟨⟨p.symm,(Y4 M I)⟩,λZ=>?_,λz=>by have:=(aU T z).1;have:=(aU T q).1;lia⟩;rcases (S.e b j q).e with⟨Z,c⟩|⟨c,Z⟩
 rw[c,Xu,f];exact ((U5 w.ok P (Y4 C (Xk _ _))).1).symm;cases o.as T c;have t:¬Y[b]?=some (some j):=λz=>by have:=(aU T z).1;have:=(aU T s).1;lia
 have r:nP Y es j b=bk D:=by unfold nP;rw[Id t,Xu,f];rfl
 have K:=(F.bk (Y4 C (Xk _ _))).2.1;rw[r,d] at p;refine⟨⟨p.symm,(Y4 M I)⟩,λz=>(t z).elim,λZ=>?_⟩;rcases (S.e j b s).e with⟨c,Z⟩|⟨Z,c⟩
 cases o.as T c;rw[c,Xu,f];exact IR bk ((U5 w.ok P aH).1).symm
section
variable{K:Frag}{H:Hp}{Q:VK}{E:XK}{a b:Do}{g e:cr}{l m n:bn}
theorem Vo(j:Lp H a g)(i:Lp H b e)(d:cE g l m)(h:cE e l n)(o:ao g<=320)(t:ao e<=320)(A:l.length<=10000)(q:∀c Z,ar H Z->H c=none->Lp Z c (nO g e)->Q (.r c) Z):zy [.r a,.r b] H Q E:=by
 obtain⟨xs,j,v⟩:=j;obtain⟨B,i,w⟩:=i;have y:=wy d.run;have x:=wy h.run;have D:=jj g "" d.ok d.c;have C:=jj e "" h.ok h.c;have u:=(Df d h (Y4 o (Xk _ _)) (Y4 t (Xk _ _))).2.2.2.2;exact⟨a,b,xs,B,g,e,O,j,i,v,w,d.ok,h.ok,aH,(Y4 (XX y) A),(Y4 o (Xk _ _)),(Y4 t (Xk _ _)),aH,aH,aH,λc Z z s f k p=>q c Z s f ⟨z,k,p⟩⟩
theorem Vp(j:Lp H a g)(i:Lp H b e)(d:cE g l m)(h:cE e l n)(o:ao g<=320)(t:ao e<=320)(A:l.length<=10000)(q:∀c Z,ar H Z->H c=none->Lp Z c (nK g e)->Q (.r c) Z):zq [.r a,.r b] H Q E:=by
 obtain⟨xs,j,v⟩:=j;obtain⟨B,i,w⟩:=i;have y:=wy d.run;have x:=wy h.run;have D:=jj g "" d.ok d.c;have C:=jj e "" h.ok h.c;have u:=(Df d h (Y4 o (Xk _ _)) (Y4 t (Xk _ _))).2.2.2.1;exact⟨a,b,xs,B,g,e,O,j,i,v,w,d.ok,h.ok,aH,(Y4 (XX y) A),(Y4 o (Xk _ _)),(Y4 t (Xk _ _)),aH,aH,aH,λc Z z s f k p=>q c Z s f ⟨z,k,p⟩⟩
inductive rN(v:db)(H:Hp)(Q:VK)(E:XK):Prop|i(a:Do)(e:cr)(l m:bn)(_:v=[.r a])(_:Lp H a e)(_:cE e l m)(_:ao e<=320)(_:∀c Z,ar H Z->H c=none->Lp Z c (bk e)->Q (.r c) Z)
noncomputable def WL:nH:=[(.inr "keep",.s "keep"),(.inr "put",.s "cut"),(.inr "cut",.s "put")]
abbrev mR(K:Frag)(E:XK):ba:=aG K [("_law_neat",mX)] [] (E:=E)
theorem ak3:bz (rN) (λE=>mR K E) Uo Um:=by
 intro vs H Q E W;obtain⟨a,h,l,m,rfl,⟨xs,j,F⟩,w,ht,q⟩:=W;have n:=KB F;have cl:=jj h "" w.ok w.c;refine aY<|C0 λp Y=>aq (aC<|aq<|aC<|aq<|aC<|aq<|aC<|aq<|aC<|aq<|aC<|az ⟨aj,WL,O,aQ,?_⟩);have eW:iH [] WL=WL:=by decide+kernel
 rw[eW];have v:ar H (upd (upd H p<|.d []) p<|.d WL):=λy o e=>by
  have C:y≠p:=λz=>by rw[z,Y] at e;cases e
  rw[aw C,aw C];exact e
 have D:upd (upd H p<|.d []) p (.d WL) p=some (.d WL):=aj;generalize upd (upd H p<|.d []) p (.d WL)=t at v D⊢;refine cA<|bu mX O<|aq ?_;refine rT _ O a O (oM _ (ag.of<|v _ _ j)) ⟨λi m B u=>m=xs.length - i/\i<=xs.length/\ar t u/\aD u B (cf<|h.take i), ⟨_,O,Y_ _,ar.refl _,.nil⟩,?_⟩;rintro i m B u ⟨rfl,hi,r,g⟩;have P:=v.trans r;by_cases G:i<xs.length;refine .inr ⟨o3 xs (xs[i]) (ag.of<|P _ _ j) (by simp[G]),?_⟩;rintro x I ⟨rfl,S⟩;have bJ:=S xs (ag.of<|P _ _ j);obtain⟨f,X,U⟩:=F.get bJ;obtain⟨b,rfl,A⟩:=U.mono (bB P);have ya:=KB g;have T:dO WL (.inr f.word)=some (.s f.mY.word):=by
  cases f<;>first|rfl| (show dO WL _=_;decide+kernel)
 refine oS b _ O (aA.of A) O ⟨_,O,_,O,p,_,O,.inl (oG WL (.inr f.word) (.inl<|r _ _ D) O T.symm),?_⟩;refine nT _ O (by show 2<=sizeLine;decide) (λM J=>qC ?_ (xs.length - (i+1)) aH ⟨O,G,r.trans<|V3 J,?_⟩);have:(cf<|h.take i).length=i:=by simp[cf];lia
 exact bY aH;have e:cf (h.take<|i+1)=cf (h.take i)++[f.mY]:=by
  rw[Wa,X];simp[cf]
 rw[e];refine(g.mono<|bB<|V3 J).snoc ⟨M,O,?_⟩;rw[aj];cases f<;>rfl
 have Z:i=xs.length:=XZ hi (Z6 G)
 subst Z;refine .inl ⟨nS xs (ag.of<|P _ _ j) (ZX _),λb A=>?_⟩;have e:cf (h.take xs.length)=cf h:=by rw[n,Hd]
 rw[e] at g;have k:=V3 (o:=.l B) A;refine⟨b,B,cf h,O,aj,g.mono<|bB k,by simp[cf];lia,by rw[Bv];exact Y4 ht (Xk _ _),λc I L N eR V R=>q c I (P.trans<|k.trans N) ((P.trans k).free eR) ⟨L,V,?_⟩⟩;unfold bk;rw[qD _<|OO<|Bw w.ok (Y4 ht (Xk _ _))];exact R
end
structure jq(H0 H:Hp)(Y:bi)(N:Nat)(G':ca)(es:List cr)(as:ii)(p0:cr)(cc e2 g3:Do)(Xf:bn)(ad:Nat->Do)(gL eL:Nat->cr)(ea:ii):Prop where
 sm:ar H0 H
 fr:H0 e2=none/\H0 g3=none
 ne:e2≠g3
 t:H e2=some (.l<|ea.map V.r)
 h:H g3=some (.d<|cq Xf ad)
 nd:Xf.Nodup
 lv:∀k∈Xf,k<Y.length
 tp:pH Y Xf
 hh:N∈Xf
 z:gL N=p0
 L:ea.length=Y.length
 e0:ea[0]?=as[0]?
 gt:∀k∈Xf,ad k≠e2/\Lp H (ad k) (gL k)/\ao (gL k)<=320/\∃x r,G'[k]?=some x/\cE (gL k) x.cps.toList r
 ga:∀k∈Xf,ad k=cc\/H0 (ad k)=none
 gb:∀b∈Xf,b≠N->∃a,Nx Y N a b/\gL b=nO (gL a) (nP Y es a b)/\a∈Xf
 ed:∀i j,Y[i]?=some (some j)->i∈Xf->j∈Xf->Vn Y N es gL eL i j/\∃a,ea[i]?=some a/\H0 a=none/\a≠e2/\Lp H a (eL i)
section
variable{A H Z:Hp}{Y:bi}{N:Nat}{G:ca}{m:List cr}{J:ii}{K:cr}{P g f:Do}{l:bn}{I:Nat->Do}{w R:Nat->cr}{E:ii}
theorem zC{K:nH}(h:Lp H x p)(g:H f=some (.d K)):x≠f:=λz=>by
 obtain⟨xs,h,Y⟩:=h;rw[z,g] at h;cases h
theorem jq.add(S:jq A H Y N G m J K P g f l I w R E)(T:bZ Y){a:Nat}{d:Do}{M W:cr}(k:∀y o,y≠g->y≠f->H y=some o->Z y=some o)(tu:bI H Z)(he:Z g=some (.l<|(E.set i d).map V.r))(hg:Z f=some (.d<|cq (l++[b])<|dF I b c))(D:a∈l)(F:b∉l)(bl:b<Y.length)(c0:A c=none)(hc:Lp Z c M)(cW:c≠g)(tg:ao M<=320)(u:∃x r,G[b]?=some x/\cE M x.cps.toList r)(eg:M=nO (w a) (nP Y m a b))(d0:A d=none)(dW:d≠g)(hd:Lp Z d W)(U:Y[b]?=some (some a)/\i=b/\W=nK (w a) (m.getD b [])\/Y[a]?=some (some b)/\i=a/\W=bk (nK (w a)<|bk<|m.getD a [])):
  jq A Z Y N G m J K P g f (l++[b]) (dF I b c) (dF w b M) (dF R i W) (E.set i d):=by
 have CS:iu Y a b:=U.elim (λc=>.inl c.1) λc=>.inr c.1;have nx:Nx Y N a b:=⟨CS,l,S.tp,S.hh,D,F⟩;obtain⟨tp,B⟩:=S.tp.add T D F CS;have v:∀{x},x∈l->x≠b:=λh0 z=>F (z ▸ h0);have i0:i≠0/\i<E.length:=by
  rw[S.L];rcases U with⟨e,rfl,O⟩|⟨e,rfl,O⟩
  have:=aU T e;lia;have:=aU T e;lia
 have kl:∀{x:Do}{p:cr},x≠g->Lp H x p->Lp Z x p:=λh0 q=>q.keep (λo e=>k _ o h0 (zC q S.h) e) tu;refine⟨λy o e=>k y o (λz=>by rw[z,S.fr.1] at e;cases e) (λz=>by rw[z,S.fr.2] at e;cases e)<|S.sm _ _ e,S.fr,S.ne,he,hg,?_,λx u=>?_,tp,Zh _ S.hh,by rw[fE<|v S.hh];exact S.z,by rw[V1];exact S.L,by rw[Yh i0.1];exact S.e0,λx j=>?_,λx j=>?_,λx j n=>?_,λx y e j X=>?_⟩;exact List.nodup_append.mpr ⟨S.nd,aP,λx u y X e=>F (by rw[<-Ya.mp X,<-e];exact u)⟩;rcases Z4.mp u with u|u
 exact S.lv x u;rw[Ya.mp u];exact bl;rcases Z4.mp j with j|j
 obtain⟨g1,g2,f⟩:=S.gt x j;rw[fE<|v j,fE<|v j];exact⟨g1,kl g1 g2,f⟩;rw[Ya.mp j,j9,j9];exact⟨cW,hc,tg,u⟩;rcases Z4.mp j with j|j
 rw[fE<|v j];exact S.ga x j;rw[Ya.mp j,j9];exact .inr c0;rcases Z4.mp j with j|j
 obtain⟨a',C,t,h3⟩:=S.gb x j n;exact⟨a',C,by rw[fE<|v j,fE<|v h3];exact t,Zh _ h3⟩;rw[Ya.mp j];exact⟨a,nx,by rw[j9,fE<|v D];exact eg,Zh _ D⟩;rcases Z4.mp j with C|C
 rcases Z4.mp X with t|t
 have xi:x≠i:=λz=>by
  rcases U with⟨O,r,O⟩|⟨Q,r,O⟩
  exact v C (z.trans r);rw[z,r,Q] at e;cases e;exact F t
 obtain⟨⟨s⟩,q,g1,g2,f,g4⟩:=S.ed x y e C t;refine⟨⟨?_⟩,q,by rw[Yh<|Ix xi];exact g1,g2,f,?_⟩;rw[fE xi,fE<|v C,fE<|v t];exact s;rw[fE xi];exact kl f g4;have g:=Ya.mp t;subst g;have:=B x C (.inl e);subst this;rcases U with⟨Q,O⟩|⟨O,r,eq⟩
 have:=(aU T e).1;have:=(aU T Q).1;lia;subst r eq;exact⟨⟨.inr ⟨nx,by rw[j9,fE<|v D]⟩⟩,d,by rw[Yl i0.2],d0,dW,by rw[j9];exact hd⟩;have e1:=Ya.mp C;subst e1;rcases Z4.mp X with t|t
 have:=B y t (.inr e);subst this;rcases U with⟨O,r,eq⟩|⟨Q,O⟩
 subst r eq;exact⟨⟨.inl ⟨nx,by rw[j9,fE<|v D]⟩⟩,d,by rw[Yl i0.2],d0,dW,by rw[j9];exact hd⟩;have:=(aU T e).1;have:=(aU T Q).1;lia;have g:=Ya.mp t;have:=(aU T e).1;lia
end
theorem Vq{r:jp}{a:RE}(h:af W a F H λx t=>af W b F t λy u=>∃p q:Int,[x,y]=[.i p,.i q]/\(-(2 ^ 62)<=p/\p<2 ^ 62/\ -(2 ^ 62)<=q/\q<2 ^ 62)/\∃e:Nat->Nat->St->Hp->Prop,(∃m,e 0 m F u)/\∀j m F H,e j m F H->
  ((dY p (q - p).toNat).stop j H/\({D with nx:=av W r D}:WH).nx F H)\/((dY p (q - p).toNat).go j H/\∃N:St->Hp->Prop,(∀V Z,N V Z->∃f,f<m/\e (j+1) f V Z)/\∀x Z,(dY p (q - p).toNat).eE j H x Z->gA i x F Z λd u=>av W body {({D with nx:=av W r D}:WH) with nx:=N,c:=N,bk:=({D with nx:=av W r D}:WH).nx} d u)):
  av W (.g i .s [a,b] body::r) D F H:=h
structure IU(H0:Hp)(wA ab la eg tx:Do)(N:Nat)(Y R':bi)(as:ii)(G':ca)(es:List cr):Prop where
 R:Rw H0 wA ab la eg tx N Y R' as G'
 le:Paired (Lp H0) as es
 T:bZ Y
 hh:N<Y.length
 sz:Y.length<=11
 ll:es.length=Y.length
 ee:∀(i j:Nat),Y[i]?=some (some j)->∃(e:cr)(x y:Str),es[i]?=some e/\G'[j]?=some x/\G'[i]?=some y/\cE e x.cps.toList y.cps.toList/\ao e<=320
 gd:∀x∈G',x.length<=9000
section
variable{K:Frag}{E:XK}{X H:Hp}{p s m eg tx A l f:Do}{N:Nat}{Y R':bi}{G J:ii}{P:ca}{I:List cr}{R:cr}{g:bn}{w:Nat->Do}{T U:Nat->cr}
abbrev uw(K:Frag)(E:XK):ba:=aG K [("_law_passed",zy),("_law_passed_on",zq),("_law_back",rN)] [] (E:=E)
noncomputable def Vr:jp:=[.a 6 (.i (.P (.v 0) (.c (.s "above"))) (.v 5)),
   .i (.d [(.K (.v 6) (.v 3)),(.q (.v 5) (.v 3))]) [.t (.v 3) (.v 5) (.l 0 [(.P (.v 3) (.v 6)),(.i (.P (.v 0) (.c (.s "edges"))) (.v 5))]),
    .s (.v 2) (.v 5) (.l 1 [(.P (.v 3) (.v 6)),(.i (.P (.v 0) (.c (.s "edges"))) (.v 5))])] [.i (.d [(.K (.v 5) (.v 3)),(.q (.v 6) (.v 3))]) [.a 7 (.l 2 [(.i (.P (.v 0) (.c (.s "edges"))) (.v 5))]),
     .t (.v 3) (.v 6) (.l 0 [(.P (.v 3)<|.v 5),.v 7]),
     .s (.v 2) (.v 5) (.l 2 [(.l 1 [(.P (.v 3) (.v 5)),.v 7])])] []]]
theorem jq.same(S:jq X H Y N P I G R A l f g w T U J)(s:ar H Z):jq X Z Y N P I G R A l f g w T U J:=
 ⟨S.sm.trans s,S.fr,S.ne,s _ _ S.t,s _ _ S.h,S.nd,S.lv,S.tp,S.hh,S.z,S.L,S.e0,λk b=>⟨(S.gt k b).1,(S.gt k b).2.1.keep (λo e=>s _ _ e) (bB s),(S.gt k b).2.2⟩,S.ga,S.gb,λi j e d c=>by
  obtain⟨b,a,q,p,n,m⟩:=S.ed i j e d c;exact⟨b,a,q,p,n,m.keep (λo e=>s _ _ e) (bB s)⟩⟩
theorem Dk(h:H f=some (.d<|cq g w))(a:k∈g):eU H f (.i (k:Nat)) (some<|V.r<|w k):=by
 rw[<-uf a];exact eU.k (k:=.inl ((k:Nat):Int)) h
theorem Vs{a:Nat}{k:Nat}(W1:IU X p s m eg tx N Y R' G P I)(S:jq X H Y N P I G R A l f g w T U J)(h2:F[2]?=some (some<|.r l))(h3:F[3]?=some (some<|.r f))(hk:F[k]?=some (some<|.i (b:Nat)))(h5:F[5]?=some (some<|.i (i:Nat)))(ha:a∈g)(hb:b∉g)(bl:b<Y.length)(s1:ar H t)(fc:H c=none)(hc:Lp t c g')(tg:ao g'<=320)(hx:∃x r,P[b]?=some x/\cE g' x.cps.toList r)(nQ:g'=nO (T a) (nP Y I a b))(cs:Y[b]?=some (some a)/\i=b\/Y[a]?=some (some b)/\i=a)(he:∀(Q:VK)(u:Hp),(∀y o,y≠f->t y=some o->u y=some o)->bI t u->eU u f (.i (a:Nat)) (some<|V.r<|w a)->(∀(d:Do)(C:Hp),ar u C->u d=none->Lp C d (if i=b then nK (T a) (I.getD b []) else bk (nK (T a)<|bk<|I.getD a []))->Q (.r d) C)->af (uw K E) e1 F u Q)(q:∀(iz:Nat->Do)(wz wB:Nat->cr)(wC:ii)(Z:Hp),jq X Z Y N P I G R A l f (g++[b]) iz wz wB wC->D.nx F Z):
  af (uw K E) (.v 3) F t λx u=>af (uw K E) (.v k) F u λy C=>∃a H4,x=.r a/\mF C a y (.r c) H4/\av (uw K E) [.s (.v 2) (.v 5) e1] D F H4:=by
 have S1:=S.same s1;have kl:(cq g w).length=g.length:=by unfold cq;rw[Wo]
 have vl:=rm _ _ S.nd S.lv;have sz:=W1.sz;refine aa h3<|aa hk ⟨f,_,O,mF.k (k:=.inl ((b:Nat):Int)) S1.h<|bY (by rw[kl];lia),?_⟩;rw[Si hb];have j:aE f t (upd t f<|.d<|cq (g++[b])<|dF w b c):=aE.upd;have rH:upd t f (.d<|cq (g++[b])<|dF w b c) f=some (.d<|cq (g++[b])<|dF w b c):=aj;have t2:bI t (upd t f<|.d<|cq (g++[b])<|dF w b c):=λy B e=>j y _ e λz=>by rw[z,S1.h] at e;cases e
 generalize upd t f (.d<|cq (g++[b])<|dF w b c)=u at j rH t2⊢;have na:a≠b:=λz=>hb (z ▸ ha);have dg:eU u f (.i (a:Nat)) (some<|V.r<|w a):=by
  have:=Dk rH (Zh [b] ha);rw[fE na] at this;exact this
 refine qT<|he _ u (λy o n e=>j y o e n) t2 dg λd C M W hd=>?_;have y8:=M _ _ (j _ _ S1.t S.ne);have il:i< (J.map V.r).length:=by
  rw[Wo,S.L];rcases cs with⟨_,rfl⟩|⟨_,rfl⟩
  exact bl;exact S.lv _ ha
 refine aa h2<|aa h5 ⟨l,_,_,i,O,O,y8,IS il,?_⟩;have em:(J.map V.r).set i (.r d)=(J.set i d).map V.r:=by rw[XV]
 rw[em];have b4:aE l C (upd C l<|.l<|(J.set i d).map V.r):=aE.upd;have t4:=b4.bx y8;have Vt:d≠l:=λz=>by rw[z,j _ _ S1.t S.ne] at W;cases W
 have a':d≠f:=λz=>by rw[z,rH] at W;cases W
 have mw:c≠l:=λz=>by rw[z,S.t] at fc;cases fc
 have b':c≠f:=λz=>by rw[z,S.h] at fc;cases fc
 have d0:X d=none:=S1.sm.free (by
  cases e:t d with
  |none=>rfl
  |some o=>rw[j _ _ e a'] at W;cases W)
 refine q _ _ _ _ _ (S.add W1.T (λy o n1 n2 e=>b4 _ _ (M _ _ (j _ _ (s1 _ _ e) n2)) n1) (λy B e=>t4 _ _ (M _ _ (t2 _ _ (s1 _ _ e)))) aj (b4 _ _ (M _ _ rH) (Ix S.ne)) ha hb bl (S.sm.free fc)
  (hc.keep (λo e=>b4 _ _ (M _ _ (j _ _ e b')) mw) (λy B e=>t4 _ _ (M _ _ (t2 _ _ e)))) mw tg hx nQ d0 Vt (hd.keep (λo e=>b4 _ _ e Vt) t4) ?_)
 rcases cs with⟨e,rfl⟩|⟨e,rfl⟩
 exact .inl ⟨e,O,GT O⟩;exact .inr ⟨e,O,Id na⟩
variable{W:ba}{F:St}{c:wv}
theorem ux(h:F[m0]?=some (some<|.i (k:Nat)))(b:F[3]?=some (some<|.r f))(a:H f=some (.d<|cq g w))(q:c (decide<|k∈g) H):a_ W (.K (.v m0)<|.v 3) F H c:=by
 refine HN<|aa h<|aa b ⟨f,_,O,eU.k (k:=.inl ((k:Nat):Int)) a,_,O,?_⟩;by_cases z:k∈g;rw[uf z];rw[W_ z] at q;exact q;rw[y6 z];rw[ZN z] at q;exact q
theorem ak6{a:RE}(h:af W a F H λy t=>af W b F t λx u=>∃d o,x=.r d/\eU u d y o/\∃k,V.b (!o.isSome)=.b k/\c k u):a_ W (.q a b) F H c:=h
theorem Dl(h:F[m0]?=some (some<|.i (k:Nat)))(b:F[3]?=some (some<|.r f))(a:H f=some (.d<|cq g w))(q:c (!decide (k∈g)) H):a_ W (.q (.v m0)<|.v 3) F H c:=by
 refine ak6<|aa h<|aa b ⟨f,_,O,eU.k (k:=.inl ((k:Nat):Int)) a,_,O,?_⟩;by_cases z:k∈g;rw[uf z];rw[W_ z] at q;exact q;rw[y6 z];rw[ZN z] at q;exact q
theorem ak7{M:sB}(W:IU X p s m eg tx N Y R' G P I)(S:jq X H Y N P I G R A l f g w T U J)(L:Y[i]?=some (some j))(q:∀(c9:bn)(iz:Nat->Do)(wz wB:Nat->cr)(wC:ii)(u6 M:sB)(Z:Hp),jq X Z Y N P I G R A l f c9 iz wz wB wC->(∀k∈g,k∈c9)->(c9=g/\(j∈g↔i∈g)\/g.length<c9.length)->D.nx [some<|.r p,some c0,some<|.r l,some<|.r f,some t4,some<|.i (i:Nat),u6,M] Z):
  av (uw K E) Vr D [some<|.r p,some c0,some<|.r l,some<|.r f,some t4,some<|.i (i:Nat),u6,M] H:=by
 obtain⟨e,x,y,he,hx,hy,ce,te⟩:=W.ee i j L;have pl:=aU W.T L;have IV:=(KB W.le).trans W.ll;obtain⟨a,ha⟩:∃a,G[i]?=some a:=oM _ (XB aH);obtain⟨p0,hp,lp⟩:=zB W.le ha;rw[he] at hp;have:=lF hp;subst this;have Dm:Lp H a e:=lp.keep (λo e=>S.sm _ _ e) (bB S.sm);have a':∀{y:Do}{o:HO},X y=some o->y≠f:=λb z=>by rw[z,S.fr.2] at b;cases b
 have lx:=W.gd x (YK hx);have ly:=W.gd y (YK hy);have c':=YM x;have b':=YM y;have jH:(G.map V.r)[i]?=some (V.r a):=by rw[Z_,ha];rfl
 have nQ:I.getD i []=e:=by rw[Xu,he];rfl
 have ij:i≠j:=by lia
 refine aY<|aN<|cw O (S.sm _ _ W.R.r) rL<|aa O<|br (S.sm _ _ W.R.h) (bq (v:=gV (some j)) (by rw[Z_,L];rfl)) ?_;have no:∀{M:sB},(j∈g↔i∈g)->D.nx [some<|.r p,some c0,some<|.r l,some<|.r f,some t4,some<|.i (i:Nat),some<|.i (j:Nat),M] H:=λb=>q _ _ _ _ _ _ _ _ S (λ_ b=>b) (.inl ⟨O,b⟩);by_cases n:j∈g;obtain⟨_,gj,tg,xj,rj,Vu,F⟩:=S.gt j n;rw[hx] at Vu;cases Vu;by_cases c:i∈g;refine bQ (nq<|ux O O S.h<|iT (Dl O O S.h<|iF ?_ (by rw[W_ c];rfl))<|W_ n);exact bQ<|nq<|ux O O S.h<|iT (Dl O O S.h<|iF (no ⟨λ_=>c,λ_=>n⟩) (by rw[W_ n];rfl))<|W_ c;refine bQ (nq<|ux O O S.h<|iT (Dl O O S.h<|iT ?_ (by rw[ZN c];rfl))<|W_ n);have pb:=Df F ce (Y4 tg (Xk _ _)) (Y4 te (Xk _ _));obtain⟨⟨r',_,c2⟩,_,t2,_⟩:=pb;refine HM<|bu zy O<|aq<|ug<|aa O<|aa O ⟨f,_,O,Dk S.h n,aq<|aN<|cw O (S.sm _ _ W.R.r) rM<|aa O<|br (S.sm _ _ W.R.r5) (bq jH)<|az<|Vo gj Dm F ce tg te aH λc3 t C fc hc=>?_⟩;refine Vs W S O O O O n c pl.2 C fc hc (Y4 t2 tg) (o3 y r' hy c2) (by unfold nP;rw[GT L,nQ]) (.inl ⟨L,O⟩) (λQ u k2 t2 dg kk=>?_) λ_ _ _ _ Z S'=>q _ _ _ _ _ _ _ _ S' (λ_ b=>Zh _ b) (.inr (by rw[JB];exact XA _));have kH:∀{y:Do}{o:HO},X y=some o->u y=some o:=λb=>k2 _ _ (a' b) (C _ _<|S.sm _ _ b);have tH:bI H u:=λy B b=>t2 _ _ (C _ _ b);refine bu zq O<|aq<|ug<|aa O<|aa O ⟨f,_,O,dg,aq<|aN<|cw O (kH W.R.r) rM<|aa O<|br (kH W.R.r5) (bq jH)<|az<|Vp (gj.keep (λo b=>k2 _ _ (zC gj S.h)<|C _ _ b) tH) (Dm.keep (λo b=>k2 _ _ (zC Dm S.h)<|C _ _ b) tH) F ce tg te aH λd H3 s3 fd hd=>kk d H3 s3 fd ?_⟩;rw[GT O,nQ];exact hd;by_cases c:i∈g;obtain⟨_,gi,tg,xi,ri,yZ,F⟩:=S.gt i c;rw[hy] at yZ;cases yZ;refine bQ<|nq<|ux O O S.h<|iF ?_<|ZN n;refine bQ<|nq<|ux O O S.h<|iT (Dl O O S.h<|iT ?_ (by rw[ZN n];rfl))<|W_ c;obtain⟨cb,tb,_⟩:=ce.bk (Y4 te (Xk _ _));refine aY<|bu rN O<|aq<|aN<|cw O (S.sm _ _ W.R.r) rM<|aa O<|br (S.sm _ _ W.R.r5) (bq jH)<|az ⟨a,e,_,_,O,Dm,ce,te,λb7 t C fb vY=>?_⟩;have S1:=S.same C;obtain⟨_,IW,_⟩:=S1.gt i c;obtain⟨⟨r',c1,c2⟩,t1,t2,_⟩:=YG (Df F cb (Y4 tg (Xk _ _)) aH);refine HM<|bu zy O<|aq<|ug<|aa O<|aa O ⟨f,_,O,Dk S1.h c,aq<|aa O<|az<|Vo IW vY F cb tg (Y4 (XX tb) te) aH λc3 u s2 fc hc=>?_⟩;refine Vs W S1 O O O O c n aH s2 fc hc (Y4 t2 tg) (o3 x r' hx c2) (by unfold nP;rw[Id (λz=>by have:=(aU W.T z).1;lia),nQ]) (.inr ⟨L,O⟩) (λQ H3 k3 t3 dg kk=>?_) λ_ _ _ _ Z S'=>q _ _ _ _ _ _ _ _ S' (λ_ b=>Zh _ b) (.inr (by rw[JB];exact XA _));have tH:bI t H3:=λy B b=>t3 _ _ (s2 _ _ b);refine bu rN O<|aq<|bu zq O<|aq<|ug<|aa O<|aa O ⟨f,_,O,dg,aq<|aa O<|az<|Vp (IW.keep (λo b=>k3 _ _ (zC IW S1.h)<|s2 _ _ b) tH) (vY.keep (λo b=>k3 _ _ (zC vY S1.h)<|s2 _ _ b) tH) F cb tg (Y4 (XX tb) te) aH λd1 H4 s4 d' jE=>az ⟨d1,_,_,_,O,jE,c1,aH,λd H5 s5 fd hd=>kk d H5 (s4.trans s5) (s4.free fd) ?_⟩⟩;rw[Id ij,nQ];exact hd;refine bQ (nq<|ux O O S.h<|iF ?_<|ZN n);exact bQ<|nq<|ux O O S.h<|iF (no ⟨λb=>(n b).elim,λb=>(c b).elim⟩)<|ZN c
inductive IX(v:db)(H:Hp)(Q:VK)(E:XK):Prop|i(p s m eg tx A:Do)(N:Nat)(Y R':bi)(G:ii)(P:ca)(I:List cr)(R:cr)(x:Str)(b:bn)(_:v=[.r p,.r A])(_:IU H p s m eg tx N Y R' G P I)(_:Lp H A R)(_:ao R<=320)(_:P[N]?=some x)(_:cE R x.cps.toList b)(_:∀(a l f:Do)(g:bn)(w:Nat->Do)(T U:Nat->cr)(J:ii)(Z:Hp),jq H Z Y N P I G R A l f g w T U J->(∀k,k<Y.length->k∈g)->H a=none->Z a=some (.t [.r l,.r f])->Q (.r a) Z)
theorem ak9:bz (IX) (λE=>uw K E) Uz Uy:=by
 intro vs H Q E h;obtain⟨p,s,m,eg,tx,A,N,Y,R',G,P,I,R,x0,r0,rfl,W,hc,tc,hx,cg,q⟩:=h;have sz:=W.sz;have IV:=(KB W.le).trans W.ll;refine aY<|zo<|cw O W.R.r rM ⟨_,.inl<|ag.of W.R.r5,λl f2=>?_⟩;have s1:=V3 (o:=.l (G.map V.r)) f2;have uz:upd H l (.l<|G.map V.r) l=some (.l<|G.map V.r):=aj;generalize upd H l (.l<|G.map V.r)=t at s1 uz⊢;refine aY<|C0 λf f3=>?_;have s2:=V3 (o:=.d []) f3;refine aq<|cw O (s2 _ _<|s1 _ _ W.R.r) pO<|aq<|aa O<|az ⟨aj,[(.inl ((N:Nat):Int),.r A)],O,by show 1<=15;decide,?_⟩;have em:iH [] [((Sum.inl ((N:Nat):Int):gS),V.r A)]=cq [N] λ_=>A:=by simp[iH,iJ,cq]
 rw[em];have s3:ar t (upd (upd t f<|.d []) f<|.d<|cq [N] λ_=>A):=λy o e=>by
  have ne:y≠f:=λz=>by rw[z,f3] at e;cases e
  rw[aw ne,aw ne];exact e
 have hg:upd (upd t f<|.d []) f (.d<|cq [N] λ_=>A) f=some (.d<|cq [N] λ_=>A):=aj;generalize upd (upd t f<|.d []) f (.d<|cq [N] λ_=>A)=u at s3 hg⊢;have lT:=s1.trans s3;have ne:l≠f:=λz=>by rw[<-z,uz] at f3;cases f3
 have X:∀{k:Nat},k∈ [N]->k=N:=λh=>Ya.mp h;have S0:jq H u Y N P I G R A l f [N] (λ_=>A) (λ_=>R) (λ_=>[]) G:=by
  refine⟨lT,⟨f2,s1.free f3⟩,ne,s3 _ _ uz,hg,aP,λk h=>by rw[X h];exact W.hh,nS N (.head _) (λk h=>by rw[X h];exact ⟨ZX _,.inl O⟩),.head _,O,IV,O,λk h=>?_,λk h=>.inl O,λb h n=>absurd (X h) n,λi j e hi hj=>?_⟩;obtain⟨xs,gU,_⟩:=id hc;exact⟨(λz=>by rw[z,f2] at gU;cases gU),hc.keep (λo e=>lT _ _ e)<|bB lT,sA tc x0 r0 (by rw[X h];exact hx) cg⟩;have:=(aU W.T e).1;have:=X hi;have:=X hj;lia
 refine Cd<|dU<|aa O<|.inl ⟨_,ag.of S0.t,?_⟩;rw[Wo,IV];refine pQ _ O aH aH (rX (lo:=0) (λn F H3=>tO λ(g:bn)(w:Nat->Do)(T U:Nat->cr)(J:ii)(u4 M D C:sB)=>w_ (F=[some<|.r p,some<|.r A,some<|.r l,some<|.r f,u4,M,D,C]) (jq H H3 Y N P I G R A l f g w T U J) (n+1<=g.length\/∀k,k<Y.length->k∈g)) ⟨_,_,_,_,_,none,none,none,none,O,S0,.inl<|ZX _⟩ ?_ ?_);rintro n F H3 hn ⟨g,w,T,U,J,u4,M,D,C,rfl,S,v⟩;refine Vq (body:=Vr)<|aC<|dU<|aa O<|.inl ⟨_,ag.of S.t,?_⟩;rw[Wo,S.L];have el:(((Y.length:Nat):Int) - 1).toNat=Y.length - 1:=by lia
 refine oG 1 _ O ⟨aH,aH,aH,aH⟩ ?_;rw[el];refine rX (lo:=1) (λi F H4=>qX8 λ(x:bn)(w:Nat->Do)(T U:Nat->cr)(J:ii)(M D C:sB)=>WS (F=[some<|.r p,some<|.r A,some<|.r l,some<|.r f,some<|.i<|0+(n:Int),M,D,C]) (jq H H4 Y N P I G R A l f x w T U J) (∀k∈g,k∈x) (g.length<x.length\/x=g/\∀B j,B<1+i->Y[B]?=some (some j)->(j∈g↔B∈g))) ⟨_,_,_,_,_,M,D,C,O,S,λ_ h=>h,.inr ⟨O,λB j hc e=>by have:=(aU W.T e).1;exact (WA _ (ZP this (Yu hc))).elim⟩⟩ ?_ ?_;rintro i F H4 hi ⟨x,iz,wz,wB,wC,v5,v6,v7,rfl,S',c,a⟩;obtain⟨j,hj,_⟩:=W.T.up (1+i) (BF (Xw _ _)) aH;have e1:(1:Int)+(i:Nat)=((1+i:Nat):Int):=by lia
 rw[e1];refine ak7 W S' hj λd' e' a' b' wD w6 w7 H5 S5 c' Z=>⟨d',e',a',b',wD,_,w6,w7,O,S5,λk h=>c' k<|c k h,?_⟩;rcases a with a|⟨rfl,a⟩
 refine .inl ?_;rcases Z with⟨rfl,_⟩|Z
 exact a;exact YR a Z;rcases Z with⟨rfl,hb⟩|Z
 refine .inr ⟨O,λB j' hc e=>?_⟩;by_cases z:B=1+i;subst z;rw[hj] at e;cases e;exact hb;exact a B j' (Xs (Yu hc) z) e;exact .inl Z;rintro F H4 ⟨x,iz,wz,wB,wC,v5,v6,v7,rfl,S',c,a⟩;refine⟨x,iz,wz,wB,wC,_,_,_,_,O,S',?_⟩;rcases a with a|⟨rfl,a⟩
 rcases v with v|v
 exact .inl (XS (yF v a));exact .inr λk hk=>c k (v k hk);refine .inr (Sh W.T S'.hh S'.lv λk hk m0 hm=>?_);rcases hm with e|e
 exact(a m0 k (by have:=aU W.T e;lia) e).mp hk;exact(a k m0 (by have:=aU W.T e;lia) e).mpr hk;rintro F H3 ⟨g,w,T,U,J,u4,M,D,C,rfl,S,v⟩;have mE:∀k,k<Y.length->k∈g:=by
  rcases v with v|v
  have v1:=rm _ _ S.nd S.lv;have:(((Y.length:Nat):Int)).toNat=Y.length:=WN _
  lia;exact v
 refine cA<|j6<|aq<|aa O<|aq<|aa O<|az ⟨by show 2<=sizeLine;decide,λt0 ft=>?_⟩;exact q t0 l f g w T U J _ (S.same<|V3 ft) mE (S.sm.free ft) aj
end
section
variable{K:Frag}{C l:Do}{I:wS}{H Z:Hp}{Q:VK}{E:XK}{f R U k J c:Do}{M g m:ii}{X N j d:Nat}{Y P z:bi}{G:ca}{s:List cr}{n:Nat}{e:cr}{N':bn}
inductive Dp(C:Do)(v:db)(H:Hp)(Q:VK)(E:XK):Prop|i(p dx lo a e be lg:Do)(N:Nat)(bN:bn)(Y:bi)(_:v=[.r p])(_:gk C H p dx lo a e be lg N bN Y)(_:Q (.i (N:Nat)) H)
theorem ale(X:fI K C):bz (Dp C) (λE=>bK K E) TC mT:=by
 intro v H Q E h;obtain⟨p,dx,lo,a,e,be,lg,N,bN,Y,rfl,A,q⟩:=h;exact cA<|cT<|aa O ⟨p,C,dx,_,_,O,A.ob,X.cl,X.i,j8,q⟩
inductive Vv(C:Do)(v:db)(H:Hp)(Q:VK)(E:XK):Prop|i(p:Do)(M g:ii)(N:Nat)(Y:bi)(ax:List bn)(t:bi)(T n:Nat)(_:v=[.r p,.i n])(_:bf C H p M g N Y ax t T)(_:n<Y.length)(_:∀b Z,ar H Z->H b=none->Z b=some (.l<|iV<|kids Y n)->Q (.r b) Z)
abbrev ahE(K:Frag)(C:Do)(l:Do)(E:XK):ba:=aG K [] [] [] [("need_node",C,nz C l)] (E:=E)
theorem JD(X:fI K C):bz (Vv C) (λE=>ahE K C l E) TK mS:=by
 intro v H Q E i;obtain⟨p,M,g,N,Y,ax,a,T,n,rfl,⟨dx,lo,e,k,be,lg,d,s,A⟩,h,q⟩:=i;refine bU<|A.ob.m1 O O<|aa O ⟨p,dx,lo,e,k,be,lg,N,_,Y,_,O,A.ob,.inl ⟨n,O,h,?_⟩⟩;obtain⟨b,c⟩:∃b,d[n]?=some b:=⟨_,XB (A.y▸h)⟩;have j:(d.map V.r)[n]?=some (V.r b):=by rw[Z_,c];rfl
 exact cA<|zo<|aN<|cT<|aa O ⟨p,C,dx,_,_,O,A.ob.ob,X.cl,X.xW,Ci,aa O<|br A.t (bq j) ⟨_,.inl<|ag.of<|A.hk n b c,λm f=>q m _ (V3 f) f aj⟩⟩
def J1(k e:cr):Nat->Nat->cr->Prop:=λi j h=>i=0/\(j=0/\h=k\/j=1/\h=e)
theorem IY(B:cE e l0 r)(v:∀g,(Y[d]?=some (some N)/\s[d]?=some g\/Y[N]?=some (some d)/\∃p,s[N]?=some p/\g=bk p)->g=e):Wy Y [N,d] l0 (λi h=>s[i]?=some h) (J1 (dr [.k (l0.length:Int)]) e):=by
 refine⟨λi j A a b D t q z c f o y J=>?_,⟨O,.inl ⟨O,O⟩⟩,λi n q g c f u=>?_⟩;obtain⟨rfl,c⟩:=c;obtain⟨rfl,f⟩:=f;rcases c with⟨Z,rfl⟩|⟨c,Z⟩
 have x:l0.length=t.length:=by
  have:=wy o.run;have C:=wy (G9 (l:=l0)).run;lia
 rw[x] at J o;have w:=((G9).run.fits.2).symm.trans o.run.fits.2;subst w;rw[(afV y J)];exact⟨O,f⟩;cases c;cases i with
 |zero=>
  cases c;cases f;exact⟨O,.inr ⟨O,v g u⟩⟩
 |succ i=>simp at f
theorem alg{J:Nat->cr->Prop}:Wy Y ns l0 J λZ Z Z=>True:=⟨λZ Z Z Z Z Z Z Z Z Z Z Z Z Z=>trivial,trivial,λZ Z Z Z Z Z Z=>trivial⟩
abbrev Dq(C:Do)(I:wS)(H:Hp)(Q:VK)(f R U k J c:Do)(M g m:ii)(X d:Nat)(Y:bi)(G:ca)(P b:bi)(s:List cr)(n:Nat)(a:cr->Prop):Prop:= ∀(w:Do) (h:cr) (Z:Hp),H w=none->SV C I Z f R U k J c M g m X d Y G P b s n->Lp Z w h->a h->Q (.r w) Z
theorem Dr(S:SV C I H f R U k J c M g m X N Y G P z s n)(a:n<=12)(h:G[d]?=some x):x.cps.toList.length<=9000:=by
 have b:=(S.gd x<|YK h).2;have l:=YM x;lia
theorem IZ(S:SV C I H f R U k J c M g m X N Y G P z s n)(B:n<=12)(d:Y[N]?=some (some j))(p:s[N]?=some e)(q:Dq C I H Q f R U k J c M g m X j Y G P (eO Y z (N,j)) s n (· =bk e)):zf C l [.r f] H Q E:=by
 obtain⟨T,_⟩:=bf.cO S.hi;obtain⟨V,x,y,i,t,o,W,te⟩:=S.nA d;rw[p] at i;cases i;have ly:=Dr S B o;refine⟨f,M,g,N,Y,_,z,_,O,S.hi,(Xk _ _),.inl (pR j _ _ _ _ S.v (IY (W.bk (Y4 te (Xk _ _))).1<|λV a=>?_) d ((jo o).2) ((jo t).2) ⟨(Y4 ly (Xk _ _)),λw h Z b L nw u D ht A=>?_⟩)⟩;rcases a with⟨a,_⟩|⟨_,e0,a,rfl⟩
 have:=(aU T a).1;have:=(aU T d).1;lia;rw[p] at a;cases a;rfl;obtain⟨xs,K,F,_⟩:=u;refine q w h Z L (S.Dj b A) (nS xs K F) ?_;rcases D.2 with⟨a,_⟩|⟨_,a⟩
 cases a;exact a
theorem Vw(S:SV C I H f R U k J c M g m X N Y G P z s n)(B:n<=12)(D:z[N]?=some (some j))(d:Y[j]?=some (some N))(p:s[j]?=some e)(q:Dq C I H Q f R U k J c M g m X j Y G P (eO Y z (N,j)) s n (· =e)):zg C l [.r f] H Q E:=by
 obtain⟨T,_⟩:=bf.cO S.hi;obtain⟨W,x,y,zq⟩:=jR (S.nA d);obtain⟨i,o,t,ce,te⟩:=Y7 zq;rw[p] at i;cases i;have lx:=Dr S B o;refine⟨f,M,g,N,Y,_,z,_,O,S.hi,(Xk _ _),.inl (pR j _ _ _ _ S.v (IY ce<|λW a=>?_) D d ((jo o).2) ⟨(jo t).2,(Y4 lx (Xk _ _)),λw h Z b V nw u F ht A=>?_⟩)⟩;rcases a with⟨_,a⟩|⟨a,_⟩
 rw[p] at a;cases a;rfl;have:=(aU T a).1;have:=(aU T d).1;lia;obtain⟨xs,L,K,_⟩:=u;refine q w h Z V (S.Dj b A) (nS xs L K) ?_;rcases F.2 with⟨a,_⟩|⟨_,a⟩
 cases a;exact a
theorem Vx(S:SV C I H f R U k J c M g m X N Y G P z s n)(B:n<=12)(a:d<Y.length)(q:Dq C I H Q f R U k J c M g m X d Y G P (uc Y (dy Y N d) z) s n λ_=>True):zh C [.r f,.i (d:Nat)] H Q E:=by
 obtain⟨T,o,_⟩:=bf.cO S.hi;obtain⟨x,l,_⟩:=S.at o;obtain⟨y,t,_⟩:=S.at a;have lx:=Dr S B l;have W:=S.sz;obtain⟨V,v,m0,zq⟩:=jR (CB T o a);obtain⟨p,_,_,_,⟨j,e⟩,_,_,D⟩:=lI zq;have lr:j.length<=22:=by
  rw[e] at p;have:=IR List.length p;simp at this;lia
 rw[e] at q;exact⟨f,M,g,N,d,Y,_,z,_,j,_,_,_,_,O,S.hi,a,S.v,alg,e,(Y4 lr (Xk _ _)),aH,(Xk _ _),(jo l).2,(jo t).2,(Y4 lx (Xk _ _)),λw h Z b L nw u _ ht A=>by
  obtain⟨xs,K,F,_⟩:=u;exact q w h Z L (S.Dj b A) ⟨xs,K,F⟩ trivial⟩
theorem anN:∀(x:bn)(r:Nat),ZJ (x++[r]) (x++[r,c0])=([r],[r,c0]):=by
 intro x;induction x with
 |nil=>intro r;exact vS r _
 |cons a x i=>
  intro r;cases x with
  |nil=>exact(XQ).trans (vS r _)
  |cons b x=>exact(XQ).trans (i r)
theorem Vy(T:bZ Y)(h:Y[d]?=some (some j)):dy Y j d=[j,d]:=by
 obtain⟨e,Z⟩:=ud T h;obtain⟨r,a,Z⟩:=rg T (YR (aU T h).1 (aU T h).2);unfold dy;rw[e,a];simp;rw[anN];rfl
theorem E7(S:SV C I H f R U k J c M g m X N Y G P z s n)(B:n<=12)(j:Y[d]?=some (some N))(p:s[d]?=some e)(q:Dq C I H Q f R U k J c M g m X d Y G P (eO Y z (N,d)) s n (· =e)):zh C [.r f,.i (d:Nat)] H Q E:=by
 obtain⟨T,_⟩:=bf.cO S.hi;obtain⟨V,x,y,l,o,t,W,te⟩:=S.nA j;rw[p] at l;cases l;have lx:=Dr S B o;refine⟨f,M,g,N,d,Y,_,z,_,[d],_,_,_,_,O,S.hi,(aU T j).2,S.v,IY W<|λV a=>?_,Vy T j,aP,aP,(Xk _ _),(jo o).2,(jo t).2,(Y4 lx (Xk _ _)),λw h Z b L nw u D ht A=>?_⟩;rcases a with⟨_,a⟩|⟨a,_⟩
 rw[p] at a;cases a;rfl;have:=(aU T a).1;have:=(aU T j).1;lia;obtain⟨xs,K,F,_⟩:=u;refine q w h Z L (S.Dj b A) ⟨xs,K,F⟩ ?_;rcases D.2 with⟨a,_⟩|⟨_,a⟩
 cases a;exact a
end
section
variable{K:Frag}{C p:Do}{c:wS}{H Z:Hp}{Q:VK}{E:XK}{g s P J U X:Do}{M G w:ii}{l N j d:Nat}{Y f I:bi}{R:ca}{m:List cr}{n:Nat}
abbrev Vz(K:Frag)(E:XK):ba:=aG K [("_law_way",y2)] [] (E:=E)
noncomputable def VA:jp:=[.i (.p .Eq (.i (.P (.v 0)<|.c<|.s "above")<|.v 4)<|.v 3) [.s (.P (.v 0)<|.c<|.s "latest") (.v 3)<|.v 4] [.s (.P (.v 0)<|.c<|.s "latest") (.v 4)<|.v 3]]
theorem ali{a:Nat}(S:SV C c H g s P J U X M G w l N Y R f I m n)(A:f.length=Y.length)(L:a<Y.length)(y:b<Y.length)(p:F[0]?=some (some<|.r s))(o:F[3]?=some (some<|.i (a:Nat)))(d:F[4]?=some (some<|.i (b:Nat)))(k:∀Z,aE J H Z->SV C c Z g s P J U X M G w l N Y R (kP f<|iy Y (a,b)) I m n->D.nx F Z):av (Vz K E) VA D F H:=by
 have u:Y[b]?=some Y[b]:=XB y;have x:∀(i:Nat),i<Y.length->fZ (f.map gV).length ((i:Nat):Int)=some i:=λi B=>IS (by rw[Wo,A];exact B);refine bQ<|bw<|aN<|cw p S.R.r rL<|aa d<|br S.R.h (bq (by rw[Z_,u];rfl))<|aa o<|yQ ⟨_,O,?_⟩;have e:∀i v:Nat,(f.map gV).set i (V.i (v:Nat))=(f.set i<|some v).map gV:=λi v=>by rw[XV];rfl
 by_cases z:Y[b]=some a;refine iT ?_ (W_ z);refine qT<|aa d<|cw p S.R.r wu<|aa o ⟨J,_,_,a,O,O,S.R.j,x a L,?_⟩;have t:iy Y (a,b)=(a,b):=by unfold iy;rw[GT (by rw[u,z])]
 rw[e];rw[t] at k;exact k _ aE.upd S.putL;refine iF ?_ (ZN z);refine qT<|aa o<|cw p S.R.r wu<|aa d ⟨J,_,_,b,O,O,S.R.j,x b y,?_⟩;have t:iy Y (a,b)=(b,a):=by
  unfold iy;rw[Id];rw[u];exact λq=>z<|lF q
 rw[e];rw[t] at k;exact k _ aE.upd S.putL
inductive Ds(C:Do)(v:db)(H:Hp)(Q:VK)(E:XK):Prop|i(c:wS)(g s P J U X:Do)(M G w:ii)(l N d:Nat)(Y f I:bi)(R:ca)(m:List cr)(n:Nat)(_:v=[.r s,.i (d:Nat)])(_:SV C c H g s P J U X M G w l N Y R f I m n)(_:f.length=Y.length)(_:l<Y.length)(_:d<Y.length)(_:∀Z,SV C c Z g s P J U X M G w d N Y R (CM Y (dy Y l d) f) I m n->Q .a Z)
theorem alj:bz (Ds C) (λE=>Vz K E) UG UE:=by
 intro vs H Q E h0;obtain⟨c,g,s,P,J,U,X,M,G,w,l,N,d,Y,f,I,R,m,n,rfl,S,ll,hh,hd,q⟩:=h0;obtain⟨T,_,_,_⟩:=bf.cO S.hi;have sz:=S.sz;obtain⟨_,_,_,zq⟩:=jR (CB T hh hd);obtain⟨_,_,_,hc,⟨j,x⟩,_,oX,_⟩:=lI zq;refine aY<|bu y2 O<|aq<|cw O S.R.r rL<|aq<|cw O S.R.r pO<|aq<|aa O<|az ⟨P,Y,l,d,O,S.R.h,T,hh,hd,(Y4 sz (Xk _ _)),λW t s1 b' h1=>?_⟩;have S1:=S.same s1;have n1:=(S.no b').2.2.1;refine Eh (body:=VA)<|aq<|aa O<|aq<|QR<|aa O<|aC ⟨_,O,.inl ⟨_,ag.of h1,λp f2=>az ?_⟩⟩;have e5:dZ (iV<|dy Y l d) (some (1:Int)) none=iV j:=by
  rw[show((1:Int))=((1:Nat):Int) from O,Hj,x];rfl
 rw[e5];have Z:=V3 (o:=.l (iV j)) f2;have h2:upd t p (.l<|iV j) p=some (.l<|iV j):=aj;have n2:=(S1.no f2).2.2.1;have S2:=S1.same Z;have L:=Z _ _ h1;rw[x] at L;generalize upd t p (.l<|iV j)=u at Z h2 S2 L⊢;have a':J∈ [s,P,J,U,X]:=by simp
 refine oS W p O (oM _ (ag.of L)) (oM _ (ag.of h2)) (aht (K:=K) (a:=W) (b:=p) (xs:=iV (l::j)) (B:=iV j) (by rw[Wo,Wo,Wt];exact XW _)
  (λi F D=>∃u3 u4,F=[some (.r s),some (.i (d:Nat)),some (.r W),u3,u4]/\SV C c D g s P J U X M G w l N Y R ((((l::j).zip j).take i).foldl (λJ p0=>kP J (iy Y p0)) f) I m n/\bo [s,P,J,U,X] u D) (oG none none O S2 (λ_ _ e _=>e)) ?_ ?_ ?_)
 rintro i F D ⟨u6,u7,rfl,k,A⟩;exact⟨ag.of<|A _ _ L n1,ag.of<|A _ _ h2 n2⟩;rintro i v w0 F D t0 hv hw ⟨u6,u7,rfl,k,A⟩ ft;rw[Z_] at hv hw;obtain⟨a,ha,rfl⟩:=WC.mp hv;obtain⟨b,hb,rfl⟩:=WC.mp hw;have s4:=V3 (o:=.t [V.i (a:Nat),V.i (b:Nat)]) ft;refine o4 t0 _ O (.inl<|aA.of aj) O _ _ O _ _ O O ?_;have ir:a<Y.length:=oX a (by rw[x];exact YK ha);have xT:b<Y.length:=oX b (by rw[x];exact Wb _ (YK hb));have hz:((l::j).zip j)[i]?=some (a,b):=Zr.mpr ⟨ha,hb⟩;refine ali (k.same s4) (by rw[R_];exact ll) ir xT O O O λH5 b5 S5=>oG _ _ O ?_ (λz o e ne=>b5 z o (s4 _ _<|A z o e ne) λy=>ne (by rw[y];exact a'));rw[qU hz,xN];exact S5;rintro F D ⟨u6,u7,rfl,k,A⟩;have lz:((l::j).zip j).length=j.length:=by simp
 rw[Wo,Wc (XX lz)] at k;refine Dh<|aa O<|Di O k.R.r Dg ?_;rw[Vm];refine q _ ?_;rw[x];exact k.now d
abbrev VB(K:Frag)(C p:Do)(E:XK):ba:=aG K [("_law_moved",Ds C),("_law_change",zl),("_law_done",vE)] [] [] [("go",C,zh C),("undo",C,zf C p),("do",C,Rc C)] (E:=E)
inductive Ja(C:Do)(v:db)(H:Hp)(Q:VK)(E:XK):Prop|i(c:wS)(g s P J U X:Do)(M G w:ii)(N:Nat)(Y f I:bi)(R:ca)(m:List cr)(n:Nat)(e:Int)(_:v=[.r g,.r s,.i e])(_:SV C c H g s P J U X M G w N N Y R f I m n)(_:cJ Y N f I)(_:n<12)(_:Y.length<11)(_:∀(h d b:ii)(u:Nat)(p l D:bi)(t:ca)(B:List cr)(Z:Hp),SV C c Z g s P J U X h d b u u p t l D B (n+1)->cJ p u l D->p.length<=Y.length+1->Q .a Z)
theorem aln(T:bZ Y)(R:cJ Y N f I)(h:N<Y.length)(i:d<Y.length):cJ Y d (CM Y (dy Y N d) f) (uc Y (dy Y N d) I):=by
 obtain⟨Z,Z,Z,Z,Z,Z,c,⟨r,l⟩,⟨q,a⟩,o,Z⟩:=CB T h i;rw[l] at c a o⊢;obtain⟨n,g,m⟩:=cJ.path T r N f I R h (λk j=>o k<|Wb _ j) c;have b:=by
  have e:(N::r)[r.length]?=some d:=by
   rw[a];have:q.length=r.length:=by
    have:=IR List.length a;simp at this;lia
   rw[<-this];simp
  rw[e] at g;exact(lF g).symm
 subst b;exact m
theorem alp(T:bZ Y)(h:Y[N]?=some (some j)):dy Y N j=[N,j]:=by
 rw[ahp T (YR (aU T h).1 (aU T h).2) (aU T h).2,Vy T h];rfl
theorem bf.CZ(A:bf C H g M G N Y ax I T):G.length+1=Y.length:=by
 obtain⟨dx,lo,p,d,be,lg,b,e,A⟩:=WU A;have:=A.le;rw[A.y3,Wt,Wo] at this;exact this
theorem SV.new(S:SV C c H g s P J U X M G w N N Y R f I m n){j E:Hp}{r:Do}(B:bo [s,P,J,U,X] H j)(R6:Rw j s P J U X N (Y++[some N]) (f++[none]) (w++[r]) (R++[y]))(l2:Lp j r h)(f2:H r=none)(t:bo M j E)(fb:j b=none)(fa:j a=none)(A:bf C E g (M++[b]) (G++[a]) Y.length (Y++[some N]) ((R++[y]).map λx=>x.cps.toList) (I++[none]) 320)(ha:Lp E a h)(gy:good y/\y.length<=400+320* (n+1))(sz:Y.length<11):
  SV C c E g s P J U X (M++[b]) (G++[a]) (w++[r]) N Y.length (Y++[some N]) (R++[y]) (f++[none]) (I++[none]) (m++[h]) (n+1):=by
 have K:=S.R.live.bx B;obtain⟨m2,O,w2,O⟩:=YG (S.no f2);have yV:jF M j:=λx l=>by
  obtain⟨o,e,k⟩:=(bf.cO S.hi).2.2.2 x l;exact nS o (B _ _ e λz=>(S.dj x z).1 l) k
 have t7:=yV.bx t;have T:∀{x:Do}{p:cr},x∉M->Lp j x p->Lp E x p:=λd q=>q.keep (λo e=>t _ _ e d) t7;have VC:=wx S.le (λx d o e=>B x o e λq=>(S.dj x q).2.2 d) K;have L:∀{x:Do}{o:HO},j x=some o->x≠b:=λe z=>by lia
 have na:∀{x:Do}{o:HO},j x=some o->x≠a:=λe z=>by lia
 have lw:∀x∈ [s,P,J,U,X],∃o,j x=some o:=λx d=>by
  obtain⟨o,e,O⟩:=R6.live x d;exact oM o e
 have Q:∀x∈w++[r],∃o,j x=some o:=λx d=>by
  rcases Z4.mp d with d|d
  obtain⟨i,hi⟩:=WK.mp d;obtain⟨p,O,xs,e,O⟩:=zB VC hi;exact oM _ e;rw[Ya.mp d];obtain⟨xs,e,O⟩:=l2;exact oM _ e
 have ma:∀x∈w++[r],x∉M:=λx d=>by
  rcases Z4.mp d with d|d
  exact S.da x d;rw[Ya.mp d];exact m2
 have D:∀{x z:Do}{l0:ii},x∉l0->x≠z->x∉l0++[z]:=λV F d=>(Z4.mp d).elim V λd=>F (Ya.mp d);refine⟨A,λi x l=>?_,R6.keep λx d o e=>t _ _ e (S.dj x d).1,Paired.app (wx VC (λx d o e=>t _ _ e<|S.da x d) t7)<|.cons (T m2 l2) .nil,λx d=>?_,λx d=>?_,λx o k=>?_,λx d=>?_,by rw[JB];exact sz,by rw[JB,JB,S.u];rfl⟩;have el:=bf.CZ S.hi;have ll:=S.u;by_cases z:i<G.length;rw[Yb z] at l;obtain⟨xs,p,Z,W,g3⟩:=((S.v.keep (λa o d e=>B a o e λq=>(S.dj a q).2.1 d) K).but (S.hi.keep (λa o d e=>B a o e λq=>d.elim (S.dj a q).1 (S.dj a q).2.1) K) t) i x l;refine oG xs p Z W ?_;show(m++[h])[i+1]?=some p;rw[Yb aH];exact g3;have:i=G.length:=by
  have:=(ZS.mp l).1;rw[JB,Xy] at this;lia
 subst this;rw[Wf<|ZX _,XO] at l;cases l;obtain⟨xs,Z,W⟩:=ha;refine oG xs h Z W ?_;show(m++[h])[G.length+1]?=some h;rw[Wf aH,show G.length+1 - m.length=0 by lia];rfl;obtain⟨o,e⟩:=lw x d;exact⟨D (S.dj x d).1<|L e,D (S.dj x d).2.1<|na e,D (S.dj x d).2.2 λz=>w2 (z ▸ d)⟩;obtain⟨o,e⟩:=Q x d;exact D (ma x d)<|L e;obtain⟨V,F,h3⟩:=S.kp x o k;have e6:=B _ _ V h3;exact⟨t _ _ e6 F,D F<|L e6,h3⟩;rcases Z4.mp d with d|d
 exact⟨(S.gd x d).1,by have:=(S.gd x d).2;lia⟩;rw[Ya.mp d];exact gy
theorem als:bz (Ja C) (λE=>VB K C p E) UJ UI:=by
 intro vs H Q E h0;obtain⟨c,g,s,P,J,U,X,M,G,w,N,Y,f,I,R,m,n,Z,rfl,S,RG,hn,d',q⟩:=h0;obtain⟨T,W,_,_⟩:=bf.cO S.hi;have jG:=S.jG;have ll:=RG.l;obtain⟨x,hx,gx,lx⟩:=S.at W;obtain⟨dx,lo,pa,ed,be,lg,bs,ev,A⟩:=WU (id S.hi);have Y':∀{t:Hp}{d:Nat}{bD:bi},d<Y.length->SV C c t g s P J U X M G w d d Y R (CM Y (dy Y N d) f) bD m n->bD=uc Y (dy Y N d) I->Q .a t:=λD S' e=>q _ _ _ _ _ _ _ _ _ _ (S'.up<|XW n) (e ▸ aln T RG W D) (XW _);refine aY<|cw O S.R.r pO ?_;have VD:av (VB K C p E) [.a 5 (.l 1 [(.b .FloorDiv (.v 2) (.c (.i 5))),(.i (.P (.v 1) (.c (.s "texts"))) (.v 3)),(.b .Mod (.b .FloorDiv (.v 2) (.c (.i 7))) (.c (.i 9)))]),
   .d (.Q .a (.P (.v 1)<|.c<|.s "above") [.v 3]),
   .d (.Q .a (.P (.v 1)<|.c<|.s "latest") [.c .a]),
   .d (.Q .a (.P (.v 1)<|.c<|.s "edges") [(.t .t [.v 5])]),
   .d (.Q .a (.P (.v 1)<|.c<|.s "texts") [(.l 2 [(.i (.P (.v 1)<|.c<|.s "texts")<|.v 3),.v 5])]),
   .a 6 (.a 2 "do" (.v 0) [.v 5]),
   .s (.P (.v 1)<|.c<|.s "latest") (.v 3) (.v 6),
   .t (.v 1) (.c (.s "here")) (.v 6)] (Dn Q) [some (.r g),some (.r s),some (.i Z),some (.i (N:Nat)),none,none,none] H:=by
  have m9:(Z / 7 % 9).toNat<=8:=by lia
  refine aY<|bu zl O<|aq<|cD<|aa O<|aC ⟨⟨aQ,aQ⟩,aq<|aN<|cw O S.R.r uv<|aa O<|br S.R.n (bq (jo hx).1)<|aq<|cD<|cD<|aa O<|aC ⟨⟨aQ,aQ⟩,aC ⟨(by show(0:Int) <9;decide),az ⟨_,x,_,O,gx,aH,aH,aH,λd t B h r s1 fd D pv ok Jb _ tt F=>?_⟩⟩⟩⟩;have k:=S.same s1;have dt:bM t d h x.cps.toList r:=nT B D pv ⟨ok,Jb,F⟩;obtain⟨n1,n2,n3,_⟩:=YG (S.no fd);have rl:=F.len;have h':=YM x;have er:(⟨r.toArray⟩:Str).cps.toList=r:=by simp
  have gr:good (⟨r.toArray⟩:Str)/\(⟨r.toArray⟩:Str).length<=400+320* (n+1):=by
   have l1:(⟨r.toArray⟩:Str).length=r.length:=by simp[Str.length]
   refine⟨⟨by rw[l1];lia,by rw[er];exact F.good gx.2 λp0 g=>QN (ok p0 g)⟩,by rw[l1];lia⟩
  have p':=S.bD;refine bU<|fK<|cw O k.R.r rL ⟨.inl ⟨O,_,ag.of k.R.h⟩,aa O ⟨_,k.R.h,bY (by rw[Wo];lia),?_⟩⟩;rw[show Y.map gV++[V.i (N:Nat)]=(Y++[some N]).map gV by rw[Za];rfl];have R2:=k.R.put2 (E:=Y++[some N]);have b2:bo [s,P,J,U,X] t (upd t P<|.l<|(Y++[some N]).map gV):=bo.upd aP;generalize upd t P (.l<|(Y++[some N]).map gV)=u at R2 b2⊢;refine bU<|fK<|cw O R2.r wu ⟨.inl ⟨O,_,ag.of R2.j⟩,aC ⟨_,R2.j,bY (by rw[Wo];lia),?_⟩⟩;rw[show f.map gV++[V.a]=(f++[none]).map gV by rw[Za];rfl];have R3:=R2.put3 (G:=f++[none]);have b3:bo [s,P,J,U,X] u (upd u J<|.l<|(f++[none]).map gV):=bo.upd aP;generalize upd u J (.l<|(f++[none]).map gV)=H3 at R3 b3⊢;have Dt:=b2.trans b3;have f':=k.R.live.bx Dt;refine bU<|fK<|cw O R3.r rM ⟨.inl ⟨O,_,ag.of R3.r5⟩,zo<|aa O ⟨_,.inl<|ag.of<|Dt _ _ D n3,λy f2=>?_⟩⟩;have s4:=V3 (o:=.l B) f2;have h4:upd H3 y (.l B) y=some (.l B):=aj;have R4:=R3.keep λa _ o e=>s4 a o e;have w2:y∉ [s,P,J,U,X]:=R3.live.no f2;have b':t y=none:=by
   cases e:t y with
   |none=>rfl
   |some o=>rw[Dt _ _ e w2] at f2;cases f2
  have VE:bo [s,P,J,U,X] t (upd H3 y<|.l B):=Dt.trans (bo.of s4);generalize upd H3 y (.l B)=H4 at s4 h4 R4 VE⊢;refine nT _ R4.r5 (bY (by rw[Wo];lia)) ?_;rw[show w.map V.r++[V.r y]=(w++[y]).map V.r by rw[Za];rfl];have L:=R4.akY (z:=w++[y]);have b5:bo [s,P,J,U,X] H4 (upd H4 U<|.l<|(w++[y]).map V.r):=bo.upd aP;generalize upd H4 U (.l<|(w++[y]).map V.r)=H5 at L b5⊢;have Jc:=VE.trans b5;have c':bM H5 d h x.cps.toList r:=dt.keep (λo e=>Jc _ _ e n3) (k.R.live.bx Jc);refine bU<|fK<|cw O L.r uv ⟨.inl ⟨O,_,ag.of L.n⟩,bu vE O<|aq<|aN<|cw O L.r uv<|aa O<|br L.n (bq (jo hx).1)<|aq<|aa O<|az<|QH gx c' aH ⟨_,L.n,bY (by rw[Wo];lia),?_⟩⟩;rw[show R.map V.s++[V.s (⟨r.toArray⟩:Str)]=(R++[(⟨r.toArray⟩:Str)]).map V.s by rw[Za];rfl];have R6:=L.akZ (I:=R++[(⟨r.toArray⟩:Str)]);have b6:bo [s,P,J,U,X] H5 (upd H5 X<|.l<|(R++[(⟨r.toArray⟩:Str)]).map V.s):=bo.upd aP;generalize upd H5 X (.l<|(R++[(⟨r.toArray⟩:Str)]).map V.s)=H6 at R6 b6⊢;have Du:=Jc.trans b6;have Je:=k.R.live.bx Du;have A6:bf C H6 g M G N Y (R.map λx=>x.cps.toList) I 320:=k.hi.keep (λa o h0 e=>Du a o e λq=>h0.elim (k.dj a q).1 (k.dj a q).2.1) Je;have a':Lp H6 y h:=nS B (b6 _ _ (b5 _ _ h4 w2) w2) (pv.mono Je);obtain⟨m',i',g',l',o',j',n',k',e'⟩:=WU (id A6);refine aY<|e'.ob.m1 O O<|aa O ⟨g,M,G,N,Y,_,I,320,d,h,_,r,O,A6,dt.keep (λo e=>Du _ _ e n3) Je,n1,(jo hx).2,aH,aQ,(ZP d' (Xk _ _)),λb a H7 b7 fb fa A7 l7=>?_⟩;have S7:=k.new Du R6 a' b' b7 fb fa (by rw[Za];show bf _ _ _ _ _ _ _ (_++[(⟨r.toArray⟩:Str).cps.toList]) _ _;rw[er];exact A7) l7 gr d';refine qT<|aa O<|cw O S7.R.r wu<|aa O ⟨J,_,_,N,O,O,S7.R.j,IS (by rw[Wo,JB];lia),?_⟩;have em:((f++[none]).map gV).set N (V.i (Y.length:Nat))=((f++[none]).set N<|some Y.length).map gV:=by rw[XV];rfl
  rw[em];have S8:=S7.putL (m:=(f++[none]).set N (some Y.length));generalize upd H7 J (.l<|((f++[none]).set N<|some Y.length).map gV)=H8 at S8⊢;refine Dh<|aa O<|Di O S8.R.r Dg ?_;rw[Vm];exact q _ _ _ _ _ _ _ _ _ _ (S8.now Y.length) (RG.new T W) (by rw[JB];exact ZX _)
 refine bQ<|bw<|cD<|aa O<|aC ⟨(by show(0:Int) <5;decide),aC<|nr ⟨_,O,gH (λ_=>?_)<|λ_=>?_⟩⟩;have t0:(0:Int) < ((R.length:Nat):Int):=by lia
 obtain⟨d,ed⟩:=Int.eq_ofNat_of_zero_le (X7 (Z / 5) (show((R.length:Nat):Int)≠0 by lia));have D:d<Y.length:=by have:=Yw (Z / 5) t0;lia
 refine aY<|cD<|cD<|aa O<|aC ⟨⟨aQ,aQ⟩,dU<|cw O S.R.r uv<|.inl ⟨_,ag.of S.R.n,?_⟩⟩;rw[Wo];refine⟨t0,?_⟩;show av _ _ _ [some<|V.r g,some<|V.r s,some<|V.i Z,some<|V.i (N:Nat),some<|V.i<|Z / 5 % ((R.length:Nat):Int),none,none] _;rw[ed];refine bU<|A.ob.m1 O O<|aa O<|Vx S (Zb hn) D λw0 h t fw k _ _=>?_;exact bU<|bu (Ds C) O<|aq<|aa O<|aq<|aa O<|az ⟨c,g,s,P,J,U,X,M,G,w,N,d,d,Y,f,_,R,m,n,O,k,ll,W,D,λu S2=>Y' D S2 O⟩;refine bQ (nq<|bw<|cD<|aa O<|aC ⟨(by show(0:Int) <5;decide),aC<|nr ⟨_,O,gH (λ_=>?_)<|λ_=>iF VD O⟩⟩);by_cases z0:N=0;exact bw (aa O<|aC<|pj ⟨_,O,by rw[ZN aH];exact iF VD O⟩);refine bw (aa O<|aC<|pj ⟨_,O,?_⟩);rw[W_ aH];refine iT ?_ O;obtain⟨j,hj,aB⟩:=T.up N (CR z0) W;obtain⟨e,_,_,he,_⟩:=S.nA hj;have sZ:j<Y.length:=YR aB W
 refine bU<|A.ob.m0 O O<|IZ S (Zb hn) hj he λw0 h t fw k _ _=>?_;exact bU<|bu (Ds C) O<|aq<|aa O<|aq<|aN<|cw O k.R.r rL<|aa O<|br k.R.h (bq (v:=gV (some j)) (by rw[Z_,hj];rfl))<|az ⟨c,g,s,P,J,U,X,M,G,w,N,j,j,Y,f,_,R,m,n,O,k,ll,W,sZ,λu S2=>Y' sZ S2 (by rw[alp T hj];rfl)⟩
theorem VF{l:bi}{v:ww}(h:l[i]?=some v):l.set i v=l:=by
 refine tF λk=>?_;by_cases z:i=k;subst z;rw[c7,h,GT O,GT (ZS.mp h).1];rw[Yh z]
theorem alH(T:bZ Y)(b:cJ Y N f I)(a:N<Y.length)(h:Y[N]?=some (some j)):cJ Y j f (eO Y I (N,j)):=by
 have R:=b.move T a (.inr h);obtain⟨r,c,Z⟩:=rg T a;have e:kP f (iy Y (N,j))=f:=by
  unfold kP iy;rw[Id (λz=>by have:=(aU T z).1;have:=(aU T h).1;lia)];exact VF<|b.up N j (c▸.head _) h
 rw[e] at R;exact R
theorem alI(T:bZ Y)(R:cJ Y N f I)(a:N<Y.length)(o:f[N]?=some (some j)):I[N]?=some (some j)/\Y[j]?=some (some N)/\cJ Y j f (eO Y I (N,j)):=by
 obtain⟨c,r,J⟩:=rg T a;have D:I[N]?=some (some j):=by
  rw[<-R.no N (r▸λz=>absurd (J N z) (Xx _))];exact o
 have h:=R.ok N j D;refine⟨D,h,?_⟩;have b:=R.move T a (.inl h);have e:kP f (iy Y (N,j))=f:=by
  unfold kP iy;rw[GT h];exact VF o
 rw[e] at b;exact b
inductive Jg(C:Do)(v:db)(H:Hp)(Q:VK)(E:XK):Prop|i(g:Do)(M G:ii)(N:Nat)(Y:bi)(ax:List bn)(I:bi)(_:v=[.r g])(_:bf C H g M G N Y ax I 320)(_:I[N]?=some none)(_:∀Z,ar H Z->Q (.b true) Z)
abbrev aoX(K:Frag)(p:Do)(C:Do)(E:XK):ba:=aG K [] [("NoNode",.r p)] [] [("redo",C,zg C p)] (E:=E)
theorem alJ(x:exmOne K (.ref p) (.ref p)=some true):bz (Jg C) (λE=>aoX K p C E) UP UO:=by
 intro v H Q E b;obtain⟨g,M,G,N,Y,ax,I,rfl,a,h,q⟩:=b;obtain⟨dx,lo,c,f,be,lg,s,e,A⟩:=WU (id a);refine⟨p,O,bU<|A.ob.m0 O O ⟨g,M,G,N,Y,_,I,_,O,a,(Xk _ _),.inr ⟨h,x,λi d v V o Z u=>?_⟩⟩⟩;exact cA<|aC<|q _<|V3 o
abbrev GOn(K:Frag)(C p:Do)(E:XK):ba:=aG K [("_law_same",ph),("_law_no_redo",Jg C),("_law_back",rN)] [] [] [("redo",C,zg C p),("now",C,Dp C),("undo",C,zf C p)] (E:=E)
inductive Jh(C:Do)(v:db)(H:Hp)(Q:VK)(E:XK):Prop|i(c:wS)(g s P J U X:Do)(M G w:ii)(N:Nat)(Y f I:bi)(R:ca)(m:List cr)(n:Nat)(_:v=[.r g,.r s])(_:SV C c H g s P J U X M G w N N Y R f I m n)(_:cJ Y N f I)(_:n<=12)(_:∀(D:bi)(Z:Hp),SV C c Z g s P J U X M G w N N Y R f D m n->cJ Y N f D->Q (.b true) Z)
theorem zE{p:cr}(c:Lp H a p)(h:Lp H b p)(q:∀Z,ar H Z->Q (.b true) Z):ph [.r a,.r b] H Q E:=by
 obtain⟨xs,g,f⟩:=c;obtain⟨B,e,d⟩:=h;exact⟨a,b,xs,B,p,O,g,e,f,d,q⟩
theorem SV.zF(S:SV C c H g s P J U X M G w l N Y R f I m n)(h:m[d]?=some e):∃a,(w.map V.r)[d]?=some (V.r a)/\Lp H a e:=by
 have l1:=(ZS.mp h).1;obtain⟨a,b⟩:∃a,w[d]?=some a:=⟨_,XB (by have:=KB S.le;lia)⟩;obtain⟨p,g,i⟩:=zB S.le b;rw[h] at g;cases g;exact⟨a,by rw[Z_,b];rfl,i⟩
theorem alL:bz (Jh C) (λE=>GOn K C p E) US UR:=by
 intro vs H Q E h0;obtain⟨c,g,s,P,J,U,X,M,G,w,N,Y,f,I,R,m,n,rfl,S,RG,hn,q⟩:=h0;obtain⟨T,hh,_,_⟩:=bf.cO S.hi;obtain⟨r0,d',_⟩:=rg T hh;refine aY<|cw O S.R.r pO ?_;refine m6 (λm0 F u=>∃(k:Nat)(D:bi)(d:sB),m0=Y.length - k/\F=[some<|.r g,some<|.r s,some<|.i (k:Nat),d]/\SV C c u g s P J U X M G w N k Y R f D m n/\cJ Y k f D/\N∈ups Y k k) (n4 _ N I none O O S RG (by rw[d'];exact .head _)) ?_;rintro m0 F u ⟨k,wF,d,rfl,rfl,L,Dw,hk⟩;obtain⟨_,lS,_,_⟩:=YG (bf.cO L.hi);obtain⟨o,ho⟩:∃o,f[k]?=some o:=oM _ (XB (by rw[Dw.l];exact lS));have jH:(f.map gV)[k]?=some (gV o):=by rw[Z_,ho];rfl
 refine bw<|aN<|cw O L.R.r wu<|aa O<|br L.R.j (bq jH)<|aC ⟨O,_,O,?_⟩;cases o with
 |some j=>
  obtain⟨Dv,t,h'⟩:=alI T Dw lS ho;obtain⟨e,_,_,he,_⟩:=L.nA t;have pl:=aU T t;refine iT ?_ O;refine⟨λV' Z=>∃(b:Nat)(D:bi)(d:sB),Y.length - b<Y.length - k/\V'=[some<|.r g,some<|.r s,some<|.i (b:Nat),d]/\SV C c Z g s P J U X M G w N b Y R f D m n/\cJ Y b f D/\N∈ups Y b b,?_,?_⟩;rintro V' Z ⟨b,D,d,aB,N'⟩;exact⟨_,aB,b,D,d,O,N'⟩;refine aY (aN<|cw O L.R.r wu<|aa O<|br L.R.j (bq jH) ?_);obtain⟨dx,lo,pa,ed,be,lg,bs,ev,A⟩:=id L.hi;refine aY<|A.ob.m0 O O<|Vw L hn Dv t he λw0 h H3 fw S3 hw bE=>?_;subst bE;obtain⟨a,ha,l0⟩:=S3.zF he;refine bQ<|QK<|kE<|kI ph O<|aq<|aa O<|aq<|aN<|cw O S3.R.r rM<|aa O<|br S3.R.r5 (bq ha)<|az<|zE hw l0 λH4 s4=>j7 (iF ?_ O);have V:=S3.same s4;obtain⟨f',b',a',e',g',c',j',i',A4⟩:=id V.hi;refine QL<|bw<|A4.ob.m0 O O ⟨g,f',b',a',e',g',c',j,_,Y,O,A4.ob,aa O<|yJ ⟨_,O,iF (ik ?_) aP⟩⟩;obtain⟨ws,W,_⟩:=hw;refine bU<|Xv<|aa O ⟨.inl ⟨O,_,ag.of<|s4 _ _ W⟩,_,s4 _ _ W,?_⟩;refine pE j _ _ aH O (V.clear (s4 _ _ W)<|L.no fw) h' ?_;rw[(ud T t).1];exact Wb _ hk
 |none=>
  refine iF ?_ O;obtain⟨rr,er,Jf⟩:=rg T lS;have Bc:wF[k]?=some none:=by
   rw[<-Dw.no k (by rw[er];exact λz=>absurd (Jf k z) (Xx _))];exact ho
  refine bQ<|kE<|kI (Jg C) O<|aq<|aa O<|az ⟨g,M,G,k,Y,_,wF,O,L.hi,Bc,λH3 s3=>j7<|iF (ik ?_) O⟩;refine m6 (λm0 F H4=>∃(k:Nat)(D:bi)(d:sB),m0=k/\F=[some<|.r g,some<|.r s,some<|.i (k:Nat),d]/\SV C c H4 g s P J U X M G w N k Y R f D m n/\cJ Y k f D/\N∈ups Y k k) (n4 _ k wF d O O (L.same s3) Dw hk) ?_;rintro k F H4 ⟨_,l',d,rfl,rfl,V,VG,hk⟩;obtain⟨_,lS,_,_⟩:=YG (bf.cO V.hi);obtain⟨dx,lo,pa,ed,be,lg,bs,ev,A⟩:=id V.hi;refine bw<|aa O<|cw O V.R.r pO<|yJ ⟨_,O,?_⟩;by_cases z:k=N;subst z;refine iF ?_ aP;refine cA<|tQ<|A.ob.m0 O O ⟨g,dx,lo,pa,ed,be,lg,k,_,Y,O,A.ob,aa O<|nr ?_⟩;rw[W_ O];exact q _ _ V VG;refine iT ?_ (by rw[ZN aH];rfl);have k0:k≠0:=λy=>by
   subst y;exact z (Ya.mp hk).symm
  obtain⟨j,t,_⟩:=T.up k (CR k0) lS;obtain⟨e,x,y,zq⟩:=jR (V.nA t);obtain⟨he,_,_,ce,te⟩:=Y7 zq;have pl:=aU T t;have tJ:N∈ups Y j j:=by
   rw[(ud T t).1] at hk;rcases X9.mp hk with h0|h0
   exact absurd h0.symm z;exact h0
  refine⟨λV' Z=>∃(b:Nat)(D:bi)(d:sB),b<k/\V'=[some<|.r g,some<|.r s,some<|.i (b:Nat),d]/\SV C c Z g s P J U X M G w N b Y R f D m n/\cJ Y b f D/\N∈ups Y b b,?_,?_⟩;rintro V' Z zq;obtain⟨b,D,d,aB,N'⟩:=jR zq;exact nS _ aB ⟨b,D,d,O,N'⟩;refine aY (A.ob.m0 O O<|IZ V hn t he λw0 h H5 fw S5 hw bE=>?_);subst bE;obtain⟨a,ha,l0⟩:=S5.zF he;refine bQ<|kE<|kI ph O<|aq<|aa O<|aq<|bu rN O<|aq<|aN<|cw O S5.R.r rM<|aa O<|br S5.R.r5 (bq ha)<|az ⟨a,e,_,_,O,l0,ce,te,λc0 H6 s6 fc hc=>az<|zE (hw.keep (λo e=>s6 _ _ e)<|bB s6) hc λH7 s7=>j7 (iF (ik ?_) O)⟩;have Dx:=s6.trans s7;have S7:=S5.same Dx;obtain⟨ws,W,_⟩:=hw;refine bU<|Xv<|aa O ⟨.inl ⟨O,_,ag.of<|Dx _ _ W⟩,_,Dx _ _ W,?_⟩;have S8:=S7.clear (B:=[]) (Dx _ _ W) (V.no fw);refine aY<|aN<|cw O S8.R.r rL<|aa O<|br S8.R.h (bq (v:=gV (some j)) (by rw[Z_,t];rfl)) ?_;exact pE j _ _ aH O S8 (alH T VG lS t) tJ
end
noncomputable def oD:ww->PyData
 |some n=>.int (n:Nat)
 |none=>.none
def kD(s:bn):PyData:=.list (s.map λk=>oD (some k))
theorem Ji(o:ww):(oD o).canLay0=true/\(oD o).depth<=2:=by cases o<;>exact⟨O,Y_ _⟩
theorem VH(h:∀d∈ds,d.canLay0=true/\d.depth<=n):PyData.canLayAll0 ds=true/\PyData.depthAll ds<=n:=by
 induction ds with
 |nil=>exact⟨O,Y_ _⟩
 |cons d ds i=>
  obtain⟨a,b⟩:=i λx f=>h x (.tail _ f);obtain⟨c,e⟩:=h d (.head _);refine⟨?_,?_⟩;show(d.canLay0 && PyData.canLayAll0 ds)=true;rw[a,c];rfl;show max d.depth (PyData.depthAll ds)<=n;lia
theorem alU(s:bn):(kD s).canLay0=true/\(kD s).depth<=4:=by
 obtain⟨a,b⟩:=VH (ds:=s.map λk=>oD (some k)) λd h=>by
  obtain⟨k,Y,rfl⟩:=X_.mp h;exact Ji _
 refine⟨a,?_⟩;show PyData.depthAll (s.map λk=>oD (some k))+1<=4;exact WX (X4 b _)
section
variable{K:Frag}{H:Hp}{Q:VK}{a b:Do}{g B:db}{w:List PyData}
theorem VI(i:H a=some (.l g))(f:H b=some (.l B))(x:IsL H w g)(h:IsL H w B)(o:∀d∈w,d.canLay0=true/\d.depth<=4)(q:Q (.b true) H):dh K .Eq (.r a) (.r b) H Q:=by
 obtain⟨c,d⟩:=VH o;have s:SeqAt.shaped (.list w)=true:=by
  unfold SeqAt.shaped;have e:(PyData.list w).canLay0=true:=c;have j:(PyData.list w).depth<=64:=by show PyData.depthAll w+1<=64;lia
  rw[e,W_ j];rfl
 refine oS (.list w) (.list w) (oG a g O i x) (oG b B O f h) s ⟨s,?_⟩;rw[SeqAt.eqv_refl _<|SeqAt.canLay_of_shaped s];exact q
theorem Jj(s:bi):IsL H (s.map oD) (s.map gV):=by
 induction s with
 |nil=>rfl
 |cons o s i=>exact⟨_,_,O,by cases o<;>rfl,i⟩
theorem Jk{s:bi}(e:H a=some (.l<|s.map gV))(c:H b=some (.l<|s.map gV))(q:Q (.b true) H):dh K .Eq (.r a) (.r b) H Q:=
 VI e c (Jj s) (Jj s) (λd h=>by
  obtain⟨o,Y,rfl⟩:=X_.mp h;exact⟨(Ji o).1,by have:=(Ji o).2;exact WX (WX this)⟩) q
theorem VJ(n:bn):iV n=(n.map some).map gV:=by rw[Y3];rfl
theorem alV(s:bn):IsL H (s.map λk=>oD (some k)) (iV s):=by
 have:=Jj (H:=H) (s.map some);rw[Y3,<-VJ] at this;exact this
def nR(H:Hp):db->List bn->Prop:=Paired λv k=>∃b,v=.r b/\H b=some (.l<|iV k)
theorem nR.same(h:nR H g vy)(s:ar H Z):nR Z g vy:=by
 induction h with
 |nil=>exact .nil
 |cons h Y i=>
  obtain⟨b,e,a⟩:=h;exact .cons ⟨b,e,s _ _ a⟩ i
theorem VL(h:nR H g vy):IsL H (vy.map kD) g:=by
 induction h with
 |nil=>rfl
 |cons h Y i=>
  obtain⟨b,rfl,a⟩:=h;exact⟨_,_,O,⟨b,_,O,a,alV _⟩,i⟩
theorem alW(f:H a=some (.l g))(e:H b=some (.l B))(x:nR H g vy)(h:nR H B vy)(q:Q (.b true) H):dh K .Eq (.r a) (.r b) H Q:=
 VI f e (VL x) (VL h) (λd c=>by
  obtain⟨k,Y,rfl⟩:=X_.mp c;exact alU k) q
theorem alX{a b:RE}(n:aR W [a,b] F H λv t=>∃i j:Int,v=[.i i,.i j]/\(-(2 ^ 62)<=i/\i<2 ^ 62/\ -(2 ^ 62)<=j/\j<2 ^ 62)/\∃f:Nat->Nat->db->Hp->Prop,(∃m,f 0 m [] t)/\∀k m B u,f k m B u->
   ((dY i (j - i).toNat).stop k u/\∀p,u p=none->Q (.r p) (upd u p<|.l B))\/
   ((dY i (j - i).toNat).go k u/\∀x g,(dY i (j - i).toNat).eE k u x g->iE W.K none x g λz=>js (some (a_ W.calm c)) (z.map some++bG F fv) g λb h=>
    if b=true then af W.calm e (z.map some++bG F fv) h λy o=>B.length<sizeLine/\∃d,d<m/\f (k+1) d (B++[y]) o else ∃d,d<m/\f (k+1) d B h)):af W (.C none fv .s [a,b] (some c) e) F H Q:=n
theorem alY(T:bZ Y)(h:0<Y.length)(k:Nat):((List.range<|Y.length - 1).filter λi=>Y[1+i]?==some (some k)).map (λi=>V.i<|1+((i:Nat):Int))=iV (kids Y k):=by
 unfold kids iV;have e:List.range Y.length=0::(List.range<|Y.length - 1).map (1+ ·):=by
  rw[show Y.length=(Y.length - 1)+1 by lia,Xe];congr 1;exact Xb λi Z=>by lia
 rw[e,List.filter_cons,Id (by rw[T.r];simp),List.filter_map,Y3];exact Xb λi Z=>O
section
variable{C U:Do}{q:wS}{E:XK}{G I J T s tx:Do}{M X as:ii}{hr N j d:Nat}{Y R l:bi}{P:ca}{es:List cr}{n:Nat}
abbrev wG(K:Frag)(C U:Do)(E:XK):ba:=aG K [("_law_way",y2),("_law_on_again",Jh C)] [] [] [("now",C,Dp C),("many",C,tY C),("size",C,QW C),("parent",C,QV C),("children",C,Vv C),("way",C,Cm C)] (E:=E)
inductive Jl(C:Do)(v:db)(H:Hp)(Q:VK)(E:XK):Prop|i(q:wS)(G I J T s tx:Do)(M X as:ii)(N:Nat)(Y R l:bi)(P:ca)(es:List cr)(n:Nat)(t c:Int)(_:v=[.r G,.r I,.i t,.i c])(_:SV C q H G I J T s tx M X as N N Y P R l es n)(_:cJ Y N R l)(_:n<=12)(_:∀(D:bi)(Z:Hp),SV C q Z G I J T s tx M X as N N Y P R D es n->cJ Y N R D->Q (.b true) Z)
noncomputable def c_(c:Int)(m:Nat):bn:=(List.range m).map λi=>((c+(i:Nat)) % (m:Nat)).toNat
theorem alZ(a:k∈c_ c m):k<m:=by
 obtain⟨i,h,rfl⟩:=X_.mp a;have:=Zn.mp h;have:=Yw (c+(i:Nat)) (show(0:Int) < (m:Nat) by lia);lia
theorem Jm:(c_ c m).length=m:=by unfold c_;rw[Wo,Zd]
theorem Dy{o:db->Hp->Do->Prop}{t:TE}{n:bn}(f:Nat->ww)(w:H a=some (.l<|iV n))(v:n.length<=1000000)(s:∀k u (Q:VK),k∈n->ar H u->Q (gV<|f k) u->t (some (.i (k:Nat))::bG F fv) u Q)(Y:∀u p,ar H u->u p=none->o ((n.map f).map gV) u p):∃W:Nat->Nat->db->Hp->Prop,(∃m,W 0 m [] H)/\∀i m B u,W i m B u->
   ((dH K a).stop i u/\∀p,u p=none->o B u p)\/
   ((dH K a).go i u/\∀x g,(dH K a).eE i u x g->iE K none x g λz=>js none (z.map some++bG F fv) g λb q=>
    if b=true then t (z.map some++bG F fv) q λy A=>B.length<sizeLine/\∃c,c<m/\W (i+1) c (B++[y]) A else ∃c,c<m/\W (i+1) c B q):=by
 refine Hc w (by rw[Wo];exact v) (λi B u=>B=((n.take i).map f).map gV) O (λi x B u h d e Q r=>?_) λB u p d e G=>?_;rw[Z_] at h;obtain⟨k,j,rfl⟩:=WC.mp h;refine s k u Q (YK j) d<|r _ _ (ar.refl _) ?_;rw[e,qU j,Za,Za];rfl;rw[Wo,Hd] at e;rw[e];exact Y u p d G
theorem al0:bz (Jl C) (λE=>wG K C U E) fO l9:=by
 intro vs H Q E h0;obtain⟨q,G,I,J,T,s,tx,M,X,as,N,Y,R,l,P,es,n,t0,c,rfl,S,RG,hn,q0⟩:=h0;obtain⟨T0,hh,_,_⟩:=bf.cO S.hi;have sz:=S.sz;have jG:=S.jG;have p0:(0:Int) < ((Y.length:Nat):Int):=by lia
 refine aY<|cw O S.R.r rL ?_;refine Hi<|HS<|dU<|aa O<|.inl ⟨_,ag.of S.R.h,?_⟩;rw[Wo];refine pQ _ O aH aH (He (K:=K) (lo:=0) aH (λi B u=>B=iV ((c_ c Y.length).take i)) O ?_ ?_);rintro i B u hi s2 rfl Q' F;have hi:i<Y.length:=by lia
 refine cD<|cD<|aa O<|aa O<|Hb<|dU<|aa O<|.inl ⟨_,ag.of<|s2 _ _ S.R.h,?_⟩;rw[Wo];refine⟨p0,F _ _ (ar.refl _) ?_⟩;have hg:(c_ c Y.length)[i]?=some (((c+(i:Nat)) % (Y.length:Nat)).toNat):=by
  unfold c_;rw[Z_,tG hi];rfl
 have e0:(c+(0+(i:Nat))) % ((Y.length:Nat):Int)=((((c+(i:Nat)) % (Y.length:Nat)).toNat:Nat):Int):=by
  rw[ZV,Int.toNat_of_nonneg<|X7 _ (vB p0)]
 show iV _++[V.i<|(c+(0+(i:Nat))) % ((Y.length:Nat):Int)]=_;rw[e0,qU hg];unfold iV;rw[Za];rfl;rintro B t w5 s1 e f5;rw[show(((Y.length:Nat):Int)).toNat=Y.length by lia,show(c_ c Y.length).take Y.length=c_ c Y.length from Wc (by rw[Jm];exact ZX _)] at e;subst e;have s2:=V3 (o:=.l (iV<|c_ c Y.length)) f5;have L:upd t w5 (.l<|iV<|c_ c Y.length) w5=some (.l<|iV<|c_ c Y.length):=aj;generalize upd t w5 (.l<|iV<|c_ c Y.length)=u at s2 L⊢;have w:=S.same (s1.trans s2);clear s1 s2 S f5 t;obtain⟨dx,lo,pa,ed,be,lg,bs,ev,A⟩:=id w.hi;have lt:∀{k},k∈c_ c Y.length->k<Y.length:=λh0=>alZ h0;have Z:(c_ c Y.length).length<=1000000:=by rw[Jm];exact Y4 sz (Xk _ _)
 have Y':∀{j:Hp},ar u j->Q (.b true) j:=λs0=>q0 _ _ (w.same s0) RG;have nx:∀{i:Int}{tb r:jp},(t0=i->av (wG K C U E) tb {(Dn Q) with nx:=av (wG K C U E) r (Dn Q)} [some<|.r G,some<|.r I,some<|.i t0,some<|.i c,some<|.r J,some<|.r w5,none] u)->av (wG K C U E) r (Dn Q) [some<|.r G,some<|.r I,some<|.i t0,some<|.i c,some<|.r J,some<|.r w5,none] u->av (wG K C U E) (.i (.p .Eq (.v 2)<|.c<|.i i) tb []::r) (Dn Q) [some<|.r G,some<|.r I,some<|.i t0,some<|.i c,some<|.r J,some<|.r w5,none] u:=λa b=>bQ (bw<|aa O<|aC<|nr ⟨_,O,gH (λz=>a<|Os z)<|λ_=>ik b⟩);refine nx (λ_=>?_)<|nx (λ_=>?_)<|nx (λ_=>?_)<|nx (λ_=>?_)<|nx (λ_=>?_)<|nx (λ_=>?_) ?_;refine cA (tQ<|A.ob.m0 O O ⟨G,dx,lo,pa,ed,be,lg,N,_,Y,O,A.ob,cw O w.R.r pO<|nr ?_⟩);rw[W_ O];exact Y' (ar.refl _);refine cA (tQ<|A.ob.m0 O O ⟨G,dx,lo,pa,ed,be,lg,N,_,Y,O,A.ob,dU<|aa O<|.inl ⟨_,ag.of w.R.h,nr ?_⟩⟩);rw[Wo,W_ O];exact Y' (ar.refl _)
 let f:Nat->ww:=λk=>some ((P.map λx=>x.cps.toList.length).getD k 0)
 have hf:∀{k},k<Y.length->∃x,P[k]?=some x/\f k=some x.cps.toList.length:=λ{k} h0=>by
  obtain⟨x,hx,_⟩:=w.at h0;exact nS x hx (by show some ((P.map λx=>x.cps.toList.length).getD k 0)=_;rw[Xu,Z_,hx];rfl)
 refine cA<|tQ<|vP<|aa O ⟨w5,O,⟨_,ag.of L⟩,Dy (K:=K) f L Z (λk j Q' hk g F=>?_) λj p g fp=>?_⟩;obtain⟨x,hx,e⟩:=hf (lt hk);rw[e] at F;exact(A.ob.same g).m1 O O<|aa O ⟨G,dx,lo,pa,ed,be,lg,N,_,Y,k,x.cps.toList.length,O,A.ob.same g,by rw[Z_,Z_,hx];rfl,F⟩;have D:=V3 (o:=.l (((c_ c Y.length).map f).map gV)) fp;have h4:upd j p (.l<|((c_ c Y.length).map f).map gV) p=some (.l<|((c_ c Y.length).map f).map gV):=aj;generalize upd j p (.l<|((c_ c Y.length).map f).map gV)=H4 at D h4⊢;have W:=g.trans D;refine vP<|aa O ⟨w5,O,⟨_,ag.of<|W _ _ L⟩,Dy (K:=K) f (W _ _ L) Z (λk H5 Q' hk y F=>?_) λH5 p2 y Jn=>?_⟩;obtain⟨x,hx,e⟩:=hf (lt hk);have gx:=(w.gd x<|YK hx).1;have lx:=YM x;rw[e,<-lx] at F;have rB:=W.trans y;exact dU<|aN<|cw O (rB _ _ w.R.r) uv<|aa O<|br (rB _ _ w.R.n) (bq (jo hx).1) ⟨cx gx.1,F⟩;have s6:=V3 (o:=.l (((c_ c Y.length).map f).map gV)) Jn;exact Jk ((y.trans s6) _ _ h4) aj<|Y'<|W.trans<|y.trans s6
 let f:Nat->ww:=λk=>Y.getD k none
 have hf:∀{k},k<Y.length->Y[k]?=some (f k):=λ{k} h0=>by
  show _=some (Y.getD k none);rw[Xu,XB h0];rfl
 refine cA<|tQ<|vP<|aa O ⟨w5,O,⟨_,ag.of L⟩,Dy (K:=K) f L Z (λk j Q' hk g F=>?_) λj p g fp=>?_⟩;exact(A.ob.same g).m1 O O (aa O ⟨G,dx,lo,pa,ed,be,lg,N,_,Y,k,f k,O,A.ob.same g,hf<|lt hk,F⟩);have D:=V3 (o:=.l (((c_ c Y.length).map f).map gV)) fp;have h4:upd j p (.l<|((c_ c Y.length).map f).map gV) p=some (.l<|((c_ c Y.length).map f).map gV):=aj;generalize upd j p (.l<|((c_ c Y.length).map f).map gV)=H4 at D h4⊢;have W:=g.trans D;refine vP<|aa O ⟨w5,O,⟨_,ag.of<|W _ _ L⟩,Dy (K:=K) f (W _ _ L) Z (λk H5 Q' hk y F=>?_) λH5 p2 y Jn=>?_⟩;exact aN (aa O<|aa O<|br ((W.trans y) _ _ w.R.h) (bq (by rw[Z_,hf<|lt hk];rfl)) F);have s6:=V3 (o:=.l (((c_ c Y.length).map f).map gV)) Jn;exact Jk ((y.trans s6) _ _ h4) aj<|Y'<|W.trans<|y.trans s6;have kt:∀i k,(c_ c Y.length)[i]?=some k->((c_ c Y.length).take<|i+1).map (kids Y)=((c_ c Y.length).take i).map (kids Y)++[kids Y k]:=λi k h0=>by rw[qU h0,Za];rfl
 refine Hi<|vP<|aa O ⟨w5,O,⟨_,ag.of L⟩,Hc (K:=K) L (by rw[Wo];exact Z) (λi B j=>nR j B<|((c_ c Y.length).take i).map<|kids Y) .nil (λi x B j hx g hP Q' F=>?_) λB j p6 g hP f6=>?_⟩;rw[Z_] at hx;obtain⟨k,hk,rfl⟩:=WC.mp hx;refine alX<|aq<|aC<|aq<|dU<|aa O<|.inl ⟨_,ag.of<|g _ _ w.R.h,az ?_⟩;rw[Wo];refine oG 1 _ O ⟨aH,aH,aH,aH⟩ ?_;rw[show(((Y.length:Nat):Int) - 1).toNat=Y.length - 1 by lia];refine ahq (K:=K) (lo:=1) (λi=>Y[1+i]?==some (some k)) aH (λi kk hi Jo=>?_) (λx kk Jo=>aa O Jo) λp fp=>?_;have LZ:1+i<Y.length:=by lia
 have uo:Y[1+i]?=some Y[1+i]:=XB LZ;have jH:(Y.map gV)[1+i]?=some (gV Y[1+i]):=by rw[Z_,uo];rfl
 have e1:(1:Int)+(i:Nat)=((1+i:Nat):Int):=by lia
 rw[e1];refine bw<|aN<|aa O<|aa O<|br (g _ _ w.R.h) (bq jH)<|aa O<|yQ ⟨_,O,?_⟩;have e2:decide (Y[1+i]=some k)=(Y[1+i]?==some (some k)):=by
  rw[uo];by_cases z:Y[1+i]=some k;rw[z];simp;rw[ZN z];simp[z]
 rw[e2];exact Jo;rw[alY T0 (yF (Y_ _) hh) k];have D:=V3 (o:=.l (iV<|kids Y k)) fp;refine F _ _ D ?_;rw[kt i k hk];exact Paired.app (hP.same D)<|.cons ⟨p,O,aj⟩ .nil;rw[Wo,Hd] at hP;have D:=V3 (o:=.l B) f6;have h6:upd j p6 (.l B) p6=some (.l B):=aj;have k6:=hP.same D;generalize upd j p6 (.l B)=H4 at D h6 k6⊢;have W:=g.trans D;refine cA<|tQ<|vP<|aa O ⟨w5,O,⟨_,ag.of<|W _ _ L⟩,Hc (K:=K) (W _ _ L) (by rw[Wo];exact Z) (λi zs H5=>nR H5 zs<|((c_ c Y.length).take i).map<|kids Y) .nil (λi x zs H5 hx y Dz Q' F=>?_) λzs H5 p7 y Dz f7=>?_⟩;rw[Z_] at hx;obtain⟨k,hk,rfl⟩:=WC.mp hx;have rB:=W.trans y;refine(A.ob.same rB).m1 O O<|aa O ⟨G,M,X,N,Y,_,l,320,k,O,w.hi.same rB,lt<|YK hk,λb H6 s6 fb hb=>F _ _ s6 ?_⟩;rw[kt i k hk];exact Paired.app (Dz.same s6)<|.cons ⟨b,O,hb⟩ .nil;rw[Wo,Hd] at Dz;have s7:=V3 (o:=.l zs) f7;refine aa O<|alW aj ((y.trans s7) _ _ h6) (Dz.same s7) (k6.same<|y.trans s7)<|Y'<|W.trans<|y.trans s7;obtain⟨N0,z,ez⟩:=U9 (l:=c_ c Y.length) λz=>by have:=Jm (c:=c) (m:=Y.length);rw[z] at this;cases Y with|nil=>exact Nat.not_lt_zero _ hh|cons _ _=>cases this
 have hz:z<Y.length:=lt (by rw[ez];exact cQ _ (.head _));have hl:fF (iV<|c_ c Y.length) (-1)=some (V.i (z:Nat)):=by
  rw[ez];unfold iV;rw[Za];exact pY _ _
 refine cA<|tQ<|A.ob.m2 O O<|cw O w.R.r pO<|aN<|aa O<|kJ<|br L hl ⟨G,dx,lo,pa,ed,be,lg,N,_,Y,N,z,O,A.ob,hh,hz,λb j g fb hb=>?_⟩;refine bu y2 O<|aq<|aa O<|aq<|cw O (g _ _ w.R.r) pO<|aq<|aN<|aa O<|kJ<|br (g _ _ L) hl<|az ⟨J,Y,N,z,O,g _ _ w.R.h,T0,hh,hz,(Y4 sz (Xk _ _)),λd H4 D fd hd=>?_⟩;rw[VJ] at hb hd;exact Jk (D _ _ hb) hd<|Y'<|g.trans D;exact cA (bu (Jh C) O<|aq<|aa O<|aq<|aa O<|az ⟨q,G,I,J,T,s,tx,M,X,as,N,Y,R,l,P,es,n,O,w,RG,hn,q0⟩)
end
end
section
variable{K:Frag}{C CN:Do}{Kp:wS}{H A c R:Hp}{Q:VK}{E:XK}{hp g s w T q d cc G g3 p:Do}{M Ed as b U f:ii}{N:Nat}{Y R' T':bi}{G':ca}{I:List cr}{n:Nat}{p0:cr}{Xf:bn}{ad:Nat->Do}{gL J:Nat->cr}{X:List bn}
noncomputable def pI(I:List cr)(J:Nat->cr)(m:Nat):List cr:=(List.range m).map λi=>if i=0 then I.getD 0 [] else J i
theorem VM(h:i<m):(pI I J m)[i]?=some (if i=0 then I.getD 0 [] else J i):=by
 unfold pI;rw[Z_,tG h];rfl
theorem SV.frn(S:SV C Kp H hp g s w T q M Ed as N N Y G' R' T' I n)(P:jq H A Y N G' I as p0 cc G g3 Xf ad gL J f)(b':∀k,k<Y.length->k∈Xf)(dN:d∉M/\d∉Ed/\d∉ [g,s,w,T,q]/\d∉as/\∀o,¬Kp d o)(dl:H d=some (.l xd))(b4:bo M A c)(hM:∀y∈b,y∈M\/A y=none)(hE:∀y∈U,A y=none)(A8:bf C R hp b U N Y X T' 320)(d':gm R U λi h=>h=J i)(k8:∀y o,y≠d->y≠g->c y=some o->R y=some o)(t8:bI c R)(r1:R g=some (.d<|cB s w G p N))(zG:R p=some (.l<|(X.map λl=>(⟨l.toArray⟩:Str)).map V.s))(fp:c p=none)(pM:p∉b/\p∉U)(gd:∀x∈X.map (λl=>(⟨l.toArray⟩:Str)),good x/\x.length<=400+320* (n+1)):
  SV C Kp R hp g s w G p b U f N N Y (X.map λl=>(⟨l.toArray⟩:Str)) R' T' (pI I J Y.length) (n+1):=by
 have T0:=(bf.cO S.hi).1;have zH:=(bf.cO S.hi).2.2.2;have Jp:bI A c:=λy B e=>b4 _ _ e λz=>by
  obtain⟨o,Z,k⟩:=zH y z;have:=P.sm _ _ Z;rw[e] at this;cases this;exact k _ O
 have zI:∀{y:Do}{o:HO},y∉M->y≠d->y≠g->A y=some o->R y=some o:=λa b0 c0 e=>k8 _ _ b0 c0 (b4 _ _ e a);have W:∀{y:Do}{o:HO},H y=some o->y≠G:=λe z=>by rw[z,P.fr.1] at e;cases e
 have eM:G∉M:=λz=>by
  obtain⟨o,Z,_⟩:=zH _ z;exact W Z O
 have nM:∀{y:Do}{o:HO},A y=some o->y∉M->y∉b:=λe n z=>(hM _ z).elim n λf0=>by rw[f0] at e;cases e
 have nE:∀{y:Do}{o:HO},A y=some o->y∉U:=λe z=>by rw[hE _ z] at e;cases e
 have lw:∀y∈ [g,s,w,T,q],∃o,H y=some o:=λy u=>by
  obtain⟨o,e,_⟩:=S.R.live y u;exact oM o e
 obtain⟨⟨wa,wl,_,_⟩,⟨al,_,_⟩,_⟩:=S.R.ne;have dW:d≠g/\d≠s/\d≠w:=by
  have:=dN.2.2.1;simp only[X9,not_or] at this;exact⟨this.1,this.2.1,this.2.2.1⟩
 have pn:∀{y:Do}{o:HO},A y=some o->y∉M->y≠p:=λe n z=>by rw[z] at e n;rw[b4 _ _ e n] at fp;cases fp
 have v:∀y∈ [g,s,w],y∉M/\y∉b/\y∉U/\y≠G/\y≠p/\y∉as/\∃o,H y=some o:=λy u=>by
  have h':y∈ [g,s,w,T,q]:=by
   simp only[X9,Yy,M2] at u⊢;rcases u with u|u|u<;>simp[u]
  obtain⟨o,e⟩:=lw y h';have m:=(S.dj y h').1;exact⟨m,nM (P.sm _ _ e) m,nE<|P.sm _ _ e,W e,pn (P.sm _ _ e) m,(S.dj y h').2.2,oM o e⟩
 have D:=zI (v s aP).1 (Ix dW.2.1) (Ix wa) (P.sm _ _ S.R.h);have E:=zI (v w aP).1 (Ix dW.2.2) (Ix wl) (P.sm _ _ S.R.j);have h5:=zI eM (Ix<|W dl) (Ix<|W S.R.r) P.t;have lE:=P.L;have VN:∀i,i<Y.length->∃a,f[i]?=some a/\a∉M/\a≠G/\a≠d/\a∉ [g,s,w]/\Lp A a (if i=0 then I.getD 0 [] else J i):=λi K=>by
  by_cases z:i=0;subst z;obtain⟨a,ha⟩:∃a,f[0]?=some a:=oM _ (XB aH);have jC:=ha;rw[P.e0] at jC;obtain⟨q0,hq,l⟩:=zB S.le jC;have ma:=YK jC;obtain⟨xs,e,pv⟩:=l;refine rR a ha (S.da a ma) (W e) (λz=>dN.2.2.2.1<|z ▸ ma) ⟨λz=>(v a z).2.2.2.2.2.1 ma,?_⟩;rw[GT O,Xu,hq];exact nS xs (P.sm _ _ e) (pv.mono<|bB P.sm);obtain⟨j,hj,_⟩:=T0.up i (CR z) K;obtain⟨_,a,F,D,E,h4⟩:=P.ed i j hj (b' i K) (b' j (by have:=aU T0 hj;lia));refine rR a F (λz=>?_) E (λz=>(by rw[z,dl] at D;cases D)) ⟨λz=>?_,by rw[Id z];exact h4⟩;obtain⟨o,Z,_⟩:=zH _ z;rw[D] at Z;cases Z;obtain⟨_,_,_,_,_,_,o,e⟩:=v a z;rw[D] at e;cases e
 have wD:∀a∈f,a∉M/\a≠G/\a∉ [g,s,w]/\∃o,A a=some o:=λa u=>by
  obtain⟨i,K⟩:=WK.mp u;obtain⟨a',F,D,E,_,h5,xs,e,_⟩:=VN i (by have:=(ZS.mp K).1;exact ZP this (XX lE));rw[K] at F;cases F;exact⟨D,E,h5,oM _ e⟩
 have c':(X.map λl=>(⟨l.toArray⟩:Str)).map (λx=>x.cps.toList)=X:=by
  rw[Y3]
  conv=>rhs;rw[<-List.map_id X]
  exact Xb λl _=>by simp
 have f':G≠p:=pn P.t eM;refine⟨by rw[c'];exact A8,λi x Q=>?_,⟨r1,D,E,h5,zG,?_⟩,Rt (by unfold pI;rw[Wo,Zd];exact lE) λi a q0 ha hq=>?_,λx Q=>?_,λx Q=>?_,λx o k=>?_,gd,S.sz,by unfold pI;rw[Wo,Zd]⟩;obtain⟨xs,q0,g1,g2,g3⟩:=d' i x Q;refine oG xs q0 g1 g2 ?_;have:=bf.CZ A8;have:=(ZS.mp Q).1;show(pI I J Y.length)[i+1]?=some q0;rw[VM aH,Id (XF (fP _)),g3];have a1:=v g aP;have a2:=v s aP;have a3:=v w aP;simp;exact⟨⟨wa,wl,a1.2.2.2.1,a1.2.2.2.2.1⟩,⟨al,a2.2.2.2.1,a2.2.2.2.2.1⟩,⟨a3.2.2.2.1,a3.2.2.2.2.1⟩,f'⟩;have K:i<Y.length:=by have:=(ZS.mp ha).1;exact ZP this (XX lE)
 obtain⟨a',F,m,_,nd,nw,l⟩:=VN i K;rw[ha] at F;cases F;rw[VM K] at hq;cases hq;exact l.keep (λo e=>zI m nd (λz=>nw (by rw[z];exact .head _)) e)<|λy B e=>t8 _ _<|Jp _ _ e;have u:x∈ [g,s,w]\/x=G\/x=p:=by
  simp only[X9,Yy,M2] at Q⊢;rcases Q with u|u|u|u|u<;>simp[u]
 rcases u with u|rfl|rfl
 obtain⟨_,D,E,_⟩:=v x u;exact⟨D,E,λz=>(wD x z).2.2.1 u⟩;exact⟨nM P.t eM,nE P.t,λz=>(wD _ z).2.1 O⟩;exact⟨pM.1,pM.2,λz=>by
  obtain⟨m,_,_,o,e⟩:=wD _ z;exact pn e m O⟩
 obtain⟨m,_,_,o,e⟩:=wD x Q;exact nM e m;obtain⟨F,D,E⟩:=S.kp x o k;have nd:x≠d:=λz=>dN.2.2.2.2 o (z ▸ k);simp only[X9,not_or] at E;refine⟨zI D nd E.1<|P.sm _ _ F,nM (P.sm _ _ F) D,?_⟩;simp only[X9,not_or,Yy,not_false_eq_true,and_true];exact⟨E.1,E.2.1,E.2.2.1,W F,pn (P.sm _ _ F) D⟩
end
section
variable{K:Frag}{C s:Do}
abbrev GFo(K:Frag)(C:Do)(E:XK):ba:=aG K [("_law_change",zl),("_law_spread",IX),("_law_done",vE),("_law_asked",Jl C)] [] [] [("foreign",C,Sx C)] (E:=E)
inductive Jq(C:Do)(v:db)(H:Hp)(Q:VK)(E:XK):Prop|i(K:wS)(h w d l g x:Do)(M Ed s:ii)(N:Nat)(Y R T':bi)(G:ca)(es:List cr)(n:Nat)(c:Int)(_:v=[.r h,.r w,.i c])(_:SV C K H h w d l g x M Ed s N N Y G R T' es n)(_:cJ Y N R T')(_:n<12)(_:∀(e J:Do)(f z a:ii)(D:bi)(t:ca)(B:List cr)(Z:Hp),SV C K Z h w d l e J f z a N N Y t R D B (n+1)->cJ Y N R D->Q (.b true) Z)
theorem al7:bz (Jq C) (λE=>GFo K C E) UM UL:=by
 intro vs H Q E m;obtain⟨Kp,hp,w,J,I,eg,tx,M,Ed,as,N,Y,R',T',G',es,n,c,rfl,S,RG,hn,q⟩:=m;obtain⟨T,hh,_,_⟩:=bf.cO S.hi;have sz:=S.sz;obtain⟨x,hx,gx,lx⟩:=S.at hh;have m9:(c % 9).toNat<=8:=by lia
 refine aY<|bu zl O<|aq<|cD<|aa O<|aC ⟨⟨aQ,aQ⟩,aq<|aN<|cw O S.R.r uv<|cw O S.R.r pO<|br S.R.n (bq (jo hx).1)<|aq<|cD<|aa O<|aC ⟨(by show(0:Int) <9;decide),az ⟨_,x,_,O,gx,aH,aH,aH,λd t B h r s1 fd hd pv ok Jb _ tt b'=>?_⟩⟩⟩;have dN:=S.no fd;have S1:=S.same s1;have cg:cE h x.cps.toList r:=⟨ok,Jb,b'⟩;refine yM<|bu IX O<|aq<|aa O<|aq<|zo<|aa O ⟨_,.inl<|ag.of hd,λcc fc=>az ?_⟩;have s2:=V3 (o:=.l B) fc;have rS:Lp (upd t cc<|.l B) cc h:=nS B aj (pv.mono<|bB s2);have X:=S1.same s2;have D:=s2 _ _ hd;have wt:=pv.mono (bB s2);generalize upd t cc (.l B)=u at s2 rS X D wt⊢;refine⟨w,J,I,eg,tx,cc,N,Y,R',as,G',es,h,x,r,O,⟨X.R,X.le,T,hh,sz,X.u,λi j m=>X.nA m,λy hy=>by have:=(X.gd y hy).2;lia⟩,rS,aH,hx,cg,λt0 G g3 n' ad gL eL ea H3 P v ft ht=>vQ ht ?_⟩;have U:=X.same P.sm;have c':IT Y N es gL eL:=⟨λb hb n=>by
  obtain⟨a,h1,h2,_⟩:=P.gb b (v b hb) n;exact nS a h1 h2,λi j e=>(P.ed i j e (v i (aU T e).2) (v j (by have:=aU T e;lia))).1⟩
 have ji:=P.sm _ _ D;have xZ:bM H3 d h x.cps.toList r:=nT B ji (wt.mono<|bB P.sm) cg;obtain⟨dx,lo,pa,ed,be,lg,bs,ev,A⟩:=id U.hi;refine bQ<|bw<|A.ob.m1 O O<|aa O ⟨hp,d,M,Ed,N,Y,_,T',320,320,_,_,_,h,_,r,O,U.hi,U.ept,xZ,(jo hx).2,aH,aQ,(Y4 sz (Xk _ _)),⟨P.z.symm,aH⟩,c'.psg T,λM' dz dX Z b4 hM hE A4 j' p' ir=>aC (qC O _ O (iF (ik ?_) O))⟩;obtain⟨Js,g',DA,f',e'⟩:=dN;have zH:=(bf.cO U.hi).2.2.2;have Jp:=zH.bx b4;have iq:=b4 _ _ ji Js;refine bU<|Xv<|aa O ⟨.inl ⟨O,_,ag.of iq⟩,_,iq,?_⟩;have b5:aE d Z (upd Z d<|.l []):=aE.upd;have t5:=b5.bx iq;have vM:upd Z d (.l []) d=some (.l []):=aj;generalize upd Z d (.l [])=H5 at b5 t5 vM⊢;have dW:d≠w/\d≠tx:=by
  simp only[X9,not_or] at DA;exact⟨DA.1,DA.2.2.2.2.1⟩
 have w4:=b4 _ _ U.R.r (U.dj w aP).1;have w5:=b5 _ _ w4 (Ix dW.1);refine Dh<|aa O<|Di O w5 Dg ?_;rw[akW];have b6:aE w H5 (upd H5 w<|.d<|cB J I G tx N):=aE.upd;have t6:bI H5 (upd H5 w<|.d<|cB J I G tx N):=λy zs e=>b6 _ _ e λz=>by rw[z,w5] at e;cases e
 have w6:upd H5 w (.d<|cB J I G tx N) w=some (.d<|cB J I G tx N):=aj;generalize upd H5 w (.d<|cB J I G tx N)=H6 at b6 t6 w6⊢;have wI:∀{y:Do}{o:HO},y≠d->y≠w->Z y=some o->H6 y=some o:=λa b e=>b6 _ _ (b5 _ _ e a) b;have VO:bI Z H6:=λy zs e=>t6 _ _ (t5 _ _ e);have p9:∀{y:Do}{o:HO},u y=some o->y≠G:=λe z=>by rw[z,P.fr.1] at e;cases e
 have Jt:∀{y:Do},u y=none->y∉M:=λf z=>by
  obtain⟨o,e,_⟩:=(bf.cO X.hi).2.2.2 _ z;rw[f] at e;cases e
 have VP:=wI (Ix<|p9 D) (Ix<|p9 X.R.r) (b4 _ _ P.t<|Jt P.fr.1);have ng:g3≠d/\g3≠w:=⟨(λz=>by rw[<-z,P.fr.2] at D;cases D),λz=>by have:=X.R.r;rw[<-z,P.fr.2] at this;cases this⟩;have VQ:=wI ng.1 ng.2 (b4 _ _ P.h<|Jt P.fr.2);obtain⟨d',o',_⟩:=U.R.ne;have VR:=wI (Ix dW.2) (Ix d'.2.2.2) (b4 _ _ U.R.n (U.dj tx aP).1);have r':dX.length=Y.length:=(bf.cO A4).2.2.1;have Ju:∀{k},k<Y.length->∃y l',G'[k]?=some y/\dX[k]?=some l'/\good y/\y.length<=400+320*n/\cE (gL k) y.cps.toList l'/\ao (gL k)<=320/\Lp Z (ad k) (gL k)/\ad k≠w/\ad k≠d:=λ{k} hk=>by
  obtain⟨g,l,l',⟨rfl,tg⟩,h1,h2,h3⟩:=ir k hk;obtain⟨_,lp,_⟩:=P.gt k (v k hk);rw[Z_] at h1;obtain⟨y,hy,rfl⟩:=WC.mp h1;have gy:=U.gd y (YK hy);obtain⟨xs,e,pv⟩:=lp;refine oS y l' hy h2 gy.1 ⟨gy.2,h3,tg,nS xs (b4 _ _ e λz=>?_) (pv.mono Jp),λz=>?_,λz=>?_⟩;rcases P.ga k (v k hk) with f|f
  rw[f] at z;exact(S1.no fc).1 z;exact Jt f z;rw[z,U.R.r] at e;cases e;rcases P.ga k (v k hk) with f|f
  rw[<-f,z,hd] at fc;cases fc;rw[z,D] at f;cases f
 refine Dh<|HS<|dU<|aa O<|.inl ⟨_,ag.of VP,?_⟩;rw[Wo,P.L];refine pQ _ O aH aH (He (K:=K) (lo:=0) aH (λi zs H7=>zs=((dX.take i).map λl=>( ⟨l.toArray⟩:Str)).map V.s) O ?_ ?_);rintro i zs H7 hi W rfl Q' q';have hi:i<Y.length:=by lia
 obtain⟨y,l',hy,eY,gy,ly,cy,ty,lp,nw,nd⟩:=Ju hi;have e0:(0:Int)+(i:Nat)=((i:Nat):Int):=by lia
 rw[e0];have i':Lp H7 (ad i) (gL i):=lp.keep (λo e=>W _ _<|wI nd nw e) λz zs e=>W _ _ (VO _ _ e);obtain⟨xs,h7,Cw⟩:=i';have rl:=cy.run.len;have h':=YM y;refine bu vE O<|aq<|aN<|cw O (W _ _ w6) uv<|aa O<|br (W _ _ VR) (bq (jo hy).1)<|aq<|ug<|aa O<|aa O ⟨g3,_,O,Dk (W _ _ VQ)<|v i hi,az<|QH gy ⟨xs,h7,Cw,cy⟩ aH<|q' _ _ (ar.refl _) ?_⟩;rw[qU eY,Za,Za];rfl;rintro zs H7 p W e fp;rw[Wc aH] at e;subst e;have f6:=W.free fp;have f4:Z p=none:=by
  cases e:Z p with
  |none=>rfl
  |some o=>
   by_cases z1:p=w;rw[z1,w6] at f6;cases f6;by_cases z2:p=d;rw[z2] at f6;have:=b6 d (.l []) vM dW.1;rw[this] at f6;cases f6;rw[wI z2 z1 e] at f6;cases f6
 have s8:=V3 (o:=.l ((dX.map λl=>(⟨l.toArray⟩:Str)).map V.s)) fp;have zG:upd H7 p (.l<|(dX.map λl=>(⟨l.toArray⟩:Str)).map V.s) p=some (.l<|(dX.map λl=>(⟨l.toArray⟩:Str)).map V.s):=aj;generalize upd H7 p (.l<|(dX.map λl=>(⟨l.toArray⟩:Str)).map V.s)=H8 at s8 zG⊢;have w8:=s8 _ _ (W _ _ w6);refine Di O w8 Dg ?_;rw[akX];have b9:aE w H8 (upd H8 w<|.d<|cB J I G p N):=aE.upd;have t9:bI H8 (upd H8 w<|.d<|cB J I G p N):=λy zs e=>b9 _ _ e λz=>by rw[z,w8] at e;cases e
 have w9:upd H8 w (.d<|cB J I G p N) w=some (.d<|cB J I G p N):=aj;generalize upd H8 w (.d<|cB J I G p N)=H9 at b9 t9 w9⊢;have pw:p≠w:=λz=>by rw[z,w4] at f4;cases f4
 have DB:∀(y:Do)(o:HO),y≠d->y≠w->Z y=some o->H9 y=some o:=λy o a b e=>b9 _ _ (s8 _ _<|W _ _<|wI a b e) b;have DC:bI Z H9:=λy zs e=>t9 _ _ (s8 _ _<|W _ _<|VO _ _ e);have a':∀a,a∈M'\/a∈dz->a≠d/\a≠w:=λa m=>by
  have no:∀{y:Do}{o:HO},H3 y=some o->y∉M->a≠y:=λe n z=>by
   rcases m with m|m
   rcases hM a m with m|m
   exact n (z ▸ m);rw[z,e] at m;cases m;have:=hE a m;rw[z,e] at this;cases this
  exact⟨no ji Js,no U.R.r (U.dj w aP).1⟩
 have A9:bf C H9 hp M' dz N Y dX T' 320:=A4.keep (λa o m e=>DB a o (a' a m).1 (a' a m).2 e) DC;have VS:=j'.keep (λa o m e=>DB a o (a' a<|.inr m).1 (a' a<|.inr m).2 e) DC;have S9:=X.frn P v ⟨Js,g',DA,f',e'⟩ D b4 hM hE A9 VS DB DC w9 (b9 _ _ zG pw) f4 (A4.own f4) λz hz=>?_;clear A9 VS DB DC b9 t9 w9 w8 s8 zG fp W Ju VR VQ VP;refine Cd<|aC ⟨7,O,aQ,aQ,rX (lo:=0) (n:=(7:Int).toNat) (λi F gN=>∃(u6:sB)(bD:bi),F=[some<|.r hp,some<|.r w,some<|.i c,some<|.r d,some<|.r G,some<|.r g3,u6]/\SV C Kp gN hp w J I G p M' dz ea N N Y (dX.map λl=>(⟨l.toArray⟩:Str)) R' bD (pI es eL Y.length) (n+1)/\cJ Y N R' bD) (oG none T' O S9 RG) ?_ ?_⟩;rintro i F gN hi ⟨u6,bD,rfl,uB,Jv⟩;have i7:i<7:=hi;have m1:=X7 c (show(6:Int)≠0 by decide);have m2:=Yw c (show(0:Int) <6 by decide);have cm:uL (0+(i:Int)) (1+c % 6):=by
  unfold uL;constructor<;>lia
 refine bQ<|kE<|kI (Jl C) O<|aq<|aa O<|aq<|aa O<|aq<|cD<|cD<|cD<|aa O<|aC ⟨⟨aQ,aQ⟩,cD<|aa O<|cD<|aC<|cD<|aa O<|aC ⟨(by show(0:Int) <6;decide),Hb ⟨cm,Hb<|aC ⟨(by show(0:Int) <7;decide),aq<|aa O<|az ⟨Kp,hp,w,J,I,G,p,M',dz,ea,N,Y,R',bD,_,_,n+1,_,c,O,uB,Jv,(XS hn),λm' l8 zJ k'=>j7<|iF ⟨_,m',O,zJ,k'⟩ O⟩⟩⟩⟩⟩;rintro F gN ⟨u6,bD,rfl,uB,Jv⟩;exact cA<|aC<|q _ _ _ _ _ _ _ _ _ uB Jv;obtain⟨l,hl,rfl⟩:=X_.mp hz;obtain⟨k,hk⟩:=WK.mp hl;obtain⟨y,l',hy,eY,gy,ly,cy,ty,_⟩:=Ju (show k<Y.length by have:=(ZS.mp hk).1;exact ZP this (XX r'));rw[hk] at eY;cases eY;have rl:=cy.run.len;have h':=YM y;have er:(⟨l.toArray⟩:Str).cps.toList=l:=by simp
 have l1:(⟨l.toArray⟩:Str).length=l.length:=by simp[Str.length]
 exact⟨⟨by rw[l1];lia,by rw[er];exact cy.run.good gy.2 λp hp=>QN (cy.ok p hp)⟩,by rw[l1];lia⟩
variable{E:XK}{Q:VK}{H:Hp}
abbrev GEr(K:Frag)(C s:Do)(E:XK):ba:=aG K [("_law_same",ph),("_law_back",rN)] [] [] [("go",C,zh C),("undo",C,zf C s),("redo",C,zg C s),("now",C,Dp C)] (E:=E)
inductive Jw(C:Do)(v:db)(H:Hp)(Q:VK)(E:XK):Prop|i(K:wS)(h w a l e t:Do)(M Ed s:ii)(c N:Nat)(Y R T':bi)(G:ca)(es:List cr)(n:Nat)(_:v=[.r h,.r e,.r a])(_:SV C K H h w a l e t M Ed s c N Y G R T' es n)(_:n<=12)(_:∀Z,Q (.b true) Z)
theorem bf.lsl(A:bf C H hp M Ed N Y ax T' T):T'.length=Y.length:=by
 obtain⟨dx,lo,p,d,be,lg,b,e,A⟩:=A;exact A.P
theorem ami:bz (Jw C) (λE=>GEr K C s E) UW UU:=by
 intro vs H Q E h0;obtain⟨Kp,hp,wA,ab,la,eg,tx,M,Ed,as,hr,N,Y,R',T',G',es,n,rfl,S,hn,q⟩:=h0;obtain⟨T,hh,Z,Z⟩:=bf.cO S.hi;have sz:=S.sz;refine Vq<|aC<|dU<|aa rfl<|.inl ⟨_,ag.of S.R.r5,?_⟩;rw[Wo,S.bD];refine oG 1 _ rfl aH ?_;refine rX (lo:=1) (λi F u=>∃(uA:Nat)(bD:bi)(u3 u4:sB),F=[some<|.r hp,some<|.r eg,some<|.r ab,u3,u4]/\SV C Kp u hp wA ab la eg tx M Ed as hr uA Y G' R' bD es n) (rP N T' ⟨none,none,rfl,S⟩) ?_ ?_;rintro i F u hi ⟨h2,wF,u3,u4,rfl,S2⟩;obtain⟨j,hj,Z⟩:=T.up (1+i) (BF (Xw _ _)) aH;have pl:=aU T hj;have e1:(1:Int)+(i:Nat)=((1+i:Nat):Int):=by lia
 rw[e1];obtain⟨e,Z,Z,he,Z,Z,ce,te⟩:=S2.nA hj;obtain⟨dx,lo,pa,ed,be,lg,bs,ev,A⟩:=id S2.hi;refine bU<|A.ob.m1 rfl rfl<|aN<|aa rfl<|aa rfl<|br S2.R.h (bq (v:=gV (some j)) (by rw[Z_,hj];rfl))<|Vx S2 hn (d:=j) aH λw h H3 fw S3 Z Z=>?_;obtain⟨dx3,lo3,pa3,ed3,be3,lg3,bs3,ev3,A3⟩:=id S3.hi;refine aY<|A3.ob.m1 rfl rfl<|aa rfl<|E7 S3 hn hj he λw h H4 fw S4 hw bE=>?_;rw[bE] at hw;obtain⟨a4,rz,l4⟩:=S4.zF he;refine bQ<|kE<|kI ph rfl<|aq<|aa rfl<|aq<|aN<|aa rfl<|aa rfl<|br S4.R.r5 (bq rz)<|az<|zE hw l4 λH5 s5=>j7 (iF (ik ?_) rfl);obtain⟨ws,j5,Z⟩:=hw;refine bU<|Xv<|aa rfl ⟨.inl ⟨rfl,_,ag.of<|s5 _ _ j5⟩,_,s5 _ _ j5,?_⟩;have S6:=(S4.same s5).clear (B:=[]) (s5 _ _ j5) (S3.no fw);obtain⟨dx6,lo6,pa6,ed6,be6,lg6,bs6,ev6,A6⟩:=id S6.hi;refine aY<|A6.ob.m0 rfl rfl<|IZ S6 hn hj he λv h H7 fv S7 hv bE=>?_;subst bE;obtain⟨a7,Cv,l7⟩:=S7.zF he;refine bQ<|kE<|kI ph rfl<|aq<|aa rfl<|aq<|bu rN rfl<|aq<|aN<|aa rfl<|aa rfl<|br S7.R.r5 (bq Cv)<|az ⟨a7,e,_,_,rfl,l7,ce,te,λc H8 s8 fc hc=>az<|zE (hv.keep (λo e=>s8 _ _ e)<|bB s8) hc λH9 s9=>j7 (iF (ik ?_) rfl)⟩;have rC:=s8.trans s9;obtain⟨us,sk,Z⟩:=hv;refine bU<|Xv<|aa rfl ⟨.inl ⟨rfl,_,ag.of<|rC _ _ sk⟩,_,rC _ _ sk,?_⟩;have uB:=(S7.same rC).clear (B:=[]) (rC _ _ sk) (S6.no fv);obtain⟨ao9,ao_,apa,apb,apc,apd,ape,apf,jI⟩:=id uB.hi;have ll:=bf.lsl S6.hi;have hl:(eO Y (eO Y (uc Y (dy Y h2 j) wF) (j,1+i)) (1+i,j))[j]?=some (some<|1+i):=by
  unfold eO;rw[GT hj,c7,GT rfl,GT];have:=ll;unfold eO at this;lia
 refine bQ<|QK<|kE<|kI ph rfl<|aq<|jI.ob.m0 rfl rfl<|Vw uB hn hl hj he λz h l8 fz zJ hz bE=>?_;rw[bE] at hz;obtain⟨VT,amj,l11⟩:=zJ.zF he;refine aq<|aN<|aa rfl<|aa rfl<|br zJ.R.r5 (bq amj)<|az<|zE hz l11 λH12 jh=>j7 (iF ?_ rfl);have VU:=zJ.same jh;obtain⟨aml,amm,amn,amo,amq,amr,aph,api,VW⟩:=id VU.hi;refine QL<|bw<|VW.ob.m0 rfl rfl ⟨hp,aml,amm,amn,amo,amq,amr,1+i,_,Y,rfl,VW.ob,aa rfl<|yJ ⟨_,rfl,iF ⟨_,_,_,_,rfl,VU⟩ aP⟩⟩;rintro F u ⟨h2,wF,u3,u4,rfl,S2⟩;exact cA<|aC<|q _
theorem ams:cJ [none] 0 [none] [none]:=⟨O,O,λa b Y h=>by
 cases a with
 |zero=>cases h
 |succ a=>simp at h,λY Y=>O,λi k h=>by
 cases i with
 |zero=>cases h
 |succ i=>simp at h⟩
section
variable{A:Do}{b:Hp}{c:wS}{a f l w G g k:Do}{M J P:ii}{N:Nat}{Y:bi}{T:ca}{U I:bi}{X:List cr}{n:Nat}{p:Ce}
abbrev GL(K:Frag)(C A:Do)(E:XK):ba:=aG K [("_law_text",Bl),("_law_cell_at",FP K),("_law_size",Gg),("_law_deed",Ja C),("_law_foreign",Jq C),("_law_edges_right",Jw C)] [] [] [] [("History",C,HH C A)] (E:=E)
theorem DD(d:ag K b a (p.map V.i))(i:Int)(s:ar b H)(e:F[0]?=some (some<|.r a))(h:0<=i)(q:Q (.i<|cell p i.toNat) H):af (GL K C A E) (.l 1 [.v 0,(.c<|.i i)]) F H Q:=
 bu (FP K) O (aq<|aa e<|aq<|aC<|az ⟨a,p,i,O,s.seq d,h,q⟩)
theorem amt{d:sB}(D:ag K b a (p.map V.i))(hk:∀y o,b y=some o->c y o)(S:SV C c H f l w G g k M J P N N Y T U I X 10)(R:cJ Y N U I)(q:∀Z,Q (.b true) Z):
  av (GL K C A E) (iA.drop 4) (Dn Q) [some<|.r a,some x0,some<|.r f,some<|.r l,d] H:=by
 have n:ar b H:=λy o e=>(S.kp y o<|hk y o e).1;refine Hg<|cI<|aq<|DD D 2 n O aQ<|aq<|DD D 3 n O aQ<|az ⟨cM,λm L=>?_⟩;have h:upd H m (.l [V.i<|cell p (2:Int).toNat,V.i<|cell p (3:Int).toNat]) m=some (.l [V.i<|cell p (2:Int).toNat,V.i<|cell p (3:Int).toNat]):=aj;have W:=S.more L (V3 L) h;have z:∀v∈ [V.i<|cell p (2:Int).toNat,V.i<|cell p (3:Int).toNat],∃i:Int,v=.i i:=λv B=>by
  simp at B;rcases B with rfl|rfl<;>exact oM _ O
 have l2:[V.i<|cell p (2:Int).toNat,V.i<|cell p (3:Int).toNat].length=2:=O;generalize [V.i<|cell p (2:Int).toNat,V.i<|cell p (3:Int).toNat]=s at h W z l2⊢;refine nT m O (oM _ (ag.of h)) (kU (K:=K) (a:=m) (xs:=s) (λi F u=>tO λ(g k:Do)(M J P:ii)(T:ca)(I:bi)(X:List cr)(d:sB)=>w_ (F=[some (.r a),some x0,some (.r f),some (.r l),d]) (SV C (λy o=>c y o\/y=m/\o=.l s) u f l w G g k M J P N N Y T U I X (10+i)) (cJ Y N U I))
 ⟨g,k,M,J,P,T,I,X,d,O,W,R⟩ (λi F H8 _ ⟨_,_,_,_,_,_,_,_,_,_,S,_⟩=>ag.of (S.kp m _ (.inr ⟨O,O⟩)).1) ?_ ?_)
 rintro i y F u x ⟨g,k,M,J,P,T,I,X,d,rfl,S,R⟩;obtain⟨c0,rfl⟩:=z y (YK x);have hi:=(ZS.mp x).1;refine bQ<|kE<|kI (Jq C) O<|aq<|aa O<|aq<|aa O<|aq<|aa O<|az ⟨_,f,l,w,G,g,k,M,J,P,N,Y,U,I,T,X,10+i,c0,O,S,R,aH,λnQ Jr M' dz j bD t dB H3 S3 R3=>j7<|iF ⟨nQ,Jr,M',dz,j,t,bD,dB,_,O,S3,R3⟩ O⟩;rintro F u ⟨g,k,M,J,P,T,I,X,d,rfl,S,R⟩;exact cA<|bu (Jw C) O<|aq<|aa O<|aq<|cw O S.R.r rM<|aq<|cw O S.R.r rL<|az ⟨_,f,l,w,G,g,k,M,J,P,N,N,Y,U,I,T,X,10+s.length,O,S,aH,q⟩
theorem amu(L:ag K b a (p.map V.i))(D:∀y o,b y=some o->c y o)(S:SV C c H f l w G g k M J P N N Y T U I X 0)(R:cJ Y N U I)(h1:Y.length=1)(q:∀Z,Q (.b true) Z):
  av (GL K C A E) (iA.drop 3) (Dn Q) [some<|.r a,some x0,some<|.r f,some<|.r l,none] H:=by
 have s0:ar b H:=λy o e=>(S.kp y o<|D y o e).1;refine Hg<|af3<|aa O<|aC ⟨4,O,aC ⟨14,O,.inl ⟨_,s0.seq L,λm W=>?_⟩⟩⟩;have ec:=af5 (p.map V.i) 4 14;rw[show((4:Nat):Int)=4 from O,show((14:Nat):Int)=14 from O] at ec;rw[ec];have s:upd H m (.l<|((p.map V.i).drop 4).take<|14 - 4) m=some (.l<|((p.map V.i).drop 4).take<|14 - 4):=aj;have S1:=S.more W (V3 W) s;have n:(((p.map V.i).drop 4).take<|14 - 4).length<=10:=by rw[Xg];lia
 have z:∀v∈ ((p.map V.i).drop 4).take (14 - 4),∃i:Int,v=.i i:=by
  intro v hv;obtain⟨i,_,e⟩:=X_.mp (jM<|Z1 hv);exact oM i e.symm
 generalize ((p.map V.i).drop 4).take (14 - 4)=cs at s S1 n z⊢;refine nT m O (oM _ (ag.of s)) (kU (λi F u=>aoJ λ(M J P:ii)(N:Nat)(Y U I:bi)(T:ca)(X:List cr)(j:sB)=>WS (F=[some (.r a),some x0,some (.r f),some (.r l),j]) (SV C (λy o=>c y o\/y=m/\o=.l cs) u f l w G g k M J P N N Y T U I X i) (cJ Y N U I) (Y.length<=i+1))
 ⟨M,J,P,N,Y,U,I,T,X,none,O,S1,R,(XX h1)⟩ (λi F H8 _ ⟨_,_,_,_,_,_,_,_,_,_,_,S,_,_⟩=>ag.of (S.kp m _ (.inr ⟨O,O⟩)).1) ?_ ?_)
 rintro i y F u B ⟨M,J,P,N,Y,U,I,T,X,j,rfl,S,R,hl⟩;obtain⟨c0,rfl⟩:=z y (YK B);have hi:=(ZS.mp B).1;refine bU<|bu (Ja C) O<|aq<|aa O<|aq<|aa O<|aq<|aa O<|az ⟨_,f,l,w,G,g,k,M,J,P,N,Y,U,I,T,X,i,c0,O,S,R,aH,aH,λM' dz x uA d h bD t dB H3 S3 R3 h3=>⟨M',dz,x,uA,d,h,bD,t,dB,_,O,S3,R3,(Y4 h3 (X4 hl _))⟩⟩;rintro F u ⟨M,J,P,N,Y,U,I,T,X,j,rfl,S,R,hl⟩;exact amt L (λy o e=>.inl<|D y o e) (S.up n) R q
theorem PU:iH [] (cB w G g k 0)=cB w G g k 0:=O
theorem jr{o:HO}(h:H a=some o)(f:H b0=none):b0≠a:=by lia
inductive DE(K:Frag)(v:db)(H:Hp)(Q:VK)(E:XK):Prop|i(a:Do)(p:Ce)(_:v=[.r a])(_:ag K H a (p.map V.i))(_:∀Z,Q (.b true) Z)
theorem amx:bz (DE K) (λE=>GL K C A E) iA rD:=by
 intro vs H Q E h;obtain⟨a,p,rfl,ha,q⟩:=h;refine aY<|bu Bl O<|aq<|DD ha 1 (ar.refl _) O aQ<|aq<|bu Gg O<|aq<|DD ha 0 (ar.refl _) O aQ<|az ⟨_,O,λm m0 m1=>az ⟨_,_,O,m0,aH,λx t gx lx s1=>?_⟩⟩;refine aY<|BQ C (HH C A) O<|dU<|aa O ⟨cx gx.1,λf dx fh fd ne=>⟨f,dx,_,O,aj,.inl (o3 x.cps.toList 320 (by rw[<-YM]) (λM u b2 fM A0=> ⟨O,?_⟩))⟩⟩;have s2:ar t u:=λy o e=>b2 y o (by rw[aw<|aJ e fh,aw<|aJ e fd];exact e) (aJ e fh);have f2:∀y∈M,t y=none:=λy h=>by
  by_cases z:y=f;rw[z];exact fh;have:=fM y h z;rw[aw z] at this;by_cases R:y=dx;rw[R];exact fd;rw[aw R] at this;exact this
 clear b2 fM;refine aY<|C0 λl fr=>?_;have sr:=V3 (o:=.d []) fr;refine aq<|aC<|aq<|cI<|aq<|aC<|az ⟨de,λw fa=>?_⟩;have sa:=V3 (o:=.l [V.a]) fa;have gM:upd (upd u l<|.d []) w (.l [V.a]) w=some (.l [V.a]):=aj;have w1:=sa _ _ (aj (H:=u) (a:=l) (o:=.d []));have s3:=sr.trans sa;have h':=sr.free fa;have n1:w≠l:=jr aj fa;generalize upd (upd u l<|.d []) w (.l [V.a])=H3 at sa gM w1 s3⊢;refine aq<|aC<|aq<|cI<|aq<|aC<|az ⟨de,λG W=>?_⟩;have S:=V3 (o:=.l [V.a]) W;have Z:upd H3 G (.l [V.a]) G=some (.l [V.a]):=aj;have n2:G≠l:=jr w1 W;have n5:G≠w:=jr gM W;have f':=s3.free W;generalize upd H3 G (.l [V.a])=H4 at S Z⊢;have s4:=s3.trans S;have w4:=S _ _ w1;have rz:=S _ _ gM;refine aq<|aC<|aq<|cI<|aq<|cI<|az ⟨DH,λb L=>az ⟨de,λg B=>?_⟩⟩;have j:=V3 (o:=.l []) L;have oJ:upd H4 b (.l []) b=some (.l []):=aj;generalize upd H4 b (.l [])=H5 at j oJ B⊢;have D:=V3 (o:=.l [V.r b]) B;have uz:upd H5 g (.l [V.r b]) g=some (.l [V.r b]):=aj;have n3:g≠l:=jr (j _ _ w4) B;have n6:g≠w:=jr (j _ _ rz) B;have n7:g≠G:=jr (j _ _ Z) B;have z1:l≠b:=Ix (jr w4 L);have R:w≠b:=Ix (jr rz L);have z3:G≠b:=Ix (jr Z L);have z4:g≠b:=jr oJ B;have d':=s4.free L;have g':=(s4.trans j).free B;generalize upd H5 g (.l [V.r b])=H6 at D uz⊢;have s6:=(s4.trans j).trans D;have w6:=D _ _ (j _ _ w4);have q9:=D _ _ (j _ _ rz);have VX:=D _ _ (j _ _ Z);have VY:=D _ _ oJ;refine aq<|aC<|aq<|cI<|aq<|aa O<|az ⟨de,λk v=>?_⟩;have n:=V3 (o:=.l [V.s x]) v;have g6:upd H6 k (.l [V.s x]) k=some (.l [V.s x]):=aj;have VZ:k≠l:=jr w6 v;have c':k≠w:=jr q9 v;have b':k≠G:=jr VX v;have a':k≠g:=jr uz v;have z5:k≠b:=jr VY v;have e':=s6.free v;generalize upd H6 k (.l [V.s x])=H7 at n g6⊢;have s7:=s6.trans n;refine aq<|aC<|aq<|aC<|az ⟨n _ _ w6,cB w G g k 0,O,(by show 5<=15;decide),?_⟩;rw[PU];have F:aE l H7 (upd H7 l<|.d<|cB w G g k 0):=aE.upd;have s8:=qw s7 fr F;have h8:upd H7 l (.d<|cB w G g k 0) l=some (.d<|cB w G g k 0):=aj;have gR:∀y∈ [l,w,G,g,k],u y=none:=λy h=>by
  simp only[X9,Yy,M2] at h;rcases h with rfl|rfl|rfl|rfl|rfl
  exact fr;exact h';exact f';exact g';exact e'
 have lv:=(bf.cO A0).2.2.2;refine amu (c:=λy o=>H y=some o) (M:=M) (J:=[]) (P:=[b]) (N:=0) (Y:=[none]) (T:=[x]) (U:=[none]) (I:=[none]) (X:=[[]]) ha (λ_ _ e=>e) ⟨A0.same s8,(λi b0 e=>by simp at e),⟨h8,F _ _ (n _ _ q9) n1,F _ _ (n _ _ VX) n2,F _ _ (n _ _ uz) n3,F _ _ g6 VZ,?_⟩,.cons (nS [] (F _ _ (n _ _ VY)<|Ix z1) .nil) .nil,λy h=>⟨lv.no<|gR y h,(λz=>by cases z),λz=>?_⟩,λy h=>?_,λy o e=>⟨(s1.trans<|s2.trans s8) _ _ e,λz=>?_,λz=>?_⟩,λy hy=>?_,(by show 1<=11;decide),O⟩ ams O q;simp;exact⟨⟨n1.symm,n2.symm,n3.symm,VZ.symm⟩,⟨n5.symm,n6.symm,c'.symm⟩,⟨n7.symm,b'.symm⟩,a'.symm⟩;have z:=Ya.mp z;simp only[X9,Yy,M2] at h;rcases h with h|h|h|h|h
 exact z1 (h.symm.trans z);exact R (h.symm.trans z);exact z3 (h.symm.trans z);exact z4 (h.symm.trans z);exact z5 (h.symm.trans z);rw[Ya.mp h];exact lv.no d';rw[s1.free<|f2 y z] at e;cases e;rw[s1.free<|s2.free<|gR y z] at e;cases e;rw[Ya.mp hy];exact⟨gx,aH⟩
end
end
section
open PyProof.Rows
open PySem.W (Frag nsIn findIn isFn keepIn codeIn fnOf mg_of mg_none_of)
def jL(s:Fr):ca:=(jQ s).args.map (·.arg)
structure YD(P:Fk)(w:Fa)(K:Frag)(mg:io)(base:FS):Prop where
 X:K.In base
 G:base.Ns mainGlobals mg
def bH(K:Frag)(x:Str)(s:Fr):Prop:= ∃f d,nsIn K mainGlobals x=some (some<|.ref f)/\sv K x x s f d
def d9(K:Frag)(C:Do)(x q:Str)(s:Fr):Prop:= ∃f d,findIn K (.ref C) x=some (some<|.ref f)/\isFn K (.ref f)=true/\sv K x q s f d
structure DF(K:Frag)(x:Str)(C:Do):Prop where
 g:nsIn K mainGlobals x=some (some<|.ref C)
 m:makesIn K C=true
 k:keepIn K (.ref C)=true
structure pP(K:Frag)(p:Str×V):Prop where
 ex:∃u0,nsIn K mainGlobals p.1=some (some u0)/\lA p.2 u0
structure wJ(K:Frag)(p:Str×Do):Prop where
 g:nsIn K mainGlobals p.1=some (some<|.ref p.2)
 x:PySem.W.excIn K p.2 [.type "ValueError",.type "Exception",.type "BaseException",.type "object"] "ValueError.__new__"=true
section
variable{P:Fk}{w:Fa}{K:Frag}{z:io}{A:FS}{x q:Str}{m:Fr}{f C:Do}{I:Go}{k:Nat}{J:Sp}
theorem dfk{o n:xz}{j:Array AC}{V d p b t:EQ}(a:nsIn K mainGlobals x=some (some<|.ref f))(l:K.lookup f=some ⟨e,o,.func<|fnOf x x (jQ m) (gQ m) (gT m) .none V d p n b t,j⟩)(c:codeIn K b x=true)(k:keepIn K (.ref f)=true):bH K x m:=⟨f,_,a,K7 l c k⟩
theorem dmk{o n:xz}{j:Array AC}{V d p b t:EQ}(a:findIn K (.ref C) x=some (some<|.ref f))(i:isFn K (.ref f)=true)(l:K.lookup f=some ⟨e,o,.func<|fnOf x q (jQ m) (gQ m) (gT m) .none V d p n b t,j⟩)(c:codeIn K b q=true)(k:keepIn K (.ref f)=true):d9 K C x q m:=⟨f,_,a,i,K7 l c k⟩
theorem amI(h:nsIn K mainGlobals x=some (some<|.str y t0)):pP K (x,.s y):=⟨_,h,⟨_,O⟩⟩
theorem amJ{y:Do}(h:nsIn K mainGlobals x=some (some<|.ref y)):pP K (x,.r y):=⟨_,h,O⟩
theorem amK(h:findIn K (.ref C) y=some none):gC K C y:=h
theorem YD.gv(Z:YD P w K z A)(h:pP K p):Fh z p:=by
 obtain⟨u,a,b⟩:=h.ex;exact⟨u,mg_of Z.X Z.G a,b⟩
theorem YD.no(Z:YD P w K z A)(h:nsIn K mainGlobals x=some none):z x=none:=mg_none_of Z.X Z.G h
theorem YD.exc(Z:YD P w K z A)(h:wJ K p):A5 z A p:=afZ Z.X Z.G h.g h.x
structure zL(P:Fk)(w:Fa)(K:Frag)(z:io)(A:FS)(k:Nat)(m:Fr)(J:Sp):Prop where
 ok:∀{x q:Str}{f:Do}{I:Go},sv K x q m f I->du P w K z A (gX P w) k f I (jL m) J
theorem amL{N P:ca}(a:autoParam (s.kind=.function) ei)(b:autoParam (s.isCoroutine=false) ei)(c:autoParam (s.isGenerator=false) ei)(d:autoParam (N.Nodup) fe)(e:autoParam (N.take P.length=P) ei)(f:autoParam (∀x∈P,s.names.lookup x=some .local\/s.names.lookup x=some .cell) fe)(g:autoParam (∀y∈s.names,y.2≠ .free) fe):wR N P s:=⟨a,b,c,d,e,f,g⟩
theorem dL{n j:ca}{t:wr}{i:List (Do×nH)}{d:wr}(u:YD P w K z A)(F:∀v H Q E,J v H Q E->av (aG K t g i b c e d E) body {nx:=λY Z=>Q .a Z,r:=Q} (WR n v) H)(o:∀{R:cP}{W:ba}{X:Cx},dQ R (AZ N00 (gT m) (t.map (·.1)) (g.map (·.1)) j (b.map (·.1)) (c.map (·.1)) (e.map (·.1)) (d.map (·.1))) W X->eT X (gQ m) (av W body))(k:Nat)(l:∀v H Q E,J v H Q E->v.length=(jL m).length:=by intro Y Y Y Y h;first|(cases h;subst_eqs;show List.length (_::_)=_;kernel_rfl)|repeat (first|(obtain⟨rfl,Y⟩:=h;kernel_rfl)|(obtain⟨Y,h⟩:=h)))(L:∀p∈t,mL P w K z A k p.1 p.2:=by repeat (first|exact qR|refine qS (mL.mono (by assumption) (by first|decide|lia)) ?_))(I:∀p∈g,Fh z p:=by repeat (first|exact qR|refine qS (YD.gv (by assumption) (by assumption)) ?_))(x:∀y∈j,z y=none:=by repeat (first|exact qR|refine qS (YD.no (by assumption) (by assumption)) ?_))(G:∀q∈i,AY P w K q:=by repeat (first|exact qR|refine qS (by assumption) ?_))(D:∀p∈b,mO P w K z A k p:=by repeat (first|exact qR|refine qS (mO.mono (by assumption) (by first|decide|lia)) ?_))(C:∀p∈c,sP P w K z A k p:=by repeat (first|exact qR|refine qS (sP.mono (by assumption) (by first|decide|lia)) ?_))(f:∀p∈e,A5 z A p:=by repeat (first|exact qR|refine qS (YD.exc (by assumption) (by assumption)) ?_))(B:∀p∈d,Fi P w K z A k p.1 p.2:=by repeat (first|exact qR|refine qS (Fi.mono (by assumption) (by first|decide|lia)) ?_))(S:wR N00 (jL m) (gT m):=by exact amL)(s:autoParam (n.length=N00.length) ei):zL P w K z A (k+1) m J:=
 ⟨λM=>X2 M S t g j b c e d body o L I x i G D C f B l λv H Q E h=>by
  have r:=F v H Q E h;unfold WR at r⊢;rw[s] at r;exact r⟩
def Bd(x q:Str)(m:Fr):Prop:= ∀(k d p:EQ)(a:xz)(b c:EQ)(u:im),u.length=(jL m).length->bindArgs (fnOf x q (jQ m) (gQ m) (gT m) .none k d p a b c) ⟨u,[]⟩=pure ((jL m).zip u)
theorem amM(h:(jL m).length=1)(f:∀(k d p:EQ)(a:xz)(b c e:EQ),bindArgs (fnOf x q (jQ m) (gQ m) (gT m) .none k d p a b c) ⟨[e],[]⟩=pure ((jL m).zip [e])):Bd x q m:=λk d p a b c u l=>by
 rcases u with Y|⟨e,Y|⟨Y,Y⟩⟩ <;>first|exact f k d p a b c _|exact absurd (l.trans h) aP
theorem amN(h:(jL m).length=2)(g:∀(k d p:EQ)(a:xz)(b c f e:EQ),bindArgs (fnOf x q (jQ m) (gQ m) (gT m) .none k d p a b c) ⟨[f,e],[]⟩=pure ((jL m).zip [f,e])):Bd x q m:=λk d p a b c u l=>by
 rcases u with Y|⟨f,Y|⟨e,Y|⟨Y,Y⟩⟩⟩ <;>first|exact g k d p a b c _ _|exact absurd (l.trans h) aP
theorem amO(i:(jL m).length=3)(j:∀(k d p:EQ)(a:xz)(b c h g f:EQ),bindArgs (fnOf x q (jQ m) (gQ m) (gT m) .none k d p a b c) ⟨[h,g,f],[]⟩=pure ((jL m).zip [h,g,f])):Bd x q m:=λk d p a b c u l=>by
 have e:=l.trans i;rcases u with Y|⟨h,Y|⟨g,Y|⟨f,Y|⟨Y,Y⟩⟩⟩⟩ <;>first|exact j k d p a b c _ _ _|exact absurd e aP
theorem amP(i:(jL m).length=4)(j:∀(k d p:EQ)(a:xz)(b c h g f e:EQ),bindArgs (fnOf x q (jQ m) (gQ m) (gT m) .none k d p a b c) ⟨[h,g,f,e],[]⟩=pure ((jL m).zip [h,g,f,e])):Bd x q m:=λk d p a b c u l=>by
 rcases u with Y|⟨h,Y|⟨g,Y|⟨f,Y|⟨e,Y|⟨Y,Y⟩⟩⟩⟩⟩ <;>first|exact j k d p a b c _ _ _ _|exact absurd (l.trans i) aP
theorem Jx(h:Bd x q m:=by first|exact amM (by kernel_rfl) λY Y Y Y Y Y Y=>O|exact amN (by kernel_rfl) λY Y Y Y Y Y Y Y=>O|exact amO (by kernel_rfl) λY Y Y Y Y Y Y Y Y=>O|exact amP (by kernel_rfl) λY Y Y Y Y Y Y Y Y Y=>O|exact apj (by kernel_rfl) λY Y Y Y Y Y Y Y Y Y Y=>O|exact apk (by kernel_rfl) λY Y Y Y Y Y Y Y Y Y Y Y=>O|exact apl (by kernel_rfl) λY Y Y Y Y Y Y Y Y Y Y Y Y=>O|exact apm (by kernel_rfl) λY Y Y Y Y Y=>O):Bd x q m:=h
theorem dT(Z:YD P w K z A)(D:bH K x m)(R:zL P w K z A k m J)(h:autoParam (Bd x x m) fj):mL P w K z A k x J:=by
 obtain⟨f,I,a,F⟩:=D;exact qQ f I _ (R.ok F) (mg_of Z.X Z.G a) F.kp (F.binds h)
theorem dM(D:d9 K C x q m)(c:gP K C)(R:zL P w K z A k m J)(h:autoParam (Bd x q m) fj):mO P w K z A k (x,C,J):=by
 obtain⟨f,I,a,i,F⟩:=D;exact⟨c,f,I,_,⟨a,i,F.kp⟩,R.ok F,F.binds h⟩
theorem dI(Z:YD P w K z A)(D:d9 K C "__init__" q m)(M:DF K c C)(R:zL P w K z A k m J)(h:autoParam (Bd "__init__" q m) fj):sP P w K z A (k+1) (c,C,J):=by
 obtain⟨f,I,a,i,F⟩:=D;exact n4 k f I _ (ZX _) ⟨M.m,a,i,M.k⟩ (R.ok F) (mg_of Z.X Z.G M.g) (F.binds h)
theorem amQ{g:Do}(X:K.In h0)(G:h0.Ns mainGlobals z)(o:z x=some (.ref g))(D:bH K x m)(R:∀A,YD P w K z A->zL P w K z A k m J)(j:autoParam (jL m=[y]) ei)(l:∀(V d p:EQ)(a:xz)(b c h:EQ),bindArgs (fnOf x x (jQ m) (gQ m) (gT m) .none V d p a b c) ⟨[h],[]⟩=pure [(y,h)]:=by exact λY Y Y Y Y Y Y=>O):
  ∃I:Go,(∀(s:Ev)(v:EQ),BindsTo s I ⟨[v],[]⟩ [(y,v)])/\∀A:FS,K.In A->A.Ns mainGlobals z->du P w K z A xb k g I [y] (λi H Q Y=>J i H Q E0):=by
 obtain⟨f,I,e,F⟩:=D;cases o.symm.trans (mg_of X G e);obtain⟨B,u,V,d,p,a,b,c,L,rfl,E,C⟩:=(F).ex;refine⟨_,λs v=>.of_eq<|l V d p a b c v,λA q t=>?_⟩;have r:=(R A ⟨q,t⟩).ok F;rw[j] at r;exact du.top r
noncomputable def amR(K:Frag)(s:ii)(G D:Do)(j:Nat):Gc:=(s.zipIdx.all λc=>kitOne K (.ref D) (.ref c.1)==some (decide<|c.2=j)) && kitOne K (.ref D) (.ref G)==some true && kitOne K (.ref D) (.type "ValueError")==some true
structure V0(K:Frag)(cs:ii)(DG D:Do)(j:Nat):Prop where
 c:EF K D
 b:amR K cs DG D j=true
 x:exmOne K (.ref D) (.ref DG)=some true
end
end
section
open PyProof.Rows
theorem asC{K:Frag}{h:FS}{m:io}{fa u d:Do}(X:K.In h)(G:h.Ns mainGlobals m)(o7:m "law"=some (.ref fa)){S:Nat}{o V W Y:Tok}(i0:pP K ("BadChange",.r Jy))(g0:pP K ("BadFit",.r u))(f0:pP K ("NoPlace",.r Jz))(e0:pP K ("NoNode",.r d))(j:DF K "Walk" g)(q:DF K "History" f)(R:qK K g)(b:fI K f)(d0:wJ K ("BadChange",Jy))(c0:wJ K ("BadFit",u))(b0:wJ K ("NoPlace",Jz))(Z':wJ K ("NoNode",d))(y:V0 K [] d d 0)(a0:bH K "is_whole" SU)(a1:bH K "is_between" SW)(a2:bH K "is_word" SX)(a3:bH K "is_text" SY)(a4:bH K "is_part" S_)(a5:bH K "may_follow" Ta)(a6:bH K "need_change" Tb)(a7:bH K "part_size" Tc)(a8:bH K "sizes" Td)(a9:d9 K g "__init__" "Walk.__init__" Te)(S':d9 K g "word" "Walk.word" Tf)(VT:d9 K g "left" "Walk.left" Tg)(R':d9 K g "take" "Walk.take" Th)(Q':bH K "add_keep" Ti)(P':bH K "add_texts" Tj)(O':bH K "neat" Tn)(N':bH K "back" To)(M':bH K "cut_behind" Tp)(L':bH K "parts_behind" Tq)(K':bH K "then" Ts)(J':bH K "put_first" Tt)(I':bH K "share" Tu)(H':bH K "passed" Tv)(G':bH K "joined_all" Tw)(F':d9 K f "__init__" "History.__init__" Tx)(E':d9 K f "need_node" "History.need_node" Tz)(D':d9 K f "need_over" "History.need_over" TB)(C':d9 K f "now" "History.now" TF)(B':d9 K f "many" "History.many" TH)(A':d9 K f "parent" "History.parent" TJ)(z':d9 K f "children" "History.children" TL)(y':d9 K f "size" "History.size" TM)(x':d9 K f "do" "History.do" TN)(w':d9 K f "edge" "History.edge" TQ)(v':d9 K f "along" "History.along" TR)(u':d9 K f "undo" "History.undo" TU)(t':d9 K f "redo" "History.redo" TV)(s':d9 K f "go" "History.go" TX)(r':d9 K f "upward" "History.upward" TY)(q':d9 K f "way" "History.way" TZ)(p':d9 K f "neighbours" "History.neighbours" T_)(o':d9 K f "foreign" "History.foreign" Ua)(n':bH K "_law_cell_at" Ub)(m':bH K "_law_whole" Uc)(l':bH K "_law_mixed" Ud)(k':bH K "_law_text" Ue)(j':bH K "_law_size" Ug)(i':bH K "_law_parts" Uh)(h':bH K "_law_neat" Ui)(g':bH K "_law_change" Uj)(f':bH K "_law_done" Uk)(e':bH K "_law_same" Ul)(d':bH K "_law_back" Up)(c':bH K "_law_gaps" Us)(b':bH K "_law_passed" Uv)(a':bH K "_law_passed_on" Ux)(N:bH K "_law_spread" UB)(M:bH K "_law_up" UC)(L:bH K "_law_way" UD)(J:bH K "_law_moved" UH)(I:bH K "_law_deed" UK)(F:bH K "_law_asked" fQ)(E:bH K "_law_foreign" UN)(D:bH K "_law_no_redo" UQ)(B:bH K "_law_on_again" UT)(z:bH K "_law_edges_right" UX)(t:bH K "law" jk)(Y':pP K ("SIGNS",.s SG))(X':pP K ("WAYS_BACK",.r JA))(i:K.lookup JA=some ⟨.type "dict",none,.dict #[⟨PyData.keyHash w.params "keep",.str "keep" T,.str "keep" o⟩,⟨PyData.keyHash w.params "cut",.str "cut" V,.str "put" W⟩,⟨PyData.keyHash w.params "put",.str "put" k,.str "cut" Y⟩] S,#[]⟩)(W':nsIn K mainGlobals "bool"=some none)(V':nsIn K mainGlobals "int"=some none)(x0:nsIn K mainGlobals "isinstance"=some none)(w0:nsIn K mainGlobals "len"=some none)(u0:nsIn K mainGlobals "list"=some none)(t0:nsIn K mainGlobals "min"=some none)(s0:nsIn K mainGlobals "range"=some none)(r0:nsIn K mainGlobals "reversed"=some none)(q0:nsIn K mainGlobals "str"=some none)(p0:nsIn K mainGlobals "sum"=some none)(o0:nsIn K mainGlobals "tuple"=some none)(n0:nsIn K mainGlobals "zip"=some none)
  :∃fd:Go,(∀(s:Ev)(v:EQ),BindsTo s fd ⟨[v],[]⟩ [("_law_script",v)])/\∀e:FS,K.In e->e.Ns mainGlobals m->du P w K m e xb 13 fa fd ["_law_script"] (λvs H Q _=>(DE K) vs H Q E0):=by
 have l0:AY P w K (JA,WB):=afY i (.c ⟨_,O⟩<|.c ⟨_,O⟩<|.c ⟨_,O⟩ .n) aQ;have T':=y.x;refine amQ X G o7 t λe Z=>?_;have T0:=dT Z a0 (dL Z aeu @Zk 0);have T1:=dT Z a1 (dL Z af0 @IP 1);have T2:=dT Z a2 (dL Z aew @aiL 0);have T3:=dT Z a3 (dL Z aev @aiM 0);have T4:=dT Z a4 (dL Z aey @aiN 1);have k0:=T4.weak (a:=FU) λ_ _ _ _ h=>aez h;have T5:=dT Z a5 (dL Z acX @aiO 0);have T6:=dT Z a6 (dL Z (ac8 (et:=[("BadChange",Jy)])) @Gs 2);have T7:=dT Z a7 (dL Z acY @aiQ 0);have T8:=dT Z a8 (dL Z ac_ @aiR 3);have T9:=dI Z a9 j (dL Z (XG R) @XD 0);have d2:=dM S' R.cl (dL Z (aeG R) @aiT 0);have U':=dM VT R.cl (dL Z (aeH R) @CT 1);have j0:=U'.weak (a:=m5 g) λ_ _ _ _ h=>QB h;have c2:=dM R' R.cl (dL Z (aeJ R) @aiV 2);have b2:=dT Z Q' (dL Z adg @aiW 0);have Y1:=dT Z P' (dL Z ade @aiX 0);have X1:=dT Z O' (dL Z adi @aiY 1);have W1:=dT Z N' (dL Z ad3 @aiZ 3);have U1:=dT Z M' (dL Z (aeO (et:=[("BadFit",u)])) @YN 0);have S1:=dT Z L' (dL Z aeQ @ai1 3);have R1:=dT Z K' (dL Z (ae5 (et:=[("BadFit",u)]) R) @ai2 4);have Q1:=dT Z J' (dL Z afi @ai3 3);have P1:=dT Z I' (dL Z (afk (et:=[("BadFit",u)])) @ai4 0);have I1:=dT Z H' (dL Z (afv (et:=[("BadFit",u)]) R) @ai5 4);have H1:=dT Z G' (dL Z ah3 @Wd 5);have G1:=dI Z F' q (dL Z (ag3 b) @RX 1);have C1:=dM B' b.cl (dL Z (aga b) @aja 0);have F1:=dM E' b.cl (dL Z agb @ai8 2);have E1:=dM D' b.cl (dL Z (agl b) @ai9 4);have D1:=dM C' b.cl (dL Z (ale b) @Od 0);have B1:=dM A' b.cl (dL Z (JI b) @ajb 3);have y1:=dM z' b.cl (dL Z (JD (l:=d) b) @ajc 3);have x1:=dM y' b.cl (dL Z (Qg b) @ajd 3);have w1:=dM x' b.cl (dL Z (agJ b) @aje 5);have v1:=dM w' b.cl (dL Z (OK b) @ajf 4);have u1:=dM v' b.cl (dL Z (ah5 b) @ajg 6);have t1:=dM u' b.cl (dL Z (aik b) @ajh 7);have s1:=dM t' b.cl (dL Z (ail b) @aji 7);have q1:=dM r' b.cl (dL Z (agf b) @XI 0);have p1:=dM q' b.cl (dL Z agg @ajl 3);have r1:=dM s' b.cl (dL Z (aim b) @ajj 7);have o1:=dM p' b.cl (dL Z (ahD b) @DL 0);have n1:=dM o' b.cl (dL Z (KQ (s:=u) b) @ajn 5);have l1:=dT Z n' (dL Z acZ @ajo 0);have k1:=dT Z m' (dL Z afX @ajp 0);have j1:=dT Z l' (dL Z ac0 @ajq 0);have i1:=dT Z k' (dL Z adt @ajr 1);have h1:=dT Z j' (dL Z YB @ajs 0);have g1:=dT Z i' (dL Z akg @ajt 2);have f1:=dT Z h' (dL Z Mz @aju 0);have e1:=dT Z g' (dL Z akq @ajv 3);have d1:=dT Z f' (dL Z aeB @ajw 0);have c1:=dT Z e' (dL Z afS @ajx 1);have b1:=dT Z d' (dL Z ak3 @ajz 1);have Y0:=dT Z c' (dL Z akz @ajB 0);have U0:=dT Z b' (dL Z akV @ajC 1);have S0:=dT Z a' (dL Z JO @ajD 1);have N0:=dT Z N (dL Z ak9 @EZ 2);have L0:=dT Z M (dL Z ahj @ajG 0);have I0:=dT Z L (dL Z ahl @ajH 1);have H0:=dT Z J (dL Z (alj (C:=f)) @ajK 2);have G0:=dT Z I (dL Z (als (p:=d)) @ajO 8);have A0:=dT Z D (dL Z (alJ T') @aj3 8);have z0:=dT Z B (dL Z (alL (p:=d)) @V6 9);have F0:=dT Z F (dL Z (al0 (U:=d)) @ajY 10);have D0:=dT Z E (dL Z al7 @Px 11);have y0:=dT Z z (dL Z (ami (s:=d)) @aj9 8);exact dL Z (amx (A:=Jz)) @akf 12
theorem walk{l:PySem.W.OpenLaw}{q:Fk}{e:ca}{X:(io)->FS->Prop}{Y:Fa->FS->Prop}{d:DefRec}{K:Params->Frag}(j:l.most=some 63)(i:d.params.defaults=[])(k:∀(w:Fa)(h:FS),Y w h->(K w.params).In h)(F:∀(w:Fa)(m:io)(g:Do)(h:FS),(K w.params).In h->h.Ns mainGlobals m->m d.name=some (.ref g)->
   ∃c:Go,(∀(s:Ev)(u:EQ),BindsTo s c ⟨[u],[]⟩ [("_law_script",u)])/\∀b:FS,(K w.params).In b->b.Ns mainGlobals m->du l.prog w (K w.params) m b xb 13 g c ["_law_script"] ((λK=>(λv H Q Z=>(DE K) v H Q E0)) (K w.params))):
  PySem.W.WalkO q e X Y l.row.toRowW d [] (λf v=>PySem.call f v):=
 aoC j aQ i ⟨O,aQ,aQ,O⟩ k F (λZ Z a n o Z S=>⟨a,n,O,S,λZ=>O⟩) λZ Z Z Z Z z=>z
end
end Internal
structure PySem.W.Fast:Prop where(tw10588624430532454713 tw13255218070425193737 tw6444602968714118872 tw1471873535657859976 tw16927347287330832834 tw15676906538414311021 tw7164277548131894653 tw4618193958747133044 tw6189942455909502213 tw14277292607949095542 tw14132972736424724791 tw6638177585699566646 tw1373386482994151532 tw12443881810565608132 tw14257869214402306266 tw4947516391212874035 tw2675072053140356863 tw6248673253533486568 tw9127432067467675816 tw10827374410376164727 tw14057915881905020825 tw5898573545643155817 tw8415395521118925165 tw657647000920743789 tw2258647062039750288 tw6018512022590535558 tw16474851258198893920 tw10652600206480658556 tw11404793987401365822 tw6683556712123634049 tw2202679796233146727 tw11918599273147790850 tw8805406093534528427 tw10272544006342527710 tw47034886728418919 tw3516091143239944625 tw14720006731822604258 tw3782888816353909655 tw1898255410450078879 tw5246319449589782652 tw17818456118746261422 tw5117246908951731323 tw9371862839425019295 tw3540541204431075471 tw7333504569141590409 tw16730175036121575323 tw8169860075598197540 tw18318306449746626336 tw478987287881199460 tw4332476913164135530 tw2314450929085811456 tw2270839095141130299 tw17395009267434890497 tw4520015023209370390 tw4345886832977415415 tw2766931690320606122 tw14196074855506914400 tw12650557551021648900 tw17058075696086962298 tw14588607625704434148 tw4905092906874111851 tw9215920874984721717 tw12017404785479863449 tw10983895133775459204 tw4963327114339164108 tw8131896577311434451 tw8660129590520201331 tw16324937882070873001 tw2561293004675016559 tw4069301531196931743 tw12130933069531941266 tw8919806110270763401 tw12633750872090575163 tw14993419374594273818 tw5571378273651408769 tw9920518959555308023 tw7676484794488365456 tw122465874704975208 tw562315869043014394 tw4600826293308347343 tw11814252642110803369 tw9966008137228186509 tw11837057396325055105 tw17357231425740973252 tw10800374840188743297 tw6677023027983925758 tw3011617763848673267 tw16944882371166380497 tw10231896998952688762 tw3098764632277504637 tw744198155730698700 tw9067644893499328148 tw17382132417443751195 tw687474206326549525 tw8901505770147591469 tw10710801323803460526 tw8462817630260565645 tw4378168930975771995 tw16575475726761618309 tw14772650206602747804 tw7061115222773291872 tw4081105110938319010 tw11539906640666624620 tw10930583053535026858 tw3263494664664472952 tw8568637347925732677 tw6881684994552114426 tw865502711709904628 tw18235777194223554637 tw10095150717663006145 tw13811047398450593115 tw6518178382470232954 tw12117032788728244439 tw9311425317903697658 tw5690022656829176498 tw14973677753691574584 tw3814515455488874715 tw14736371975375167436 tw6869304929132404502 tw18088997580050416257 tw7062141526575497209 tw13282173563606194913 tw16161314457214067818 tw16096495888752475862 tw9293736659351091641 tw4622569904686695772 tw18262557464429418870 tw13979855867211887922 tw11327554642313854701 tw16902545903504386429 tw14555920177310152704 tw10147288724559529205 tw10190518394552617983 tw13737467596491548139 tw2730554248797900617 tw15273781084684972205 tw7913621883675404656 tw18047724572964803309 tw15203163975486017899 tw8352688799921758574 tw3669894758528252599 tw6071015972788059999 tw17927940316344549349 tw6234999873854160848 tw14862274455000419050 tw10732929412085055776 tw9207075962130437880 tw8311983998633097458 tw2363825128748577993 tw16384355099962908483 tw15745774471172180709 tw17514988662033095607 tw5475168186887168445 tw12771725350330013453 tw10000774621819315655 tw5341216898939381695 tw9914180826582484885 tw18352070514963880502 tw9669152183273783811 tw4963582166349403624 tw5759016552561699519 tw16122731180944616266 tw6209575414281595460 tw5288154859406271966 tw15193652881104064304 tw15574904463297555578 tw11003346157831147686 tw13577699834092422022 tw1489327912159637184 tw16899887624942834110 tw3928775852073922098 tw974466271075723718 tw3100986736789020301 tw11566386271140651357 tw7199829739558085834 tw15355580858099785791 tw7862856711575735525 tw17995492635945952348 tw14926136425194212469 tw14183263443601061308 tw7367896015330751658 tw2776493486280961649 tw12622324501614302596 tw580580483502911240 tw3542067795294660557 tw182024657084094404 tw18445115881987508392 tw7712924941992680616 tw5785843458298073260 tw7149880365219183646 tw4678406533410726518 tw9158226824795099976 tw2741341099202833922 tw5877072089845180088 tw2868405688657372 tw2663939122754253406 tw14841949843875616902 tw5743502244201714288 tw17974925162505498428 tw17262522608610791941 tw6086463251238965190 tw5676350624110610585 tw10613912623662638877 tw8615607470402942099 tw11773382915722402786 tw6856054171856899097 tw5311345807652317911 tw12664348634872090730 tw4567061357592115726 tw16647521146698538648 tw4084297505532324751 tw4565388095420063124 tw145517768146751148 tw18033824475363902485 tw16447177696542700574 tw2546185550172903390 tw14206089870606415073 tw3735827580660601852 tw15028103673295395358 tw13269254418146862804 tw7873002533169304824 tw1679071524327587592 tw4088742875499600782 tw12944879456366347691 tw17130416969793622468 tw2296322754207286853 tw13479472173212470782 tw16943801278019070910 tw2508495787879429815 tw1069582864092577478 tw17850026510749620221 tw9598223119751571886 tw15418629855224110012 tw9634639499522020766 tw18186886503734316143 tw11708653835478734424 tw1741833362107334259 tw10868476152303594459 tw16616579911163745307 tw10650341132173300315 tw8618136503588350821 tw11004834204977665720 tw16382663632304644233 tw14652379438158700286 tw2468230649449292413 tw16512985955445793028 tw11712802729557450975 tw1515768448774350772 tw5535830149676783898 tw3799017169671637481 tw5198733224130493763 tw17200793176220187909 tw5207667281220416187 tw5368927321954050324 tw12212925224529170488 tw13993636837738011969 tw7109199019913752925 tw11252590102358197604 tw236125839831399706 tw3091436957896473946 tw17316168165518604477 tw14289045519557082247 tw4175081779341757803 tw1186027186903294777 tw6086943499893307808 tw743809417698128811 tw9008039314667325547 tw8635249101543026461 tw17578700462723448307 tw18072178945017861709 tw1601181350065575361 tw10886597657457781777 tw10579118407533049625 tw5138220137132440875 tw4496124448425430810 tw253305292647463335 tw15078915712785958370 tw15230460283437649647 tw16381685753043388799 tw12147172574485649866 tw5718733230349694992 tw17084393073102988872 tw3156408822002333055 tw971374752152227292 tw8254895504666370971 tw6244627623637564031 tw4262399876124710181 tw16305692547984764078 tw17035954479511719971 tw9259649443148152131 tw655650245052275679 tw1603793215380678281 tw9434202604624629105 tw16697664502033919887 tw119095952555657165 tw10838355961091788061 tw4584377928619394656 tw16919710119647860856 tw13414546008003437799 tw7474110229745203931 tw11284403156909433753 tw6072786555257964328 tw12002814691872434520:True)
open PySem PySem.W PyProof.Rows
set_option maxRecDepth 100000 in
set_option maxHeartbeats 0 in
theorem PySem.Challenge.cw_inkloom_k26_foreign_by_passing_holds : PySem.Challenge.rw_inkloom_k26_foreign_by_passing.Holds := by
 w_on;o_law;k_head;(case hw=>w_witness2)
 k_fill
 refine Internal.walk (l:=PySem.Challenge.rw_inkloom_k26_foreign_by_passing) rfl rfl (λw h Y=>PySem.W.kIn_of Y) ?F
 case F=>
  intro w mg fa h KX G so;refine' Internal.asC KX G so ..
  all_goals try first | refine' Internal.dfk .. | refine' Internal.amJ .. | refine' Internal.DF.mk .. | refine' Internal.dmk .. | refine' Internal.aqF .. | refine' Internal.amI .. | refine' Internal.wJ.mk .. | refine' Internal.V0.mk (Internal.EF.mk ..) .. | refine' Internal.qK.mk (Internal.gP.mk ..) .. | refine' Internal.fI.mk (Internal.gP.mk ..) ..
  all_goals try refine' Internal.amK ..
  all_goals try first | k_is | k_exc | kernel_rfl