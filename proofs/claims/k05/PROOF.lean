import PyProof.Rows.All
import Wide.All
import OpenK.AllK
import Wide.FinOn
import KE.KExcInit
import KE.KExcIs
import HandS.Exc
import HandS.ExcInit
import HandS.Ends
import HandS.ExcValue
import HandS.IsInst
import HandS.ExcField
import KE.KDictKeyed
import KE.SortData
import KE.DataCmp
import HandS.ForMost
import HandS.Conv
import HandS.DictTup
import HandS.TupAny
import HandS.Walk
import HandS.ForExc
import HandS.Comp
import HandS.Codes
import PyProof.ReprRoads
import PyProof.Rows.ReprR
import PyProof.StrLawsRepr
import HandS.List
import HandS.SortKw
import PyProof.MinMaxWalk
import PyProof.WalkInts
import HandS.SetBool
import HandS.Set
import HandS.Text
import HandS.More
import HandS.Wide
import HandS.ForDict
import KE.KDictPairs
import HandS.TryOnly
import HandS.ExcIs
import HandS.DeepEq
import PyProof.ListIndex
import HandS.Rev
import HandS.RevRange
import HandS.WideBits
import PySem.Challenge.RW_ledgertrace_k05_counts
set_option Elab.async false
set_option linter.all false
set_option maxRecDepth 100000
set_option maxHeartbeats 2000000
/-! own exception classes over one own base that is over Exception, each with an __init__ that keeps its argument in a field -/
namespace PySem
namespace ExE
open PySem.W PySem.Calls PyProof.Rows Builtin Builtin.ObjectAttr
abbrev eTail : List Value := [.type "Exception", .type "BaseException", .type "object"]
/-- the class at C: what the written part says of it; T its own base, f its field, fI its __init__ -/
structure EC (K : Frag) (C : Addr) (T : Addr) (f : Str) (fI : Addr) : Prop where
  cls : ∃ nm q N bs sn sub ab col dd k0 k1 k2 k3 k5, K.lookup C = some (excClassObj nm q C N bs (.ref T :: eTail) true sn sub ab col dd k0 k1 k2 k3 k5 "Exception.__new__")
  sa : findIn K (.ref C) "__setattr__" = some (some (.builtin "object.__setattr__"))
  ga : findIn K (.ref C) "__getattribute__" = some (some (.builtin "BaseException.__getattribute__"))
  gg : findIn K (.ref C) "__getattr__" = some none
  ca : findIn K (.ref C) "__class__" = some (some (.builtin "object.__class__"))
  no : findIn K (.ref C) f = some none
  ini : findIn K (.ref C) "__init__" = some (some (.ref fI))
  tI : typeIn K (.ref fI) = some (.type "function")
  kC : keepIn K (.ref C) = true
  tyC : typeIn K (.ref C) = some (.type "type")
section
variable {K : Frag} {C T fI : Addr} {f : Str}
theorem EC.clsIn (e : EC K C T f fI) : ∃ cd, clsIn K C = some cd ∧ cd.mro = .ref C :: .ref T :: eTail ∧ cd.hasDict = true := by
  obtain ⟨nm, q, N, bs, sn, sub, ab, col, dd, k0, k1, k2, k3, k5, h⟩ := e.cls
  refine ⟨{ name := nm, bases := bs, mro := .ref C :: .ref T :: eTail, ns := N, qualname := q, hasDict := true, slotNames := sn, subclasses := sub, abstract := ab, collection := col, hasDel := false }, ?_, rfl, rfl⟩
  unfold W.clsIn
  rw [h] <;> rfl
theorem EC.isCls (e : EC K C T f fI) : (PySem.W.clsIn K C).isSome = true := by
  obtain ⟨cd, h, _⟩ := e.clsIn
  rw [h]
  rfl
theorem EC.hd (e : EC K C T f fI) : hasDictIn K C = true := by
  obtain ⟨cd, h, _, h2⟩ := e.clsIn
  unfold hasDictIn
  rw [h]
  exact h2
theorem EC.ovr (e : EC K C T f fI) : excOver K C eTail = true := by
  obtain ⟨cd, h, h1, _⟩ := e.clsIn
  unfold excOver
  rw [h, Option.any_some, h1]
  show (C == C && excTail eTail eTail) = true
  rw [beq_self_eq_true]
  rfl
theorem EC.mro (e : EC K C T f fI) (b : Value) : mroIn K C b = some ((Value.ref C :: .ref T :: eTail).contains b) := by
  obtain ⟨cd, h, h1, _⟩ := e.clsIn
  unfold mroIn
  rw [h, Option.bind_some, h1]
  rfl
theorem EC.sub (e : EC K C T f fI) (b : Value) : subIn K (.ref C) b = some ((Value.ref C :: .ref T :: eTail).contains b) := e.mro b
theorem EC.exC (e : EC K C T f fI) : subIn K (.ref C) (.type "BaseException") = some true := by
  rw [e.sub, List.contains_cons, List.contains_cons]
  rfl
theorem EC.has (e : EC K C T f fI) {X : String} (h : eTail.contains (.type X) = true) : subIn K (.ref C) (.type X) = some true := by
  rw [e.sub, List.contains_cons, List.contains_cons, h, Bool.or_true, Bool.or_true]
theorem EC.lacks (e : EC K C T f fI) {X : String} (h : eTail.contains (.type X) = false) : subIn K (.ref C) (.type X) = some false := by
  rw [e.sub, List.contains_cons, List.contains_cons, h]
  rfl
theorem EC.self (e : EC K C T f fI) : subIn K (.ref C) (.ref C) = some true := by
  rw [e.sub, List.contains_cons, beq_self_eq_true, Bool.true_or]
theorem EC.base (e : EC K C T f fI) : subIn K (.ref C) (.ref T) = some true := by
  rw [e.sub, List.contains_cons, List.contains_cons, beq_self_eq_true, Bool.true_or, Bool.or_true]
theorem EC.other (e : EC K C T f fI) {D : Addr} (h1 : D ≠ C) (h2 : D ≠ T) : subIn K (.ref C) (.ref D) = some false := by
  have q1 : (Value.ref D == Value.ref C) = false := by simp [h1]
  have q2 : (Value.ref D == Value.ref T) = false := by simp [h2]
  rw [e.sub, List.contains_cons, List.contains_cons, q1, q2]
  rfl
theorem EC.taker (e : EC K C T f fI) : takerIn K C f = some none := by
  unfold takerIn
  rw [e.no] <;> rfl
end
/-- the first store into an exception -/
theorem store1 {prog : Program} {w : World} {A : Around} {R : Result → Shared → Prop} {hp : Heap} {g : Array GenState} {d : Drawn} {t : Nat} {os : OsState} {K : Frag} {C T fI x t0 : Addr} {f : Str} {tk : Tok} {v : Value}
    (X : K.In hp) (e : EC K C T f fI) (hx : hp.get? x = some (HandSPX.excO C t0))
    (hq : ∀ h' tk' dx, (∀ b o, b ≠ x → hp.get? b = some o → h'.get? b = some o) → hp.objs.size ≤ dx → dx ≠ x →
      h'.get? x = some { cls := .ref C, dict := some dx, data := .fields #[.ref t0, .none, .none, .none, .bool false, .none] } →
      h'.Ns1 dx (fun y => if y = f then some v else none) → R (.ok (.ret .none)) ⟨h', g, d, tk', os⟩) :
    codeAny (model prog w) A (.call (.builtin "object.__setattr__") ⟨[.ref x, .str f tk, v], []⟩) R ⟨hp, g, d, t, os⟩ := by
  have ne : x ≠ hp.objs.size := Nat.ne_of_lt (Heap.lt_size hx)
  obtain ⟨cd, hcd, hmro, hdict⟩ := e.clsIn
  have look : Looks (model prog w) hp (classData C) cd := looks_clsIn X hcd
  refine osa_openX (s := ⟨hp, g, d, t, os⟩) (od := none) F.store_Exception X ⟨hx, rfl, rfl, trivial⟩ e.ovr e.taker fun b => ?_
  obtain ⟨nm, bs, mro, ns, qn, hd, sn, sb, ab, col, del⟩ := cd
  dsimp only at hdict
  subst hdict
  show wpAny _ _ (storeInOwnDict (.ref x) (.ref C) (.str f tk) f v b) _ _ _
  unfold storeInOwnDict
  unfold ownDictForStores
  repeat (first | with_reducible refine HandSPX.store_in_new ?_ ?_ | with_reducible refine wpAny_loadPart_at hx ?_ | with_reducible refine look.at ?_ | wp_step)
  · exact ⟨_, #[], _, (Heap.get?_update_ne _ _ _ _ ne.symm).trans (Heap.get?_push_at rfl rfl), rfl, fun u hu => absurd hu (by simp), fun _ => rfl⟩
  · intro h' tk' hn hs
    have hx1 : (hp.push { cls := .type "dict", data := .dict #[] }).get? x = some (HandSPX.excO C t0) := Heap.get?_push_of_some _ hx
    refine hq h' tk' hp.objs.size (fun b o hb ho => ?_) (Nat.le_refl _) ne.symm ?_ hn
    · refine (hs.2 b (Nat.ne_of_lt (Heap.lt_size ho))).trans ?_
      exact (Heap.get?_update_ne _ _ _ _ hb).trans (Heap.get?_push_of_some _ ho)
    · refine (hs.2 x ne).trans ?_
      exact Heap.get?_update_self _ hx1 rfl

/-- what the call of such a class leaves: the exception at e, its dict at d -/
structure Made (f : Str) (h h' : Heap) (e C d : Addr) (v : Value) : Prop where
  keep : ∀ b o, h.get? b = some o → h'.get? b = some o
  new : h.objs.size ≤ e
  obj : ∃ t1 : Addr, h'.get? e = some { cls := .ref C, dict := some d, data := .fields #[.ref t1, .none, .none, .none, .bool false, .none] }
  dbig : h.objs.size ≤ d
  dne : d ≠ e
  ns : h'.Ns1 d (fun y => if y = f then some v else none)
/-- the class, called with one argument: asked of each class -/
def Makes (K : Frag) (C : Addr) (f : Str) : Prop := ∀ {prog : Program} {w : World} {A : Around} {R : Result → Shared → Prop} {s : Shared} {v : Value}, K.In s.heap → s.heap.NoLimit → A.depth + 1 < recursionLimit →
  (∀ h' tk e d, Made f s.heap h' e C d v → R (.ok (.ret (.ref e))) { s with heap := h', toks := tk }) → codeAny (model prog w) A (.call (.ref C) ⟨[v], []⟩) R s
theorem lineOne (v : Value) : [v].length ≤ sizeLine := by
  rw [sizeLine_eq]
  exact (by decide : 1 ≤ 16777216)
theorem ldName {M : Model} {s : Shared} {A : Around} {E : Value → Shared → Prop} {name : Str} {scope : Scope} {L a : Addr} {cd : Value} {m : Str → Option Value} {x : Str} {pos : Pos} {v : Value} {Q : Value → Shared → Prop}
    (hn : s.heap.Ns L m) (hv : m x = some v) (h : Q v s) (hk : scope.kind = .function := by rfl) (hl : (envOfC name scope L a cd).kindOf x = some .local := by rfl) (hd : (x == ("__debug__" : Str)) = false := by decide) :
    wpAny M A (eval (.Name x pos) (envOfC name scope L a cd)) Q E s := wpAny_Name (wpAny_loadName_local hk hl hn hv h) hd

namespace Iat
def ia (p1 p2 : Pos) : Arguments := { posonlyargs := [], args := [{ arg := "self", annotation := none, pos := p1 }, { arg := "at", annotation := none, pos := p2 }], vararg := none, kwonlyargs := [], kw_defaults := [], kwarg := none, defaults := [] }
def ib (q1 q2 q3 q4 : Pos) : List Stmt := [.Assign [.Attribute (.Name "self" q1) "at" q2] (.Name "at" q3) q4]
def isc : Scope := { kind := .function, names := [(PySem.Str.ofString "self", .local), (PySem.Str.ofString "at", .local)], isGenerator := false, isCoroutine := false, more := [] }
/-- the function __init__ at fI -/
def FnI (K : Frag) (fI : Addr) (qn : Str) : Prop := ∃ (oc : Value) (od : Option Addr) (doc pm : Value) (an : Option Addr) (cdv ct : Value) (osl : Array (Option Value)) (p1 p2 q1 q2 q3 q4 : Pos),
    K.lookup fI = some ⟨oc, od, .func (fnOf "__init__" qn (ia p1 p2) (ib q1 q2 q3 q4) isc .none .none doc pm an cdv ct), osl⟩ ∧ codeIn K cdv qn = true
section
variable {K : Frag} {C T fI : Addr} {qn : Str}
theorem init {prog : Program} {w : World} {A : Around} {R : Result → Shared → Prop} {s : Shared} (e : EC K C T "at" fI) (fn : FnI K fI qn) {x t0 : Addr} {v : Value} (X : K.In s.heap) (hlim : s.heap.NoLimit) (hx : s.heap.get? x = some (HandSPX.excO C t0)) (hroom : A.depth < recursionLimit)
    (hq : ∀ h' tk dx, (∀ b o, b ≠ x → s.heap.get? b = some o → h'.get? b = some o) → s.heap.objs.size ≤ dx → dx ≠ x →
      h'.get? x = some { cls := .ref C, dict := some dx, data := .fields #[.ref t0, .none, .none, .none, .bool false, .none] } →
      h'.Ns1 dx (fun y => if y = "at" then some v else none) → R (.ok (.ret .none)) { s with heap := h', toks := tk }) :
    codeAny (model prog w) A (.call (.ref fI) ⟨[.ref x, v], []⟩) R s := by
  obtain ⟨oc, od, doc, pm, an, cdv, ct, osl, p1, p2, q1, q2, q3, q4, ho, hcd⟩ := fn
  refine Att.call_fn (binds := [("self", .ref x), ("at", v)]) X hlim ho hcd hroom (BindsTo.of_eq (by first | rfl | with_unfolding_all rfl)) (by first | rfl | decide | with_unfolding_all rfl) (fun s₁ IC => ?_) rfl rfl rfl
  obtain ⟨h₁, tk₁, rfl⟩ := IC.toInCall.same
  have kp : ∀ b o, s.heap.get? b = some o → h₁.get? b = some o := IC.toInCall.keep
  have hn := IC.toInCall.ns
  have X₁ : K.In h₁ := X.keeps kp
  have hx₁ := kp _ _ hx
  show wpAny _ _ (execs _ _) _ _ _
  refine wpAny_execs_cons (plainObj_wpAny_Assign_Attribute ?_)
  refine ldName (v := v) hn (by first | rfl | with_unfolding_all rfl | kernel_rfl) (ldName (v := .ref x) hn (by first | rfl | with_unfolding_all rfl | kernel_rfl) ?_)
  refine set_plain X₁ (ox := HandSPX.excO C t0) (od := none) ⟨hx₁, rfl, rfl, trivial⟩ e.sa ?_
  refine store1 X₁ e hx₁ fun h₃ tk₃ dx k₃ dn dne hx₃ hn₃ => ?_
  show wpAny _ _ (execs _ _) _ _ _
  have big : s.heap.objs.size ≤ dx := Nat.le_of_lt (Nat.lt_of_lt_of_le hn.lt dn)
  exact wpAny_execs_nil (hq h₃ tk₃ dx (fun b o hb ho => k₃ b o hb (kp b o ho)) big dne hx₃ hn₃)
theorem makes (e : EC K C T "at" fI) (fn : FnI K fI qn) : Makes K C "at" := fun {prog w A R s v} X hlim hroom hq => by
  obtain ⟨nm, q, N, bs, sn, sub, ab, col, dd, k0, k1, k2, k3, k5, hC⟩ := e.cls
  obtain ⟨hp, g, dr, tk, os⟩ := s
  have kp : ∀ b o, hp.get? b = some o → ((hp.push (kdv_tup [v])).push (HandSPX.excO C hp.objs.size)).get? b = some o := fun b o z => Heap.get?_push_of_some _ (Heap.get?_push_of_some _ z)
  have hget : ((hp.push (kdv_tup [v])).push (HandSPX.excO C hp.objs.size)).get? (hp.objs.size + 1) = some (HandSPX.excO C hp.objs.size) := by heap_get
  have tails : ∀ Y : String, (Value.ref T :: eTail).contains (.type Y) = eTail.contains (.type Y) := fun Y => by rw [List.contains_cons]; rfl
  refine HandSPX.call_own F.excBase_Exception tails (X _ _ hC) (looks_findIn X e.ini) (fun self => bind_fn X self e.tI) (lineOne v) ?_
  refine init (s := ⟨(hp.push (kdv_tup [v])).push (HandSPX.excO C hp.objs.size), g, dr, tk, os⟩) e fn (X.keeps kp) (hlim.keeps kp) hget ?_ fun h' tk' dx k' dn dne hx' hns => ?_
  · show A.depth + 1 < recursionLimit
    exact hroom
  · have old : ∀ b o, hp.get? b = some o → h'.get? b = some o := fun b o z => k' b o (Nat.ne_of_lt (Nat.lt_succ_of_lt (Heap.lt_size z))) (kp b o z)
    have z : hp.objs.size + 1 + 1 ≤ dx := by
      have q := dn
      simp only [Heap.size_push] at q
      exact q
    exact ⟨rfl, hq h' tk' (hp.objs.size + 1) dx ⟨old, Nat.le_succ _, ⟨_, hx'⟩, Nat.le_trans (Nat.le_trans (Nat.le_succ _) (Nat.le_succ _)) z, dne, hns⟩⟩
end
end Iat

namespace Iname
def ia (p1 p2 : Pos) : Arguments := { posonlyargs := [], args := [{ arg := "self", annotation := none, pos := p1 }, { arg := "name", annotation := none, pos := p2 }], vararg := none, kwonlyargs := [], kw_defaults := [], kwarg := none, defaults := [] }
def ib (q1 q2 q3 q4 : Pos) : List Stmt := [.Assign [.Attribute (.Name "self" q1) "name" q2] (.Name "name" q3) q4]
def isc : Scope := { kind := .function, names := [(PySem.Str.ofString "self", .local), (PySem.Str.ofString "name", .local)], isGenerator := false, isCoroutine := false, more := [] }
/-- the function __init__ at fI -/
def FnI (K : Frag) (fI : Addr) (qn : Str) : Prop := ∃ (oc : Value) (od : Option Addr) (doc pm : Value) (an : Option Addr) (cdv ct : Value) (osl : Array (Option Value)) (p1 p2 q1 q2 q3 q4 : Pos),
    K.lookup fI = some ⟨oc, od, .func (fnOf "__init__" qn (ia p1 p2) (ib q1 q2 q3 q4) isc .none .none doc pm an cdv ct), osl⟩ ∧ codeIn K cdv qn = true
section
variable {K : Frag} {C T fI : Addr} {qn : Str}
theorem init {prog : Program} {w : World} {A : Around} {R : Result → Shared → Prop} {s : Shared} (e : EC K C T "name" fI) (fn : FnI K fI qn) {x t0 : Addr} {v : Value} (X : K.In s.heap) (hlim : s.heap.NoLimit) (hx : s.heap.get? x = some (HandSPX.excO C t0)) (hroom : A.depth < recursionLimit)
    (hq : ∀ h' tk dx, (∀ b o, b ≠ x → s.heap.get? b = some o → h'.get? b = some o) → s.heap.objs.size ≤ dx → dx ≠ x →
      h'.get? x = some { cls := .ref C, dict := some dx, data := .fields #[.ref t0, .none, .none, .none, .bool false, .none] } →
      h'.Ns1 dx (fun y => if y = "name" then some v else none) → R (.ok (.ret .none)) { s with heap := h', toks := tk }) :
    codeAny (model prog w) A (.call (.ref fI) ⟨[.ref x, v], []⟩) R s := by
  obtain ⟨oc, od, doc, pm, an, cdv, ct, osl, p1, p2, q1, q2, q3, q4, ho, hcd⟩ := fn
  refine Att.call_fn (binds := [("self", .ref x), ("name", v)]) X hlim ho hcd hroom (BindsTo.of_eq (by first | rfl | with_unfolding_all rfl)) (by first | rfl | decide | with_unfolding_all rfl) (fun s₁ IC => ?_) rfl rfl rfl
  obtain ⟨h₁, tk₁, rfl⟩ := IC.toInCall.same
  have kp : ∀ b o, s.heap.get? b = some o → h₁.get? b = some o := IC.toInCall.keep
  have hn := IC.toInCall.ns
  have X₁ : K.In h₁ := X.keeps kp
  have hx₁ := kp _ _ hx
  show wpAny _ _ (execs _ _) _ _ _
  refine wpAny_execs_cons (plainObj_wpAny_Assign_Attribute ?_)
  refine ldName (v := v) hn (by first | rfl | with_unfolding_all rfl | kernel_rfl) (ldName (v := .ref x) hn (by first | rfl | with_unfolding_all rfl | kernel_rfl) ?_)
  refine set_plain X₁ (ox := HandSPX.excO C t0) (od := none) ⟨hx₁, rfl, rfl, trivial⟩ e.sa ?_
  refine store1 X₁ e hx₁ fun h₃ tk₃ dx k₃ dn dne hx₃ hn₃ => ?_
  show wpAny _ _ (execs _ _) _ _ _
  have big : s.heap.objs.size ≤ dx := Nat.le_of_lt (Nat.lt_of_lt_of_le hn.lt dn)
  exact wpAny_execs_nil (hq h₃ tk₃ dx (fun b o hb ho => k₃ b o hb (kp b o ho)) big dne hx₃ hn₃)
theorem makes (e : EC K C T "name" fI) (fn : FnI K fI qn) : Makes K C "name" := fun {prog w A R s v} X hlim hroom hq => by
  obtain ⟨nm, q, N, bs, sn, sub, ab, col, dd, k0, k1, k2, k3, k5, hC⟩ := e.cls
  obtain ⟨hp, g, dr, tk, os⟩ := s
  have kp : ∀ b o, hp.get? b = some o → ((hp.push (kdv_tup [v])).push (HandSPX.excO C hp.objs.size)).get? b = some o := fun b o z => Heap.get?_push_of_some _ (Heap.get?_push_of_some _ z)
  have hget : ((hp.push (kdv_tup [v])).push (HandSPX.excO C hp.objs.size)).get? (hp.objs.size + 1) = some (HandSPX.excO C hp.objs.size) := by heap_get
  have tails : ∀ Y : String, (Value.ref T :: eTail).contains (.type Y) = eTail.contains (.type Y) := fun Y => by rw [List.contains_cons]; rfl
  refine HandSPX.call_own F.excBase_Exception tails (X _ _ hC) (looks_findIn X e.ini) (fun self => bind_fn X self e.tI) (lineOne v) ?_
  refine init (s := ⟨(hp.push (kdv_tup [v])).push (HandSPX.excO C hp.objs.size), g, dr, tk, os⟩) e fn (X.keeps kp) (hlim.keeps kp) hget ?_ fun h' tk' dx k' dn dne hx' hns => ?_
  · show A.depth + 1 < recursionLimit
    exact hroom
  · have old : ∀ b o, hp.get? b = some o → h'.get? b = some o := fun b o z => k' b o (Nat.ne_of_lt (Nat.lt_succ_of_lt (Heap.lt_size z))) (kp b o z)
    have z : hp.objs.size + 1 + 1 ≤ dx := by
      have q := dn
      simp only [Heap.size_push] at q
      exact q
    exact ⟨rfl, hq h' tk' (hp.objs.size + 1) dx ⟨old, Nat.le_succ _, ⟨_, hx'⟩, Nat.le_trans (Nat.le_trans (Nat.le_succ _) (Nat.le_succ _)) z, dne, hns⟩⟩
end
end Iname

namespace Iword
def ia (p1 p2 : Pos) : Arguments := { posonlyargs := [], args := [{ arg := "self", annotation := none, pos := p1 }, { arg := "word", annotation := none, pos := p2 }], vararg := none, kwonlyargs := [], kw_defaults := [], kwarg := none, defaults := [] }
def ib (q1 q2 q3 q4 : Pos) : List Stmt := [.Assign [.Attribute (.Name "self" q1) "word" q2] (.Name "word" q3) q4]
def isc : Scope := { kind := .function, names := [(PySem.Str.ofString "self", .local), (PySem.Str.ofString "word", .local)], isGenerator := false, isCoroutine := false, more := [] }
/-- the function __init__ at fI -/
def FnI (K : Frag) (fI : Addr) (qn : Str) : Prop := ∃ (oc : Value) (od : Option Addr) (doc pm : Value) (an : Option Addr) (cdv ct : Value) (osl : Array (Option Value)) (p1 p2 q1 q2 q3 q4 : Pos),
    K.lookup fI = some ⟨oc, od, .func (fnOf "__init__" qn (ia p1 p2) (ib q1 q2 q3 q4) isc .none .none doc pm an cdv ct), osl⟩ ∧ codeIn K cdv qn = true
section
variable {K : Frag} {C T fI : Addr} {qn : Str}
theorem init {prog : Program} {w : World} {A : Around} {R : Result → Shared → Prop} {s : Shared} (e : EC K C T "word" fI) (fn : FnI K fI qn) {x t0 : Addr} {v : Value} (X : K.In s.heap) (hlim : s.heap.NoLimit) (hx : s.heap.get? x = some (HandSPX.excO C t0)) (hroom : A.depth < recursionLimit)
    (hq : ∀ h' tk dx, (∀ b o, b ≠ x → s.heap.get? b = some o → h'.get? b = some o) → s.heap.objs.size ≤ dx → dx ≠ x →
      h'.get? x = some { cls := .ref C, dict := some dx, data := .fields #[.ref t0, .none, .none, .none, .bool false, .none] } →
      h'.Ns1 dx (fun y => if y = "word" then some v else none) → R (.ok (.ret .none)) { s with heap := h', toks := tk }) :
    codeAny (model prog w) A (.call (.ref fI) ⟨[.ref x, v], []⟩) R s := by
  obtain ⟨oc, od, doc, pm, an, cdv, ct, osl, p1, p2, q1, q2, q3, q4, ho, hcd⟩ := fn
  refine Att.call_fn (binds := [("self", .ref x), ("word", v)]) X hlim ho hcd hroom (BindsTo.of_eq (by first | rfl | with_unfolding_all rfl)) (by first | rfl | decide | with_unfolding_all rfl) (fun s₁ IC => ?_) rfl rfl rfl
  obtain ⟨h₁, tk₁, rfl⟩ := IC.toInCall.same
  have kp : ∀ b o, s.heap.get? b = some o → h₁.get? b = some o := IC.toInCall.keep
  have hn := IC.toInCall.ns
  have X₁ : K.In h₁ := X.keeps kp
  have hx₁ := kp _ _ hx
  show wpAny _ _ (execs _ _) _ _ _
  refine wpAny_execs_cons (plainObj_wpAny_Assign_Attribute ?_)
  refine ldName (v := v) hn (by first | rfl | with_unfolding_all rfl | kernel_rfl) (ldName (v := .ref x) hn (by first | rfl | with_unfolding_all rfl | kernel_rfl) ?_)
  refine set_plain X₁ (ox := HandSPX.excO C t0) (od := none) ⟨hx₁, rfl, rfl, trivial⟩ e.sa ?_
  refine store1 X₁ e hx₁ fun h₃ tk₃ dx k₃ dn dne hx₃ hn₃ => ?_
  show wpAny _ _ (execs _ _) _ _ _
  have big : s.heap.objs.size ≤ dx := Nat.le_of_lt (Nat.lt_of_lt_of_le hn.lt dn)
  exact wpAny_execs_nil (hq h₃ tk₃ dx (fun b o hb ho => k₃ b o hb (kp b o ho)) big dne hx₃ hn₃)
theorem makes (e : EC K C T "word" fI) (fn : FnI K fI qn) : Makes K C "word" := fun {prog w A R s v} X hlim hroom hq => by
  obtain ⟨nm, q, N, bs, sn, sub, ab, col, dd, k0, k1, k2, k3, k5, hC⟩ := e.cls
  obtain ⟨hp, g, dr, tk, os⟩ := s
  have kp : ∀ b o, hp.get? b = some o → ((hp.push (kdv_tup [v])).push (HandSPX.excO C hp.objs.size)).get? b = some o := fun b o z => Heap.get?_push_of_some _ (Heap.get?_push_of_some _ z)
  have hget : ((hp.push (kdv_tup [v])).push (HandSPX.excO C hp.objs.size)).get? (hp.objs.size + 1) = some (HandSPX.excO C hp.objs.size) := by heap_get
  have tails : ∀ Y : String, (Value.ref T :: eTail).contains (.type Y) = eTail.contains (.type Y) := fun Y => by rw [List.contains_cons]; rfl
  refine HandSPX.call_own F.excBase_Exception tails (X _ _ hC) (looks_findIn X e.ini) (fun self => bind_fn X self e.tI) (lineOne v) ?_
  refine init (s := ⟨(hp.push (kdv_tup [v])).push (HandSPX.excO C hp.objs.size), g, dr, tk, os⟩) e fn (X.keeps kp) (hlim.keeps kp) hget ?_ fun h' tk' dx k' dn dne hx' hns => ?_
  · show A.depth + 1 < recursionLimit
    exact hroom
  · have old : ∀ b o, hp.get? b = some o → h'.get? b = some o := fun b o z => k' b o (Nat.ne_of_lt (Nat.lt_succ_of_lt (Heap.lt_size z))) (kp b o z)
    have z : hp.objs.size + 1 + 1 ≤ dx := by
      have q := dn
      simp only [Heap.size_push] at q
      exact q
    exact ⟨rfl, hq h' tk' (hp.objs.size + 1) dx ⟨old, Nat.le_succ _, ⟨_, hx'⟩, Nat.le_trans (Nat.le_trans (Nat.le_succ _) (Nat.le_succ _)) z, dne, hns⟩⟩
end
end Iword
end ExE
end PySem


set_option Elab.async false
set_option linter.all false
set_option maxRecDepth 100000
set_option maxHeartbeats 2000000
namespace L2
open PySem PySem.Spec PyProof.Rows PySem.ExE
/-- an exception of the class at C, at e, its dict at d, its field f holding v -/
def EAt (H : Hp) (C : Addr) (f : Str) (e : Addr) (v : V) : Prop := ∃ d : Addr, H e = some (exo e C (some d)) ∧ H d = some (.xd [(f, v)])
theorem EAt.keep {H H' : Hp} {C e : Addr} {f : Str} {v : V} (h : EAt H C f e v) (k : ∀ b o, H b = some o → (∀ xs, o ≠ .lst xs) → H' b = some o) : EAt H' C f e v := by
  obtain ⟨d, h1, h2⟩ := h
  exact ⟨d, k _ _ h1 (fun xs z => by have z' : HO.ext _ = HO.lst xs := z; cases z'), k _ _ h2 (fun xs z => nomatch z)⟩
section
variable {X : Cx} {C : Addr} {f : Str}
/-- C(e) in a raise -/
def tMkX (C : Addr) (f : Str) (ta : TA) : St → Hp → XK → Prop := fun σ H Q => ta σ H fun vs H1 => ∃ v, vs = [v] ∧ ∀ d, H1 d = none → Q (.ref C) (some d) (upd H1 d (.xd [(f, v)]))
/-- C(e) as a value -/
def tMkV (C : Addr) (f : Str) (ta : TA) : TE := fun σ H Q => ta σ H fun vs H1 => ∃ v, vs = [v] ∧ ∀ d e, H1 d = none → H1 e = none → e ≠ d → Q (.ref e) (upd (upd H1 d (.xd [(f, v)])) e (exo e C (some d)))
/-- the state behind the making: what lies without the exception, what lies with it -/
theorem made_inv {pins : List (Addr × Obj)} {σ : St} {H1 : Hp} {hp h' : Heap} {g : Array GenState} {dr : Drawn} {tk tk' : Nat} {os : OsState} {e d : Addr} {v : V} {v' : Value}
    (I1 : Inv X pins σ H1 ⟨hp, g, dr, tk, os⟩) (rv : RelV v v') (M : Made f hp h' e C d v') :
    ∃ (G : Heap) (t1 : Addr), Inv X pins σ (upd H1 d (.xd [(f, v)])) ⟨G, g, dr, tk', os⟩ ∧ (∀ b o, G.get? b = some o → h'.get? b = some o) ∧ G.get? e = none ∧
      h'.get? e = some { cls := .ref C, dict := some d, data := .fields #[.ref t1, .none, .none, .none, .bool false, .none] } ∧ H1 d = none ∧ H1 e = none := by
  obtain ⟨t1, hoe⟩ := M.obj
  obtain ⟨G, keepG, goneG⟩ := restrict h' fun b => decide (b ≠ e)
  have gk : ∀ b, b ≠ e → G.get? b = h'.get? b := fun b hb => keepG b (decide_eq_true hb)
  have ge : G.get? e = none := goneG e (by simp)
  have old : ∀ b o, hp.get? b = some o → G.get? b = some o := fun b o q => by
    rw [gk b (Nat.ne_of_lt (Nat.lt_of_lt_of_le (Heap.lt_size q) M.new))]
    exact M.keep b o q
  have nsG : G.Ns1 d (fun y => if y = f then some v' else none) := M.ns.at fun o q => (gk d M.dne).trans q
  have ob : ObjOk X.prog X.w (upd H1 d (.xd [(f, v)])) G d (.xd [(f, v)]) := ⟨_, nsG, fun y => relO_put (fs := []) (mA := fun _ => none) rv (fun _ => True.intro) y⟩
  refine ⟨G, t1, I1.laid (t' := tk') old M.dbig ob, fun b o q => ?_, ge, hoe, I1.hok.fresh M.dbig, I1.hok.fresh M.new⟩
  by_cases hb : b = e
  · rw [hb, ge] at q
    cases q
  · rw [← gk b hb]
    exact q
theorem pmk_mk {x : Str} {a : Expr} {ta : TA} {p pos : Pos} {k : Nat} {T fI : Addr} (E : EC X.K C T f fI) (mk : Makes X.K C f) (hm : X.mg x = some (.ref C)) (hr : Room k X.A) (ha : PA X [a] ta) (hg : Gl X x)
    (hdb : (x == ("__debug__" : Str)) = false := by decide) (he : starEach (a :: []) X.env = (false, eval a X.env) :: starEach [] X.env := by rfl) (hpl : (backTo pos (starEach [] X.env)).any (·.1) = false := by rfl) :
    PMk X (.Call (.Name x p) [a] [] pos) (tMkX C f ta) := by
  intro pins s σ H Q I h
  refine wpAny_Call_Name_kw (ld_glob I hg hm ?_ hdb)
  refine PySem.W.callWith_K (h₀ := X.base) I.ok.mod.kin E.kC (thn (ha.run pos pins s σ H _ I h) fun us s1 hh => ?_) he hpl
  obtain ⟨vs, H1, I1, r1, v, ev, q1⟩ := hh
  subst ev
  refine ⟨I1.kIn, ?_⟩
  cases r1 with
  | cons rv rn =>
    rename_i v' us'
    cases rn
    show wpAny _ _ (call (.ref C) [v']) _ _ _
    have hlim := I1.nolimit
    obtain ⟨hp, g, dr, tk, os⟩ := s1
    refine wpAny_call (mk I1.kIn hlim (by have := hr.dp; show X.A.depth + 1 < _; omega) fun h' tk' e d M => ?_)
    obtain ⟨G, t1, J, kG, ge, hoe, nd, ne⟩ := made_inv (tk' := tk') I1 rv M
    refine ⟨e, _, _, ⟨G, g, dr, tk', os⟩, _, .ref C, some d, rfl, J, kG, ge, hoe, ⟨rfl, rfl⟩, rfl, rfl, ?_, rfl, I1.bare, raises_own E.exC E.tyC, q1 d nd⟩
    rw [upd_ne (Ne.symm M.dne)]
    exact ne
theorem pe_mk {x : Str} {a : Expr} {ta : TA} {p pos : Pos} {k : Nat} {T fI : Addr} (E : EC X.K C T f fI) (mk : Makes X.K C f) (hm : X.mg x = some (.ref C)) (hr : Room k X.A) (ha : PA X [a] ta) (hg : Gl X x)
    (hdb : (x == ("__debug__" : Str)) = false := by decide) (he : starEach (a :: []) X.env = (false, eval a X.env) :: starEach [] X.env := by rfl) (hpl : (backTo pos (starEach [] X.env)).any (·.1) = false := by rfl) :
    PE X (.Call (.Name x p) [a] [] pos) (tMkV C f ta) := by
  refine ⟨fun pins s σ H Q I h => ?_⟩
  refine wpAny_Call_Name_kw (ld_glob I hg hm ?_ hdb)
  refine PySem.W.callWith_K (h₀ := X.base) I.ok.mod.kin E.kC (thn (ha.run pos pins s σ H _ I h) fun us s1 hh => ?_) he hpl
  obtain ⟨vs, H1, I1, r1, v, ev, q1⟩ := hh
  subst ev
  refine ⟨I1.kIn, ?_⟩
  cases r1 with
  | cons rv rn =>
    rename_i v' us'
    cases rn
    show wpAny _ _ (call (.ref C) [v']) _ _ _
    have hlim := I1.nolimit
    obtain ⟨hp, g, dr, tk, os⟩ := s1
    refine wpAny_call (mk I1.kIn hlim (by have := hr.dp; show X.A.depth + 1 < _; omega) fun h' tk' e d M => ?_)
    obtain ⟨G, t1, J, kG, ge, hoe, nd, ne⟩ := made_inv (tk' := tk') I1 rv M
    have ne' : (upd H1 d (.xd [(f, v)])) e = none := by
      rw [upd_ne (Ne.symm M.dne)]
      exact ne
    exact ⟨.ref e, _, J.laidN (h' := h') (t' := tk') kG ge ne' (exo_ok hoe), rfl, q1 d e nd ne (Ne.symm M.dne)⟩
/-- what stands at an exception's address in the heap -/
theorem EAt.inst {H : Hp} {h : Heap} {e : Addr} {v : V} (ok : HOk X.prog X.w H h) (a : EAt H C f e v) : ∃ (ox od : Obj) (u : Value), PySem.W.InstAt h e ox C (some od) ∧ PySem.W.lookIn f od = some (some u) ∧ RelV v u := by
  obtain ⟨d, h1, h2⟩ := a
  obtain ⟨t1, ho⟩ := exo_at ok h1
  obtain ⟨mA, hns, hr⟩ : ObjOk X.prog X.w H h d (.xd [(f, v)]) := ok d _ h2
  obtain ⟨od, hod, hl⟩ := lookIn_ns hns
  have l : List.lookup f [(f, v)] = some v := by simp [List.lookup]
  obtain ⟨u, hu, ru⟩ := RelO.some_of (v := v) (o := mA f) (by rw [← l]; exact hr f)
  exact ⟨_, od, u, ⟨ho, rfl, rfl, hod⟩, by rw [hl, hu], ru⟩
/-- e.f -/
def tFldE (K : PySem.W.Frag) (f : Str) (to : TE) : TE := fun σ H Q => to σ H fun x H1 => ∃ (e C T fI : Addr) (v : V), x = .ref e ∧ EC K C T f fI ∧ EAt H1 C f e v ∧ Q v H1
theorem pe_fldE {o : Expr} {to : TE} {pos : Pos} (ho : PE X o to) (hb : attributeBase o f X.env (eval o X.env) = eval o X.env := by rfl) : PE X (.Attribute o f pos) (tFldE X.K f to) := by
  refine ⟨fun pins s σ H Q I h => ?_⟩
  refine attr_of hb (thn (ho.run pins s σ H _ I h) fun u s1 hh => ?_)
  obtain ⟨x, H1, I1, rx, e, C, T, fI, v, ex, Ec, ea, q⟩ := hh
  subst ex
  obtain rfl : u = Value.ref e := rx
  obtain ⟨ox, od, w, J, hl, rw'⟩ := ea.inst I1.hok
  exact HandSPX.exc_get I1.kIn J Ec.ga Ec.gg Ec.exC (PySem.W.findObj_own Ec.hd Ec.no rfl hl) (handed_of rw') ⟨v, H1, I1.tok _, rw', q⟩
/-- isinstance(e, c) -/
structure HasCls (K : PySem.W.Frag) : Prop where
  hn : PySem.W.specialIn K (.builtin "object.__class__") "__get__" = some (some (.builtin "getset_descriptor.__get__"))
  ht : PySem.W.takesIn K (.builtin "object.__class__") = some true
def rIsV (K : PySem.W.Frag) : List V → Hp → VK → Prop := fun xs H Q => ∃ (e C T fI : Addr) (f : Str) (v c : V) (u : Value) (b : Bool), xs = [.ref e, c] ∧ ClsV c u ∧ EC K C T f fI ∧ EAt H C f e v ∧ PySem.W.kitOne K (.ref C) u = some b ∧ Q (.bl b) H
theorem call_isV (Z : HasCls X.K) : CallR X (.builtin "isinstance") (rIsV X.K) := by
  intro pins s σ H xs us Q I r h
  obtain ⟨e, C, T, fI, f, v, c, u, b, rfl, k, Ec, ea, hk, q⟩ := h
  obtain ⟨u1, u2, rfl, r1, r2⟩ := vals2 r
  have e2 := k.eq r2
  subst e2
  cases (show u1 = Value.ref e from r1)
  obtain ⟨ox, od, w, J, _, _⟩ := ea.inst I.hok
  have hob : PySem.W.mroIn X.K C (.type "object") = some true := Ec.has (by decide)
  exact PySem.W.kia_one (PySem.W.kitx_exc Ec.isCls Ec.ga Ec.gg Ec.exC Ec.ca Z.hn Z.ht hob) I.kIn J hk (fun z => nomatch z) fun tk => ⟨.bl b, H, I.tok tk, rfl, q⟩
end
/-! the answers -/
section
open PySem.W
variable {K : PySem.W.Frag} {C T fI D T2 fJ : Addr} {f f2 : Str}
theorem kit_self : kitOne K (.ref C) (.ref C) = some true := by
  unfold kitOne
  rw [if_pos (beq_self_eq_true _)]
theorem kit_own (E : EC K C T f fI) {D : Addr} {b : Bool} (hD : (clsIn K D).isSome = true) (tD : typeIn K (.ref D) = some (.type "type")) (h : subIn K (.ref C) (.ref D) = some b) (hne : D ≠ C) : kitOne K (.ref C) (.ref D) = some b := by
  have q : ((clsIn K D).isSome && typeIn K (.ref D) == some (.type "type")) = true := by rw [hD, tD]; rfl
  unfold kitOne
  rw [if_neg (by simp [Ne.symm hne])]
  unfold kitCls
  dsimp only
  rw [if_pos q]
  exact h
theorem kit_bi (E : EC K C T f fI) {n : String} {b : Bool} (hm : kitMeta n = true) (h : subIn K (.ref C) (.type n) = some b) : kitOne K (.ref C) (.type n) = some b := by
  unfold kitOne
  rw [if_neg (by simp)]
  unfold kitCls
  dsimp only
  rw [if_pos hm]
  exact h
end
/-! try with clauses, each with a name -/
/-- what the clauses wish, one behind the other; each: its class, the slot of its name, its suite -/
def wClauses (K : PySem.W.Frag) (Wout : WX) (D : Ends) : List (Value × Nat × (Addr → Value → Option Addr → TS)) → WX
  | [] => Wout
  | (c, i, ts) :: r => fun cls d σ H => ∃ b, PySem.W.exmOne K cls c = some b ∧
      (b = true → ∀ a, H a = none → ts a cls d { nx := fun σ' H' => D.nx (σ'.set i none) H', rt := D.rt, bk := fun σ' H' => D.bk (σ'.set i none) H', ct := fun σ' H' => D.ct (σ'.set i none) H' } (σ.set i (some (.ref a))) H) ∧
      (b = false → wClauses K Wout D r cls d σ H)
inductive Clauses (X : Cx) : List ExceptHandler → List (Value × Nat × (Addr → Value → Option Addr → TS)) → Prop
  | nil : Clauses X [] []
  | cons {x n : Str} {i : Nat} {c : Value} {ts : Addr → Value → Option Addr → TS} {b₀ : Stmt} {suite : List Stmt} {np pos' : Pos} {hds : List ExceptHandler} {l : List (Value × Nat × (Addr → Value → Option Addr → TS))}
      (hc : Names X x c) (hi : X.N[i]? = some n) (hln : X.env.kindOf n = some .local)
      (hsu : ∀ (a : Addr) (oe : Obj) (cls : Value) (d : Option Addr) (pn : List (Addr × Obj)), Zc cls d oe → (∃ vs, oe.data = .fields vs) → PSs (X.suite a ((a, oe) :: pn)) (b₀ :: suite) (ts a cls d))
      (r : Clauses X hds l) : Clauses X (.ExceptHandler (some (.Name x np)) (some n) (b₀ :: suite) pos' :: hds) ((c, i, ts) :: l)
section
variable {X : Cx} {body : List Stmt} {h₀ : ExceptHandler} {hds : List ExceptHandler} {l : List (Value × Nat × (Addr → Value → Option Addr → TS))} {pos : Pos} {tb : WX → TS} {Wout : WX}
/-- the suite's end: its name goes -/
theorem suite_end {pins : List (Addr × Obj)} {D : Ends} {i : Nat} {n : Str} {a : Addr} {q : Addr × Obj} {p : Pos} {fl : Flow} {s6 : Shared} (ok : X.Ok) (hN : X.N.Nodup) (hi : X.N[i]? = some n) (hln : X.env.kindOf n = some .local)
    (hsp : SP (X.suite a (q :: (X.pn ++ pins))) [] { nx := fun σ' H' => D.nx (σ'.set i none) H', rt := D.rt, bk := fun σ' H' => D.bk (σ'.set i none) H', ct := fun σ' H' => D.ct (σ'.set i none) H' } fl s6) :
    wpAny (model X.prog X.w) X.A (do bindName X.env n .none; unbindBehindTheSuite X.env n p) (fun _ s7 => SP X pins D fl s7) X.xe s6 := by
  cases fl with
  | next =>
    obtain ⟨σ6, H6, S6, w6⟩ := hsp
    exact gone_ok (S6.unsuite ok) hN hi hln fun s7 J7 => ⟨_, _, J7, w6⟩
  | brk =>
    obtain ⟨σ6, H6, S6, w6⟩ := hsp
    exact gone_ok (S6.unsuite ok) hN hi hln fun s7 J7 => ⟨_, _, J7, w6⟩
  | cont =>
    obtain ⟨σ6, H6, S6, w6⟩ := hsp
    exact gone_ok (S6.unsuite ok) hN hi hln fun s7 J7 => ⟨_, _, J7, w6⟩
  | ret u =>
    obtain ⟨v6, σ6, H6, S6, r6, w6⟩ := hsp
    exact gone_ok (S6.unsuite ok) hN hi hln fun s7 J7 => ⟨_, _, _, J7, r6, w6⟩
theorem ps_try_named (hs : X.stack = X.env :: X.outer) (hf : X.env.frame = some X.env.locals) (hN : X.N.Nodup) (tk : Takes X Wout)
    (hb : ∀ (W : WX) (pn : List (Addr × Obj)) (xe : Value → Shared → Prop), Takes (X.tr pn xe) W → PassesOwn (model X.prog X.w) X.A X.env xe → PSs (X.tr pn xe) body (tb W))
    (hh : Clauses X (h₀ :: hds) l) : PS X (.Try body (h₀ :: hds) [] [] pos) (fun D σ H => tb (wClauses X.K Wout D l) D σ H) := by
  refine ⟨fun pins s σ H D I h => ?_⟩
  have ok := I.ok
  have hfr : X.A.frames = some (X.env :: X.outer) := by rw [ok.frames, hs]
  refine wpAny_Try_except ?_
  refine wpAny_mono ((hb (wClauses X.K Wout D l) (X.pn ++ pins) (fun e s₁ => wpAny (model X.prog X.w) X.A (noteFrame e X.env) (fun _ s₂ =>
    wpAny (model X.prog X.w) X.A (setFlight e none) (fun _ s₃ => wpAny (model X.prog X.w) X.A (handleBy e X.env (h₀ :: hds)) (SP X pins D) X.xe s₃) X.xe s₂) X.xe s₁)
    (fun u s' xx => ?_) PassesOwn.looking).run [] s σ H D (I.toTry _) h) (fun fl s1 hsp => ?_) (fun e s1 he => he)
  · obtain ⟨a, B, sI, pins', σ', H', cls, d, rfl, J', nb, up, sky, na, os, ag, w⟩ := xx
    have J : Inv X pins σ' H' sI := J'.ofTry ok
    have sky' : Sky B (X.env :: X.outer) a (Zc cls d) X.env.locals s'.heap := by
      rw [← hs]
      exact sky
    refine Sky.land Zc.steady hfr hf sky' fun h3 fl3 up3 => ?_
    have J3 : Inv X pins σ' H' { s' with heap := h3 } := J.landed nb fl3.1 (up.trans up3) os ag
    obtain ⟨oe3, vs3, he3, hz3, hd3⟩ := fl3.there
    have nfr : a ∉ frs (X.env :: X.outer) := fun hm => by
      obtain ⟨_, o', e', hnf⟩ := fl3.2.2.1.mem hm
      rw [he3] at e'
      cases e'
      exact hnf _ hd3
    have nL : a ≠ X.env.locals := fun z => nfr (List.mem_filterMap.mpr ⟨X.env, List.mem_cons_self, by rw [hf, z]⟩)
    have nF : a ∉ X.fs := fun hm => by
      obtain ⟨e, he, q⟩ := List.mem_filterMap.mp hm
      exact nfr (List.mem_filterMap.mpr ⟨e, List.mem_cons_of_mem _ he, q⟩)
    have S3 := J3.suite he3 hd3 na nL nF
    have LT : PySem.W.Looks (model X.prog X.w) h3 (typeOf (.ref a)) cls := fun A Q E s k q => wpAny_typeOf_ref (k _ _ he3) (by rw [hz3.1]; exact q)
    have go : ∀ {hs' : List ExceptHandler} {l' : List (Value × Nat × (Addr → Value → Option Addr → TS))}, Clauses X hs' l' → wClauses X.K Wout D l' cls d σ' H' →
        wpAny (model X.prog X.w) X.A (handleBy (.ref a) X.env hs') (SP X pins D) X.xe { s' with heap := h3 } := by
      intro hs' l' hk
      induction hk with
      | nil =>
        intro w
        refine wpAny_handleBy_nil ?_
        obtain ⟨k1, k2, k3, oe, vs, T, oT, ts', he, hz, hd, h1, hr⟩ := id fl3
        have fin : wpAny (model X.prog X.w) X.A (setFlight (.ref a) X.env.frame) (fun _ s4 => wpAny (model X.prog X.w) X.A (throw (.ref a) : Sem Flow) (SP X pins D) X.xe s4) X.xe { s' with heap := h3 } := by
          rw [hf]
          refine HandSPX.setFlight_upZ fl3 fun h4 hh4 up4 => wpAny_throw (tk _ _ ?_)
          refine ⟨a, B, sI, pins, σ', H', cls, d, rfl, J, nb, (up.trans up3).trans up4, .inr (.inr ?_), na, os, ag, w⟩
          rw [hs]
          exact hh4
        unfold PySem.passOn
        refine wpAny_bind (wpAny_field he hd h1 ?_)
        rw [if_neg (show ¬ ((Value.ref T == Value.none) = true) from by simp)]
        first
          | exact wpAny_bind (wpAny_pure (wpAny_bind fin))
          | exact wpAny_bind fin
      | @cons x n i c ts b₀ suite np pos' hds2 l2 hc hi hln hsu r ih =>
        intro w
        obtain ⟨b, hb1, hyes, hno⟩ := w
        refine wpAny_handleBy_cons (codeAny_handlers_test ?_) (by intro q; cases q)
        have LM := PySem.W.exm_one (M := model X.prog X.w) (J3.kIn) LT hb1
        have test : ∀ {Q : Value → Shared → Prop} {E : Value → Shared → Prop}, Q c { s' with heap := h3 } → wpAny (model X.prog X.w) (X.A.mark (some (.ref a))) (eval (.Name x np) X.env) Q E { s' with heap := h3 } := fun {Q E} q => by
          obtain ⟨hg, hdbg, hm | ⟨hm, hv, hnn⟩⟩ := hc
          · exact ld_glob (X := X.suite a ((a, oe3) :: (X.pn ++ pins))) S3 hg hm q hdbg
          · exact ld_blt (X := X.suite a ((a, oe3) :: (X.pn ++ pins))) S3 hg hm hv q hnn hdbg
        refine test (LM.here ?_)
        cases b with
        | false =>
          show wpAny _ X.A (handleBy (.ref a) X.env hds2) _ _ _
          exact ih (hno rfl)
        | true =>
          refine codeAny_handlers_suite_as ?_
          refine HandSPX.lands_againZ fl3 fun h4 fl4 up4 => ?_
          have J4 : Inv X pins σ' H' { s' with heap := h4 } := J.landed nb fl4.1 ((up.trans up3).trans up4) os ag
          obtain ⟨oe4, vs4, he4, hz4, hd4⟩ := fl4.there
          have S4 := J4.suite he4 hd4 na nL nF
          refine store_ok (X := X.suite a ((a, oe4) :: (X.pn ++ pins))) (v := .ref a) S4 hN hi (.inl hln) rfl (fun s5 S5 => ?_) (.inr hln)
          refine wpAny_mono ((hsu a oe4 cls d (X.pn ++ pins) hz4 ⟨_, hd4⟩).run [] s5 _ H' _ S5 (hyes rfl a na)) (fun fl s6 hsp => ?_) (fun _ _ z => False.elim z)
          exact suite_end ok hN hi hln hsp
    exact go hh w
  · cases fl with
    | next =>
      obtain ⟨σ', H', J', q⟩ := hsp
      exact wpAny_execs_nil ⟨σ', H', J'.ofTry ok, q⟩
    | brk =>
      obtain ⟨σ', H', J', q⟩ := hsp
      exact ⟨σ', H', J'.ofTry ok, q⟩
    | cont =>
      obtain ⟨σ', H', J', q⟩ := hsp
      exact ⟨σ', H', J'.ofTry ok, q⟩
    | ret u =>
      obtain ⟨v, σ', H', J', r, q⟩ := hsp
      exact ⟨v, σ', H', J'.ofTry ok, r, q⟩
end
end L2


set_option Elab.async false
set_option linter.all false
set_option maxRecDepth 100000
set_option maxHeartbeats 2000000
/-! dicts whose keys are tuples of pairs (text, int), their values ints -/
namespace Nd
open PySem PySem.Spec PyProof.Rows L2
abbrev Mono := List (Str × Int)
def mD (m : Mono) : PyData := .tuple (m.map fun p => .tuple [.str p.1, .int p.2])
def mK (m : Mono) : NestedKey := .tup (m.map fun p => .tup [.text p.1, .num p.2])
theorem mK_inj {m n : Mono} (h : mK m = mK n) : m = n := by
  have h' := NestedKey.tup.inj h
  revert n
  induction m with
  | nil =>
    intro n _ h'
    cases n with
    | nil => rfl
    | cons y r => simp at h'
  | cons x r ih =>
    intro n h h'
    cases n with
    | nil => simp at h'
    | cons y r' =>
      simp only [List.map_cons, List.cons.injEq, NestedKey.tup.injEq, NestedKey.text.injEq, NestedKey.num.injEq] at h'
      obtain ⟨⟨h1, h2, _⟩, h3⟩ := h'
      have := ih (n := r') (by show NestedKey.tup _ = NestedKey.tup _; rw [h3]) h3
      rw [this]
      obtain ⟨x1, x2⟩ := x
      obtain ⟨y1, y2⟩ := y
      simp only at h1 h2
      rw [h1, h2]
theorem mK_depth (m : Mono) : (mK m).depth ≤ 8 := by
  have h : ∀ m : Mono, NestedKey.depthAll (m.map fun p => .tup [.text p.1, .num p.2]) ≤ 1 := by
    intro m
    induction m with
    | nil => simp [NestedKey.depthAll]
    | cons x r ih => simp only [List.map_cons, NestedKey.depthAll, NestedKey.depth]; omega
  have := h m
  simp only [mK, NestedKey.depth]
  omega
section
variable {X : Cx} {pins : List (Addr × Obj)} {σ : L2.St} {H : Hp} {s : Shared}
theorem pair_is (I : Inv X pins σ H s) {v : V} {u : Value} {x : Str} {i : Int} (h : Dp X.K H v (.tuple [.str x, .int i])) (r : RelV v u) : NestedIs s.heap (.tup [.text x, .num i]) u := by
  cases h with
  | tup hs ha =>
    cases r
    obtain ⟨its, rv, ⟨o, ho, hc, n, hd⟩, _⟩ := I.tuple hs
    cases ha with
    | cons h1 ha =>
      cases ha with
      | cons h2 ha =>
        cases ha
        cases h1
        cases h2
        cases rv with
        | cons r1 rv =>
          cases rv with
          | cons r2 rv =>
            cases rv
            obtain ⟨t1, rfl⟩ := r1
            obtain ⟨t2, rfl⟩ := r2
            exact .tup ho hc hd (.cons (.text _ _) (.cons (.int _ _) .nil))
theorem pairs_are (I : Inv X pins σ H s) : ∀ {m : Mono} {vs : List V} {us : List Value}, DpAll X.K H vs (m.map fun p => .tuple [.str p.1, .int p.2]) → Vals vs us → NestedAll s.heap (m.map fun p => .tup [.text p.1, .num p.2]) us
  | [], _, _, h, r => by
    cases h
    cases r
    exact .nil
  | p :: m, _, _, h, r => by
    cases h with
    | cons h1 h2 =>
      cases r with
      | cons r1 r2 => exact .cons (pair_is I h1 r1) (pairs_are I h2 r2)
/-- a tuple that is a monomial is a key -/
theorem key_is (I : Inv X pins σ H s) {a : Addr} {m : Mono} (h : Dp X.K H (.ref a) (mD m)) : (nestedKind X.prog X.w).is s.heap (mK m) a := by
  cases h with
  | tup hs ha =>
    obtain ⟨its, rv, ⟨o, ho, hc, n, hd⟩, _⟩ := I.tuple hs
    exact ⟨.tup ho hc hd (by simpa using pairs_are I ha rv), mK_depth m⟩
end
/-- an entry: the key, its tuple, the value -/
abbrev Ent := Mono × Addr × Int
def EntR : List Ent → List (NestedKey × Addr × Value) → Prop := Paired fun p q => mK p.1 = q.1 ∧ p.2.1 = q.2.1 ∧ RelV (.int p.2.2) q.2.2
def ndO (P : Program) (w : World) (d : Addr) (es : List Ent) : HO := .ext fun h => es.length ≤ sizeLine ∧ (d == sysModules) = false ∧ ∃ xs, EntR es xs ∧
  ∃ o ds ep, h.get? d = some o ∧ o.ExactDict ∧ o.data = .dict ds ep ∧ ds.toList = xs.map (entryOfKey (nestedKind P w)) ∧ (xs.map (·.1)).Nodup
theorem ndO_ok {P : Program} {w : World} {H : Hp} {h : Heap} {d : Addr} {es : List Ent} {xs : List (NestedKey × Addr × Value)} (z : es.length ≤ sizeLine) (hd : (d == sysModules) = false) (r : EntR es xs)
    (k : ∃ o ds ep, h.get? d = some o ∧ o.ExactDict ∧ o.data = .dict ds ep ∧ ds.toList = xs.map (entryOfKey (nestedKind P w)) ∧ (xs.map (·.1)).Nodup) : ObjOk P w H h d (ndO P w d es) := by
  obtain ⟨o, ds, ep, ho, k⟩ := k
  refine ⟨⟨z, hd, xs, r, o, ds, ep, ho, k⟩, ⟨o, ho⟩, fun h1 h2 q kk => ?_⟩
  obtain ⟨z', hd', xs', r', o', ds', ep', ho', k'⟩ := q
  exact ⟨z', hd', xs', r', o', ds', ep', kk _ ho', k'⟩
/-- at d: such a dict -/
structure NdAt (K : PySem.W.Frag) (P : Program) (w : World) (H : Hp) (d : Addr) (es : List Ent) : Prop where
  at_ : H d = some (ndO P w d es)
  keys : ∀ e ∈ es, Dp K H (.ref e.2.1) (mD e.1)
/-- what the dict holds -/
def getN (es : List Ent) (m : Mono) : Option Int := (es.find? fun e => decide (e.1 = m)).map (·.2.2)
def putN (es : List Ent) (m : Mono) (a : Addr) (c : Int) : List Ent := if (getN es m).isSome then es.map fun e => if e.1 = m then (e.1, e.2.1, c) else e else es ++ [(m, a, c)]
theorem putN_len (es : List Ent) (m : Mono) (a : Addr) (c : Int) : (putN es m a c).length ≤ es.length + 1 := by
  unfold putN
  split
  · rw [List.length_map]; omega
  · rw [List.length_append]; exact Nat.le_refl _
theorem dec_mK (m n : Mono) : decide (mK m = mK n) = decide (m = n) := by
  by_cases h : m = n
  · rw [h, decide_eq_true rfl, decide_eq_true rfl]
  · rw [decide_eq_false h, decide_eq_false fun q => h (mK_inj q)]
theorem EntR.get : ∀ {es : List Ent} {xs : List (NestedKey × Addr × Value)} (m : Mono), EntR es xs → RelO ((getN es m).map V.int) ((atKey xs (mK m)).map (·.2))
  | [], _, m, r => by
    cases r
    exact True.intro
  | e :: es, _, m, r => by
    cases r with
    | @cons p q ps qs h t =>
      obtain ⟨h1, h2, h3⟩ := h
      have ih := EntR.get (es := es) m t
      have eq : decide (q.1 = mK m) = decide (e.1 = m) := by rw [← h1, dec_mK]
      unfold getN atKey at ih ⊢
      rw [List.find?_cons, List.find?_cons, eq]
      cases hb : decide (e.1 = m) with
      | true => exact h3
      | false => exact ih
theorem EntR.put {es : List Ent} {xs : List (NestedKey × Addr × Value)} (m : Mono) {a : Addr} {c : Int} {u : Value} (r : EntR es xs) (ru : RelV (.int c) u) : EntR (putN es m a c) (storedH xs (mK m) a u) := by
  have e : (getN es m).isSome = (atKey xs (mK m)).isSome := by
    have q := (r.get m).isSome_eq
    rw [Option.isSome_map, Option.isSome_map] at q
    exact q
  unfold putN storedH
  rw [e]
  by_cases q : (atKey xs (mK m)).isSome = true
  · rw [if_pos q, if_pos q]
    clear e q
    induction r with
    | nil => exact .nil
    | @cons p x ps xs' h t ih =>
      refine .cons ?_ ih
      obtain ⟨h1, h2, h3⟩ := h
      unfold putAt
      dsimp only
      by_cases z : p.1 = m
      · rw [if_pos z, if_pos (by rw [← h1, z])]
        exact ⟨h1, h2, ru⟩
      · rw [if_neg z, if_neg (fun y => z (mK_inj (by rw [h1, y])))]
        exact ⟨h1, h2, h3⟩
  · rw [if_neg q, if_neg q]
    exact Paired.snoc r ⟨rfl, rfl, ru⟩
theorem EntR.len {es : List Ent} {xs : List (NestedKey × Addr × Value)} (r : EntR es xs) : es.length = xs.length := Paired.length r
section
variable {X : Cx} {pins : List (Addr × Obj)} {σ : L2.St} {H : Hp} {s : Shared} {d : Addr} {es : List Ent} {A : Around} {E : Value → Shared → Prop}
theorem EntR.all {es : List Ent} {xs : List (NestedKey × Addr × Value)} {h : Heap} {P : Program} {w : World} (r : EntR es xs) (k : ∀ e ∈ es, (nestedKind P w).is h (mK e.1) e.2.1) : ∀ x ∈ xs, (nestedKind P w).is h x.1 x.2.1 := by
  induction r with
  | nil => intro x hx; exact nomatch hx
  | @cons p q ps qs hq t ih =>
    intro x hx
    rcases List.mem_cons.mp hx with e | hx
    · subst e
      have z := k p List.mem_cons_self
      rw [hq.1, hq.2.1] at z
      exact z
    · exact ih (fun e he => k e (List.mem_cons_of_mem _ he)) x hx
theorem NdAt.open (I : Inv X pins σ H s) (n : NdAt X.K X.prog X.w H d es) : es.length ≤ sizeLine ∧ (d == sysModules) = false ∧ ∃ xs, EntR es xs ∧ s.heap.DictOfH (nestedKind X.prog X.w) d xs := by
  obtain ⟨⟨z, hd, xs, r, o, ds, ep, ho, h2, h3, h4, h5⟩, _⟩ : ObjOk X.prog X.w H s.heap d (ndO X.prog X.w d es) := I.hok d _ n.at_
  exact ⟨z, hd, xs, r, o, ds, ep, ho, h2, h3, h4, r.all fun e he => key_is I (n.keys e he), h5⟩
theorem room_in1 (hu : A.units + 9 < cLine) : (nestedKind X.prog X.w).room A.in1 := by
  show A.units + 1 + 8 < cLine
  omega
theorem nd_typeIs (I : Inv X pins σ H s) (n : NdAt X.K X.prog X.w H d es) : s.TypeIs (.ref d) "dict" := by
  obtain ⟨_, _, xs, _, dd⟩ := n.open I
  exact dd.typeIs
theorem nd_noDict (I : Inv X pins σ H s) (n : NdAt X.K X.prog X.w H d es) : ∀ b, Value.ref d = .ref b → ∃ ob, s.heap.get? b = some ob ∧ ob.dict = none := fun b q => by
  cases q
  obtain ⟨_, _, xs, _, ob, _, _, h1, h2, _⟩ := n.open I
  exact ⟨ob, h1, h2.2.1⟩
/-! ### {} -/
def tNdNew (P : Program) (w : World) : TE := fun _ H Q => ∀ p, H p = none → Q (.ref p) (upd H p (ndO P w p []))
theorem pe_ndNew {pos : Pos} : PE X (.Dict [] [] pos) (tNdNew X.prog X.w) := ⟨fun pins s σ H Q I h =>
  wpAny_Dict_empty ⟨.ref s.heap.objs.size, _, I.laid (a := s.heap.objs.size) (o := ndO X.prog X.w s.heap.objs.size []) (t' := s.toks) (fun _ _ q => Heap.get?_push_of_some _ q) (Nat.le_refl _)
    (ndO_ok (Nat.zero_le _) (beq_eq_false_iff_ne.mpr (Ne.symm (Nat.ne_of_lt I.big))) .nil ⟨_, #[], 0, Heap.get?_push_size _ rfl, ⟨rfl, rfl, rfl⟩, rfl, rfl, List.nodup_nil⟩), rfl, h _ (I.hok.fresh (Nat.le_refl _))⟩⟩
/-! ### d[m] -/
def tNdGet (K : PySem.W.Frag) (P : Program) (w : World) (td ty : TE) : TE := fun σ H Q => td σ H fun x H1 => ty σ H1 fun y H2 => ∃ (d a : Addr) (es : List Ent) (m : Mono) (c : Int), x = .ref d ∧ y = .ref a ∧ NdAt K P w H2 d es ∧ Dp K H2 (.ref a) (mD m) ∧ getN es m = some c ∧ Q (.int c) H2
theorem pe_ndGet {o i : Expr} {td ty : TE} {pos : Pos} (hu : X.A.units + 9 < cLine) (ho : PE X o td) (hi : PE X i ty) (hs : NoSl i) : PE X (.Subscript o i pos) (tNdGet X.K X.prog X.w td ty) := by
  refine ⟨fun pins s σ H Q I h => ?_⟩
  refine subD_of PySem.F.slot_dict_getitem.lookup hs (thn (ho.run pins s σ H _ I h) fun u s1 ⟨x, H1, I1, rx, q1⟩ => thn (hi.run pins s1 σ H1 _ I1 q1) fun iv s2 ⟨y, H2, I2, ry, d, a, es, m, c, ex, ey, n, hm, hg, q2⟩ => ?_)
  subst ex ey
  obtain rfl : u = Value.ref d := rx
  obtain rfl : iv = Value.ref a := ry
  obtain ⟨z, hd, xs, rel, dd⟩ := n.open I2
  obtain ⟨w', hw, rw'⟩ := RelO.some_of (v := V.int c) (o := (atKey xs (mK m)).map (·.2)) (by have q := rel.get m; rw [hg] at q; exact q)
  obtain ⟨p, hp, hp2⟩ := Option.map_eq_some_iff.mp hw
  refine ⟨dd.typeIs, wpAny_getItem_heap (room_in1 hu) (key_is I2 hm) dd hp ?_⟩
  rw [hp2]
  exact ⟨.int c, H2, I2.tok _, rw', q2⟩
/-! ### d.get(m, 0) -/
def tNdGetOr (K : PySem.W.Frag) (P : Program) (w : World) (td ty tx : TE) : TE := fun σ H Q => td σ H fun x H1 => ∃ (d : Addr) (es : List Ent), x = .ref d ∧ NdAt K P w H1 d es ∧ ty σ H1 fun y H2 => tx σ H2 fun z H3 => ∃ (a : Addr) (m : Mono) (i : Int), y = .ref a ∧ z = .int i ∧
  NdAt K P w H3 d es ∧ Dp K H3 (.ref a) (mD m) ∧ Q (.int ((getN es m).getD i)) H3
theorem pe_ndGetOr {o e f : Expr} {apos cpos : Pos} {td ty tx : TE} (hu : X.A.units + 9 < cLine) (ho : PE X o td) (he : PE X e ty) (hf : PE X f tx) (m : M2 X o "get" apos e f cpos) : PE X (.Call (.Attribute o "get" apos) [e, f] [] cpos) (tNdGetOr X.K X.prog X.w td ty tx) := by
  refine ⟨fun pins s σ H Q I h => ?_⟩
  refine wpAny_Call_method m.base m.few m.line PySem.F.plainAttrs_dict PySem.F.slot_dict_get PySem.F.type_dict_get (thn (ho.run pins s σ H _ I h) fun u s1 ⟨x, H1, I1, rx, d, es, ex, n, q1⟩ => ?_)
  subst ex
  obtain rfl : u = Value.ref d := rx
  refine ⟨nd_typeIs I1 n, nd_noDict I1 n, ?_⟩
  rw [m.trees]
  refine Calls.callWith_builtin rfl (Calls.evalArgs_plain (Calls.spliced_cons (thn (he.run pins s1 σ H1 _ I1 q1) fun iv s2 ⟨y, H2, I2, ry, q2⟩ =>
    Calls.spliced_cons (thn (hf.run pins s2 σ H2 _ I2 q2) fun fv s3 ⟨z, H3, I3, rz, a, mm, i, ey, ez, n3, hm, q3⟩ => Calls.spliced_nil ?_))))
  subst ey ez
  obtain rfl : iv = Value.ref a := ry
  obtain ⟨z, hd, xs, rel, dd⟩ := n3.open I3
  refine call_meetsIn PySem.F.slot_dict_get dd.typeIs PySem.F.entry_dict_get (PySem.F.args_dict_get_3 _ _ _) (meetsH_dict_get_default (nestedKind X.prog X.w) d a hd fv) ⟨room_in1 hu, mK mm, xs, key_is I3 hm, dd, ?_⟩
  refine ⟨.int ((getN es mm).getD i), H3, I3.tok _, ?_, q3⟩
  have q := (rel.get mm).getD (show RelV (.int i) fv from rz)
  have e : ((getN es mm).map V.int).getD (V.int i) = V.int ((getN es mm).getD i) := by cases getN es mm <;> rfl
  rw [e] at q
  exact q
/-! ### d[m] = c -/
theorem NdAt.put (n : NdAt X.K X.prog X.w H d es) {m : Mono} {a : Addr} {c : Int} (hm : Dp X.K H (.ref a) (mD m)) (dp : ∀ v e, Dp X.K H v e → Dp X.K (upd H d (ndO X.prog X.w d (putN es m a c))) v e) :
    NdAt X.K X.prog X.w (upd H d (ndO X.prog X.w d (putN es m a c))) d (putN es m a c) := by
  refine ⟨upd_same, fun e he => dp _ _ ?_⟩
  unfold putN at he
  split at he
  · obtain ⟨e0, h0, rfl⟩ := List.mem_map.mp he
    split
    · exact n.keys e0 h0
    · exact n.keys e0 h0
  · rcases List.mem_append.mp he with h | h
    · exact n.keys e h
    · rw [List.mem_singleton.mp h]
      exact hm
def rNdSet (K : PySem.W.Frag) (P : Program) (w : World) : TSet := fun o i v H Q => ∃ (d a : Addr) (es : List Ent) (m : Mono) (c : Int), o = .ref d ∧ i = .ref a ∧ v = .int c ∧ NdAt K P w H d es ∧ Dp K H (.ref a) (mD m) ∧ es.length < sizeLine ∧ Q (upd H d (ndO P w d (putN es m a c)))
theorem set_nd (hu : X.A.units + 9 < cLine) : PSet X (rNdSet X.K X.prog X.w) := by
  intro pins s σ H o i v ov iv u Q I ro ri rv h
  obtain ⟨d, a, es, m, c, rfl, rfl, rfl, n, hm, hl, q⟩ := h
  obtain rfl : ov = Value.ref d := ro
  obtain rfl : iv = Value.ref a := ri
  obtain ⟨z, hd, xs, rel, dd⟩ := n.open I
  have hz : xs.length ≤ sizeLine := by rw [← rel.len]; exact z
  refine wpAny_setItem_heap (hsz := hz) (room_in1 hu) (key_is I hm) dd fun h' dd' hs => ?_
  obtain ⟨ob, ds, ep, hq, h2, h3, h4, _, h5⟩ := dd'
  refine ⟨_, d_write I (by rw [n.at_]; exact True.intro) hs ⟨ob, hq⟩ (ndO_ok ?_ hd (rel.put m rv) ⟨ob, ds, ep, hq, h2, h3, h4, h5⟩), q⟩
  have := putN_len es m a c
  omega
/-! ### len(d) -/
theorem len_body {P : Program} {w : World} {A : Around} {E : Value → Shared → Prop} {s : Shared} {d : Addr} {ds : Array DictEntry} {ep : Nat} {Q : Value → Shared → Prop} (hd : (d == sysModules) = false) (hm : s.heap.DictRaw d ds ep) (hfit : (ds.size : Int) < 2 ^ 63)
    (h : Q (.int ds.size (s.toks + 1)) { s with toks := s.toks + 1 + 1 }) : wpAny (model P w) A (Builtin.«len» ⟨[.ref d], []⟩) (fun fin s' => ∃ r, fin = .done (.ret r) ∧ Q r s') E s := by
  unfold Builtin.«len»
  refine wpAny_bind (m := oneArg "len" _) (wpAny_pure ?_)
  refine wpAny_bind (m := callSpecial? (.ref d) (Str.ofString "__len__")) ?_
  refine wpAny_callSpecial?_slot (name := Str.ofString "__len__") hm.typeIs PySem.F.slot_dict_len ?_
  refine call_meetsIn PySem.F.slot_dict_len hm.typeIs PySem.F.entry_dict_len (PySem.F.args_dict_len_1 _) (PySem.meets_dict_len_raw d hd) ⟨ds, ep, hm, ?_⟩
  show wpAny _ _ _ _ _ { s with toks := s.toks + 1 }
  refine wpAny_bind (wpAny_holding (wpAny_pure ?_))
  refine wpAny_bind (wpAny_letGo ?_)
  show wpAny _ _ (if ((ds.size : Nat) : Int) < 0 then _ else _) _ _ _
  rw [if_neg (by omega)]
  show wpAny _ _ (if ((ds.size : Nat) : Int) ≥ 2 ^ 63 then _ else _) _ _ _
  rw [if_neg (by omega)]
  exact wpAny_bind (wpAny_mkInt (wpAny_pure ⟨_, rfl, h⟩))
theorem call_lenNd : CallR X (.builtin "len") (fun xs H Q => ∃ (d : Addr) (es : List Ent), xs = [V.ref d] ∧ NdAt X.K X.prog X.w H d es ∧ Q (.int es.length) H) := by
  intro pins s σ H xs us Q I r h
  obtain ⟨d, es, rfl, n, q⟩ := h
  obtain ⟨u, rfl, ru⟩ := vals1 r
  cases ru
  obtain ⟨z, hd, xs, rel, o, ds, ep, ho, hx, hdt, he, _, _⟩ := n.open I
  have e1 : ds.size = es.length := by rw [size_of_entries he, rel.len]
  refine Calls.call_function_entry kind_len plain_len entry_len (args_len1 _) (len_body (ds := ds) (ep := ep) hd ⟨o, ho, hx, hdt⟩ (by rw [e1]; rw [sizeLine_eq] at z; omega) ?_)
  rw [e1]
  exact ⟨.int es.length, H, I.tok _, ⟨_, rfl⟩, q⟩
end
end Nd


set_option Elab.async false
set_option linter.all false
set_option maxRecDepth 100000
set_option maxHeartbeats 2000000
namespace Nd
open PySem PySem.Spec PyProof.Rows L2
/-! ### < of data -/
section
variable {X : Cx}
def rLtD (K : PySem.W.Frag) : R2 := fun x y H Q => ∃ d e, Dp K H x d ∧ Dp K H y e ∧ PySem.W.alike d e = true ∧ d ≠ .none ∧ d.depth ≤ 20 ∧ Q (.bl (PySem.W.dataLt d e)) H
theorem op_ltD (hu : X.A.units + 64 < cLine) : OpR X (compareOp .Lt) (rLtD X.K) := by
  intro pins s σ H x y v u Q I rx ry h
  obtain ⟨d, e, hd, he, ha, hn, hp, q⟩ := h
  obtain ⟨as, r1⟩ := Dp.reads I d x v hd rx
  obtain ⟨bs, r2⟩ := Dp.reads I e y u he ry
  exact PySem.W.lt_data r1 r2 ha hn (by omega) ⟨.bl _, H, I, rfl, q⟩
end
mutual
theorem dp_same {K : PySem.W.Frag} {H H' : Hp} (s : Same H H') : ∀ {v : V} {d : PyData}, Dp K H v d → Dp K H' v d
  | _, _, .non => .non
  | _, _, .bl b => .bl b
  | _, _, .int i => .int i
  | _, _, .str x => .str x
  | _, _, .lst h a => .lst (s.seq h) (dpAll_same s a)
  | _, _, .tup h a => .tup (by
      rcases h with (h | ⟨o, h⟩) | h
      · exact .inl (.inl (s _ _ h))
      · exact .inl (.inr ⟨o, s _ _ h⟩)
      · exact .inr h) (dpAll_same s a)
theorem dpAll_same {K : PySem.W.Frag} {H H' : Hp} (s : Same H H') : ∀ {v : List V} {d : List PyData}, DpAll K H v d → DpAll K H' v d
  | _, _, .nil => .nil
  | _, _, .cons h t => .cons (dp_same s h) (dpAll_same s t)
end
mutual
theorem reads_lt {h : Heap} : ∀ {v : Value} {d : PyData} {as : List Addr}, Reads h v d as → ∀ a ∈ as, a < h.objs.size
  | _, _, _, .none => fun a ha => nomatch ha
  | _, _, _, .bool _ => fun a ha => nomatch ha
  | _, _, _, .int _ _ => fun a ha => nomatch ha
  | _, _, _, .str _ _ => fun a ha => nomatch ha
  | _, _, _, .list ho _ _ hr => fun a ha => by
    rcases List.mem_cons.mp ha with e | ha
    · rw [e]
      exact Heap.lt_size ho
    · exact readsAll_lt hr a ha
  | _, _, _, .tuple _ _ _ hr => readsAll_lt hr
  | _, _, _, .dict ho _ _ h1 h2 => fun a ha => by
    rcases List.mem_append.mp ha with ha | ha
    · rcases List.mem_cons.mp ha with e | ha
      · rw [e]
        exact Heap.lt_size ho
      · exact readsAll_lt h1 a ha
    · exact readsAll_lt h2 a ha
theorem readsAll_lt {h : Heap} : ∀ {v : List Value} {d : List PyData} {as : List Addr}, ReadsAll h v d as → ∀ a ∈ as, a < h.objs.size
  | _, _, _, .nil => fun a ha => nomatch ha
  | _, _, _, .cons h1 h2 => fun a ha => by
    rcases List.mem_append.mp ha with ha | ha
    · exact reads_lt h1 a ha
    · exact readsAll_lt h2 a ha
end
/-! ### the entries of a dict, of either kind -/
def DEnt (K : PySem.W.Frag) (P : Program) (w : World) (H : Hp) (d : Addr) (prs : List (V × V)) : Prop :=
  (∃ kvs : List (Key × V), H d = some (.dK kvs) ∧ prs = kvs.map fun kv => (kV kv.1, kv.2)) ∨ ∃ es : List Ent, NdAt K P w H d es ∧ prs = es.map fun e => (V.ref e.2.1, V.int e.2.2)
theorem DEnt.k {K : PySem.W.Frag} {P : Program} {w : World} {H : Hp} {d : Addr} {kvs : List (Key × V)} (h : H d = some (.dK kvs)) : DEnt K P w H d (kvs.map fun kv => (kV kv.1, kv.2)) := .inl ⟨kvs, h, rfl⟩
theorem DEnt.n {K : PySem.W.Frag} {P : Program} {w : World} {H : Hp} {d : Addr} {es : List Ent} (h : NdAt K P w H d es) : DEnt K P w H d (es.map fun e => (V.ref e.2.1, V.int e.2.2)) := .inr ⟨es, h, rfl⟩
section
variable {X : Cx} {pins : List (Addr × Obj)} {σ : L2.St} {H : Hp} {s : Shared} {d : Addr} {prs : List (V × V)}
theorem DEnt.raw (I : Inv X pins σ H s) (h : DEnt X.K X.prog X.w H d prs) : (d == sysModules) = false ∧ prs.length ≤ sizeLine ∧ ∃ ds ep, DT.Raw s.heap d ds ep ∧ ds.size = prs.length ∧
    ∀ (j : Nat) (pr : V × V), prs[j]? = some pr → ∃ en, ds[j]? = some en ∧ L2.RelV pr.1 en.key ∧ L2.RelV pr.2 en.val := by
  rcases h with ⟨kvs, hd, rfl⟩ | ⟨es, n, rfl⟩
  · obtain ⟨z, hs, vs, kv, o, ds, ep, ho, hx, hdt, hko, hpr, hnd⟩ := dk_of I.hok hd
    have l1 : ds.size = kvs.length := by rw [← Array.length_toList, hpr.length, kv.length]
    refine ⟨hs, by rw [List.length_map]; exact z, ds, ep, ⟨o, ho, hx, hdt⟩, by rw [List.length_map, l1], fun j pr hj => ?_⟩
    rw [List.getElem?_map] at hj
    cases q : kvs[j]? with
    | none => rw [q] at hj; cases hj
    | some e =>
      rw [q] at hj
      cases hj
      obtain ⟨k, v⟩ := e
      obtain ⟨u, hu, ru⟩ := kv_get kv q
      have hj2 : j < ds.toList.length := by
        rw [Array.length_toList, l1]
        exact (List.getElem?_eq_some_iff.mp q).1
      have hen : ds.toList[j]? = some ds.toList[j] := List.getElem?_eq_getElem hj2
      obtain ⟨k1, k2⟩ := hpr.get? hen hu
      refine ⟨ds.toList[j], by rw [← Array.getElem?_toList]; exact hen, relV_key k1, ?_⟩
      rw [k2]
      exact ru
  · obtain ⟨z, hs, xs, rel, o, ds, ep, ho, hx, hdt, he, _, _⟩ := n.open I
    refine ⟨hs, by rw [List.length_map]; exact z, ds, ep, ⟨o, ho, hx, hdt⟩, by rw [List.length_map, size_of_entries he, rel.len], fun j pr hj => ?_⟩
    rw [List.getElem?_map] at hj
    cases q : es[j]? with
    | none => rw [q] at hj; cases hj
    | some e =>
      rw [q] at hj
      cases hj
      obtain ⟨x, hx', h1, h2, h3⟩ := paired_get rel q
      refine ⟨entryOfKey (nestedKind X.prog X.w) x, ?_, ?_, h3⟩
      · rw [entry_at he j, hx']
        rfl
      · show L2.RelV (.ref e.2.1) (.ref x.2.1)
        rw [h2]
        rfl
theorem DEnt.noDict (I : Inv X pins σ H s) (h : DEnt X.K X.prog X.w H d prs) : ∀ b, Value.ref d = .ref b → ∃ ob, s.heap.get? b = some ob ∧ ob.dict = none := fun b q => by
  cases q
  obtain ⟨_, _, ds, ep, ⟨o, ho, hx, _⟩, _⟩ := h.raw I
  exact ⟨o, ho, hx.2.1⟩
/-! ### d.items() as a value -/
def tItemsV (K : PySem.W.Frag) (P : Program) (w : World) (td : TE) : TE := fun σ H Q => td σ H fun x H1 => ∃ (d : Addr) (prs : List (V × V)), x = .ref d ∧ DEnt K P w H1 d prs ∧ ∀ p, H1 p = none → Q (.ref p) (upd H1 p (L2.DX.itemsO p d))
theorem pe_itemsV {e : Expr} {td : TE} {apos cpos : Pos} (he : PE X e td) (hbase : attributeBase e "items" X.env (eval e X.env) = eval e X.env := by rfl) (hline : (apos.endLine == cpos.line) = true := by rfl) :
    PE X (.Call (.Attribute e "items" apos) [] [] cpos) (tItemsV X.K X.prog X.w td) := by
  refine ⟨fun pins s σ H Q I h => ?_⟩
  refine wpAny_Call_method (T := "dict") (id := "dict.items") hbase rfl hline PySem.F.plainAttrs_dict PySem.F.slot_dict_items PySem.F.type_dict_items (thn (he.run pins s σ H _ I h) fun u s1 ⟨x, H1, I1, rx, d, prs, ex, n, q⟩ => ?_)
  subst ex
  obtain rfl : u = Value.ref d := rx
  obtain ⟨hs, _, ds, ep, hraw, _⟩ := n.raw I1
  refine ⟨hraw.typeIs, n.noDict I1, ?_⟩
  show wpAny _ _ (callWith cpos (.builtin "dict.items") [.ref d] [] []) _ X.xe s1
  refine method_meetsIn PySem.F.slot_dict_items PySem.F.entry_dict_items rfl (PySem.evalArgs_none ⟨rfl, hraw.typeIs, PySem.F.args_dict_items_1 _, _, DT.meetsItems (es := ds) (ep := ep) hs, hraw, ?_⟩)
  have hf : H1 s1.heap.objs.size = none := I1.hok.fresh (Nat.le_refl _)
  exact ⟨.ref s1.heap.objs.size, upd H1 s1.heap.objs.size (L2.DX.itemsO s1.heap.objs.size d), I1.laid (t' := s1.toks) (fun b u e => Heap.get?_push_of_some _ e) (Nat.le_refl _) (L2.DX.itemsO_ok (Heap.get?_push_size _ rfl)), rfl, q _ hf⟩
end
end Nd


set_option Elab.async false
set_option linter.all false
set_option maxRecDepth 100000
set_option maxHeartbeats 4000000
namespace Nd
open PySem PySem.Spec PyProof.Rows L2
/-! ### sorted(d.items()) -/
section
variable {X : Cx}
/-- the data of the pairs -/
def PrD (K : PySem.W.Frag) (H : Hp) : List (V × V) → List PyData → Prop := Paired fun pr dt => ∃ a c, dt = .tuple [a, c] ∧ Dp K H pr.1 a ∧ Dp K H pr.2 c
def rSortItems (K : PySem.W.Frag) (P : Program) (w : World) : List V → Hp → VK → Prop := fun xs H Q => ∃ (p d : Addr) (prs : List (V × V)) (dts : List PyData), xs = [.ref p] ∧ H p = some (L2.DX.itemsO p d) ∧ DEnt K P w H d prs ∧ PrD K H prs dts ∧
  PySem.W.AllAlike dts ∧ (∀ t ∈ dts, t.depth ≤ 20) ∧ ∀ (l : Addr) (H' : Hp) (ys : List V), H l = none → Same H H' → H' l = some (.lst ys) → DpAll K H' ys (dts.mergeSort (PySem.W.dataLe false id)) → Q (.ref l) H'
/-- a made pair in the heap -/
def MadeP (K : PySem.W.Frag) (H : Hp) (h : Heap) (as : List Addr) (v : Value) (dt : PyData) : Prop := ∃ (b : Addr) (pr : V × V) (k u : Value), v = .ref b ∧ b ∈ as ∧ h.get? b = some { cls := .type "tuple", data := .seq #[k, u] } ∧
  L2.RelV pr.1 k ∧ L2.RelV pr.2 u ∧ ∃ a c, dt = .tuple [a, c] ∧ Dp K H pr.1 a ∧ Dp K H pr.2 c
theorem eachIs_of {α β : Type} {R : α → β → Prop} : ∀ {as : List α} {bs : List β}, as.length = bs.length → (∀ (j : Nat) (a : α) (b : β), as[j]? = some a → bs[j]? = some b → R a b) → PySem.W.EachIs R as bs
  | [], [], _, _ => .nil
  | a :: as, b :: bs, hl, h => .cons (h 0 a b rfl rfl) (eachIs_of (by simpa using hl) fun j x y e1 e2 => h (j + 1) x y (by simpa using e1) (by simpa using e2))
  | [], _ :: _, hl, _ => by simp at hl
  | _ :: _, [], hl, _ => by simp at hl
theorem madeP_refs {K : PySem.W.Frag} {H : Hp} {h : Heap} {as : List Addr} : ∀ {vs : List Value} {ds : List PyData}, PySem.W.EachIs (MadeP K H h as) vs ds → ∃ bs : List Addr, vs = bs.map Value.ref ∧ Vals (bs.map V.ref) vs ∧
    (∀ (j : Nat) (b : Addr) (dt : PyData), bs[j]? = some b → ds[j]? = some dt → MadeP K H h as (.ref b) dt) ∧ bs.length = ds.length
  | _, _, .nil => ⟨[], rfl, .nil, fun j b dt h => (by simp at h), rfl⟩
  | _, _, .cons h t => by
    obtain ⟨bs, e, r, q, l⟩ := madeP_refs t
    obtain ⟨b, pr, k, u, rfl, hb⟩ := id h
    refine ⟨b :: bs, by rw [e]; rfl, .cons rfl r, fun j c dt h1 h2 => ?_, by simp [l]⟩
    cases j with
    | zero =>
      simp only [List.getElem?_cons_zero, Option.some.injEq] at h1 h2
      subst h1 h2
      exact h
    | succ j =>
      simp only [List.getElem?_cons_succ] at h1 h2
      exact q j c dt h1 h2
theorem dpAll_of {K : PySem.W.Frag} {H : Hp} : ∀ {bs : List Addr} {ds : List PyData}, bs.length = ds.length → (∀ (j : Nat) (b : Addr) (dt : PyData), bs[j]? = some b → ds[j]? = some dt → Dp K H (.ref b) dt) → DpAll K H (bs.map V.ref) ds
  | [], [], _, _ => .nil
  | b :: bs, d :: ds, hl, h => .cons (h 0 b d rfl rfl) (dpAll_of (by simpa using hl) fun j x y e1 e2 => h (j + 1) x y (by simpa using e1) (by simpa using e2))
  | [], _ :: _, hl, _ => by simp at hl
  | _ :: _, [], hl, _ => by simp at hl
theorem cr_sortItems (hc : X.calm = true) (hu : X.A.units + 64 < cLine) : CallR X (.builtin "sorted") (rSortItems X.K X.prog X.w) := by
  intro pins s σ H xs us Q I r h
  obtain ⟨p, d, prs, dts, rfl, hp, hD, hP, hal, hdep, q⟩ := h
  obtain rfl := Vals.ref1 r
  have view : s.heap.IsItemsView p d := (show ObjOk X.prog X.w H s.heap p (L2.DX.itemsO p d) from I.hok p _ hp).1
  obtain ⟨hs, hz, ds, ep, hraw, hsz, hent⟩ := hD.raw I
  have hh : X.A.handled = none := I.ok.hd hc
  refine DT.sortedI (es := ds) (ep := ep) hh view hraw (by rw [hsz]; exact hz) fun h' tk as hk hlt hl hG => ?_
  have lp : prs.length = dts.length := Paired.length hP
  have nd : as.Nodup := List.Pairwise.imp (fun h => Nat.ne_of_lt h) hG.rise
  have hob : (h'.push { cls := .type "list", data := .seq (as.map Value.ref).toArray }).get? h'.objs.size = some (seqObj "list" (as.map Value.ref).toArray 0) := Heap.get?_push_size _ rfl
  have kb : ∀ b o, s.heap.get? b = some o → (h'.push { cls := .type "list", data := .seq (as.map Value.ref).toArray }).get? b = some o := fun b o e => Heap.get?_push_of_some _ (hk b o e)
  have ne0 : ∀ b o, h'.get? b = some o → b ≠ h'.objs.size := fun b o e => Nat.ne_of_lt (Heap.lt_size e)
  generalize hh2 : h'.push { cls := .type "list", data := .seq (as.map Value.ref).toArray } = h2 at hob kb ⊢
  have ka : ∀ b o, h'.get? b = some o → h2.get? b = some o := fun b o e => by rw [← hh2]; exact Heap.get?_push_of_some _ e
  have made : PySem.W.EachIs (MadeP X.K H h' as) (as.map Value.ref) dts := by
    refine eachIs_of (by rw [List.length_map, hl, hsz, lp]) fun j v dt hj hd => ?_
    rw [List.getElem?_map] at hj
    cases qa : as[j]? with
    | none => rw [qa] at hj; cases hj
    | some b =>
      rw [qa] at hj
      cases hj
      obtain ⟨en, he, hg⟩ := hG.pairs j b qa
      have hjp : j < prs.length := by rw [lp]; exact (List.getElem?_eq_some_iff.mp hd).1
      obtain ⟨en', he', r1, r2⟩ := hent j _ (List.getElem?_eq_getElem hjp)
      rw [he] at he'
      cases he'
      obtain ⟨dt', hd', hpd⟩ := paired_get hP (List.getElem?_eq_getElem hjp)
      rw [hd] at hd'
      cases hd'
      exact ⟨b, prs[j], en.key, en.val, rfl, List.mem_of_getElem? qa, hg, r1, r2, hpd⟩
  have reads : PySem.W.EachIs (fun v dt => ∃ rs, Reads h2 v (id dt) rs ∧ h'.objs.size ∉ rs) (as.map Value.ref) dts := made.mono fun v dt ⟨b, pr, k, u, ev, hb, hg, r1, r2, a, c, ed, d1, d2⟩ => by
    subst ev ed
    obtain ⟨as1, q1⟩ := Dp.reads I a _ _ d1 r1
    obtain ⟨as2, q2⟩ := Dp.reads I c _ _ d2 r2
    have q1' := PyProof.Rows.Reads.keeps kb q1
    have q2' := PyProof.Rows.Reads.keeps kb q2
    refine ⟨_, Reads.tuple (ka _ _ hg) rfl rfl (ReadsAll.cons q1' (ReadsAll.cons q2' ReadsAll.nil)), fun hm => ?_⟩
    have : h'.objs.size < s.heap.objs.size := by
      rcases List.mem_append.mp hm with hm | hm
      · exact reads_lt q1 _ hm
      · rcases List.mem_append.mp hm with hm | hm
        · exact reads_lt q2 _ hm
        · exact nomatch hm
    omega
  have hsort : PySem.W.Sortable (dts.map id) := .inl fun t ht => by
    rw [List.map_id] at ht
    obtain ⟨j, hj⟩ := List.mem_iff_getElem?.mp ht
    have hjp : j < prs.length := by rw [lp]; exact (List.getElem?_eq_some_iff.mp hj).1
    obtain ⟨dt', hd', a, c, e, _⟩ := paired_get hP (List.getElem?_eq_getElem hjp)
    rw [hj] at hd'
    cases hd'
    exact ⟨a, [c], e⟩
  refine PySem.W.list_sort_data (s := { s with heap := h2, toks := tk }) (R := MadeP X.K H h' as) (enc := id) hob made reads (by rw [List.map_id]; exact hal) hsort (by rw [← lp]; exact hz) (fun b hb => ?_) fun out hlen hout => ?_
  · have := hdep b hb
    show X.A.in1.units + 1 + (id b).depth < cLine
    show X.A.units + 1 + 1 + b.depth < cLine
    omega
  show EP X pins σ Q (.ref h'.objs.size) { s with heap := sortedHeap h2 h'.objs.size (as.map Value.ref) out.toArray, toks := tk }
  have kF : ∀ b o, b ≠ h'.objs.size → h2.get? b = some o → (sortedHeap h2 h'.objs.size (as.map Value.ref) out.toArray).get? b = some o := fun b o hb e => (PyProof.Rows.sortedHeap_old hb (Heap.lt_size e)).trans e
  have kS : ∀ b o, s.heap.get? b = some o → (sortedHeap h2 h'.objs.size (as.map Value.ref) out.toArray).get? b = some o := fun b o e => kF b o (ne0 _ _ (hk b o e)) (kb b o e)
  obtain ⟨eF, heF⟩ := PyProof.Rows.sortedHeap_at (vs := as.map Value.ref) (out := out.toArray) hob
  have I1 : Inv X pins σ H { s with heap := sortedHeap h2 h'.objs.size (as.map Value.ref) out.toArray, toks := tk } := I.kept (t' := tk) kS
  have hn0 : H h'.objs.size = none := I.hok.fresh (Nat.le_of_lt hlt)
  obtain ⟨bs, eb, rv, hbs, lbs⟩ := madeP_refs hout
  have hlen2 : (bs.map V.ref).length ≤ sizeLine := by
    rw [List.length_map, lbs, List.length_mergeSort, ← lp]
    exact hz
  have I2 : Inv X pins σ (upd H h'.objs.size (.lst (bs.map V.ref))) { s with heap := sortedHeap h2 h'.objs.size (as.map Value.ref) out.toArray, toks := tk } :=
    I1.take (h' := sortedHeap h2 h'.objs.size (as.map Value.ref) out.toArray) (t' := tk) (fun b ob _ e => e) (I.fpOk (Nat.le_of_lt hlt) hn0) ⟨hlen2, out, eF, rv, heF⟩
  obtain ⟨H2, I3, g, qt⟩ := L2.DX.takeT (P := fun b vs => ∃ (x y : V) (k u : Value), vs = [x, y] ∧ h'.get? b = some { cls := .type "tuple", data := .seq #[k, u] } ∧ L2.RelV x k ∧ L2.RelV y u) I as _ I2 nd fun b hb => by
    obtain ⟨j, hj⟩ := List.mem_iff_getElem?.mp hb
    obtain ⟨en, he, hg⟩ := hG.pairs j b hj
    have hjp : j < prs.length := by
      have := (Array.getElem?_eq_some_iff.mp he).1
      omega
    obtain ⟨en', he', r1, r2⟩ := hent j _ (List.getElem?_eq_getElem hjp)
    rw [he] at he'
    cases he'
    have hbl : s.heap.objs.size ≤ b := Nat.le_of_lt (hG.above b hb)
    refine ⟨hbl, ?_, [prs[j].1, prs[j].2], ⟨_, _, en.key, en.val, rfl, hg, r1, r2⟩, fun H3 => ⟨(by rw [sizeLine_eq]; show 2 ≤ 16777216; omega), [en.key, en.val], .cons r1 (.cons r2 .nil), ⟨_, kF _ _ (ne0 _ _ hg) (ka _ _ hg), rfl, 0, rfl⟩⟩⟩
    rw [upd_ne (ne0 _ _ hg)]
    exact I.hok.fresh hbl
  have gr : Same H H2 := fun b o e => g b o (by rw [upd_ne (ne_of_none e hn0)]; exact e)
  refine ⟨.ref h'.objs.size, H2, I3, rfl, q h'.objs.size H2 (bs.map V.ref) hn0 gr (g _ _ upd_same) ?_⟩
  refine dpAll_of lbs fun j b dt hj hd => ?_
  obtain ⟨b', pr, k, u, eb', hb, hg, r1, r2, a, c, ed, d1, d2⟩ := hbs j b dt hj hd
  cases eb'
  obtain ⟨vs, ⟨x, y, k', u', ev, hg', r1', r2'⟩, hH⟩ := qt b hb
  rw [hg] at hg'
  cases hg'
  have ex : x = pr.1 := Option.some.inj (r1'.abs.symm.trans r1.abs)
  have ey : y = pr.2 := Option.some.inj (r2'.abs.symm.trans r2.abs)
  subst ev ed ex ey
  exact .tup (SqT.of hH) (.cons (dp_same gr d1) (.cons (dp_same gr d2) .nil))
end
end Nd


set_option Elab.async false
set_option linter.all false
set_option maxRecDepth 100000
set_option maxHeartbeats 4000000
namespace Nd
open PySem PySem.Spec PyProof.Rows L2
/-! ### walks over a locked dict of this kind -/
section
variable {X : Cx} {pins : List (Addr × Obj)} {σ : L2.St} {H : Hp} {s : Shared} {d : Addr} {o : Obj} {es : List Ent}
theorem lockedN (I : Inv X pins σ H s) (h : H d = some (.frz o (ndO X.prog X.w d es))) : (d == sysModules) = false ∧ s.heap.get? d = some o ∧ o.ExactDict ∧ ∃ (ds : Array DictEntry) (ep : Nat), o.data = .dict ds ep ∧ ds.size = es.length ∧
    ∀ (j : Nat) (e : Ent), es[j]? = some e → ∃ en, ds[j]? = some en ∧ en.key = .ref e.2.1 ∧ L2.RelV (.int e.2.2) en.val := by
  obtain ⟨hd, ⟨z, hs, xs, rel, o', ds, ep, ho, hx, hdt, he, _⟩, _⟩ : s.heap.get? d = some o ∧ ObjOk X.prog X.w H s.heap d (ndO X.prog X.w d es) := I.hok d _ h
  rw [hd] at ho
  cases ho
  refine ⟨hs, hd, hx, ds, ep, hdt, by rw [size_of_entries he, rel.len], fun j e q => ?_⟩
  obtain ⟨x, hx', h1, h2, h3⟩ := paired_get rel q
  refine ⟨entryOfKey (nestedKind X.prog X.w) x, ?_, ?_, h3⟩
  · rw [entry_at he j, hx']
    rfl
  · show Value.ref x.2.1 = Value.ref e.2.1
    rw [h2]
end
/-- the keys' own tuples -/
def ItkN (P : Program) (w : World) (d : Addr) (o : Obj) (es : List Ent) : It :=
  ⟨fun i H => H d = some (.frz o (ndO P w d es)) ∧ i < es.length, fun i H x H' => H' = H ∧ ∃ e, es[i]? = some e ∧ x = .ref e.2.1, fun i H => H d = some (.frz o (ndO P w d es)) ∧ es.length ≤ i⟩
/-- the pairs, each a new tuple -/
def ItiN (P : Program) (w : World) (d : Addr) (o : Obj) (es : List Ent) : It :=
  ⟨fun i H => H d = some (.frz o (ndO P w d es)) ∧ i < es.length, fun i H x H' => ∃ T e, es[i]? = some e ∧ x = .ref T ∧ H T = none ∧ H' = upd H T (.tup [.ref e.2.1, .int e.2.2]), fun i H => H d = some (.frz o (ndO P w d es)) ∧ es.length ≤ i⟩
section
variable {P : Program} {w : World} {K : PySem.W.Frag} {tg : Expr} {d : Addr} {o : Obj} {ds : Array DictEntry} {ep : Nat}
theorem turn_keysN {es : List Ent} (it : Addr) (hod : o.data = .dict ds ep) : Turn P w K tg (ItkN P w d o es) [it] it (fun i h => h.IsKeyIter it d i es.length ep) where
  mem := List.mem_singleton.mpr rfl
  obj := fun i h st b hb => by
    obtain rfl := List.mem_singleton.mp hb
    obtain ⟨oi, e, c, dd⟩ := st
    exact ⟨oi, e, fun v z => by rw [dd] at z; cases z⟩
  keep := fun i h h' st k => st.at fun oi e => k it (List.mem_singleton.mpr rfl) oi e
  item := by
    intro X hP hw hK hc i pins s σ H E I hf st hg
    subst hP hw hK
    obtain ⟨hd, hi⟩ := hg
    have hit := hf it (List.mem_singleton.mpr rfl)
    obtain ⟨hs, hgd, hx, ds', ep', hdt, hsz, ent⟩ := lockedN I hd
    obtain ⟨rfl, rfl⟩ := dict_ep hod hdt
    obtain ⟨en, hen, hkey, _⟩ := ent i _ (List.getElem?_eq_getElem hi)
    refine next_key_item st hgd hdt hsz hen fun h' st' sb => ?_
    have I1 : Inv X pins σ H { s with heap := h' } := I.turned (t' := s.toks) (fun b ob hb e => (sb.2 b hb).trans e) hit.1 hit.2.1 hit.2.2.2.1 hit.2.2.2.2.1 hit.2.2.2.2.2
    obtain ⟨oi, e, c, dd⟩ := id st'
    exact ⟨en.key, rfl, go_of (s := { s with heap := h' }) e c dd (by decide) ⟨.ref es[i].2.1, H, I1, hkey, ⟨rfl, es[i], List.getElem?_eq_getElem hi, rfl⟩, st', fun b hb => (hf b hb).1⟩⟩
  done := by
    intro X hP hw hK hc i pins s σ H E I hf st hg
    subst hP hw hK
    obtain ⟨hd, hi⟩ := hg
    have hit := hf it (List.mem_singleton.mpr rfl)
    obtain ⟨hs, hgd, hx, ds', ep', hdt, hsz, ent⟩ := lockedN I hd
    obtain ⟨rfl, rfl⟩ := dict_ep hod hdt
    exact next_key_end (I.ok.hd hc) st hgd hdt hsz hi fun h' eb => ⟨rfl, I.turned (t' := s.toks) (fun b ob hb e => eb b ob hb e) hit.1 hit.2.1 hit.2.2.2.1 hit.2.2.2.2.1 hit.2.2.2.2.2⟩
  self := fun A i s Q E st h => by
    refine wpAny_pyIter_slot st.typeIs PySem.F.slot_dict_keyiterator_iter (wpAny_call_entry PySem.F.slot_dict_keyiterator_iter st.typeIs PySem.F.entry_dict_keyiterator_iter ?_ (PySem.F.args_dict_keyiterator_iter_1 _))
    show wpAny _ _ (ret (.ref it)) _ _ s
    exact wpAny_pure ⟨_, rfl, "dict_keyiterator", _, st.typeIs, PySem.F.slot_dict_keyiterator_next.lookup, h⟩
theorem turn_itemsN {es : List Ent} {elts : List Expr} {kk : Nat} {tpos : Pos} (it : Addr) (hod : o.data = .dict ds ep) :
    Turn P w K (.Tuple elts kk tpos) (ItiN P w d o es) [it] it (fun i h => ∃ ok ov, IsItemIter h it d i es.length ep ok ov) where
  mem := List.mem_singleton.mpr rfl
  obj := fun i h st b hb => by
    obtain rfl := List.mem_singleton.mp hb
    obtain ⟨ok, ov, e⟩ := st
    exact ⟨_, e, fun v z => nomatch z⟩
  keep := fun i h h' st k => let ⟨ok, ov, e⟩ := st; ⟨ok, ov, k it (List.mem_singleton.mpr rfl) _ e⟩
  item := by
    intro X hP hw hK hc i pins s σ H E I hf st hg
    subst hP hw hK
    obtain ⟨hd, hi⟩ := hg
    obtain ⟨hs, hgd, hx, ds', ep', hdt, hsz, ent⟩ := lockedN I hd
    obtain ⟨rfl, rfl⟩ := dict_ep hod hdt
    obtain ⟨en, hen, hkey, hval⟩ := ent i _ (List.getElem?_eq_getElem hi)
    obtain ⟨ok, ov, he⟩ := st
    rw [← hsz] at he
    have hlt : it < s.heap.objs.size := Heap.lt_size he
    have hi2 : i < ds'.size := by omega
    have een : ds'[i] = en := by
      rw [Array.getElem?_eq_getElem hi2] at hen
      exact Option.some.inj hen
    refine DT.nextI he ⟨o, hgd, hx, hdt⟩ hi2 fun h' ho hT hz hk => ?_
    refine ⟨_, rfl, wpAny_letOwnedTupleGo_items (s := { s with heap := h' }) ho fun h'' he' sb => ?_⟩
    have hT2 : h''.get? s.heap.objs.size = some { cls := .type "tuple", data := .seq #[ds'[i].key, ds'[i].val] } := (sb.2 _ (Nat.ne_of_gt hlt)).trans hT
    rw [een] at hT2
    have new : ObjOk X.prog X.w (upd H s.heap.objs.size (.tup [.ref es[i].2.1, .int es[i].2.2])) h'' s.heap.objs.size (.tup [.ref es[i].2.1, .int es[i].2.2]) :=
      ⟨by show 2 ≤ sizeLine; decide, [en.key, en.val], .cons hkey (.cons hval .nil), ⟨_, hT2, rfl, _, rfl⟩⟩
    have I1 : Inv X pins σ (upd H s.heap.objs.size (.tup [.ref es[i].2.1, .int es[i].2.2])) { s with heap := h'' } :=
      I.turnedNew (t' := s.toks) (ch := [it]) (fun b ob hb e => (sb.2 b (fun z => hb (List.mem_singleton.mpr z))).trans (hk b ob (fun z => hb (List.mem_singleton.mpr z)) e)) hf (Nat.le_refl _) new
    refine ⟨.ref s.heap.objs.size, _, I1, rfl, ⟨_, es[i], List.getElem?_eq_getElem hi, rfl, I.hok.fresh (Nat.le_refl _), rfl⟩, ⟨ds'[i].key, ds'[i].val, ?_⟩, fun b hb => ?_⟩
    · rw [← hsz]
      exact he'
    · obtain rfl := List.mem_singleton.mp hb
      rw [upd_ne (Nat.ne_of_lt hlt)]
      exact (hf b (List.mem_singleton.mpr rfl)).1
  done := by
    intro X hP hw hK hc i pins s σ H E I hf st hg
    subst hP hw hK
    obtain ⟨hd, hi⟩ := hg
    have hit := hf it (List.mem_singleton.mpr rfl)
    obtain ⟨hs, hgd, hx, ds', ep', hdt, hsz, ent⟩ := lockedN I hd
    obtain ⟨rfl, rfl⟩ := dict_ep hod hdt
    obtain ⟨ok, ov, he⟩ := st
    rw [← hsz] at he
    exact DT.endI (I.ok.hd hc) he ⟨o, hgd, hx, hdt⟩ (by omega) fun h' eb => ⟨rfl, I.turned (t' := s.toks) (fun b ob hb e => eb b ob hb e) hit.1 hit.2.1 hit.2.2.2.1 hit.2.2.2.2.1 hit.2.2.2.2.2⟩
  self := fun A i s Q E st h => let ⟨_, _, e⟩ := st; PySem.W.kcp_self e h
end
def iKeysN (P : Program) (w : World) (td : TE) : TI := fun σ H R => td σ H fun x H1 => ∃ d o es, x = .ref d ∧ H1 d = some (.frz o (ndO P w d es)) ∧ R (ItkN P w d o es) H1
def iItemsN (P : Program) (w : World) (td : TE) : TI := fun σ H R => td σ H fun x H1 => ∃ d o es, x = .ref d ∧ H1 d = some (.frz o (ndO P w d es)) ∧ R (ItiN P w d o es) H1
section
variable {X : Cx} {tg e : Expr} {td : TE} {apos cpos : Pos}
theorem pi_keysN (he : PE X e td) : PI X tg e (iKeysN X.prog X.w td) := by
  refine ⟨fun pins s σ H R I h => ?_⟩
  refine thn (he.run pins s σ H _ I h) fun u s1 ⟨x, H1, I1, rx, d, o, es, ex, hd, q⟩ => ?_
  subst ex
  obtain rfl : u = Value.ref d := rx
  obtain ⟨hs, hgd, hx, ds, ep, hdt, hsz, ent⟩ := lockedN I1 hd
  refine iter_keys hs hgd hx hdt (pi_one (tk := s1.toks) I1 _ (turn_keysN _ hdt) ⟨_, Heap.get?_push_size _ rfl, rfl, ?_⟩ q)
  rw [hsz] <;> rfl
theorem pi_itemsN {elts : List Expr} {kk : Nat} {tpos : Pos} (he : PE X e td) (hbase : attributeBase e "items" X.env (eval e X.env) = eval e X.env := by rfl) (hline : (apos.endLine == cpos.line) = true := by rfl) :
    PI X (.Tuple elts kk tpos) (.Call (.Attribute e "items" apos) [] [] cpos) (iItemsN X.prog X.w td) := by
  refine ⟨fun pins s σ H R I h => ?_⟩
  refine wpAny_Call_method (T := "dict") (id := "dict.items") hbase rfl hline PySem.F.plainAttrs_dict PySem.F.slot_dict_items PySem.F.type_dict_items (thn (he.run pins s σ H _ I h) fun u s1 ⟨x, H1, I1, rx, d, o, es, ex, hd, q⟩ => ?_)
  subst ex
  obtain rfl : u = Value.ref d := rx
  obtain ⟨hs, hgd, hx, ds, ep, hdt, hsz, ent⟩ := lockedN I1 hd
  have hraw : DT.Raw s1.heap d ds ep := ⟨o, hgd, hx, hdt⟩
  refine ⟨hraw.typeIs, fun b z => (by cases z; exact ⟨o, hgd, hx.2.1⟩), ?_⟩
  have I2 : Inv X pins σ H1 { s1 with heap := s1.heap.push { cls := .type "dict_items", data := .fields #[.ref d] } } := I1.kept (t' := s1.toks) fun b ob z => Heap.get?_push_of_some _ z
  show wpAny _ _ (callWith cpos (.builtin "dict.items") [.ref d] [] []) _ X.xe s1
  refine method_meetsIn PySem.F.slot_dict_items PySem.F.entry_dict_items rfl (PySem.evalArgs_none ⟨rfl, hraw.typeIs, PySem.F.args_dict_items_1 _, _, DT.meetsItems (es := ds) (ep := ep) hs, hraw, ?_⟩)
  refine DT.iterI (d := d) (es := ds) (ep := ep) ⟨_, Heap.get?_push_size _ rfl, rfl, rfl⟩ (hraw.push _) (pi_one (tk := s1.toks) I2 _ (turn_itemsN _ hdt) ⟨.none, .none, ?_⟩ q)
  rw [← hsz]
  exact Heap.get?_push_size _ rfl
end
section
variable {P : Program} {w : World} {d : Addr} {o : Obj} {es : List Ent}
theorem walk_keysN : Walk (ItkN P w d o es) es.length (fun H => H d = some (.frz o (ndO P w d es))) (fun i H x H' => H' = H ∧ ∃ e, es[i]? = some e ∧ x = .ref e.2.1) :=
  ⟨fun _ _ hi q => ⟨q, hi⟩, fun _ q => ⟨q, Nat.le_refl _⟩, fun _ _ _ _ _ _ y => y⟩
theorem walk_itemsN : Walk (ItiN P w d o es) es.length (fun H => H d = some (.frz o (ndO P w d es))) (fun i H x H' => ∃ T e, es[i]? = some e ∧ x = .ref T ∧ H T = none ∧ H' = upd H T (.tup [.ref e.2.1, .int e.2.2])) :=
  ⟨fun _ _ hi q => ⟨q, hi⟩, fun _ q => ⟨q, Nat.le_refl _⟩, fun _ _ _ _ _ _ y => y⟩
end
theorem mut_nd {P : Program} {w : World} {d : Addr} {es : List Ent} : Mut (some (ndO P w d es)) := True.intro
end Nd


set_option Elab.async false
set_option linter.all false
set_option maxRecDepth 100000
set_option maxHeartbeats 2000000
/-! books: what is added up by keys; in order -/
namespace Bk
open PySem
class Ky (κ : Type) [DecidableEq κ] where
  enc : κ → PyData
  al : ∀ a b, PySem.W.alike (enc a) (enc b) = true
  inj : ∀ a b, PySem.W.keyToks (enc a) = PySem.W.keyToks (enc b) → a = b
  eqv : ∀ a b, PyData.eqv (enc a) (enc b) = decide (a = b)
  nn : ∀ a, enc a ≠ .none
  dep : ∀ a, (enc a).depth ≤ 10
section
variable {κ : Type} [DecidableEq κ] [Ky κ]
open Ky
def lt (a b : κ) : Bool := PySem.W.dataLt (enc a) (enc b)
theorem lt_irrefl (a : κ) : lt a a = false := PyProof.Rows.lex_irrefl _
theorem lt_trans {a b c : κ} (h1 : lt a b = true) (h2 : lt b c = true) : lt a c = true := (PyProof.Rows.listOrd PyProof.Rows.itemOrd).trans _ _ _ h1 h2
theorem lt_total {a b : κ} (h1 : lt a b = false) (h2 : lt b a = false) : a = b := inj a b ((PyProof.Rows.listOrd PyProof.Rows.itemOrd).total _ _ h1 h2)
theorem lt_asymm {a b : κ} (h : lt a b = true) : lt b a = false := by
  cases e : lt b a with
  | false => rfl
  | true => rw [← lt_trans h e, lt_irrefl]
theorem lt_ne {a b : κ} (h : lt a b = true) : a ≠ b := fun e => by rw [e, lt_irrefl] at h; cases h
abbrev Bag (κ : Type) := List (κ × Int)
/-- rising, each key once -/
def Asc (l : Bag κ) : Prop := l.Pairwise fun a b => lt a.1 b.1 = true
theorem Asc.uniq {l : Bag κ} (h : Asc l) {p q : κ × Int} (hp : p ∈ l) (hq : q ∈ l) (e : p.1 = q.1) : p = q := by
  induction l with
  | nil => exact nomatch hp
  | cons x r ih =>
    obtain ⟨h1, h2⟩ := List.pairwise_cons.mp h
    rcases List.mem_cons.mp hp with e1 | hp1
    · rcases List.mem_cons.mp hq with e2 | hq1
      · rw [e1, e2]
      · rw [e1] at e
        exact absurd e (lt_ne (h1 q hq1))
    · rcases List.mem_cons.mp hq with e2 | hq1
      · rw [e2] at e
        exact absurd e.symm (lt_ne (h1 p hp1))
      · exact ih h2 hp1 hq1
theorem asc_ext : ∀ {l m : Bag κ}, Asc l → Asc m → (∀ p, p ∈ l ↔ p ∈ m) → l = m
  | [], [], _, _, _ => rfl
  | [], y :: m, _, _, h => absurd ((h y).mpr List.mem_cons_self) (by simp)
  | x :: l, [], _, _, h => absurd ((h x).mp List.mem_cons_self) (by simp)
  | x :: l, y :: m, hl, hm, h => by
    obtain ⟨a1, a2⟩ := List.pairwise_cons.mp hl
    obtain ⟨b1, b2⟩ := List.pairwise_cons.mp hm
    have e : x = y := by
      rcases List.mem_cons.mp ((h x).mp List.mem_cons_self) with e | hx
      · exact e
      · rcases List.mem_cons.mp ((h y).mpr List.mem_cons_self) with e | hy
        · exact e.symm
        · have := lt_asymm (a1 y hy)
          rw [b1 x hx] at this
          cases this
    subst e
    have nl : x ∉ l := fun q => lt_ne (a1 x q) rfl
    have nm : x ∉ m := fun q => lt_ne (b1 x q) rfl
    rw [asc_ext a2 b2 fun p => ?_]
    constructor
    · intro hp
      rcases List.mem_cons.mp ((h p).mp (List.mem_cons_of_mem _ hp)) with e | q
      · rw [e] at hp
        exact absurd hp nl
      · exact q
    · intro hp
      rcases List.mem_cons.mp ((h p).mpr (List.mem_cons_of_mem _ hp)) with e | q
      · rw [e] at hp
        exact absurd hp nm
      · exact q
/-! adding up -/
def look (l : Bag κ) (k : κ) : Option Int := (l.find? fun e => decide (e.1 = k)).map (·.2)
def put (l : Bag κ) (k : κ) (v : Int) : Bag κ := if (look l k).isSome then l.map (fun e => if e.1 = k then (e.1, v) else e) else l ++ [(k, v)]
def add1 (l : Bag κ) (p : κ × Int) : Bag κ := put l p.1 ((look l p.1).getD 0 + p.2)
/-- the book of what is told in turn -/
def book (ts : Bag κ) : Bag κ := ts.foldl add1 []
def pr (l : Bag κ) (f : κ → Int) : Int := (l.map fun e => e.2 * f e.1).sum
theorem pr_nil (f : κ → Int) : pr [] f = 0 := rfl
theorem pr_cons (p : κ × Int) (l : Bag κ) (f : κ → Int) : pr (p :: l) f = p.2 * f p.1 + pr l f := by simp [pr]
theorem pr_append (l m : Bag κ) (f : κ → Int) : pr (l ++ m) f = pr l f + pr m f := by simp [pr]
theorem pr_perm {l m : Bag κ} (h : l.Perm m) (f : κ → Int) : pr l f = pr m f := by
  induction h with
  | nil => rfl
  | cons x _ ih => rw [pr_cons, pr_cons, ih]
  | swap x y l => rw [pr_cons, pr_cons, pr_cons, pr_cons]; omega
  | trans _ _ h1 h2 => rw [h1, h2]
theorem look_none {l : Bag κ} {k : κ} (h : look l k = none) : ∀ e ∈ l, e.1 ≠ k := by
  intro e he q
  unfold look at h
  rw [Option.map_eq_none_iff, List.find?_eq_none] at h
  exact h e he (decide_eq_true q)
theorem look_mem {l : Bag κ} {k : κ} {v : Int} (h : look l k = some v) : (k, v) ∈ l := by
  unfold look at h
  obtain ⟨e, he, rfl⟩ := Option.map_eq_some_iff.mp h
  have h1 := List.mem_of_find?_eq_some he
  have h2 := List.find?_some he
  have h3 : e.1 = k := of_decide_eq_true h2
  rw [← h3]
  exact h1
theorem look_of_mem {l : Bag κ} (hn : (l.map (·.1)).Nodup) {k : κ} {v : Int} (h : (k, v) ∈ l) : look l k = some v := by
  induction l with
  | nil => exact nomatch h
  | cons x r ih =>
    rw [List.map_cons, List.nodup_cons] at hn
    unfold look
    rw [List.find?_cons]
    rcases List.mem_cons.mp h with e | h
    · rw [← e]
      simp
    · have hne : ¬ x.1 = k := fun e => hn.1 (by rw [e]; exact List.mem_map.mpr ⟨_, h, rfl⟩)
      rw [decide_eq_false hne]
      exact ih hn.2 h
theorem keys_put (l : Bag κ) (k : κ) (v : Int) : (put l k v).map (·.1) = if (look l k).isSome then l.map (·.1) else l.map (·.1) ++ [k] := by
  unfold put
  split
  · rw [List.map_map]
    refine List.map_congr_left fun e _ => ?_
    show (if e.1 = k then (e.1, v) else e).1 = e.1
    split <;> rfl
  · rw [List.map_append]
    rfl
theorem nodup_put {l : Bag κ} (hn : (l.map (·.1)).Nodup) (k : κ) (v : Int) : ((put l k v).map (·.1)).Nodup := by
  rw [keys_put]
  split
  · exact hn
  · rename_i h
    have hno : look l k = none := by
      cases e : look l k with
      | none => rfl
      | some _ => rw [e] at h; simp at h
    rw [List.nodup_append]
    refine ⟨hn, by simp, fun a ha b hb e => ?_⟩
    rw [List.mem_singleton] at hb
    obtain ⟨x, hx, rfl⟩ := List.mem_map.mp ha
    exact look_none hno x hx (e.trans hb)
theorem map_off {l : Bag κ} {k : κ} {v : Int} (h : ∀ e ∈ l, e.1 ≠ k) : l.map (fun e => if e.1 = k then (e.1, v) else e) = l := by
  induction l with
  | nil => rfl
  | cons x r ih =>
    rw [List.map_cons, if_neg (h x List.mem_cons_self), ih fun e he => h e (List.mem_cons_of_mem _ he)]
theorem pr_set {l : Bag κ} (hn : (l.map (·.1)).Nodup) {k : κ} {u : Int} (h : (k, u) ∈ l) (v : Int) (f : κ → Int) : pr (l.map fun e => if e.1 = k then (e.1, v) else e) f = pr l f + (v - u) * f k := by
  induction l with
  | nil => exact nomatch h
  | cons x r ih =>
    rw [List.map_cons, List.nodup_cons] at hn
    rw [List.map_cons, pr_cons, pr_cons]
    rcases List.mem_cons.mp h with e | h
    · have hoff : ∀ e ∈ r, e.1 ≠ k := fun e' he q => hn.1 (by rw [← e, ← q]; exact List.mem_map.mpr ⟨_, he, rfl⟩)
      rw [map_off hoff, ← e, if_pos rfl]
      simp only [Int.sub_mul]
      omega
    · have hne : ¬ x.1 = k := fun e => hn.1 (by rw [e]; exact List.mem_map.mpr ⟨_, h, rfl⟩)
      rw [if_neg hne, ih hn.2 h]
      omega
theorem pr_add1 {l : Bag κ} (hn : (l.map (·.1)).Nodup) (p : κ × Int) (f : κ → Int) : pr (add1 l p) f = pr l f + p.2 * f p.1 := by
  unfold add1 put
  cases e : look l p.1 with
  | none =>
    simp only [Option.isSome_none, Bool.false_eq_true, if_false, Option.getD_none, Int.zero_add]
    rw [pr_append, pr_cons, pr_nil]
    simp
  | some u =>
    simp only [Option.isSome_some, if_true, Option.getD_some]
    rw [pr_set hn (look_mem e)]
    rw [show u + p.2 - u = p.2 by omega]
theorem nodup_add1 {l : Bag κ} (hn : (l.map (·.1)).Nodup) (p : κ × Int) : ((add1 l p).map (·.1)).Nodup := nodup_put hn _ _
theorem fold_ok : ∀ (ts : Bag κ) (l : Bag κ), (l.map (·.1)).Nodup → ((ts.foldl add1 l).map (·.1)).Nodup ∧ ∀ f, pr (ts.foldl add1 l) f = pr l f + pr ts f
  | [], l, h => ⟨h, fun f => by rw [pr_nil]; simp⟩
  | p :: ts, l, h => by
    obtain ⟨h1, h2⟩ := fold_ok ts (add1 l p) (nodup_add1 h p)
    refine ⟨h1, fun f => ?_⟩
    rw [List.foldl_cons, h2, pr_add1 h, pr_cons]
    omega
theorem book_nodup (ts : Bag κ) : ((book ts).map (·.1)).Nodup := (fold_ok ts [] List.nodup_nil).1
theorem book_pr (ts : Bag κ) (f : κ → Int) : pr (book ts) f = pr ts f := by
  have := (fold_ok ts [] List.nodup_nil).2 f
  rw [pr_nil, Int.zero_add] at this
  exact this
theorem book_snoc (ts : Bag κ) (p : κ × Int) : book (ts ++ [p]) = add1 (book ts) p := by simp [book]
def Pos (l : Bag κ) : Prop := ∀ p ∈ l, 0 < p.2
theorem pos_add1 {l : Bag κ} (h : Pos l) {p : κ × Int} (hp : 0 < p.2) : Pos (add1 l p) := by
  intro q hq
  have h0 : 0 ≤ (look l p.1).getD 0 := by
    cases e : look l p.1 with
    | none => exact Int.le_refl _
    | some u => exact Int.le_of_lt (h _ (look_mem e))
  unfold add1 put at hq
  split at hq
  · obtain ⟨x, hx, rfl⟩ := List.mem_map.mp hq
    split
    · show 0 < (look l p.1).getD 0 + p.2
      omega
    · exact h x hx
  · rcases List.mem_append.mp hq with hq | hq
    · exact h q hq
    · rw [List.mem_singleton.mp hq]
      show 0 < (look l p.1).getD 0 + p.2
      omega
theorem pos_fold : ∀ (ts : Bag κ) (l : Bag κ), Pos l → Pos ts → Pos (ts.foldl add1 l)
  | [], _, h, _ => h
  | p :: ts, l, h, ht => pos_fold ts (add1 l p) (pos_add1 h (ht p List.mem_cons_self)) fun q hq => ht q (List.mem_cons_of_mem _ hq)
theorem pos_book {ts : Bag κ} (h : Pos ts) : Pos (book ts) := pos_fold ts [] (fun _ q => nomatch q) h
theorem len_add1 (l : Bag κ) (p : κ × Int) : (add1 l p).length ≤ l.length + 1 := by
  unfold add1 put
  split
  · rw [List.length_map]; omega
  · rw [List.length_append]; exact Nat.le_refl _
theorem len_fold : ∀ (ts : Bag κ) (l : Bag κ), (ts.foldl add1 l).length ≤ l.length + ts.length
  | [], _ => Nat.le_refl _
  | p :: ts, l => by
    have h1 := len_fold ts (add1 l p)
    have h2 := len_add1 l p
    rw [List.foldl_cons, List.length_cons]
    omega
theorem len_book (ts : Bag κ) : (book ts).length ≤ ts.length := by
  have := len_fold ts []
  rw [List.length_nil, Nat.zero_add] at this
  exact this
/-- whatever holds of all keys told holds of the book's -/
theorem key_book {Pk : κ → Prop} : ∀ (ts l : Bag κ), (∀ p ∈ l, Pk p.1) → (∀ p ∈ ts, Pk p.1) → ∀ p ∈ ts.foldl add1 l, Pk p.1
  | [], _, h, _ => h
  | t :: ts, l, h, ht => by
    refine key_book ts (add1 l t) (fun p hp => ?_) fun q hq => ht q (List.mem_cons_of_mem _ hq)
    have hm : p.1 ∈ (add1 l t).map (·.1) := List.mem_map.mpr ⟨p, hp, rfl⟩
    unfold add1 at hm
    rw [keys_put] at hm
    split at hm
    · obtain ⟨x, hx, e⟩ := List.mem_map.mp hm
      rw [← e]
      exact h x hx
    · rcases List.mem_append.mp hm with hm | hm
      · obtain ⟨x, hx, e⟩ := List.mem_map.mp hm
        rw [← e]
        exact h x hx
      · rw [List.mem_singleton.mp hm]
        exact ht t List.mem_cons_self
/-! in order -/
def encP (p : κ × Int) : PyData := .tuple [enc p.1, .int p.2]
def srt (l : Bag κ) : Bag κ := l.mergeSort (PySem.W.dataLe false encP)
theorem srt_perm (l : Bag κ) : (srt l).Perm l := List.mergeSort_perm l _
theorem srt_asc {l : Bag κ} (hn : (l.map (·.1)).Nodup) : Asc (srt l) := by
  have h1 : (srt l).Pairwise (fun a b => PySem.W.dataLe false encP a b = true) := PySem.W.sort_pairwise (PySem.W.sortLe_total _ false _) l
  have h2 : ((srt l).map (·.1)).Nodup := ((srt_perm l).map _).nodup_iff.mpr hn
  rw [List.Nodup, List.pairwise_map] at h2
  refine (h1.and h2).imp fun {a b} ⟨hle, hne⟩ => ?_
  have hle' : (!PySem.W.dataLt (encP b) (encP a)) = true := hle
  unfold encP at hle'
  have ai : PySem.W.alike (.int b.2) (.int a.2) = true := by simp [PySem.W.alike]
  rw [PySem.W.dataLt_pair (al _ _) ai, eqv, decide_eq_false (Ne.symm hne), if_neg Bool.false_ne_true] at hle'
  have hle2 : lt b.1 a.1 = false := by
    cases e : lt b.1 a.1 with
    | false => rfl
    | true =>
      have e' : PySem.W.dataLt (enc b.1) (enc a.1) = true := e
      rw [e'] at hle'
      cases hle'
  cases e : lt a.1 b.1 with
  | true => rfl
  | false => exact absurd (lt_total e hle2) hne
def nf (ts : Bag κ) : Bag κ := srt (book ts)
theorem nf_asc (ts : Bag κ) : Asc (nf ts) := srt_asc (book_nodup ts)
theorem nf_pr (ts : Bag κ) (f : κ → Int) : pr (nf ts) f = pr ts f := by
  unfold nf
  rw [pr_perm (srt_perm _), book_pr]
theorem nf_pos {ts : Bag κ} (h : Pos ts) : Pos (nf ts) := fun p hp => pos_book h p ((srt_perm _).mem_iff.mp hp)
theorem nf_len (ts : Bag κ) : (nf ts).length ≤ ts.length := by
  unfold nf
  rw [(srt_perm _).length_eq]
  exact len_book ts
theorem nf_key {Pk : κ → Prop} {ts : Bag κ} (h : ∀ p ∈ ts, Pk p.1) : ∀ p ∈ nf ts, Pk p.1 := fun p hp => key_book ts [] (fun _ q => nomatch q) h p ((srt_perm _).mem_iff.mp hp)
/-! one form -/
def del (k : κ) : κ → Int := fun x => if x = k then 1 else 0
theorem pr_off {l : Bag κ} {k : κ} (h : ∀ e ∈ l, e.1 ≠ k) : pr l (del k) = 0 := by
  induction l with
  | nil => rfl
  | cons x r ih =>
    rw [pr_cons, ih fun e he => h e (List.mem_cons_of_mem _ he)]
    unfold del
    rw [if_neg (h x List.mem_cons_self)]
    simp
theorem pr_del {l : Bag κ} (h : Asc l) {k : κ} {v : Int} (hm : (k, v) ∈ l) : pr l (del k) = v := by
  induction l with
  | nil => exact nomatch hm
  | cons x r ih =>
    obtain ⟨h1, h2⟩ := List.pairwise_cons.mp h
    rw [pr_cons]
    rcases List.mem_cons.mp hm with e | hm
    · have hoff : ∀ e ∈ r, e.1 ≠ k := fun e' he q => lt_ne (h1 e' he) (by rw [← e]; exact q.symm)
      rw [pr_off hoff, ← e]
      unfold del
      rw [if_pos rfl]
      simp
    · rw [ih h2 hm]
      unfold del
      rw [if_neg fun q => lt_ne (h1 _ hm) q]
      simp
theorem mem_of_pr {l : Bag κ} (h : Asc l) {k : κ} {v : Int} (hv : v ≠ 0) (e : pr l (del k) = v) : (k, v) ∈ l := by
  by_cases hx : ∃ u, (k, u) ∈ l
  · obtain ⟨u, hu⟩ := hx
    rw [pr_del h hu] at e
    rw [← e]
    exact hu
  · have hoff : ∀ e ∈ l, e.1 ≠ k := fun e' he q => hx ⟨e'.2, by rw [← q]; exact he⟩
    rw [pr_off hoff] at e
    exact absurd e.symm hv
theorem one_form {l m : Bag κ} (hl : Asc l) (hm : Asc m) (pl : Pos l) (pm : Pos m) (h : ∀ f, pr l f = pr m f) : l = m := by
  refine asc_ext hl hm fun p => ⟨fun hp => ?_, fun hp => ?_⟩
  · have := pr_del hl (k := p.1) (v := p.2) hp
    rw [h] at this
    exact mem_of_pr hm (Int.ne_of_gt (pl p hp)) this
  · have := pr_del hm (k := p.1) (v := p.2) hp
    rw [← h] at this
    exact mem_of_pr hl (Int.ne_of_gt (pm p hp)) this
theorem nf_eq {l m : Bag κ} (pl : Pos l) (pm : Pos m) (h : ∀ f, pr l f = pr m f) : nf l = nf m :=
  one_form (nf_asc l) (nf_asc m) (nf_pos pl) (nf_pos pm) fun f => by rw [nf_pr, nf_pr, h]
theorem nf_id {l : Bag κ} (hl : Asc l) (pl : Pos l) : nf l = l := one_form (nf_asc l) hl (nf_pos pl) pl fun f => nf_pr l f
end
end Bk


set_option Elab.async false
set_option linter.all false
set_option maxRecDepth 100000
set_option maxHeartbeats 2000000
/-! polynomials over tokens -/
namespace Bk
open PySem Nd
instance : Ky Str where
  enc := .str
  al := fun a b => by simp [PySem.W.alike]
  inj := fun a b h => by
    simp only [PySem.W.keyToks, List.cons.injEq, Sum.inr.injEq, and_true] at h
    exact PySem.W.str_of_cps h
  eqv := fun a b => by
    by_cases h : a = b
    · subst h
      simp [PyData.eqv]
    · rw [decide_eq_false h]
      simp [PyData.eqv, h]
  nn := fun a h => nomatch h
  dep := fun a => by simp [PyData.depth]
def tkD (p : Str × Int) : PyData := .tuple [.str p.1, .int p.2]
theorem mD_eq (m : Mono) : mD m = .tuple (m.map tkD) := rfl
theorem al_tk (p q : Str × Int) : PySem.W.alike (tkD p) (tkD q) = true := by simp [tkD, PySem.W.alike, PySem.W.alikeAll]
theorem al_tks : ∀ m n : Mono, PySem.W.alikeAll (m.map tkD) (n.map tkD) = true
  | [], _ => by simp [PySem.W.alikeAll]
  | _ :: _, [] => by simp [PySem.W.alikeAll]
  | p :: m, q :: n => by
    rw [List.map_cons, List.map_cons, PySem.W.alikeAll, al_tk, al_tks m n]
    rfl
theorem toks_tk (p : Str × Int) : PySem.W.keyToks (tkD p) = [.inl 1, .inr p.1.cps.toList, .inl 1, .inl p.2, .inl 0] := by simp [tkD, PySem.W.keyToks, PySem.W.keyToksAll]
theorem toks_inj : ∀ m n : Mono, PySem.W.keyToksAll (m.map tkD) = PySem.W.keyToksAll (n.map tkD) → m = n
  | [], [], _ => rfl
  | [], q :: n, h => by simp [PySem.W.keyToksAll] at h
  | p :: m, [], h => by simp [PySem.W.keyToksAll] at h
  | p :: m, q :: n, h => by
    rw [List.map_cons, List.map_cons, PySem.W.toks_all_cons, PySem.W.toks_all_cons, toks_tk, toks_tk] at h
    simp only [List.cons_append, List.nil_append, List.cons.injEq, Sum.inl.injEq, Sum.inr.injEq, true_and] at h
    obtain ⟨h1, h2, h3⟩ := h
    rw [toks_inj m n h3]
    obtain ⟨p1, p2⟩ := p
    obtain ⟨q1, q2⟩ := q
    simp only at h1 h2
    rw [PySem.W.str_of_cps h1, h2]
theorem eqv_tk (p q : Str × Int) : PyData.eqv (tkD p) (tkD q) = decide (p = q) := by
  obtain ⟨p1, p2⟩ := p
  obtain ⟨q1, q2⟩ := q
  by_cases h1 : p1 = q1
  · by_cases h2 : p2 = q2
    · subst h1 h2
      simp [tkD, PyData.eqv, PyData.eqvAll]
    · simp [tkD, PyData.eqv, PyData.eqvAll, h2]
  · simp [tkD, PyData.eqv, PyData.eqvAll, h1]
theorem eqv_tks : ∀ m n : Mono, PyData.eqvAll (m.map tkD) (n.map tkD) = decide (m = n)
  | [], [] => by simp [PyData.eqvAll]
  | [], q :: n => by simp [PyData.eqvAll]
  | p :: m, [] => by simp [PyData.eqvAll]
  | p :: m, q :: n => by
    rw [List.map_cons, List.map_cons, PySem.W.eqv_all_cons, eqv_tk, eqv_tks m n]
    by_cases h1 : p = q
    · by_cases h2 : m = n
      · simp [h1, h2]
      · simp [h2]
    · simp [h1]
theorem dep_tks : ∀ m : Mono, PyData.depthAll (m.map tkD) ≤ 1
  | [] => by simp [PyData.depthAll]
  | p :: m => by
    have := dep_tks m
    simp only [List.map_cons, PyData.depthAll, tkD, PyData.depth]
    omega
instance : Ky Mono where
  enc := mD
  al := fun a b => by
    rw [mD_eq, mD_eq, PySem.W.alike]
    exact al_tks a b
  inj := fun a b h => by
    rw [mD_eq, mD_eq, PySem.W.keyToks, PySem.W.keyToks] at h
    exact toks_inj a b h
  eqv := fun a b => by
    rw [mD_eq, mD_eq, PyData.eqv]
    exact eqv_tks a b
  nn := fun a h => nomatch h
  dep := fun a => by
    have := dep_tks a
    rw [mD_eq, PyData.depth]
    omega
abbrev Poly := Bag Mono
/-- tokens rising, exponents from 1 on -/
def MOk (m : Mono) : Prop := Asc m ∧ Pos m
def POk (p : Poly) : Prop := Asc p ∧ Pos p ∧ ∀ t ∈ p, MOk t.1
def mulM (a b : Mono) : Mono := nf (a ++ b)
def prods (p q : Poly) : Poly := p.flatMap fun a => q.map fun b => (mulM a.1 b.1, a.2 * b.2)
def plusP (p q : Poly) : Poly := nf (p ++ q)
def timesP (p q : Poly) : Poly := nf (prods p q)
theorem pos_append {κ : Type} {l m : Bag κ} (hl : Pos l) (hm : Pos m) : Pos (l ++ m) := fun p hp => (List.mem_append.mp hp).elim (hl p) (hm p)
theorem mulM_ok {a b : Mono} (ha : MOk a) (hb : MOk b) : MOk (mulM a b) := ⟨nf_asc _, nf_pos (pos_append ha.2 hb.2)⟩
theorem mulM_comm {a b : Mono} (ha : MOk a) (hb : MOk b) : mulM a b = mulM b a :=
  nf_eq (pos_append ha.2 hb.2) (pos_append hb.2 ha.2) fun f => by rw [pr_append, pr_append]; omega
theorem mulM_assoc {a b c : Mono} (ha : MOk a) (hb : MOk b) (hc : MOk c) : mulM (mulM a b) c = mulM a (mulM b c) := by
  refine nf_eq (pos_append (mulM_ok ha hb).2 hc.2) (pos_append ha.2 (mulM_ok hb hc).2) fun f => ?_
  rw [pr_append, pr_append]
  unfold mulM
  rw [nf_pr, nf_pr, pr_append, pr_append]
  omega
theorem mulM_nil_left {a : Mono} (ha : MOk a) : mulM [] a = a := by
  unfold mulM
  rw [List.nil_append]
  exact nf_id ha.1 ha.2
theorem mulM_nil_right {a : Mono} (ha : MOk a) : mulM a [] = a := by
  unfold mulM
  rw [List.append_nil]
  exact nf_id ha.1 ha.2
theorem ok_nil : MOk [] := ⟨List.Pairwise.nil, fun _ h => nomatch h⟩
theorem pok_zero : POk [] := ⟨List.Pairwise.nil, fun _ h => (nomatch h), fun _ h => nomatch h⟩
def oneP : Poly := [([], 1)]
theorem pok_one : POk oneP := ⟨List.pairwise_singleton _ _, fun p h => by rw [List.mem_singleton.mp h]; decide, fun p h => by rw [List.mem_singleton.mp h]; exact ok_nil⟩
theorem plusP_ok {p q : Poly} (hp : POk p) (hq : POk q) : POk (plusP p q) :=
  ⟨nf_asc _, nf_pos (pos_append hp.2.1 hq.2.1), nf_key (Pk := MOk) fun t ht => (List.mem_append.mp ht).elim (hp.2.2 t) (hq.2.2 t)⟩
theorem mem_prods {p q : Poly} {t : Mono × Int} (h : t ∈ prods p q) : ∃ a ∈ p, ∃ b ∈ q, t = (mulM a.1 b.1, a.2 * b.2) := by
  unfold prods at h
  obtain ⟨a, ha, h⟩ := List.mem_flatMap.mp h
  obtain ⟨b, hb, rfl⟩ := List.mem_map.mp h
  exact ⟨a, ha, b, hb, rfl⟩
theorem pos_prods {p q : Poly} (hp : Pos p) (hq : Pos q) : Pos (prods p q) := fun t ht => by
  obtain ⟨a, ha, b, hb, rfl⟩ := mem_prods ht
  exact Int.mul_pos (hp a ha) (hq b hb)
theorem timesP_ok {p q : Poly} (hp : POk p) (hq : POk q) : POk (timesP p q) :=
  ⟨nf_asc _, nf_pos (pos_prods hp.2.1 hq.2.1), nf_key (Pk := MOk) fun t ht => by
    obtain ⟨a, ha, b, hb, rfl⟩ := mem_prods ht
    exact mulM_ok (hp.2.2 a ha) (hq.2.2 b hb)⟩
theorem pr_mapmul (q : Poly) (x : Int) (g : Mono → Mono) (f : Mono → Int) : pr (q.map fun b => (g b.1, x * b.2)) f = x * pr q (fun b => f (g b)) := by
  induction q with
  | nil => rw [List.map_nil, pr_nil, pr_nil, Int.mul_zero]
  | cons b r ih =>
    rw [List.map_cons, pr_cons, pr_cons, ih, Int.mul_add, Int.mul_assoc]
theorem pr_prods (p q : Poly) (f : Mono → Int) : pr (prods p q) f = pr p fun a => pr q fun b => f (mulM a b) := by
  induction p with
  | nil => rfl
  | cons a r ih =>
    have e : prods (a :: r) q = (q.map fun b => (mulM a.1 b.1, a.2 * b.2)) ++ prods r q := by simp [prods]
    rw [e, pr_append, ih, pr_cons, pr_mapmul q a.2 (mulM a.1) f]
theorem pr_times (p q : Poly) (f : Mono → Int) : pr (timesP p q) f = pr p fun a => pr q fun b => f (mulM a b) := by
  unfold timesP
  rw [nf_pr, pr_prods]
theorem pr_plus (p q : Poly) (f : Mono → Int) : pr (plusP p q) f = pr p f + pr q f := by
  unfold plusP
  rw [nf_pr, pr_append]
theorem pr_congr {p : Poly} {f g : Mono → Int} (h : ∀ t ∈ p, f t.1 = g t.1) : pr p f = pr p g := by
  induction p with
  | nil => rfl
  | cons a r ih =>
    rw [pr_cons, pr_cons, h a List.mem_cons_self, ih fun t ht => h t (List.mem_cons_of_mem _ ht)]
theorem pr_add (p : Poly) (f g : Mono → Int) : pr p (fun a => f a + g a) = pr p f + pr p g := by
  induction p with
  | nil => rfl
  | cons a r ih =>
    rw [pr_cons, pr_cons, pr_cons, ih, Int.mul_add]
    omega
theorem pr_zero (p : Poly) : pr p (fun _ => 0) = 0 := by
  induction p with
  | nil => rfl
  | cons a r ih => rw [pr_cons, ih]; simp
theorem pr_scale (p : Poly) (x : Int) (f : Mono → Int) : pr p (fun a => x * f a) = x * pr p f := by
  induction p with
  | nil => rw [pr_nil, pr_nil, Int.mul_zero]
  | cons a r ih =>
    rw [pr_cons, pr_cons, ih, Int.mul_add, ← Int.mul_assoc, ← Int.mul_assoc, Int.mul_comm a.2 x]
theorem pr_swap (p q : Poly) (f : Mono → Mono → Int) : pr p (fun a => pr q fun b => f a b) = pr q fun b => pr p fun a => f a b := by
  induction p with
  | nil =>
    rw [pr_nil]
    exact (pr_zero q).symm
  | cons a r ih =>
    rw [pr_cons, ih]
    have e : (fun b => pr (a :: r) fun x => f x b) = fun b => a.2 * f a.1 b + pr r fun x => f x b := by
      funext b
      rw [pr_cons]
    rw [e, pr_add, pr_scale]
section
variable {p q r : Poly}
theorem plus_assoc (hp : POk p) (hq : POk q) (hr : POk r) : plusP (plusP p q) r = plusP p (plusP q r) :=
  nf_eq (pos_append (plusP_ok hp hq).2.1 hr.2.1) (pos_append hp.2.1 (plusP_ok hq hr).2.1) fun f => by rw [pr_append, pr_append, pr_plus, pr_plus]; omega
theorem plus_comm (hp : POk p) (hq : POk q) : plusP p q = plusP q p := nf_eq (pos_append hp.2.1 hq.2.1) (pos_append hq.2.1 hp.2.1) fun f => by rw [pr_append, pr_append]; omega
theorem plus_zero (hp : POk p) : plusP p [] = p := by
  unfold plusP
  rw [List.append_nil]
  exact nf_id hp.1 hp.2.1
theorem zero_plus (hp : POk p) : plusP [] p = p := by
  unfold plusP
  rw [List.nil_append]
  exact nf_id hp.1 hp.2.1
theorem times_comm (hp : POk p) (hq : POk q) : timesP p q = timesP q p :=
  nf_eq (pos_prods hp.2.1 hq.2.1) (pos_prods hq.2.1 hp.2.1) fun f => by
    rw [pr_prods, pr_prods, pr_swap q p]
    exact pr_congr fun a ha => pr_congr fun b hb => by rw [mulM_comm (hp.2.2 a ha) (hq.2.2 b hb)]
theorem times_assoc (hp : POk p) (hq : POk q) (hr : POk r) : timesP (timesP p q) r = timesP p (timesP q r) :=
  nf_eq (pos_prods (timesP_ok hp hq).2.1 hr.2.1) (pos_prods hp.2.1 (timesP_ok hq hr).2.1) fun f => by
    rw [pr_prods, pr_prods, pr_times]
    refine pr_congr fun a ha => ?_
    rw [pr_times]
    exact pr_congr fun b hb => pr_congr fun c hc => by rw [mulM_assoc (hp.2.2 a ha) (hq.2.2 b hb) (hr.2.2 c hc)]
theorem times_plus (hp : POk p) (hq : POk q) (hr : POk r) : timesP p (plusP q r) = plusP (timesP p q) (timesP p r) :=
  nf_eq (pos_prods hp.2.1 (plusP_ok hq hr).2.1) (pos_append (timesP_ok hp hq).2.1 (timesP_ok hp hr).2.1) fun f => by
    rw [pr_prods, pr_append, pr_times, pr_times, ← pr_add]
    exact pr_congr fun a ha => by rw [pr_plus]
theorem times_one (hp : POk p) : timesP p oneP = p := by
  refine one_form (nf_asc _) hp.1 (timesP_ok hp pok_one).2.1 hp.2.1 fun f => ?_
  rw [pr_times]
  refine pr_congr fun a ha => ?_
  unfold oneP
  rw [pr_cons, pr_nil, mulM_nil_right (hp.2.2 a ha)]
  simp
theorem one_times (hp : POk p) : timesP oneP p = p := by rw [times_comm pok_one hp, times_one hp]
theorem times_zero : timesP p [] = [] := by
  have e : prods p [] = [] := by
    unfold prods
    induction p with
    | nil => rfl
    | cons a r ih => rw [List.flatMap_cons, List.map_nil, List.nil_append, ih]
  unfold timesP
  rw [e]
  exact nf_id List.Pairwise.nil fun _ h => nomatch h
theorem zero_times : timesP [] p = [] := nf_id List.Pairwise.nil fun _ h => nomatch h
end
/-! sizes -/
def S {κ : Type} (p : Bag κ) : Int := pr p fun _ => 1
theorem S_plus (p q : Poly) : S (plusP p q) = S p + S q := pr_plus p q _
theorem S_times (p q : Poly) : S (timesP p q) = S p * S q := by
  unfold S
  rw [pr_times]
  have e : (fun _ : Mono => pr q fun _ => 1) = fun _ : Mono => (pr q fun _ => 1) * 1 := by
    funext a
    rw [Int.mul_one]
  rw [e, pr_scale p _ (fun _ => 1), Int.mul_comm]
theorem S_nf {κ : Type} [DecidableEq κ] [Ky κ] (ts : Bag κ) : S (nf ts) = S ts := nf_pr ts _
theorem S_append {κ : Type} (p q : Bag κ) : S (p ++ q) = S p + S q := by
  unfold S pr
  simp
theorem S_nonneg {κ : Type} {l : Bag κ} (h : Pos l) : 0 ≤ S l := by
  induction l with
  | nil => exact Int.le_refl _
  | cons x r ih =>
    have h1 := h x List.mem_cons_self
    have h2 := ih fun q hq => h q (List.mem_cons_of_mem _ hq)
    have e : S (x :: r) = x.2 * 1 + S r := by unfold S pr; simp
    omega
theorem le_S {κ : Type} {l : Bag κ} (h : Pos l) {p : κ × Int} (hp : p ∈ l) : p.2 ≤ S l := by
  induction l with
  | nil => exact nomatch hp
  | cons x r ih =>
    have h1 := h x List.mem_cons_self
    have h0 : Pos r := fun q hq => h q (List.mem_cons_of_mem _ hq)
    have h2 := S_nonneg h0
    have e : S (x :: r) = x.2 * 1 + S r := by unfold S pr; simp
    rcases List.mem_cons.mp hp with q | q
    · rw [q]; omega
    · have := ih h0 q
      omega
theorem S_book {κ : Type} [DecidableEq κ] [Ky κ] (ts : Bag κ) : S (book ts) = S ts := book_pr ts _
theorem S_mulM (a b : Mono) : S (mulM a b) = S a + S b := by
  unfold mulM
  rw [S_nf, S_append]
theorem len_prods (p q : Poly) : (prods p q).length = p.length * q.length := by
  unfold prods
  induction p with
  | nil => simp
  | cons a r ih => rw [List.flatMap_cons, List.length_append, ih, List.length_map, List.length_cons, Nat.add_mul, Nat.one_mul, Nat.add_comm]
/-- degrees at most d -/
def Dg (p : Poly) (d : Int) : Prop := ∀ t ∈ p, S t.1 ≤ d
theorem Dg_nf {ts : Poly} {d : Int} (h : Dg ts d) : Dg (nf ts) d := nf_key (Pk := fun m => S m ≤ d) h
theorem Dg_plus {p q : Poly} {d : Int} (hp : Dg p d) (hq : Dg q d) : Dg (plusP p q) d := Dg_nf fun t ht => (List.mem_append.mp ht).elim (hp t) (hq t)
theorem Dg_times {p q : Poly} {d e : Int} (hp : Dg p d) (hq : Dg q e) : Dg (timesP p q) (d + e) := Dg_nf fun t ht => by
  obtain ⟨a, ha, b, hb, rfl⟩ := mem_prods ht
  have h1 := hp a ha
  have h2 := hq b hb
  show S (mulM a.1 b.1) ≤ d + e
  rw [S_mulM]
  omega
end Bk


set_option Elab.async false
set_option linter.all false
set_option maxRecDepth 100000
set_option maxHeartbeats 2000000
/-! defs that are called where no repr is under way (so that they may ask for one) -/
namespace Gd
open PySem PySem.Spec PyProof.Rows L2
/-- nothing is being shown around the call -/
abbrev Still (A : Around) : Prop := A.guards = some []
structure FnG (P : Program) (w : World) (K : PySem.W.Frag) (mg : Str → Option Value) (base : Heap) (k : Nat) (f : Addr) (fd : FuncData) (ps : List Str) (sp : Sp) : Prop where
  len : ∀ vs H Q, sp vs H Q E0 → vs.length = ps.length
  go : ∀ {A : Around} {outer : List Env} {s : Shared} {H : Hp} {args : Args} {us : List Value} {vs : List V} {Q : VK}, Still A → Room k A →
    Env0 P w K mg base A outer s H → sp vs H Q E0 → Vals vs us → BindsTo s fd args (ps.zip us) → codeAny (model P w) A (.call (.ref f) args) (CR CX0 outer P w H s Q E0) s
section
variable {P : Program} {w : World} {K : PySem.W.Frag} {mg : Str → Option Value} {base : Heap} {k : Nat} {f : Addr} {fd : FuncData} {ps : List Str} {sp : Sp}
theorem FnG.of (F : FnOk P w K mg base CX0 k f fd ps sp) : FnG P w K mg base k f fd ps sp :=
  { len := fun vs H Q h => F.len vs H Q E0 h, go := fun _ room e0 want rel bind => F.run _ _ _ _ _ _ _ _ _ room e0 bind rel want }
/-- a def by its body: the body's reading may count on it that nothing is being shown -/
theorem ok_still {x qual : Str} {st : Stmt} {N : List Str} (D : Fun K x qual st f fd) (S : FnScope N ps (defScope st)) (len : ∀ vs H Q, sp vs H Q E0 → vs.length = ps.length)
    (body : ∀ (cdv : Value) (A : Around) (outer : List Env) (s : Shared) (H : Hp) (vs : List V) (Q : VK), Still A → Room k (A.deeper (envOfC qual (defScope st) s.heap.objs.size f cdv)) → sp vs H Q E0 →
      ∃ t, PSs (cxOf CX0 P w K mg base N qual (defScope st) f cdv A outer s H E0).nox (defBody st) t ∧ t { nx := fun _ J => Q .non J, rt := Q } (start N vs) H) : FnG P w K mg base (k + 1) f fd ps sp := by
  refine { len := len, go := ?_ }
  intro A outer s H args us vs Q still room e0 want rel bind
  obtain ⟨oc, od, kV, doc, pm, an, cdv, ct, osl, rfl, look, code⟩ := D.ex
  have old := fun (b : Addr) (o : Obj) (q : base.get? b = some o) => (e0.bs b o q).1
  have inK := e0.mod.kin.keeps old
  have kinds : ∀ y ∈ ps.zip us, (defScope st).names.lookup y.1 = some .local ∨ ((defScope st).names.lookup y.1 = some .cell ∧
      ((cellsFrom (s.heap.objs.size + 1) (defScope st).names []).lookup y.1).isSome = true) := by
    intro y hy
    rcases S.par y.1 (List.of_mem_zip (a := y.1) (b := y.2) hy).1 with q | q
    · exact .inl q
    · exact .inr ⟨q, PySem.W.cellsFrom_some _ _ _ (.inl q)⟩
  obtain ⟨t, block, reads⟩ := body cdv A outer s H vs Q still (room.deeper _) want
  refine codeAny_call_function room.depth (inK _ _ look) rfl S.co S.gen rfl
    (PySem.W.codeRec_of inK code) (bind _ _ _ _ ?_)
  apply wpAny_newFunctionEnv_cells S.kind kinds
  rintro _ rfl s1 laid
  have start := inv_start (CX := CX0) (E := E0) S room.hd e0 (len _ _ _ want) rel laid
  refine ⟨(e0.mod.nolimit.keeps old).keeps laid.toInCall.keep, codeAny_func ?_⟩
  refine wpAny_mono (block.nox.run [] s1 _ H _ start reads) ?_ fun _ _ q => q
  intro fl s' ends
  cases fl with
  | ret u =>
    obtain ⟨v, _, J, i, r, q⟩ := ends
    exact ⟨v, J, i.os, i.bare, i.base, i.hok, r, q⟩
  | next =>
    obtain ⟨_, J, i, q⟩ := ends
    exact ⟨.non, J, i.os, i.bare, i.base, i.hok, rfl, q⟩
  | brk => exact ends.choose_spec.choose_spec.2.elim
  | cont => exact ends.choose_spec.choose_spec.2.elim
end
section
variable {X : Cx} {k : Nat} {f : Addr} {fd : FuncData} {ps ks : List Str} {sp : Sp} {x : Str} {p pos : Pos} {e : Expr} {es : List Expr} {kws : List Keyword} {t tk : TA}
/-- a call where nothing is being shown -/
theorem run_still {pins : List (Addr × Obj)} {σ : L2.St} {H : Hp} {s : Shared} {Q : VK} {us zs : List Value} {kw : List (Str × Value)} {vs : List V} (F : FnG X.prog X.w X.K X.mg X.base k f fd ps sp)
    (still : Still X.A) (room : Room k X.A) (I : Inv X pins σ H s) (want : sp vs H Q E0) (rel : Vals vs zs) (bind : BindsTo s fd ⟨us, kw⟩ (ps.zip zs)) :
    wpAny (model X.prog X.w) X.A (call (.ref f) us kw) (EP X pins σ Q) X.xe s := by
  apply wpAny_call
  refine codeAny_mono (F.go still room I.env0 want rel bind) ?_
  rintro (_ | fl) s' q
  · exact q.elim
  · cases fl with
    | ret u => exact I.after q
    | next => exact q.elim
    | brk => exact q.elim
    | cont => exact q.elim
theorem pe_still (F : FnG X.prog X.w X.K X.mg X.base k f fd ps sp) (still : Still X.A) (room : Room k X.A) (g : Gl X x) (m : X.mg x = some (.ref f)) (kp : PySem.W.keepIn X.K (.ref f) = true) (b : Binds X.K fd ps []) (a : PA X (e :: es) t)
    (nd : (x == ("__debug__" : Str)) = false := by decide) (st : starEach (e :: es) X.env = (false, eval e X.env) :: starEach es X.env := by rfl) (pl : (backTo pos (starEach es X.env)).any (·.1) = false := by rfl) :
    PE X (.Call (.Name x p) (e :: es) [] pos) (tCall sp [] E0 t) := by
  constructor
  intro pins s σ H Q I h
  have args := a.run pos pins s σ H _ I h
  apply wpAny_Call_Name_kw
  refine ld_glob I g m (PySem.W.callWith_K (h₀ := X.base) I.ok.mod.kin kp (thn args ?_) st pl) nd
  rintro us s1 ⟨vs, J, i, r, q⟩
  have q' : sp vs J Q E0 := by
    have z : sp (vs ++ []) J Q E0 := q
    rw [List.append_nil] at z
    exact z
  have l : (us ++ []).length = ps.length := by
    rw [List.append_nil, ← r.length]
    exact F.len _ _ _ q'
  have bd := b s1 us i.kIn l
  rw [List.append_nil] at bd
  exact ⟨i.kIn, run_still F still room i q' r bd⟩
end
end Gd


set_option Elab.async false
set_option linter.all false
set_option maxRecDepth 100000
set_option maxHeartbeats 2000000
namespace Gd
open PySem PySem.Spec PyProof.Rows L2
theorem still_caller : Still callerA := rfl
section
variable {P : Program} {w : World} {K : PySem.W.Frag} {mg mb : Str → Option Value} {k : Nat} {fa a : Addr} {fd : FuncData} {x : Str} {sp : Sp} {s : Shared} {vs : List Value} {ns : List Int}
/-- the first call of all, from a heap in which the script alone is told -/
theorem first_call (inK : K.In s.heap) (top : s.heap.Ns mainGlobals mg) (bns : s.heap.Ns builtinsNs mb) (boot : ∀ y : Str, y ≠ "__name__" → mb y = bootBuiltins y) (free : s.heap.NoLimit) (gens : s.gens = #[])
    (obj : s.heap.get? a = some { cls := .type "list", data := .seq vs.toArray }) (room : Room k callerA)
    (F : ∀ base : Heap, K.In base → base.Ns mainGlobals mg → FnG P w K mg base k fa fd [x] sp) (bind : ∀ (t : Shared) (u : Value), BindsTo t fd ⟨[u], []⟩ [(x, u)])
    {H : Hp} (only : Only H) (want : sp [.ref a] H (fun v _ => v = .bl true) E0) (hok : HOk P w H s.heap) (alone : ∀ b, H b ≠ none → b = a ∧ K.lookup a = none) :
    codeAny (model P w) callerA (.call (.ref fa) ⟨[.ref a], []⟩) (fun r t => r = .ok (.ret (.bool true)) ∧ OldK s.heap t.heap ∧ t.os = s.os ∧ AllBare t.gens) s := by
  have away : ∀ b : Addr, b ≠ a → H b = none := fun b ne => Classical.byContradiction fun q => ne (alone b q).1
  have dicts : ∀ {b : Addr} {o : Obj} {es : Array DictEntry} {ep : Nat}, s.heap.get? b = some o → o.data = .dict es ep → H b = none := by
    intro b o es ep e d
    refine away b ?_
    rintro rfl
    rw [obj] at e
    cases e
    exact nomatch (show Data.seq vs.toArray _ = Data.dict es ep from d)
  have keepNs : ∀ {b : Addr} {m : Str → Option Value}, s.heap.Ns b m → (hidT s.heap H).Ns b m := by
    rintro b m ⟨o, es, ep, e, d, r⟩
    exact ⟨o, es, ep, hidT_get e (dicts e d), d, r⟩
  have hidK : K.In (hidT s.heap H) := by
    intro b o e
    refine hidT_get (inK b o e) (Classical.byContradiction fun q => ?_)
    obtain ⟨rfl, none_⟩ := alone b q
    rw [none_] at e
    cases e
  obtain ⟨ml, lim, lim'⟩ := free
  have env : Env0 P w K mg (hidT s.heap H) callerA [] s H :=
    { frames := rfl, mod := ⟨hidK, keepNs top, ⟨mb, keepNs bns, boot⟩, ⟨ml, keepNs lim, lim'⟩⟩, bs := fun b o e => of_hidT e, bsz := Nat.le_of_eq (hidT_size _ _), funs := trivial,
      frf := fun b q => absurd (show b ∈ ([] : List Addr) from q) (by simp), hok := hok, bare := .of_eq gens }
  have run := (F _ hidK (keepNs top)).go still_caller room env want (.cons rfl .nil) (bind s (.ref a))
  refine codeAny_mono run ?_
  rintro (_ | fl) t q
  · exact q.elim
  cases fl with
  | next => exact q.elim
  | brk => exact q.elim
  | cont => exact q.elim
  | ret u =>
    obtain ⟨v, J, os, bare, un, hok', rel, yes⟩ := q
    have yes' : v = .bl true := yes
    subst yes'
    obtain rfl : u = Value.bool true := rel
    refine ⟨rfl, OldK.of_keep ?_, os, bare⟩
    intro b o e
    cases c : H b with
    | none => exact un.keep b o e c (fun z => absurd (show b ∈ ([] : List Addr) from z) (by simp)) (by simp)
    | some ho =>
      rcases only b with z | ⟨ob, xs, z⟩
      · rw [c] at z
        cases z
      · have old := (hok b _ z).1
        have new := (hok' b _ (un.frzs b ob _ z)).1
        rw [e] at old
        cases old
        exact new
/-- .. whatever the script's list is: one of the module's own, or one that is told -/
theorem law_still (inK : K.In s.heap) (top : s.heap.Ns mainGlobals mg) (bns : s.heap.Ns builtinsNs mb) (boot : ∀ y : Str, y ≠ "__name__" → mb y = bootBuiltins y) (free : s.heap.NoLimit) (gens : s.gens = #[])
    (obj : s.heap.get? a = some { cls := .type "list", data := .seq vs.toArray }) (nums : IntsAre vs ns) (len : ns.length ≤ sizeLine) (room : Room k callerA)
    (F : ∀ base : Heap, K.In base → base.Ns mainGlobals mg → FnG P w K mg base k fa fd [x] sp) (bind : ∀ (t : Shared) (u : Value), BindsTo t fd ⟨[u], []⟩ [(x, u)])
    (want : ∀ H : Hp, SqL K H a (ns.map V.int) → sp [.ref a] H (fun v _ => v = .bl true) E0) :
    codeAny (model P w) callerA (.call (.ref fa) ⟨[.ref a], []⟩) (fun r t => r = .ok (.ret (.bool true)) ∧ OldK s.heap t.heap ∧ t.os = s.os ∧ AllBare t.gens) s := by
  have rel := vals_ints nums
  have size : vs.toArray.size ≤ sizeLine := by
    rw [List.size_toArray, nums.length]
    exact len
  rcases own : K.lookup a with _ | o
  · -- told by the heap
    let ob : Obj := { cls := .type "list", data := .seq vs.toArray }
    let H : Hp := fun b => if b = a then some (.frz ob (.lst (ns.map V.int))) else none
    have here : H a = some (.frz ob (.lst (ns.map V.int))) := if_pos rfl
    have there : ∀ {b u}, H b = some u → b = a ∧ u = .frz ob (.lst (ns.map V.int)) := by
      intro b u q
      by_cases c : b = a
      · rw [c, here] at q
        exact ⟨c, (Option.some.inj q).symm⟩
      · rw [show H b = none from if_neg c] at q
        cases q
    refine first_call inK top bns boot free gens obj room F bind (H := H) (fun b => ?_) (want H (.inl (.inr ⟨ob, here⟩))) (fun b u q => ?_) fun b q => ?_
    · by_cases c : b = a
      · exact .inr ⟨ob, ns.map V.int, by rw [c]; exact here⟩
      · exact .inl (if_neg c)
    · obtain ⟨rfl, rfl⟩ := there q
      exact ⟨obj, by rw [List.length_map]; exact len, vs, _, rel, obj⟩
    · obtain ⟨u, hu⟩ := Option.ne_none_iff_exists'.mp q
      exact ⟨(there hu).1, own⟩
  · -- one of the module's own
    have e := inK a o own
    rw [obj] at e
    cases e
    refine first_call inK top bns boot free gens obj room F bind (H := fun _ => none) (fun _ => .inl rfl) (want _ (.inr ⟨_, vs.toArray, _, own, rfl, rfl, rfl, size, by simpa using rel⟩)) ?_ fun b q => absurd rfl q
    intro b u q
    exact nomatch (show (none : Option HO) = some u from q)
end
/-- the head's goal, from the promise of the law's def, called where nothing is being shown -/
theorem walk_still {l : PySem.W.OpenLaw} {n k : Nat} {q : Program} {loose : List Str} {XP : (Str → Option Value) → Heap → Prop} {YP : World → Heap → Prop} {d : DefRec} {K : Params → PySem.W.Frag} {x : Str} {sp : PySem.W.Frag → Sp}
    (most : l.most = some n) (small : n ≤ sizeLine) (plain : d.params.defaults = []) (room : Room k callerA) (inK : ∀ (w : World) (h : Heap), YP w h → (K w.params).In h)
    (F : ∀ (w : World) (mg : Str → Option Value) (fa : Addr) (h : Heap), (K w.params).In h → h.Ns mainGlobals mg → mg d.name = some (.ref fa) → ∃ fd : FuncData, (∀ (t : Shared) (u : Value), BindsTo t fd ⟨[u], []⟩ [(x, u)]) ∧
      ∀ base : Heap, (K w.params).In base → base.Ns mainGlobals mg → FnG l.prog w (K w.params) mg base k fa fd [x] (sp (K w.params)))
    (want : ∀ (K : PySem.W.Frag) (H : Hp) (a : Addr) (ns : List Int), ns.length ≤ n → SqL K H a (ns.map V.int) → sp K [.ref a] H (fun v _ => v = .bl true) E0) : PySem.W.WalkO q loose XP YP l.row.toRowW d [] (fun f vs => PySem.call f vs) := by
  apply Att.attach_call most plain
  intro w s₀ s mg mb fa o pm cd doc a vs ns G Y _ _ _ named obj nums len gens
  have own := inK w _ Y
  obtain ⟨fd, bind, fn⟩ := F w mg fa _ own G.T.g named
  exact law_still own G.T.g G.T.b G.T.builtins G.T.nolimit gens obj nums (Nat.le_trans len small) room fn bind fun H sq => want _ H a ns len sq
end Gd


set_option Elab.async false
set_option linter.all false
set_option maxRecDepth 100000
set_option maxHeartbeats 2000000
namespace Gd
open PySem PySem.Spec PyProof.Rows L2
/-! how long a text of data may be -/
mutual
def cost : PyData → Nat
  | .list xs => costs xs + 3
  | .tuple xs => costs xs + 3
  | _ => 110
def costs : List PyData → Nat
  | [] => 0
  | x :: xs => cost x + 2 + costs xs
end
mutual
/-- lists and tuples of short texts and numbers below 10 ^ 105 -/
def shortD : PyData → Bool
  | .list xs => shortDs xs
  | .tuple xs => shortDs xs
  | .int i => decide (0 ≤ i) && decide (i < 10 ^ 105)
  | .str z => decide (z.length ≤ 10) && z.cps.toList.all fun c => decide (c < 16 ^ 8)
  | .none => true
  | .bool _ => true
  | _ => false
def shortDs : List PyData → Bool
  | [] => true
  | x :: xs => shortD x && shortDs xs
end
theorem piled_le : ∀ (ts : List Str), piled ts = (ts.map fun t => t.length + 2).sum
  | [] => by simp [piled]
  | t :: ts => by simp [piled, piled_le ts]
theorem join_le (ts : List Str) : (Str.join ", " ts).length ≤ (ts.map fun t => t.length + 2).sum := by
  by_cases h : ts = []
  · subst h
    exact Nat.le_of_eq (by decide +kernel)
  · have := join_length_add ts h
    rw [piled_le] at this
    omega
mutual
theorem shown_le : ∀ {d : PyData}, shortD d = true → d.shown.length ≤ cost d ∧ d.showable = true ∧ d.hasDict = false
  | .none, h => ⟨by decide +kernel, by simp only [PyData.showable], by simp only [PyData.hasDict]⟩
  | .bool b, h => ⟨by cases b <;> decide +kernel, by simp only [PyData.showable], by simp only [PyData.hasDict]⟩
  | .dict _, h => by simp [shortD] at h
  | .int i, h => by
    simp only [shortD, Bool.and_eq_true, decide_eq_true_eq] at h
    refine ⟨?_, ?_, by simp only [PyData.hasDict]⟩
    · rw [PyData.shown_int]
      have := toString_length_le h.1 (k := 105) (by decide) h.2
      simp only [cost]
      omega
    · simp only [PyData.showable, decide_eq_true_eq]
      have hn : i.natAbs < 2 ^ 1000 := by
        have e : (i.natAbs : Int) = i := Int.natAbs_of_nonneg h.1
        have hb : ((10 : Int) ^ 105) ≤ ((2 ^ 1000 : Nat) : Int) := by decide +kernel
        omega
      by_cases z : i.natAbs = 0
      · rw [z]
        decide
      · exact Nat.lt_of_lt_of_le ((Nat.log2_lt z).mpr hn) (by decide)
  | .str z, h => by
    simp only [shortD, Bool.and_eq_true, decide_eq_true_eq, List.all_eq_true] at h
    refine ⟨?_, by simp only [PyData.showable], by simp only [PyData.hasDict]⟩
    rw [PyData.shown_str]
    have := PySem.StrLaws.reprText_len z h.2
    simp only [cost]
    omega
  | .list xs, h => by
    obtain ⟨h1, h2, h3⟩ := showns_le (by simpa [shortD] using h)
    refine ⟨?_, by simp only [PyData.showable, h2], by simp only [PyData.hasDict, h3]⟩
    rw [PyData.shown_list, Str.length_append, Str.length_append]
    have := join_le (PyData.shownAll xs)
    simp only [cost]
    have e1 : Str.length "[" = 1 := by decide +kernel
    have e2 : Str.length "]" = 1 := by decide +kernel
    omega
  | .tuple xs, h => by
    obtain ⟨h1, h2, h3⟩ := showns_le (by simpa [shortD] using h)
    refine ⟨?_, by simp only [PyData.showable, h2], by simp only [PyData.hasDict, h3]⟩
    rw [PyData.shown_tuple, Str.length_append, Str.length_append]
    have := join_le (PyData.shownAll xs)
    simp only [cost]
    have e1 : Str.length "(" = 1 := by decide +kernel
    have e2 : Str.length (Str.ofString (if (xs.length == 1) = true then ",)" else ")")) ≤ 2 := by
      split <;> decide +kernel
    omega
theorem showns_le : ∀ {ds : List PyData}, shortDs ds = true → ((PyData.shownAll ds).map fun t => t.length + 2).sum ≤ costs ds ∧ PyData.showableAll ds = true ∧ PyData.hasDictAll ds = false
  | [], _ => by simp [PyData.shownAll, PyData.showableAll, PyData.hasDictAll, costs]
  | d :: ds, h => by
    simp only [shortDs, Bool.and_eq_true] at h
    obtain ⟨h1, h2, h3⟩ := shown_le h.1
    obtain ⟨g1, g2, g3⟩ := showns_le h.2
    refine ⟨?_, by simp [PyData.showableAll, h2, g2], by simp [PyData.hasDictAll, h3, g3]⟩
    rw [PyData.shownAll_cons, List.map_cons, List.sum_cons]
    simp only [costs]
    omega
end
section
variable {X : Cx}
/-- repr(x) of a list or tuple of short data -/
def rRepr (K : PySem.W.Frag) : List V → Hp → VK → Prop := fun xs H Q => ∃ (a : Addr) (d : PyData), xs = [.ref a] ∧ Dp K H (.ref a) d ∧ shortD d = true ∧ cost d ≤ 1000000 ∧ d.depth ≤ 20 ∧ Q (.str d.shown) H
theorem cr_repr (still : Still X.A) (hu : X.A.units + 64 < cLine) : CallR X (.builtin "repr") (rRepr X.K) := by
  intro pins s σ H xs us Q I r h
  obtain ⟨a, d, rfl, hd, sh, sz, dep, q⟩ := h
  obtain ⟨u, rfl, rx⟩ := vals1 r
  cases rx
  obtain ⟨as, rd⟩ := Dp.reads I d _ _ hd rfl
  obtain ⟨h1, h2, h3⟩ := shown_le sh
  refine repr_of_reads' rd h2 (PyData.noDict_hsm h3) still (by omega) (fun _ _ e => e) (fun h' t tk hk => ?_) (by rw [sizeLine_eq]; omega)
  exact ⟨.str d.shown, H, I.kept (t' := tk) hk, ⟨t, rfl⟩, q⟩
end
section
variable {X : Cx} {k : Nat} {f : Addr} {fd : FuncData} {ps ks : List Str} {sp : Sp} {x : Str} {p pos : Pos} {kws : List Keyword} {tk : TA} {g : List Value → List Value → List Value} {gV : List V → List V → List V}
/-- f(a = .., b = ..): keywords alone -/
theorem pe_kws (F : FnG X.prog X.w X.K X.mg X.base k f fd ps sp) (still : Still X.A) (room : Room k X.A) (gl : Gl X x) (m : X.mg x = some (.ref f)) (kp : PySem.W.keepIn X.K (.ref f) = true) (b : KBinds X.K fd ps ks g gV) (kw : PK X kws tk)
    (all : (backToKw pos (keywordEach kws X.env)).all (·.1.isSome) = true := by rfl) (nms : (backToKw pos (keywordEach kws X.env)).filterMap (·.1) = ks := by rfl) (nd : (x == ("__debug__" : Str)) = false := by decide)
    (pl : ((backTo pos (starEach [] X.env)).any (·.1) || (backToKw pos (keywordEach kws X.env)).any (·.1.isNone)) = false := by rfl) : PE X (.Call (.Name x p) [] kws pos) (tCallK sp gV E0 tNil tk) := by
  constructor
  intro pins s σ H Q I h
  have kwargs := kw.run pos pins s σ H _ I h
  apply wpAny_Call_Name_kw
  refine ld_glob I gl m (PySem.W.callWith_KW0 (h₀ := X.base) I.ok.mod.kin kp all (thn kwargs ?_) pl) nd
  rintro ws s2 ⟨zs, J, i, r, q⟩
  have rr : Vals (gV [] zs) (g [] ws) := b.rel .nil r
  have l : (g [] ws).length = ps.length := by
    rw [← rr.length]
    exact F.len _ _ _ q
  rw [nms]
  exact ⟨i.kIn, run_still F still room i q rr (b.to s2 [] ws i.kIn l)⟩
end
end Gd


set_option Elab.async false
set_option linter.all false
set_option maxRecDepth 100000
set_option maxHeartbeats 2000000
/-! a, b = a list -/
namespace Gd
open PySem PySem.Spec PyProof.Rows L2
section
variable {prog : Program} {w : World} {A : Around} {E : Value → Shared → Prop}
/-- so many of a list, from the i-th on -/
theorem drawn_list {it l : Addr} {xs : Array Value} (ne : l ≠ it) (n : Nat) : ∀ {i : Nat} {s : Shared} {Q : List Value → Shared → Prop}, s.heap.IsListIter it l i → s.heap.IsList l xs → i + n ≤ xs.size →
    (∀ g, g.IsListIter it l (i + n) → Heap.SameBut it s.heap g → Q ((xs.toList.drop i).take n) { s with heap := g }) → wpAny (model prog w) A (draw (.ref it) n) Q E s := by
  induction n with
  | zero =>
    intro i s Q at_ _ _ q
    have q := q s.heap at_ (Heap.SameBut.refl ..)
    rw [List.take_zero] at q
    exact wpAny_pure q
  | succ n ih =>
    intro i s Q at_ here le q
    have lt : i < xs.size := by omega
    have step : xs.toList.drop i = xs[i] :: xs.toList.drop (i + 1) := by
      simp [List.drop_eq_getElem_cons, lt]
    show wpAny _ _ (pyNext (.ref it) >>= _) Q E s
    apply wpAny_bind
    refine wpAny_pyNext_list_item at_ here (x := xs[i]) (by simp [lt]) ?_
    intro g at1 same1
    apply wpAny_bind
    apply wpAny_holding
    refine ih at1 (here.at fun o e => same1.extBut l o ne e) (by omega) ?_
    intro g2 at2 same2
    have q := q g2 (by rw [← Nat.add_assoc, Nat.add_right_comm]; exact at2) (same1.trans same2)
    rw [step, List.take_succ_cons] at q
    exact wpAny_pure q
theorem unpacked_list {l : Addr} {xs : Array Value} {s : Shared} {targets : List (Bool × (Value → Sem Unit))} {Q : Unit → Shared → Prop} (calm : A.handled = none) (here : s.heap.IsList l xs) (count : targets.length = xs.size) (plain : targets.findIdx? (·.1) = none)
    (k : ∀ g, (∀ b o, s.heap.get? b = some o → g.get? b = some o) → wpAny (model prog w) A (assignInOrder (targets.map (·.2)) xs.toList) Q E { s with heap := g }) : wpAny (model prog w) A (unpack (.ref l) targets) Q E s := by
  have ne : l ≠ s.heap.objs.size := by
    obtain ⟨o, e, _⟩ := here
    exact Nat.ne_of_lt (Heap.lt_size e)
  unfold unpack
  rw [count, plain]
  apply wpAny_bind
  apply wpAny_holding
  unfold unpackItems notIterableAtAll
  refine wpAny_bind (wpAny_bind (wpAny_specialOf here.typeIs slot_list_iter.lookup (wpAny_pure ?_)))
  show wpAny _ _ (holding _ (pyIter (.ref l)) >>= _) _ _ _
  refine wpAny_bind (wpAny_holding (wpAny_pyIter_list here ?_))
  have fresh : (s.heap.push { cls := .type "list_iterator", data := .fields #[.ref l, .int 0 0] }).IsListIter s.heap.objs.size l 0 := ⟨_, Heap.get?_push_size _ rfl, rfl, rfl⟩
  refine wpAny_bind (wpAny_holding (drawn_list ne xs.size fresh (here.push _) (by omega) ?_))
  intro g at_ same
  rw [List.drop_zero, List.take_of_length_le (by simp)]
  rw [if_neg (by simp)]
  have here2 : g.IsList l xs := (here.push _).at fun o e => same.extBut l o ne e
  refine wpAny_bind (wpAny_holding (wpAny_pyNext_list_end calm at_ here2 (by simp) ?_))
  intro g2 ext
  show wpAny _ _ (pure xs.toList) _ _ _
  refine wpAny_pure (k g2 fun b o e => ?_)
  have off : b ≠ s.heap.objs.size := Nat.ne_of_lt (Heap.lt_size e)
  exact ext b o off (same.extBut b o off (Heap.get?_push_of_some _ e))
end
section
variable {X : Cx} {pos : Pos}
def gSeq (K : PySem.W.Frag) (n : Nat) (t : TGs) : TG := fun v σ H Q => ∃ a xs, v = .ref a ∧ (SqL K H a xs ∨ SqT K H a xs) ∧ xs.length = n ∧ t xs σ H Q
/-- (a, b, ..) = a list or a tuple of that length -/
theorem pg_seq {es : List Expr} {k : Nat} {t : TGs} {n : Nat} (calm : X.calm = true) (h : PGs X es t) (count : (assignEach es X.env).length = n := by rfl) (plain : (assignEach es X.env).findIdx? (·.1) = none := by rfl) :
    PG X (.Tuple es k pos) (gSeq X.K n t) := by
  constructor
  rintro pins s σ H v u Q I r ⟨a, xs, rfl, sq, len, q⟩
  rcases sq with sq | sq
  · obtain rfl : u = Value.ref a := r
    obtain ⟨its, rel, here, _⟩ := I.list sq
    rw [assign_Tuple]
    apply wpAny_bind
    apply wpAny_standAt
    refine unpacked_list (I.ok.hd calm) here.isList (by rw [count, ← len, rel.length, List.size_toArray]) plain ?_
    intro g keep
    have I1 : Inv X pins σ H { s with heap := g } := I.kept (t' := s.toks) keep
    exact h.run pins _ σ H xs _ Q I1 (by simpa using rel) q
  · exact (pg_tup (pos := pos) (k := k) calm h count plain).run pins s σ H _ u Q I r ⟨a, xs, rfl, sq, len, q⟩
def iSeq (K : PySem.W.Frag) (tl : TE) : TI := fun σ H R => iList K tl σ H R ∨ iTup K tl σ H R
/-- walked: a list or a tuple -/
theorem pi_seq {tg e : Expr} {tl : TE} (h : PE X e tl) : PI X tg e (iSeq X.K tl) := by
  constructor
  rintro pins s σ H R I (q | q)
  · exact (pi_list h).run pins s σ H R I q
  · exact (pi_tup h).run pins s σ H R I q
end
end Gd


set_option Elab.async false
set_option linter.all false
set_option maxRecDepth 100000
set_option maxHeartbeats 2000000
/-! max(xs, default = d) -/
namespace Gd
open PySem PySem.Spec PyProof.Rows L2
section
variable {prog : Program} {w : World} {A : Around} {R : Result → Shared → Prop} {I S : Addr} {fp wr : List Addr} {n : Nat} {P : Nat → Value → Prop} {St : Nat → Heap → Prop} {bt : Nat → Nat → Bool} {d : Value}
/-- what the loop holds so far -/
def Held (P : Nat → Value → Prop) (bt : Nat → Nat → Bool) (j : Nat) (xs : Array Value) : Prop := (j = 0 ∧ xs = #[]) ∨ ∃ i v, j = i + 1 ∧ xs = #[v, v] ∧ P (argBest bt i) v
theorem maxD_loop (W : Walks prog w A.in1 I fp wr n P St) (cmp : CmpOf prog w A.in1 .Gt P bt) (off : S ∉ fp) : ∀ (k : Nat) {j : Nat} {s : Shared} {xs : Array Value} {c : Nat}, j + k = n → St j s.heap → Held P bt j xs →
    s.heap.get? S = some { cls := .type "list", dict := none, data := .seq xs c, slots := #[] } →
    (∀ v h' tk, ((n = 0 ∧ v = d) ∨ (0 < n ∧ P (argBest bt (n - 1)) v)) → (∀ b o, b ∉ wr → b ≠ S → s.heap.get? b = some o → h'.get? b = some o) → R (.ok (.ret v)) { s with heap := h', toks := tk }) →
    codeAny (model prog w) A (.builtin "max.loop" ⟨[.ref I, .none, .ref S], [("default", d)]⟩) R s := by
  have out : S ∉ wr := fun h => off (W.sub _ h)
  have nm : (toString "max" ++ toString ".loop" : String) = "max.loop" := by decide
  intro k
  induction k with
  | zero =>
    intro j s xs c e st held at_ fin
    apply codeAny_builtin F.entry_max_loop
    rw [Around.under_plainId F.plain_max_loop _]
    show wpAny _ A.in1 (seqItems? (.ref S) >>= _) _ _ s
    apply wpAny_bind
    apply wpAny_seqItems at_ rfl
    rcases held with ⟨j0, rfl⟩ | ⟨i, v, ji, rfl, best⟩
    · show wpAny _ A.in1 (tryCatch (pyNext (.ref I)) _ >>= _) _ _ s
      apply wpAny_bind
      refine wpAny_tryCatch (W.done s _ _ (by rw [show n = j by omega]; exact st) fun h' tk keep => ?_)
      refine wpAny_bind (wpAny_rule (wpAny_pure ?_))
      exact fin d h' tk (.inl ⟨by omega, rfl⟩) fun b o hb _ q => keep b o hb q
    · show wpAny _ A.in1 (tryCatch (pyNext (.ref I)) _ >>= _) _ _ s
      apply wpAny_bind
      refine wpAny_tryCatch (W.done s _ _ (by rw [show n = j by omega]; exact st) fun h' tk keep => ?_)
      have at2 := keep S _ out at_
      show wpAny _ A.in1 (updateSeq S (fun _ => #[]) >>= _) _ _ _
      apply wpAny_bind
      refine wpAny_updateSeq at2 rfl (wpAny_bind (wpAny_letGo (wpAny_pure ?_)))
      refine fin v _ tk (.inr ⟨by omega, by rw [show n - 1 = i by omega]; exact best⟩) fun b o hb ne q => ?_
      exact (Heap.get?_update_other _ _ (Ne.symm ne)).trans (keep b o hb q)
  | succ k ih =>
    intro j s xs c e st held at_ fin
    apply codeAny_builtin F.entry_max_loop
    rw [Around.under_plainId F.plain_max_loop _]
    show wpAny _ A.in1 (seqItems? (.ref S) >>= _) _ _ s
    apply wpAny_bind
    apply wpAny_seqItems at_ rfl
    rcases held with ⟨j0, rfl⟩ | ⟨i, vb, ji, rfl, best⟩
    · show wpAny _ A.in1 (tryCatch (pyNext (.ref I)) _ >>= _) _ _ s
      apply wpAny_bind
      refine wpAny_tryCatch (W.item j s _ _ (by omega) st fun v h' tk pv st' keep => ?_)
      have at2 := keep S _ out at_
      show wpAny _ A.in1 (updateSeq S (fun _ => #[v, v]) >>= _) _ _ _
      apply wpAny_bind
      apply wpAny_updateSeq at2 rfl
      rw [nm]
      refine wpAny_pure ⟨plainId_quiet F.plain_max_loop _, ih (j := j + 1) (by omega) (W.frame _ _ _ st' fun b hb o q => ?_) (.inr ⟨j, v, rfl, rfl, ?_⟩) (Heap.get?_update_self _ at2 rfl) fun v' h2 tk2 got keep2 => ?_⟩
      · exact (Heap.get?_update_other _ _ (fun z : S = b => off (by rw [z]; exact hb))).trans q
      · subst j0
        exact pv
      · exact fin v' h2 tk2 got fun b o hb ne q => keep2 b o hb ne ((Heap.get?_update_other _ _ (Ne.symm ne)).trans (keep b o hb q))
    · subst ji
      show wpAny _ A.in1 (tryCatch (pyNext (.ref I)) _ >>= _) _ _ s
      apply wpAny_bind
      refine wpAny_tryCatch (W.item (i + 1) s _ _ (by omega) st fun v h' tk pv st' keep => ?_)
      have at2 := keep S _ out at_
      show wpAny _ A.in1 (tryCatch (holding [v, v] (richCompare .Gt v vb >>= _)) _ >>= _) _ _ _
      apply wpAny_bind
      apply wpAny_tryCatch
      apply wpAny_holding
      apply wpAny_bind
      refine cmp (i + 1) (argBest bt i) v vb _ _ _ pv best ?_
      refine wpAny_bind (wpAny_holding (wpAny_truthy_bool ?_))
      refine wpAny_bind (wpAny_letGo (wpAny_pure ?_))
      cases hb : bt (i + 1) (argBest bt i) with
      | true =>
        simp only [if_true]
        apply wpAny_bind
        refine wpAny_updateSeq at2 rfl (wpAny_bind (wpAny_letGo ?_))
        rw [nm]
        refine wpAny_pure ⟨plainId_quiet F.plain_max_loop _, ih (j := i + 1 + 1) (by omega) (W.frame _ _ _ st' fun b hb o q => ?_) (.inr ⟨i + 1, v, rfl, rfl, by simp only [argBest, hb, if_true]; exact pv⟩) (Heap.get?_update_self _ at2 rfl) fun v' h2 tk2 got keep2 => ?_⟩
        · exact (Heap.get?_update_other _ _ (fun z : S = b => off (by rw [z]; exact hb))).trans q
        · exact fin v' h2 tk2 got fun b o hb ne q => keep2 b o hb ne ((Heap.get?_update_other _ _ (Ne.symm ne)).trans (keep b o hb q))
      | false =>
        simp only [Bool.false_eq_true, if_false]
        refine wpAny_bind (wpAny_letGo ?_)
        rw [nm]
        refine wpAny_pure ⟨plainId_quiet F.plain_max_loop _, ih (j := i + 1 + 1) (by omega) st' (.inr ⟨i + 1, vb, rfl, rfl, by simp only [argBest, hb, Bool.false_eq_true, if_false]; exact best⟩) at2 fun v' h2 tk2 got keep2 => ?_⟩
        exact fin v' h2 tk2 got fun b o hb ne q => keep2 b o hb ne (keep b o hb q)
end
theorem args_maxD (a d : Value) : argsOk "max" ⟨[a], [("default", d)]⟩ := by
  unfold argsOk
  kernel_rfl
section
variable {prog : Program} {w : World} {A : Around} {E : Value → Shared → Prop} {s : Shared} {l : Addr} {its : List Value} {ns : List Int} {Q : Value → Shared → Prop} {d : Value}
theorem maxD_call (calm : A.handled = none) (here : s.heap.IsList l its.toArray) (are : IntsAre its ns)
    (fin : ∀ v h' tk, ((ns = [] ∧ v = d) ∨ ∃ m t, v = .int m t ∧ m ∈ ns ∧ ∀ y ∈ ns, y ≤ m) → (∀ b o, s.heap.get? b = some o → h'.get? b = some o) → Q v { s with heap := h', toks := tk }) : wpAny (model prog w) A (call (.builtin "max") [.ref l] [("default", d)]) Q E s := by
  obtain ⟨xs, ex⟩ := are.allInts.items
  have nums : numsOf (intItems xs).toList = ns := by
    rw [← ex]
    exact are.numsOf
  rw [nums_intItems] at nums
  subst nums
  rw [ex] at here
  have nm : (toString "max" ++ toString ".loop" : String) = "max.loop" := by decide
  apply wpAny_call
  apply codeAny_call_builtin F.plain_max F.entry_max
  simp only [checkBuiltinCall, F.kind_max]
  have body : wpAny (model prog w) A.in1 (Builtin.«max» ⟨[.ref l], [("default", d)]⟩) (fun fin' s' => match fin' with
      | .done f => (match (Except.ok f : Result) with | .ok (.ret v) => Q v s' | .ok _ => False | .error e => E e s')
      | .again c' => c'.quiet = true ∧ codeAny (model prog w) A c' (fun r s' => match r with | .ok (.ret v) => Q v s' | .ok _ => False | .error e => E e s') s') E s := by
    show wpAny _ A.in1 (Builtin.Builtins.bindParams "max" ["key", "default"] 0 ⟨[], [("default", d)]⟩ >>= _) _ _ s
    refine wpAny_bind (wpAny_of_eq (show Builtin.Builtins.bindParams "max" ["key", "default"] 0 ⟨[], [("default", d)]⟩ = pure [none, some d] from rfl) ?_)
    refine wpAny_bind (wpAny_pure ?_)
    refine wpAny_bind (iter_intList here fun s₂ e st hfp hlI => ?_)
    subst e
    refine wpAny_bind (wpAny_newObj_type ?_)
    rw [nm]
    refine wpAny_pure ⟨plainId_quiet F.plain_max_loop _, ?_⟩
    have W := Walks.list (prog := prog) (w := w) (A := A.in1) calm s.heap.objs.size l hlI (intItems xs)
    have new : (s.heap.push { cls := .type "list_iterator", data := .fields #[.ref l, .int 0 0] }).objs.size ∉ [s.heap.objs.size, l] := fun z => Nat.lt_irrefl _ (hfp _ z)
    have st2 := W.frame 0 _  ((s.heap.push { cls := .type "list_iterator", data := .fields #[.ref l, .int 0 0] }).push { cls := .type "list", data := .seq #[] }) st fun b _ o q => Heap.get?_push_of_some _ q
    refine maxD_loop W (CmpOf.ints_gt (numAt xs) (fun _ _ => intItems_at)) new (intItems xs).size (j := 0) (xs := #[]) (c := 0) (by omega) st2 (.inl ⟨rfl, rfl⟩) (Heap.get?_push_size _ rfl) fun v h' tk got keep => ?_
    refine fin v h' tk ?_ fun b o q => ?_
    · rcases got with ⟨z, rfl⟩ | ⟨z, pv⟩
      · left
        refine ⟨?_, rfl⟩
        have : xs.size = 0 := by simpa [intItems] using z
        simp [Array.eq_empty_of_size_eq_zero this]
      · right
        have z' : 0 < xs.size := by simpa [intItems] using z
        have ez : (intItems xs).size = xs.size := by simp [intItems]
        rw [ez] at pv
        obtain ⟨t, rfl⟩ := intItems_at pv
        obtain ⟨h1, h2⟩ := argBest_gt (numAt xs) (xs.size - 1)
        refine ⟨_, t, rfl, ?_, fun y hy => ?_⟩
        · rw [numAt_eq]
          exact PySem.getD_mem (by rw [List.length_map, Array.length_toList]; omega)
        · obtain ⟨j, hj, rfl⟩ := mem_getD hy
          rw [List.length_map, Array.length_toList] at hj
          rw [← numAt_eq]
          exact h2 j (by omega)
    · have lt := Heap.lt_size q
      refine keep b o (fun z => ?_) (fun z => ?_) (Heap.get?_push_of_some _ (Heap.get?_push_of_some _ q))
      · rw [List.mem_singleton.mp z] at lt
        exact Nat.lt_irrefl _ lt
      · rw [z, Heap.size_push] at lt
        exact absurd lt (Nat.not_lt.mpr (Nat.le_succ _))
  cases hsig : Manifest.signature? "max" with
  | none => exact wpAny_pure body
  | some sig =>
    have ok := args_maxD (.ref l) d
    simp only [argsOk, hsig] at ok
    have ok2 : Bind.checkArgs "max" sig ⟨[.ref l], [("default", d)]⟩ = pure () := ok
    show wpAny _ A.in1 (Bind.checkArgs "max" sig ⟨[.ref l], [("default", d)]⟩) _ _ s
    rw [ok2]
    exact wpAny_pure body
end
section
variable {X : Cx}
/-- max(xs, default=i): the default where xs is empty -/
def rMaxD (K : PySem.W.Frag) : List V → List V → Hp → VK → Prop := fun vs zs H Q => ∃ (a : Addr) (ns : List Int) (i : Int), vs = [.ref a] ∧ zs = [.int i] ∧ SqL K H a (ns.map V.int) ∧ (ns = [] → Q (.int i) H) ∧ ∀ m, m ∈ ns → (∀ y ∈ ns, y ≤ m) → Q (.int m) H
theorem cr_maxD (calm : X.calm = true) : CallRK X (.builtin "max") ["default"] (rMaxD X.K) := by
  intro pins s σ H vs zs us ws Q I r rz h
  obtain ⟨a, ns, i, rfl, rfl, sq, q0, q1⟩ := h
  obtain ⟨its, rel, here, _⟩ := I.list sq
  rw [Vals.ref1 r]
  obtain ⟨u, rfl, t, rfl⟩ := vals1 rz
  refine maxD_call (I.ok.hd calm) here.isList rel.ints fun v h' tk got keep => ?_
  rcases got with ⟨e, rfl⟩ | ⟨m, t2, rfl, h1, h2⟩
  · exact ⟨.int i, H, I.kept keep, ⟨t, rfl⟩, q0 e⟩
  · exact ⟨.int m, H, I.kept keep, ⟨t2, rfl⟩, q1 m h1 h2⟩
end
end Gd


set_option Elab.async false
set_option linter.all false
set_option maxRecDepth 100000
set_option maxHeartbeats 4000000
/-! sets of texts: what is added, what sorted tells -/
namespace Sx
open PySem PySem.Spec PyProof.Rows L2
def txt (e : Int × Value) : Str := match e.2 with | .str x _ => x | _ => ⟨#[]⟩
def IsTxt (w : World) (e : Int × Value) : Prop := ∃ x tk, e = (hashStr w x, Value.str x tk)
def ins (x : Str) (L : List Str) : List Str := if x ∈ L then L else x :: L
/-- a table that may be walked -/
structure Tab (w : World) (es : Array (Int × Value)) (t : SetTable) : Prop where
  few : es.size < scanBound
  fit : t.fits es.size = true
  ris : Ris t.place.toList
  led : w.params.followText "set-order" = true ∨ t.led = true
/-- its entries are the texts of L, each once -/
structure Has (w : World) (es : Array (Int × Value)) (L : List Str) : Prop where
  all : ∀ e ∈ es.toList, IsTxt w e
  perm : (es.toList.map txt).Perm L
  once : L.Nodup
def SetS (w : World) (h : Heap) (a : Addr) (L : List Str) : Prop := ∃ o es ep t, h.get? a = some o ∧ o.ExactSet ∧ o.data = .set es ep t ∧ Has w es L ∧ Tab w es t
section
variable {P : Program} {w : World} {es es' : Array (Int × Value)} {L : List Str} {x : Str} {tk : Tok}
theorem Has.len (H : Has w es L) : L.length = es.size := by rw [← H.perm.length_eq, List.length_map, Array.length_toList]
theorem Has.elems (H : Has w es L) : ElemsOf (strKind P w) es.toList := fun e he => by
  obtain ⟨y, k, rfl⟩ := H.all e he
  exact ⟨⟨y, strKind_is P w y k, rfl⟩, rfl⟩
theorem Has.mem (H : Has w es L) : x ∈ L ↔ ∃ e ∈ es.toList, (strKind P w).is x e.2 = true := by
  rw [← H.perm.mem_iff, List.mem_map]
  have key : ∀ e ∈ es.toList, (txt e = x ↔ (strKind P w).is x e.2 = true) := fun e he => by
    obtain ⟨y, k, rfl⟩ := H.all e he
    exact ⟨fun q => by rw [show y = x from q]; exact strKind_is P w x k, fun q => (strKind P w).inj _ _ _ (strKind_is P w y k) q⟩
  exact ⟨fun ⟨e, he, q⟩ => ⟨e, he, (key e he).mp q⟩, fun ⟨e, he, q⟩ => ⟨e, he, (key e he).mpr q⟩⟩
theorem Has.move (H : Has w es L) (p : es'.toList.Perm es.toList) : Has w es' L := ⟨fun e he => H.all e (p.mem_iff.mp he), (p.map txt).trans H.perm, H.once⟩
theorem Has.more (H : Has w es L) (n : x ∉ L) (p : es'.toList.Perm ((hashStr w x, Value.str x tk) :: es.toList)) : Has w es' (x :: L) :=
  ⟨fun e he => (List.mem_cons.mp (p.mem_iff.mp he)).elim (fun q => ⟨x, tk, q⟩) (H.all e), (p.map txt).trans (H.perm.cons x), List.nodup_cons.mpr ⟨n, H.once⟩⟩
theorem SetS.keep {h h' : Heap} {a : Addr} (R : SetS w h a L) (k : ∀ o, h.get? a = some o → h'.get? a = some o) : SetS w h' a L := let ⟨o, es, ep, t, q, r⟩ := R; ⟨o, es, ep, t, k o q, r⟩
end
section
variable {P : Program} {w : World} {A : Around} {E : Value → Shared → Prop} {s : Shared} {a : Addr} {L : List Str} {x : Str} {tk : Tok}
theorem laidAt {h : Heap} {o : Obj} {es es' : Array (Int × Value)} {ep : Nat} {t t' : SetTable} (ho : h.get? a = some o) (hd : o.data = .set es ep t) : (h.update a (Obj.putSet es' t')).get? a = some { o with data := .set es' (ep + 1) t' } := by
  have e := Heap.get?_update_self (Obj.putSet es' t') ho (by rw [putSet_of es' t' hd] <;> rfl)
  exact e.trans (congrArg some (putSet_of es' t' hd))
/-- the entries are laid, and laid anew if the table is too full -/
theorem lay_end {g : Bool → Sem Unit} (hg : ∀ (b : Bool) (s1 : Shared) (G : Unit → Shared → Prop), G () s1 → wpAny (model P w) A (g b) G E s1) {o : Obj} {es : Array (Int × Value)} {ep : Nat} {t : SetTable}
    (ho : s.heap.get? a = some o) (hx : o.ExactSet) (hd : o.data = .set es ep t) {e1 : Array (Int × Value)} {t1 : SetTable} (hs : Has w e1 L) (ht : Tab w e1 t1) {dm : Bool} {R : Option Bool → Shared → Prop}
    (k : ∀ h', Heap.SameBut a s.heap h' → SetS w h' a L → R (some true) { s with heap := h' }) :
    wpAny (model P w) A (do
      storeSet a e1 t1
      if (!dm && t1.tooFull) = true then do
          g (relayAll t1 e1 (SetTable.grown e1.size)).2.2
          storeSet a (relayAll t1 e1 (SetTable.grown e1.size)).1 (relayAll t1 e1 (SetTable.grown e1.size)).2.1
          pure (some true)
        else pure (some true)) R E s := by
  have at1 := laidAt (es' := e1) (t' := t1) ho hd
  have sb := Heap.SameBut.update s.heap a (Obj.putSet e1 t1)
  refine wpAny_bind (wpAny_storeSet_of ho hd ?_ (fits_of_scanBound ht.few))
  by_cases c : (!dm && t1.tooFull) = true
  · rw [if_pos c]
    have p := relayAll_perm t1 e1 (SetTable.grown e1.size)
    have ft := relayAll_fits t1 e1 (SetTable.grown e1.size)
    have ri := relayAll_ris t1 e1 (SetTable.grown e1.size)
    have le := relayAll_led t1 e1 (SetTable.grown e1.size)
    revert p ft ri le
    obtain ⟨e2, t2, gv⟩ := relayAll t1 e1 (SetTable.grown e1.size)
    intro p ft ri le
    have z : e2.size = e1.size := by simpa using p.length_eq
    have f2 : e2.size < scanBound := z ▸ ht.few
    refine wpAny_bind (hg gv _ _ (wpAny_bind (wpAny_storeSet_of at1 rfl (wpAny_pure ?_) (fits_of_scanBound f2))))
    exact k _ (sb.trans (.update _ a _)) ⟨_, e2, _, t2, laidAt at1 rfl, hx, rfl, hs.move p, f2, ft, ri, ht.led.imp_right fun q => le.trans q⟩
  · rw [if_neg c]
    exact wpAny_pure (k _ sb ⟨_, e1, _, t1, at1, hx, rfl, hs, ht⟩)
theorem gave_ok {m : Sem Unit} (hm : m = pure () ∨ ∃ r, m = rule r) {G : Unit → Shared → Prop} (q : G () s) : wpAny (model P w) A m G E s := by
  rcases hm with rfl | ⟨r, rfl⟩
  · exact wpAny_pure q
  · exact wpAny_rule q
theorem add_hashed {G : Bool → Shared → Prop} (R : SetS w s.heap a L) (room : L.length + 1 < scanBound) (k : ∀ b h', Heap.SameBut a s.heap h' → SetS w h' a (ins x L) → G b { s with heap := h' }) :
    wpAny (model P w) A (setAddHashed a (.str x tk) ((strKind P w).hash x)) G E s := by
  obtain ⟨o, es, ep, t, ho, hx, hd, hs, ht⟩ := R
  have el := hs.elems (P := P)
  have ik := strKind_is P w x tk
  have sc : (Value.str x tk).scannable = true := rfl
  unfold setAddHashed setAddHashedIn
  refine wpAny_holding (wpAny_bind (wpAny_setState_of ho hd ht.fit ?_))
  dsimp only
  rw [if_pos (byScan_of sc ht.few el)]
  unfold setAddByScan
  refine wpAny_bind (wpAny_bind (wpAny_rule (wpAny_bind (wpAny_setScan_of ik ho hd ht.fit el ?_))))
  by_cases m : x ∈ L
  · obtain ⟨e, he, q⟩ := (hs.mem (P := P)).mp m
    cases f : List.findIdx? (fun e => (strKind P w).is x e.2) es.toList with
    | none => exact absurd ((List.findIdx?_eq_none_iff.mp f e he).symm.trans q) Bool.false_ne_true
    | some j => exact wpAny_pure (wpAny_pure (k false s.heap (.refl a s.heap) ⟨o, es, ep, t, ho, hx, hd, by unfold ins; rw [if_pos m]; exact hs, ht⟩))
  · cases f : List.findIdx? (fun e => (strKind P w).is x e.2) es.toList with
    | some j =>
      obtain ⟨h1, h2, _⟩ := List.findIdx?_eq_some_iff_getElem.mp f
      exact absurd ((hs.mem (P := P)).mpr ⟨_, List.getElem_mem h1, h2⟩) m
    | none =>
      have p := layNew_perm t es ((strKind P w).hash x) (.str x tk)
      have ft := layNew_fits t es ((strKind P w).hash x) (.str x tk)
      have ri := layNew_ris t es ((strKind P w).hash x) (.str x tk) ht.ris
      have le := layNew_led t es ((strKind P w).hash x) (.str x tk)
      dsimp only
      revert p ft ri le
      obtain ⟨e1, t1, dm, gv⟩ := layNew t es ((strKind P w).hash x) (.str x tk)
      dsimp only
      intro p ft ri le
      rw [Array.toList_push] at p
      have hs1 : Has w e1 (x :: L) := hs.more m (tk := tk) (p.trans (List.perm_append_singleton _ _))
      have few : e1.size < scanBound := by rw [← hs1.len]; exact room
      have led : w.params.followText "set-order" = true ∨ t1.led = true := ht.led.imp_right fun q => le.trans q
      have ie : ins x L = x :: L := if_neg m
      rw [ie] at k
      refine wpAny_bind (gave_ok (by cases gv <;> first | exact .inl rfl | exact .inr ⟨_, rfl⟩) ?_)
      split
      · rw [hashByValue_scannable 8 sc]
        refine wpAny_bind (wpAny_pure (lay_end (fun b s1 G q => gave_ok (by cases b <;> first | exact .inl rfl | exact .inr ⟨_, rfl⟩) q) ho hx hd hs1 ⟨few, ?_, ?_, ?_⟩ fun h' sb r => wpAny_pure (k true h' sb r)))
        · first | (split <;> first | exact ft | exact SetTable.fits_plain_off ft) | exact ft
        · first | (split <;> exact ri) | exact ri
        · first | (split <;> exact led) | exact led
      · refine wpAny_bind (wpAny_pure ?_)
        simp only [↓reduceIte]
        exact lay_end (fun b s1 G q => gave_ok (by cases b <;> first | exact .inl rfl | exact .inr ⟨_, rfl⟩) q) ho hx hd hs1 ⟨few, ft, ri, led⟩ fun h' sb r => wpAny_pure (k true h' sb r)
theorem add_txt {G : Value → Shared → Prop} (R : SetS w s.heap a L) (room : L.length + 1 < scanBound) (k : ∀ h', Heap.SameBut a s.heap h' → SetS w h' a (ins x L) → G .none { s with heap := h', toks := s.toks + 1 }) :
    wpAny (model P w) A (call (.builtin "set.add") [.ref a, .str x tk]) G E s := by
  obtain ⟨o, es, ep, t, ho, hx, _⟩ := id R
  refine wpAny_call_entry F.slot_set_add (show s.TypeIs (.ref a) "set" from ⟨o, ho, hx.1⟩) F.entry_set_add ?_ (F.args_set_add_2 _ _)
  unfold Builtin.«set.add» Builtin.Frozenset.oneOther
  simp only [List.isEmpty_nil, bind_assoc]
  unfold Builtin.Frozenset.addrOf setAdd
  refine wpAny_bind (wpAny_pure (wpAny_bind (wpAny_pure (wpAny_bind (wpAny_holding (wpAny_bind ((strKind P w).pyHash (strKind_is P w x tk) ?_)))))))
  exact add_hashed (s := { s with toks := s.toks + 1 }) R room fun _ h' sb r => wpAny_pure ⟨_, rfl, k h' sb r⟩
theorem new_txt (h : Heap) : SetS w (h.push { cls := .type "set", dict := none, data := .set #[] 0 (.fresh 0 0 (!w.params.followText "set-order")) }) h.objs.size [] :=
  ⟨_, #[], 0, _, Heap.get?_push_size _ rfl, ⟨rfl, rfl, rfl⟩, rfl, ⟨fun e he => (by simp at he), .refl _, List.Pairwise.nil⟩, by decide, rfl, List.Pairwise.nil, by
    show _ ∨ (!w.params.followText "set-order") = true
    cases w.params.followText "set-order" <;> first | exact .inl rfl | exact .inr rfl⟩
end
/-! tracked -/
def SetSO (w : World) (a : Addr) (L : List Str) : HO := .ext fun h => SetS w h a L
section
variable {X : Cx} {pins : List (Addr × Obj)} {σ : L2.St} {H : Hp} {s : Shared}
theorem setSO_ok {w : World} {P : Program} {h : Heap} {a : Addr} {L : List Str} (R : SetS w h a L) : ObjOk P w H h a (SetSO w a L) :=
  ⟨R, let ⟨o, _, _, _, q, _⟩ := R; ⟨o, q⟩, fun _ _ p k => SetS.keep p k⟩
theorem addS_ok {E : Value → Shared → Prop} {D : Addr} {L : List Str} {y : Str} {v : Value} {Q : Value → Shared → Prop} (I : Inv X pins σ H s) (hD : H D = some (SetSO X.w D L)) (room : L.length + 1 < scanBound) (r : RelV (.str y) v)
    (k : ∀ s', Inv X pins σ (upd H D (SetSO X.w D (ins y L))) s' → Q .none s') : wpAny (model X.prog X.w) X.A (call (.builtin "set.add") [.ref D, v]) Q E s := by
  obtain ⟨tk, rfl⟩ := r
  have R : SetS X.w s.heap D L := (I.hok D _ hD).1
  refine add_txt R room fun h' sb new => k _ (I.write (e := D) (t' := s.toks + 1) (by rw [hD]; trivial) (.inl rfl) (fun b u hb hu => (sb.2 b hb).trans hu) ?_ (setSO_ok new))
  obtain ⟨o, _, _, _, q, _⟩ := new
  exact ⟨o, q⟩
/-- sorted of such a set -/
def srtT (ks : List Str) : List Str := ks.mergeSort (PySem.W.dataLe false PyData.str)
def rSortS (w : World) : List V → Hp → VK → Prop := fun vs H Q => ∃ (a : Addr) (L : List Str), vs = [.ref a] ∧ H a = some (SetSO w a L) ∧ L.length ≤ 4000 ∧
  ∀ (ks : List Str) (p : Addr), ks.Perm L → H p = none → Q (.ref p) (upd H p (.lst ((srtT ks).map V.str)))
theorem vals_txt : ∀ {vs : List Value} {ks : List Str}, PySem.W.EachIs (fun v x => ∃ tk, v = Value.str x tk) vs ks → Vals (ks.map V.str) vs
  | _, _, .nil => .nil
  | _, _, .cons h t => .cons h (vals_txt t)
theorem each_txt {w : World} : ∀ {vs : List Value}, (∀ v ∈ vs, ∃ x tk, v = Value.str x tk) → PySem.W.EachIs (fun v x => ∃ tk, v = Value.str x tk) vs (vs.map fun v => txt (0, v))
  | [], _ => .nil
  | v :: r, h => .cons (by obtain ⟨x, tk, rfl⟩ := h v List.mem_cons_self; exact ⟨tk, rfl⟩) (each_txt (w := w) fun u hu => h u (List.mem_cons_of_mem _ hu))
theorem cr_sortS (hc : X.calm = true) (hu : X.A.units + 64 < cLine) : CallR X (.builtin "sorted") (rSortS X.w) := by
  intro pins s σ H vs us Q I r h
  obtain ⟨a, L, rfl, ha, hl, q⟩ := h
  obtain rfl := Vals.ref1 r
  have R : SetS X.w s.heap a L := (I.hok a _ ha).1
  obtain ⟨o, es, ep, t, ho, hx, hd, hs, ht⟩ := R
  refine Calls.call_function_entry kind_sorted plain_sorted entry_sorted (args_sorted1 _) ?_
  unfold Builtin.«sorted»
  refine wpAny_bind (m := checkCount "sorted" 1 1 _) (wpAny_pure (wpAny_bind (collect_set (A := X.A.in1) (I.ok.hd hc) ⟨o, ho, hx.1, hd⟩ ht.fit ht.few ht.ris ht.led fun s1 vs k1 hz g1 o1 pm => ?_)))
  have hv : ∀ v ∈ vs, ∃ x tk, v = Value.str x tk := fun v hv => by
    obtain ⟨e, he, rfl⟩ := List.mem_map.mp (pm.mem_iff.mp hv)
    obtain ⟨x, tk, rfl⟩ := hs.all e he
    exact ⟨x, tk, rfl⟩
  have pk : (vs.map fun v => txt (0, v)).Perm L := by
    have := pm.map fun v => txt (0, v)
    rw [List.map_map] at this
    exact this.trans hs.perm
  have ei := each_txt (w := X.w) hv
  generalize vs.map (fun v => txt (0, v)) = ks at pk ei
  have hln : ks.length ≤ 4000 := by rw [pk.length_eq]; exact hl
  have hvl : vs.length = ks.length := ei.length
  refine wpAny_bind (wpAny_newList ?_ (by rw [hvl, sizeLine_eq]; omega))
  have hob : (s1.heap.push (seqObj "list" vs.toArray 0)).get? s1.heap.objs.size = some (seqObj "list" vs.toArray 0) := Heap.get?_push_size _ rfl
  refine wpAny_bind (wpAny_holding (PySem.W.list_sort_data (s := { s1 with heap := s1.heap.push (seqObj "list" vs.toArray 0) }) (enc := PyData.str) hob ei (ei.mono fun v x ⟨tk, e⟩ => ⟨[], by subst e; exact Reads.str _ _, by simp⟩) (.of fun _ _ => rfl) (.others fun _ => ⟨nofun, nofun⟩) (by rw [sizeLine_eq]; omega) (fun b _ => ?_) fun out hlen hout => ?_))
  · show X.A.units + 1 + 1 + 0 < cLine
    omega
  obtain ⟨c, hc2⟩ := sortedHeap_at (vs := vs) (out := out.toArray) hob
  have kk : ∀ b u, s.heap.get? b = some u → (sortedHeap (s1.heap.push (seqObj "list" vs.toArray 0)) s1.heap.objs.size vs out.toArray).get? b = some u := fun b u e => by
    have e1 := k1 b u e
    have lt := Heap.lt_size e1
    rw [sortedHeap_old (Nat.ne_of_lt lt) (by rw [Heap.size_push]; exact Nat.lt_succ_of_lt lt)]
    exact Heap.get?_push_of_some _ e1
  have hn : H s1.heap.objs.size = none := I.hok.fresh hz
  have len2 : ((srtT ks).map V.str).length ≤ sizeLine := by
    unfold srtT
    rw [List.length_map, List.length_mergeSort, sizeLine_eq]
    omega
  refine wpAny_pure ⟨_, rfl, ?_⟩
  have J : Inv X pins σ (upd H s1.heap.objs.size (.lst ((srtT ks).map V.str))) { s with heap := sortedHeap (s1.heap.push (seqObj "list" vs.toArray 0)) s1.heap.objs.size vs out.toArray, gens := s1.gens, drawn := s1.drawn, toks := s1.toks } :=
    I.call (ch := []) (Un.laid kk hz hn) (I.hok.laid kk hz ⟨len2, out, c, vals_txt hout, hc2⟩) (by rw [g1]; exact I.bare) (fun _ z => nomatch z)
  refine ⟨.ref s1.heap.objs.size, _, ?_, rfl, q ks _ pk hn⟩
  have e : ({ s1 with heap := sortedHeap (s1.heap.push (seqObj "list" vs.toArray 0)) s1.heap.objs.size vs out.toArray } : Shared) = { s with heap := sortedHeap (s1.heap.push (seqObj "list" vs.toArray 0)) s1.heap.objs.size vs out.toArray, gens := s1.gens, drawn := s1.drawn, toks := s1.toks } := by
    cases s1
    cases s
    cases o1
    rfl
  rw [e]
  exact J
end
end Sx


set_option Elab.async false
set_option linter.all false
set_option maxRecDepth 100000
set_option maxHeartbeats 4000000
/-! {text for .. in .. for .. in ..} -/
namespace Sx
open PySem PySem.Spec PyProof.Rows L2
abbrev two (t0 i0 t1 i1 : Expr) : List Comprehension := [⟨t0, i0, [], 0⟩, ⟨t1, i1, [], 0⟩]
section
variable {elt t0 i0 t1 i1 : Expr} {scope : Scope} {pos : Pos} {it acc : Value} {env : Env}
theorem turn0 : compTurn (.SetComp elt (two t0 i0 t1 i1) scope pos) 0 it acc env = (do
    standAt i0.pos
    match ← pyNext it with
    | none => pure (.done .next)
    | some v =>
      letOwnedTupleGo t0 it v
      assign t0 env v
      let x ← eval i1 env
      standAt i1.pos
      let x ← foldedSetIterable i1 env x
      let _ ← runOwn (.compStart (.SetComp elt (two t0 i0 t1 i1) scope pos) 1 (← holding [x] (pyIter x)) acc env) env
      again (.compLoop (.SetComp elt (two t0 i0 t1 i1) scope pos) 0 it acc env)) := by rfl
theorem turn1 : compTurn (.SetComp elt (two t0 i0 t1 i1) scope pos) 1 it acc env = (do
    standAt i1.pos
    match ← pyNext it with
    | none => pure (.done .next)
    | some v =>
      letOwnedTupleGo t1 it v
      assign t1 env v
      (do let x ← eval elt env; standAt elt.pos; let _ ← call (.builtin "set.add") [acc, x])
      again (.compLoop (.SetComp elt (two t0 i0 t1 i1) scope pos) 1 it acc env)) := by rfl
end
section
variable {M : Program} {w : World} {A : Around} {R : Result → Shared → Prop} {s : Shared} {elt t0 i0 t1 i1 : Expr} {scope : Scope} {pos : Pos} {it acc : Value} {env : Env}
/-- where an error goes -/
abbrev Er (M : Program) (w : World) (A : Around) (env : Env) (R : Result → Shared → Prop) := notedBy (model M w) A env fun e s' => R (.error e) s'
theorem loop0 (hs : ∀ x, foldedSetIterable i1 env x = pure x) (I : Nat → Shared → Prop) (go : ∀ n s, I n s → wpAny (model M w) A (pyNext it) (fun r s1 => match r with
    | none => R (.ok .next) s1
    | some v => wpAny (model M w) A (letOwnedTupleGo t0 it v) (fun _ s2 => wpAny (model M w) A (assign t0 env v) (fun _ s3 => wpAny (model M w) A (eval i1 env) (fun x s4 => wpAny (model M w) A (pyIter x) (fun j s5 =>
        codeAny (model M w) A (.compStart (.SetComp elt (two t0 i0 t1 i1) scope pos) 1 j acc env) (fun r s6 => match r with
          | .ok _ => ∃ m, m < n ∧ I m s6
          | .error _ => False) s5) (Er M w A env R) s4) (Er M w A env R) s3) (Er M w A env R) s2) (Er M w A env R) s1) (Er M w A env R) s) (n : Nat) (h : I n s) :
    codeAny (model M w) A (.compLoop (.SetComp elt (two t0 i0 t1 i1) scope pos) 0 it acc env) R s := by
  refine codeAny_loop rfl I (fun n s hI => ?_) n h
  show wpAny _ A ((compTurn (.SetComp elt (two t0 i0 t1 i1) scope pos) 0 it acc env).onRaise (fun x => do noteFrame x env; theTreesLotGoes x)) _ _ s
  refine wpAny_noted ?_
  rw [turn0]
  refine wpAny_bind (wpAny_standAt (wpAny_bind (wpAny_mono (go n s hI) (fun r s1 h1 => ?_) fun _ _ q => q)))
  match r, h1 with
  | none, h1 => exact wpAny_pure h1
  | some v, h1 =>
    refine wpAny_bind (wpAny_mono h1 (fun _ s2 h2 => wpAny_bind (wpAny_mono h2 (fun _ s3 h3 => wpAny_bind (wpAny_mono h3 (fun x s4 h4 => ?_) fun _ _ q => q)) fun _ _ q => q)) fun _ _ q => q)
    refine wpAny_bind (wpAny_standAt (wpAny_bind (wpAny_of_eq (hs x) (wpAny_bind (wpAny_holding (wpAny_mono h4 (fun j s5 h5 => wpAny_bind (wpAny_runOwn ?_)) fun _ _ q => q))))))
    rw [Around.mark_none]
    refine codeAny_mono h5 fun r s6 h6 => ?_
    match r, h6 with
    | .ok f, h6 => first
        | exact wpAny_pure ⟨rfl, h6⟩
        | exact wpAny_bind (wpAny_pure (wpAny_pure ⟨rfl, h6⟩))
    | .error e, h6 => exact h6.elim
theorem loop1 (I : Nat → Shared → Prop) (go : ∀ n s, I n s → wpAny (model M w) A (pyNext it) (fun r s1 => match r with
    | none => R (.ok .next) s1
    | some v => wpAny (model M w) A (letOwnedTupleGo t1 it v) (fun _ s2 => wpAny (model M w) A (assign t1 env v) (fun _ s3 => wpAny (model M w) A (eval elt env) (fun x s4 =>
        wpAny (model M w) A (call (.builtin "set.add") [acc, x]) (fun _ s5 => ∃ m, m < n ∧ I m s5) (Er M w A env R) s4) (Er M w A env R) s3) (Er M w A env R) s2) (Er M w A env R) s1) (Er M w A env R) s) (n : Nat) (h : I n s) :
    codeAny (model M w) A (.compLoop (.SetComp elt (two t0 i0 t1 i1) scope pos) 1 it acc env) R s := by
  refine codeAny_loop rfl I (fun n s hI => ?_) n h
  show wpAny _ A ((compTurn (.SetComp elt (two t0 i0 t1 i1) scope pos) 1 it acc env).onRaise (fun x => do noteFrame x env; theTreesLotGoes x)) _ _ s
  refine wpAny_noted ?_
  rw [turn1]
  refine wpAny_bind (wpAny_standAt (wpAny_bind (wpAny_mono (go n s hI) (fun r s1 h1 => ?_) fun _ _ q => q)))
  match r, h1 with
  | none, h1 => exact wpAny_pure h1
  | some v, h1 =>
    refine wpAny_bind (wpAny_mono h1 (fun _ s2 h2 => wpAny_bind (wpAny_mono h2 (fun _ s3 h3 => ?_) fun _ _ q => q)) fun _ _ q => q)
    exact wpAny_bind (wpAny_bind (wpAny_mono h3 (fun x s4 h4 => wpAny_bind (wpAny_standAt (wpAny_bind (wpAny_mono h4 (fun _ s5 h5 => wpAny_pure (wpAny_pure ⟨rfl, h5⟩)) fun _ _ q => q)))) fun _ _ q => q))
theorem start1 (h0 : codeAny (model M w) A (.compLoop (.SetComp elt (two t0 i0 t1 i1) scope pos) 1 it acc env) R s)
    (h : wpAny (model M w) A (pyIter it) (fun j s' => codeAny (model M w) A (.compLoop (.SetComp elt (two t0 i0 t1 i1) scope pos) 1 j acc env) R s') (Er M w A env R) s) :
    codeAny (model M w) A (.compStart (.SetComp elt (two t0 i0 t1 i1) scope pos) 1 it acc env) R s := by
  refine codeAny_of_tree ?_
  show wpAny _ _ ((compStart (.SetComp elt (two t0 i0 t1 i1) scope pos) 1 it acc env).onRaise (fun x => do noteFrame x env; standAt theWindowsPlace)) _ _ s
  refine wpAny_notedAt ?_
  unfold compStart
  show wpAny _ _ (ask >>= _) _ _ s
  refine wpAny_bind (wpAny_askSetting (wpAny_ite ?_))
  split
  · first | exact wpAny_bind (wpAny_pure (wpAny_pure ⟨rfl, h0⟩)) | exact wpAny_pure ⟨rfl, h0⟩
  · refine wpAny_bind (wpAny_rule ?_)
    first
      | exact wpAny_bind (wpAny_standAt (wpAny_bind (wpAny_mono h (fun j s' q => wpAny_pure ⟨rfl, q⟩) fun _ _ x => x)))
      | (show wpAny _ _ (standAt i1.pos >>= _) _ _ s; exact wpAny_bind (wpAny_standAt (wpAny_bind (wpAny_mono h (fun j s' q => wpAny_pure ⟨rfl, q⟩) fun _ _ x => x))))
end
end Sx


set_option Elab.async false
set_option linter.all false
set_option maxRecDepth 100000
set_option maxHeartbeats 8000000
namespace Sx
open PySem PySem.Spec PyProof.Rows L2 PpSet
/-- {elt for tg in iter for tg1 in iter1}, elt a text; vs: the block's names, vs1: those of the second target -/
def tSc2 (w : World) (wi : TI) (g : TG) (wi1 : TI) (g1 : TG) (te : TE) (vs vs1 : List Nat) : TE := fun σ H Q => wi σ H fun J H1 => ∀ D, H1 D = none → ∃ W : Nat → Nat → Hp → Prop, (∃ m, W 0 m (upd H1 D (SetSO w D []))) ∧
  ∀ i m H, W i m H → (J.stop i H ∧ Q (.ref D) H) ∨ (J.go i H ∧ ∃ Nx : Hp → Prop, (∀ H', Nx H' → ∃ m', m' < m ∧ W (i + 1) m' H') ∧ ∀ x H', J.yld i H x H' → g x (wipe σ vs) H' fun σ2 H2 => wipe σ2 vs = wipe σ vs ∧
    wi1 σ2 H2 fun J1 H4 => ∃ W1 : Nat → Nat → Hp → Prop, (∃ m, W1 0 m H4) ∧ ∀ j k H, W1 j k H → (J1.stop j H ∧ Nx H) ∨ (J1.go j H ∧ ∃ Nx1 : Hp → Prop, (∀ H', Nx1 H' → ∃ k', k' < k ∧ W1 (j + 1) k' H') ∧
      ∀ x H', J1.yld j H x H' → g1 x (wipe σ2 vs1) H' fun σ3 H5 => wipe σ3 vs1 = wipe σ2 vs1 ∧ te σ3 H5 fun y H7 => ∃ (t : Str) (L : List Str), y = .str t ∧ H7 D = some (SetSO w D L) ∧ L.length + 1 < scanBound ∧ Nx1 (upd H7 D (SetSO w D (ins t L)))))
section
variable {X : Cx}
/-- what a rule of the block's is asked for -/
abbrev Blk (X : Cx) (scope : Scope) (F : Cx → Prop) : Prop := ∀ (s : Shared) (H : Hp) (C : Addr) (cl : List (Str × Addr)) (fp : List Addr), F (X.blk s H scope (compEnvC scope cl C X.env) fp)
theorem pe_sc2 {elt tg iter tg1 iter1 : Expr} {scope : Scope} {own : List (Str × Nat)} {vs1 : List Nat} {pos : Pos} {wi wi1 : TI} {g g1 : TG} {te : TE} (hc : X.calm = true) (hN : X.N.Nodup) (hi : PI X tg iter wi) (ok : BlkOk X.N X.env.scope scope own) (hv : ∀ i ∈ vs1, i ∈ own.map (·.2))
    (hg : Blk X scope fun Y => PG Y tg g) (hi1 : Blk X scope fun Y => PI Y tg1 iter1 wi1) (hg1 : Blk X scope fun Y => PG Y tg1 g1) (he : Blk X scope fun Y => PE Y elt te)
    (hs : ∀ x, foldedSetIterable iter X.env x = pure x := by intro _; rfl) (hs1 : ∀ env x, foldedSetIterable iter1 env x = pure x := by intro _ _; rfl) :
    PE X (.SetComp elt (two tg iter tg1 iter1) scope pos) (tSc2 X.w wi g wi1 g1 te (own.map (·.2)) vs1) := by
  refine ⟨fun pins s σ H Q I h => ?_⟩
  rw [PpSet.eval_SetComp]
  have fr : ∀ y ∈ scope.names, y.2 = .free → ∃ c, X.env.cells.lookup y.1 = some c := fun y hy e => (ok.free y hy e).elim (fun k => I.ok.has _ (.inl k)) fun k => I.ok.has _ (.inr k)
  refine wpAny_comprehension_free (use := none) rfl hs (closure_ok fr) ok.kind (fun y hy e => by rw [ok.uniq y hy, e]) (thn (hi.run pins s σ H _ I h) fun xv s1 hx => thn hx fun itv s2 h2 => ?_)
  obtain ⟨it, fp, tn, J, H2, rfl, I2, T, st2, f2, q⟩ := h2
  refine newSet_ok (newEnv_comp ?_)
  generalize hD : s2.heap.objs.size = D
  obtain ⟨W, ⟨m0, w0⟩, turn⟩ := q D (I2.hok.fresh (Nat.le_of_eq hD))
  -- the new set
  generalize hs3 : ({ s2 with heap := s2.heap.push { cls := .type "set", dict := none, data := .set #[] 0 (.fresh 0 0 (!X.w.params.followText "set-order")) } } : Shared) = s3
  have up : ∀ b o, s2.heap.get? b = some o → s3.heap.get? b = some o := fun b o e => by rw [← hs3]; exact Heap.get?_push_of_some _ e
  have sz3 : s3.heap.objs.size = s2.heap.objs.size + 1 := by rw [← hs3]; exact Heap.size_push ..
  have I3 : Inv X pins σ (upd H2 D (SetSO X.w D [])) s3 := by
    rw [← hs3]
    refine I2.laid (t' := s2.toks) (fun b o e => Heap.get?_push_of_some _ e) (Nat.le_of_eq hD) (setSO_ok ?_)
    rw [← hD]
    exact new_txt _
  have low : ∀ b ∈ fp, b < s2.heap.objs.size := fun b hb => let ⟨o, e, _⟩ := T.obj _ _ st2 b hb; Heap.lt_size e
  have f3 : ∀ b ∈ fp, FpOk X pins (upd H2 D (SetSO X.w D [])) b ∧ b < s3.heap.objs.size := fun b hb =>
    ⟨⟨by rw [upd_ne (by rw [← hD]; exact Nat.ne_of_lt (low b hb))]; exact (f2 b hb).1, (f2 b hb).2⟩, by rw [sz3]; exact Nat.lt_succ_of_lt (low b hb)⟩
  have st3 : tn 0 s3.heap := T.keep _ _ _ st2 fun b _ o e => up b o e
  have I4 := block_start I3 ok hN f3
  generalize hH3 : upd H2 D (SetSO X.w D []) = H3 at I3 I4 w0 f3
  have pg := hg s3 H3 s3.heap.objs.size (cellsFrom (s3.heap.objs.size + 1) scope.names (cloFrom X.env.cells scope.names [])) fp
  have pe := he s3 H3 s3.heap.objs.size (cellsFrom (s3.heap.objs.size + 1) scope.names (cloFrom X.env.cells scope.names [])) fp
  have pi1 := hi1 s3 H3 s3.heap.objs.size (cellsFrom (s3.heap.objs.size + 1) scope.names (cloFrom X.env.cells scope.names [])) fp
  have pg1 := hg1 s3 H3 s3.heap.objs.size (cellsFrom (s3.heap.objs.size + 1) scope.names (cloFrom X.env.cells scope.names [])) fp
  show codeAny _ _ (.compStart (.SetComp elt (two tg iter tg1 iter1) scope pos) 0 (.ref it) (.ref D) (compEnvC scope (cellsFrom (s3.heap.objs.size + 1) scope.names (cloFrom X.env.cells scope.names [])) s3.heap.objs.size X.env))
    (compPost (model X.prog X.w) X.A X.xe none (EP X pins σ Q) (.ref D) s3.heap.objs.size) { s3 with heap := pushCells (s3.heap.push { cls := .type "dict", data := .dict #[] }) scope.names }
  generalize hce : compEnvC scope (cellsFrom (s3.heap.objs.size + 1) scope.names (cloFrom X.env.cells scope.names [])) s3.heap.objs.size X.env = ce at I4 pg pe pi1 pg1 ⊢
  have cL : ce.locals = s3.heap.objs.size := by subst hce; rfl
  generalize hs4 : ({ s3 with heap := pushCells (s3.heap.push { cls := .type "dict", data := .dict #[] }) scope.names } : Shared) = s4 at I4 ⊢
  have st4 : tn 0 s4.heap := T.keep _ _ _ st3 fun b _ o e => by rw [← hs4]; exact pushCells_keeps _ _ _ _ (Heap.get?_push_of_some _ e)
  have stat : ∀ {σ' : L2.St} {H' : Hp} {s' : Shared}, Inv (X.blk s3 H3 scope ce fp) [] σ' H' s' → (∀ b ∈ fp, H' b = none) → ∀ b ∈ fp, FpOk (X.blk s3 H3 scope ce fp) [] H' b := fun {σ' H' s'} I' hn b hb =>
    ⟨hn b hb, (I'.ok.exf b hb).1, I'.ok.exfs b hb, .inl hb, fun x c e => (I'.ok.exf b hb).2 x c e, fun p hp => nomatch (show p ∈ ([] : List (Addr × Obj)) ++ [] from hp)⟩
  -- what holds ahead of each turn of the first clause
  let B : Nat → Shared → Prop := fun n s' => ∃ i H', Inv (X.blk s3 H3 scope ce fp) [] (wipe σ (own.map (·.2))) H' s' ∧ tn i s'.heap ∧ (∀ b ∈ fp, H' b = none) ∧ W i n H'
  have loop : codeAny (model X.prog X.w) X.A (.compLoop (.SetComp elt (two tg iter tg1 iter1) scope pos) 0 (.ref it) (.ref D) ce) (compPost (model X.prog X.w) X.A X.xe none (EP X pins σ Q) (.ref D) s3.heap.objs.size) s4 := by
    refine loop0 (hs1 ce) B ?_ m0 ⟨0, H3, I4, st4, fun b hb => (f3 b hb).1.1, w0⟩
    rintro n s5 ⟨i, H5, I5, st5, n5, w5⟩
    rcases turn i n H5 w5 with ⟨stop, qq⟩ | ⟨go, Nx, hNx, step⟩
    · refine thnF (T.done (X.blk s3 H3 scope ce fp) rfl rfl rfl hc i [] s5 _ H5 (fun _ _ => False) I5 (stat I5 n5) st5 stop) fun r s6 ⟨hr, I6⟩ => ?_
      subst hr
      have I7 : Inv X pins σ H5 s6 := I3.call' (ch := fp) I6.os I6.base I6.hok I6.bare fun b hb => let z := (f3 b hb).1.2; ⟨z.2.2.1, z.1, z.2.2.2.1, z.2.2.2.2⟩
      have nC : H5 s3.heap.objs.size = none := cL ▸ (show H5 ce.locals = none from I6.free)
      obtain ⟨m, hn, _⟩ := I6.loc
      have hn : s6.heap.Ns s3.heap.objs.size m := cL ▸ (show s6.heap.Ns ce.locals m from hn)
      obtain ⟨g0, g1, g2, g3, g4, g5⟩ := I3.fpOk (Nat.le_refl _) nC
      exact ⟨m, hn, fun h'' sb => ⟨.ref D, H5, I7.turned (t' := s6.toks) (fun b o hb e => (sb.2 b hb).trans e) g0 g1 g3 g4 g5, rfl, qq⟩⟩
    · refine thnF (T.item (X.blk s3 H3 scope ce fp) rfl rfl rfl hc i [] s5 _ H5 (fun _ _ => False) I5 (stat I5 n5) st5 go) fun r s6 ⟨u, hr, h6⟩ => ?_
      subst hr
      refine thnF h6 fun _ s7 ⟨x, H7, I7, r7, y7, st7, n7⟩ => ?_
      refine thnF (pg.run _ s7 _ H7 x u _ (I7.pinned (stat I7 n7) (T.obj _ _ st7)) r7 (step x H7 y7)) fun _ s8 ⟨σ8, H8, I8, hw8, q8⟩ => ?_
      have l8 : (wipe σ (own.map (·.2))).length = σ8.length := by rw [← hw8, wipe_length]
      have k8 : ∀ (j : Nat) v, (wipe σ (own.map (·.2)))[j]? = some (some v) → (wipe σ8 vs1)[j]? = some (some v) := fun j v e => by
        rw [← hw8] at e
        obtain ⟨e1, e2⟩ := wipe_some e
        rw [wipe_out fun z => e2 (hv j z), e1]
      -- from the second clause's end to the next turn
      have fin : ∀ {s' : Shared} {H' : Hp}, Inv (X.blk s3 H3 scope ce fp) ([] ++ pinsAt fp s7.heap) (wipe σ8 vs1) H' s' → Nx H' → ∃ m, m < n ∧ B m s' := fun {s' H'} I' nx => by
        obtain ⟨m', hm, w'⟩ := hNx H' nx
        have held : ∀ b ∈ fp, ∀ o, s7.heap.get? b = some o → s'.heap.get? b = some o ∧ H' b = none := fun b hb o e => (I'.pin (b, o) (List.mem_append_right _ (List.mem_append_right _ (mem_pinsAt hb e)))).imp id And.left
        exact ⟨m', hm, i + 1, H', (I'.unpinned (pins := [])).weak (l8.trans (wipe_length σ8 vs1).symm) k8, T.keep _ _ _ st7 fun b hb o e => (held b hb o e).1, fun b hb => let ⟨o, e, _⟩ := T.obj _ _ st7 b hb; (held b hb o e).2, w'⟩
      refine thnF (pi1.run _ s8 σ8 H8 _ I8 q8) fun xv s9 hx => thnF hx fun itv s11 h11 => ?_
      obtain ⟨it1, fp1, tn1, J1, H11, rfl, I11, T1, st11, f11, W1, ⟨m1, w1⟩, turn1⟩ := h11
      let B1 : Nat → Shared → Prop := fun k s' => ∃ j H', Inv (X.blk s3 H3 scope ce fp) ([] ++ pinsAt fp s7.heap) (wipe σ8 vs1) H' s' ∧ tn1 j s'.heap ∧ (∀ b ∈ fp1, H' b = none) ∧ W1 j k H'
      have stat1 : ∀ {H' : Hp}, (∀ b ∈ fp1, H' b = none) → ∀ b ∈ fp1, FpOk (X.blk s3 H3 scope ce fp) ([] ++ pinsAt fp s7.heap) H' b := fun hn b hb => ⟨hn b hb, (f11 b hb).2⟩
      have inner : codeAny (model X.prog X.w) X.A (.compLoop (.SetComp elt (two tg iter tg1 iter1) scope pos) 1 (.ref it1) (.ref D) ce) (fun r s' => match r with
          | .ok _ => ∃ m, m < n ∧ B m s'
          | .error _ => False) s11 := by
        refine loop1 B1 ?_ m1 ⟨0, H11, I11.weak (wipe_length _ _) (fun j v e => (wipe_some e).1), st11, fun b hb => (f11 b hb).1, w1⟩
        rintro k s12 ⟨j, H12, I12, st12, n12, w12⟩
        rcases turn1 j k H12 w12 with ⟨stop1, nx1⟩ | ⟨go1, Nx1, hNx1, step1⟩
        · refine thnF (T1.done (X.blk s3 H3 scope ce fp) rfl rfl rfl hc j _ s12 _ H12 (fun _ _ => False) I12 (stat1 n12) st12 stop1) fun r s13 ⟨hr, I13⟩ => ?_
          subst hr
          exact fin I13 nx1
        · refine thnF (T1.item (X.blk s3 H3 scope ce fp) rfl rfl rfl hc j _ s12 _ H12 (fun _ _ => False) I12 (stat1 n12) st12 go1) fun r s13 ⟨u1, hr, h13⟩ => ?_
          subst hr
          refine thnF h13 fun _ s14 ⟨x1, H14, I14, r14, y14, st14, n14⟩ => ?_
          refine thnF (pg1.run _ s14 _ H14 x1 u1 _ (I14.pinned (stat1 n14) (T1.obj _ _ st14)) r14 (step1 x1 H14 y14)) fun _ s15 ⟨σ15, H15, I15, hw15, q15⟩ => ?_
          refine thnF (pe.run _ s15 σ15 H15 _ I15 q15) fun z s17 ⟨yv, H17, I17, r17, t, L, ey, hD17, hz17, nx⟩ => ?_
          subst ey
          refine addS_ok (X := X.blk s3 H3 scope ce fp) I17 hD17 hz17 r17 fun s18 I18 => ?_
          obtain ⟨m', hm, w'⟩ := hNx1 _ nx
          have held : ∀ b ∈ fp1, ∀ o, s14.heap.get? b = some o → s18.heap.get? b = some o ∧ (upd H17 D (SetSO X.w D (ins t L))) b = none := fun b hb o e => (I18.pin (b, o) (List.mem_append_right _ (List.mem_append_right _ (mem_pinsAt hb e)))).imp id And.left
          exact ⟨m', hm, j + 1, _, I18.unpinned.weak (by rw [← hw15, wipe_length]) (fun j v e => (wipe_some (hw15 ▸ e)).1), T1.keep _ _ _ st14 fun b hb o e => (held b hb o e).1, fun b hb => let ⟨o, e, _⟩ := T1.obj _ _ st14 b hb; (held b hb o e).2, w'⟩
      exact start1 inner (T1.self X.A 0 _ _ _ st11 inner)
  exact codeAny_compStart_set loop (T.self X.A 0 _ _ _ st4 loop)
end
end Sx


set_option Elab.async false
set_option linter.all false
set_option maxRecDepth 100000
set_option maxHeartbeats 2000000
namespace K5
open PySem L2
def topS (i : Nat) : Stmt := PySem.Challenge.pw_ledgertrace_k05_counts.main.body.getD i (.Pass ⟨0, 0, 0, 0⟩)
abbrev sCapped : Stmt := topS 6
abbrev sNeed : Stmt := topS 7
abbrev sTokens : Stmt := topS 11
abbrev sValued : Stmt := topS 16
abbrev sMPlus : Stmt := topS 17
abbrev sMTimes : Stmt := topS 18
abbrev sMZero : Stmt := topS 19
abbrev sMOne : Stmt := topS 20
abbrev sCounted : Stmt := topS 21
abbrev sRaised : Stmt := topS 22
abbrev sLesser : Stmt := topS 23
abbrev sAdded : Stmt := topS 24
abbrev sMix : Stmt := topS 26
abbrev sBox : Stmt := topS 27
abbrev sDraw : Stmt := topS 28
abbrev sAlike : Stmt := topS 29
abbrev sTok : Stmt := topS 30
abbrev sSort : Stmt := topS 31
abbrev sNorm : Stmt := topS 32
abbrev sLMono : Stmt := topS 33
abbrev sLPoly : Stmt := topS 34
abbrev sLLists : Stmt := topS 35
abbrev sLTokens : Stmt := topS 36
abbrev sDValC : Stmt := topS 37
abbrev sGivenC : Stmt := topS 38
abbrev sLPow : Stmt := topS 39
abbrev sLCnt : Stmt := topS 40
abbrev sRightC : Stmt := topS 41
abbrev sMeasC : Stmt := topS 42
abbrev sAskC : Stmt := topS 43
abbrev sFigC : Stmt := topS 44
abbrev sCLaw : Stmt := topS 45
/-- the mixing: some number below 2147483629 -/
def spMix : Sp := fun vs H Q _ => ∃ c s : Int, vs = [.int c, .int s] ∧ ∀ r : Int, 0 ≤ r → Q (.int r) H
section
variable {P : Program} {w : World} {K : PySem.W.Frag} {mg : Str → Option Value} {base : Heap}
theorem scMix : FnScope ["cell", "salt", "one"] ["cell", "salt"] (defScope sMix) := ⟨rfl, rfl, rfl, by decide +kernel, rfl, by decide +kernel, by decide +kernel⟩
theorem ok_mix {f : Addr} {fd : FuncData} (F : Fun K "_law_mix" "_law_mix" sMix f fd) (mI : mg "int" = none) : FnOk P w K mg base CX0 1 f fd ["cell", "salt"] spMix := by
  refine F.ok scMix (fun vs H Q E h => ?_) (fun cdv A outer s H vs Q E hr h => ?_)
  · obtain ⟨c, s, rfl, _⟩ := h
    rfl
  · obtain ⟨c, s, rfl, k⟩ := h
    refine ⟨_, pss_cons (ps_set (i := 2) scMix.nd rfl (Or.inl rfl) (pe_op op_mod (pe_callTy call_int1 (by rfl) mI (by decide +kernel) (pa_cons (pe_op op_add (pe_op op_add (pe_op op_mul (pv 0) pe_int) (pe_op op_mul (pv 1) pe_int)) pe_int) pa_nil)) pe_int))
      (pss_one (ps_ret (pe_op op_mod (pe_callTy call_int1 (by rfl) mI (by decide +kernel) (pa_cons (pe_op op_add (pe_op op_add (pe_op op_mul (pv 2) (pv 2)) (pe_op op_mul (pv 2) pe_int)) (pe_op op_mul (pv 1) pe_int)) pa_nil)) pe_int))), ?_⟩
    refine ⟨_, rfl, _, _, rfl, rfl, .inr ⟨by decide, by decide⟩, _, rfl, _, _, rfl, rfl, .inr ⟨by decide, by decide⟩, _, _, rfl, rfl, _, _, rfl, rfl, .inl ⟨_, rfl, _, _, rfl, rfl, (by show (0 : Int) < 2147483647; decide), ?_⟩⟩
    have h0 : 0 ≤ (c * 48271 + s * 69621 + 12345) % 2147483647 := Int.emod_nonneg _ (by decide)
    have h1 : (c * 48271 + s * 69621 + 12345) % 2147483647 < 2147483647 := Int.emod_lt_of_pos _ (by decide)
    refine ⟨_, rfl, _, rfl, _, _, rfl, rfl, .inl ⟨by omega, by omega⟩, _, rfl, _, _, rfl, rfl, .inr ⟨by decide, by decide⟩, _, _, rfl, rfl, _, rfl, _, _, rfl, rfl, .inr ⟨by decide, by decide⟩, _, _, rfl, rfl, .inl ⟨_, rfl, _, _, rfl, rfl, (by show (0 : Int) < 2147483629; decide), ?_⟩⟩
    exact k _ (Int.emod_nonneg _ (by decide))
end
end K5


set_option Elab.async false
set_option linter.all false
set_option maxRecDepth 100000
set_option maxHeartbeats 4000000
namespace K5
open PySem L2
def bx (d0 d1 at_ s m : Int) (c : Addr) : List V := [.int d0, .int d1, .int at_, .int s, .int m, .ref c]
/-- a box at b, its cells at c -/
structure BoxAt (H : Hp) (b c : Addr) (ns : List Int) : Prop where
  lst : ∃ d0 d1 at_ s m : Int, 0 ≤ at_ ∧ H b = some (.lst (bx d0 d1 at_ s m c))
  cells : H c = some (.lst (ns.map V.int))
  len : ns.length ≤ 1000
theorem bx_ne {d0 d1 at_ s m : Int} {c : Addr} {ns : List Int} : HO.lst (ns.map V.int) ≠ HO.lst (bx d0 d1 at_ s m c) := by
  intro z
  have z' := HO.lst.inj z
  have h5 := congrArg (fun l => l[5]?) z'
  simp only [bx, List.getElem?_map] at h5
  cases e : ns[5]? with
  | none => rw [e] at h5; simp at h5
  | some y => rw [e] at h5; simp at h5
/-- all but b is kept -/
def But (b : Addr) (H H' : Hp) : Prop := ∀ a o, H a = some o → a ≠ b → H' a = some o
theorem But.refl {b : Addr} {H : Hp} : But b H H := fun _ _ h _ => h
theorem But.trans {b : Addr} {H H1 H2 : Hp} (x : But b H H1) (y : But b H1 H2) : But b H H2 := fun a o h n => y a o (x a o h n) n
theorem But.upd {b : Addr} {H : Hp} {o : HO} : But b H (upd H b o) := fun a u h n => by rw [upd_ne n]; exact h
theorem But.same {b : Addr} {H H1 H2 : Hp} (x : But b H H1) (y : Same H1 H2) : But b H H2 := fun a o h n => y a o (x a o h n)
theorem BoxAt.ne {H : Hp} {b c : Addr} {ns : List Int} (x : BoxAt H b c ns) : c ≠ b := by
  obtain ⟨d0, d1, at_, s, m, _, h⟩ := x.lst
  exact ne_of x.cells h bx_ne
theorem BoxAt.put {H : Hp} {b c : Addr} {ns : List Int} (x : BoxAt H b c ns) {d0 d1 at_ s m : Int} (h : 0 ≤ at_) : BoxAt (upd H b (.lst (bx d0 d1 at_ s m c))) b c ns :=
  ⟨⟨d0, d1, at_, s, m, h, upd_same⟩, by rw [upd_ne x.ne]; exact x.cells, x.len⟩
/-- another box stays -/
theorem BoxAt.keep {H H' : Hp} {b b2 c2 : Addr} {ns : List Int} (y : BoxAt H b2 c2 ns) (hb : But b H H') (n1 : b2 ≠ b) (n2 : c2 ≠ b) : BoxAt H' b2 c2 ns := by
  obtain ⟨d0, d1, at_, s, m, h0, h⟩ := y.lst
  exact ⟨⟨d0, d1, at_, s, m, h0, hb _ _ h n1⟩, hb _ _ y.cells n2, y.len⟩
theorem BoxAt.same {H H' : Hp} {b c : Addr} {ns : List Int} (y : BoxAt H b c ns) (s : Same H H') : BoxAt H' b c ns := by
  obtain ⟨d0, d1, at_, s', m, h0, h⟩ := y.lst
  exact ⟨⟨d0, d1, at_, s', m, h0, s _ _ h⟩, s _ _ y.cells, y.len⟩
def spBox (K : PySem.W.Frag) : Sp := fun vs H Q _ => ∃ (a : Addr) (ns : List Int) (n : Int), vs = [.ref a, .int n] ∧ SqL K H a (ns.map V.int) ∧ ns.length ≤ 1000 ∧ 0 ≤ n ∧
  ∀ (b c : Addr) (H' : Hp), H b = none → H c = none → Same H H' → BoxAt H' b c ns → Q (.ref b) H'
def spDraw : Sp := fun vs H Q _ => ∃ (b c : Addr) (ns : List Int) (many : Int), vs = [.ref b, .int many] ∧ 0 < many ∧ many < 10000000 ∧ BoxAt H b c ns ∧
  ∀ (r : Int) (H' : Hp), 0 ≤ r → r < many → BoxAt H' b c ns → But b H H' → Q (.int r) H'
section
variable {P : Program} {w : World} {K : PySem.W.Frag} {mg : Str → Option Value} {base : Heap}
theorem scBox : FnScope ["script", "at", "cell"] ["script", "at"] (defScope sBox) := ⟨rfl, rfl, rfl, by decide +kernel, rfl, by decide +kernel, by decide +kernel⟩
theorem ok_box {f : Addr} {fd : FuncData} (F : Fun K "_law_box" "_law_box" sBox f fd) (mI : mg "int" = none) : FnOk P w K mg base CX0 1 f fd ["script", "at"] (spBox K) := by
  refine F.ok scBox (fun vs H Q E h => ?_) (fun cdv A outer s H vs Q E hr h => ?_)
  · obtain ⟨a, ns, n, rfl, _⟩ := h
    rfl
  · obtain ⟨a, ns, n, rfl, hS, hl, hn, k⟩ := h
    refine ⟨_, pss_one (ps_ret (pe_lst (pa_cons pe_int (pa_cons pe_int (pa_cons (pv 1) (pa_cons pe_int (pa_cons (pv 1) (pa_cons
      (pe_lc (own := [("cell", 2)]) (g := gName 2) (tt := tYes) rfl scBox.nd (pi_list (pv 0)) (blkOk_by (N := ["script", "at", "cell"]) (sc := defScope sBox) (by decide +kernel)) (fun _ _ _ _ _ => pg_name (i := 2) scBox.nd rfl (Or.inl rfl)) (fun _ _ _ _ _ => pts_nil)
        (fun _ _ _ _ _ => pe_callTy call_int1 (by rfl) mI (by decide +kernel) (pa_cons (pv 2) pa_nil))) pa_nil)))))))), ?_⟩
    refine ⟨_, rfl, _, rfl, _, rfl, a, rfl, ⟨_, hS⟩, fun D nD => ?_⟩
    refine lc_list (K := K) (a := a) (xs := ns.map V.int) (fun i H2 => Same H H2 ∧ H2 D = some (.lst ((ns.take i).map V.int))) ⟨fun b o e => by rw [upd_ne (ne_of_none e nD)]; exact e, by rw [upd_same, List.take_zero, List.map_nil]⟩ (fun i H2 _ ⟨s2, _⟩ => s2.seq hS) ?_ ?_
    · rintro i y H2 hi ⟨s2, hD⟩
      obtain ⟨z, hz, rfl⟩ : ∃ z, ns[i]? = some z ∧ y = V.int z := by
        rw [List.getElem?_map] at hi
        cases e : ns[i]? with
        | none => rw [e] at hi; cases hi
        | some z => rw [e] at hi; exact ⟨z, rfl, (Option.some.inj hi).symm⟩
      have hil : i < ns.length := (List.getElem?_eq_some_iff.mp hz).1
      refine ⟨rfl, _, rfl, .inl ⟨_, rfl, _, hD, small1000 (by rw [List.length_map, List.length_take]; omega), fun b o e => ?_, ?_⟩⟩
      · rw [upd_ne (ne_of_none e nD)]
        exact s2 b o e
      · rw [upd_same, List.take_succ, hz, List.map_append]
        rfl
    · rintro H2 ⟨s2, hD⟩
      refine ⟨by show 6 ≤ sizeLine; decide, fun b nb => ?_⟩
      have e0 : (ns.map V.int).length = ns.length := List.length_map ..
      rw [e0, List.take_length] at hD
      have nbH : H b = none := s2.free nb
      exact k b D _ nbH nD (fun c o e => by rw [upd_ne (ne_of_none e nbH)]; exact s2 c o e) ⟨⟨0, 0, n, 0, n, hn, upd_same⟩, by rw [upd_ne (ne_of_none hD nb)]; exact hD, hl⟩
theorem scDraw : FnScope ["box", "many", "cell", "drawn"] ["box", "many"] (defScope sDraw) := ⟨rfl, rfl, rfl, by decide +kernel, rfl, by decide +kernel, by decide +kernel⟩
theorem ok_draw {f fM : Addr} {fd fdM : FuncData} (F : Fun K "_law_draw" "_law_draw" sDraw f fd) (FM : Fun K "_law_mix" "_law_mix" sMix fM fdM) (bM : Binds K fdM ["cell", "salt"] []) (gM : mg "_law_mix" = some (.ref fM)) (kM : PySem.W.keepIn K (.ref fM) = true)
    (mI : mg "int" = none) (mL : mg "len" = none) : FnOk P w K mg base CX0 2 f fd ["box", "many"] spDraw := by
  have GM : FnOk P w K mg base CX0 1 fM fdM ["cell", "salt"] spMix := ok_mix FM mI
  refine F.ok scDraw (fun vs H Q E h => ?_) (fun cdv A outer s H vs Q E hr h => ?_)
  · obtain ⟨b, c, ns, many, rfl, _⟩ := h
    rfl
  · obtain ⟨b, c, ns, many, rfl, hm0, hm1, hB, k⟩ := h
    have hr1 : Room 1 _ := hr
    refine ⟨_, C8.pss_cut (ps_if (PW.pt (pw_and (pt_cmpR op_eq (pe_ix ix_list (pv 0) pe_int (fun _ _ => rfl)) pe_int (nomark _))
          (pw_and1 (pt_cmpR op_lt (pe_ix ix_list (pv 0) pe_int (fun _ _ => rfl)) (pe_callB call_len_seq (by rfl) mL PySem.boot_len (pa_cons (pe_ix ix_list (pv 0) pe_int (fun _ _ => rfl)) pa_nil)) (nomark _)))))
        (pss_cons (ps_set (i := 2) scDraw.nd rfl (Or.inl rfl) (pe_ix ix_list (pe_ix ix_list (pv 0) pe_int (fun _ _ => rfl)) (pe_ix ix_list (pv 0) pe_int (fun _ _ => rfl)) (fun _ _ => rfl)))
        (pss_cons (ps_asg (pe_op op_add (pe_ix ix_list (pv 0) pe_int (fun _ _ => rfl)) pe_int) (pg_sub (pv 0) pe_int set_list))
        (pss_cons (ps_asg (pe_op op_mod (pe_callTy call_int1 (by rfl) mI (by decide +kernel) (pa_cons (pe_op op_add (pe_op op_mul (pe_ix ix_list (pv 0) pe_int (fun _ _ => rfl)) pe_int) (pv 2)) pa_nil)) pe_int) (pg_sub (pv 0) pe_int set_list))
        (pss_one (ps_if (pt_cmpR op_ge (pv 2) (pe_op op_pow pe_int pe_int) (nomark _))
          (pss_cons (ps_asg (pe_op op_sub (pv 2) (pe_op op_pow pe_int pe_int)) (pg_sub (pv 0) pe_int set_list))
          (pss_one (ps_asg pe_int (pg_sub (pv 0) pe_int set_list)))) pss_nil))))) pss_nil)
      (C8.pss_cut (ps_if (PW.pt (pw_and (pt_cmpR op_gt (pe_ix ix_list (pv 0) pe_int (fun _ _ => rfl)) pe_int (nomark _)) (pw_and1 (pt_cmpR op_gt (pe_ix ix_list (pv 0) pe_int (fun _ _ => rfl)) pe_int (nomark _)))))
        (pss_cons (ps_set (i := 3) scDraw.nd rfl (Or.inl rfl) (pe_op op_modN (pe_callTy call_int1 (by rfl) mI (by decide +kernel) (pa_cons (pe_ix ix_list (pv 0) pe_int (fun _ _ => rfl)) pa_nil)) (pv 1)))
        (pss_cons (ps_asg (pe_op op_fdivN (pe_ix ix_list (pv 0) pe_int (fun _ _ => rfl)) (pv 1)) (pg_sub (pv 0) pe_int set_list))
        (pss_cons (ps_asg (pe_op op_sub (pe_ix ix_list (pv 0) pe_int (fun _ _ => rfl)) pe_int) (pg_sub (pv 0) pe_int set_list))
        (pss_one (ps_ret (pv 3)))))) pss_nil)
      (pss_cons (ps_asg pe_int (pg_sub (pv 0) pe_int set_list))
      (pss_cons (ps_asg (pe_op op_add (pe_ix ix_list (pv 0) pe_int (fun _ _ => rfl)) pe_int) (pg_sub (pv 0) pe_int set_list))
      (pss_one (ps_ret (pe_op op_modN (pe_callTy call_int1 (by rfl) mI (by decide +kernel) (pa_cons (pe_call GM hr1 rfl gM kM bM .nil pass0 (pa_cons (pe_ix ix_list (pv 0) pe_int (fun _ _ => rfl)) (pa_cons (pe_ix ix_list (pv 0) pe_int (fun _ _ => rfl)) pa_nil))) pa_nil)) (pv 1))))))), ?_⟩
    refine ⟨fun σ H2 => (∃ v, σ = [some (.ref b), some (.int many), v, none]) ∧ BoxAt H2 b c ns ∧ But b H H2, ?_, ?_⟩
    · obtain ⟨d0, d1, at_, s, m, hat, hb⟩ := id hB.lst
      refine ⟨_, rfl, b, _, _, _, rfl, rfl, SqL.of hb, rfl, rfl, _, rfl, ?_⟩
      refine ite2 (fun _ => ?_) (fun _ => ?_)
      · refine ⟨_, rfl, b, _, _, _, rfl, rfl, SqL.of hb, rfl, _, rfl, b, _, _, _, rfl, rfl, SqL.of hb, rfl, c, _, rfl, .inl (SqL.of hB.cells), _, _, rfl, rfl, _, rfl, ?_⟩
        refine ite2 (fun hlt => ?_) (fun _ => ?_)
        · have hlt' : at_ < ((ns.map V.int).length : Int) := of_decide_eq_true hlt
          rw [List.length_map] at hlt'
          obtain ⟨j, rfl⟩ := Int.eq_ofNat_of_zero_le hat
          have hj : j < ns.length := by omega
          have hget : (ns.map V.int)[j]? = some (V.int ns[j]) := by rw [List.getElem?_map, List.getElem?_eq_getElem hj]; rfl
          refine ⟨_, rfl, b, _, _, _, rfl, rfl, SqL.of hb, rfl, _, rfl, b, _, _, _, rfl, rfl, SqL.of hb, rfl, c, _, _, _, rfl, rfl, SqL.of hB.cells, atI_nat hget, ?_⟩
          refine ⟨_, rfl, b, _, _, _, rfl, rfl, SqL.of hb, rfl, _, _, rfl, rfl, _, rfl, b, _, _, _, rfl, rfl, hb, rfl, ?_⟩
          refine ⟨_, rfl, b, _, _, _, rfl, rfl, SqL.of upd_same, rfl, _, _, rfl, rfl, .inr ⟨by decide, by decide⟩, _, rfl, _, _, rfl, rfl, .inl ⟨_, rfl, _, _, rfl, rfl, (by show (0 : Int) < 2147483647; decide), _, rfl, b, _, _, _, rfl, rfl, upd_same, rfl, ?_⟩⟩
          refine ⟨_, rfl, _, _, rfl, rfl, ⟨by decide, by decide, by decide⟩, _, _, rfl, rfl, _, rfl, ?_⟩
          rw [upd_upd]
          refine ite2 (fun _ => ?_) (fun _ => ?_)
          · refine ⟨_, rfl, _, _, rfl, rfl, ⟨by decide, by decide, by decide⟩, _, _, rfl, rfl, _, rfl, b, _, _, _, rfl, rfl, upd_same, rfl, ?_⟩
            refine ⟨_, rfl, b, _, _, _, rfl, rfl, upd_same, rfl, ?_⟩
            rw [upd_upd, upd_upd]
            exact ⟨⟨_, rfl⟩, hB.put (by omega), But.upd⟩
          · exact ⟨⟨_, rfl⟩, hB.put (by omega), But.upd⟩
        · exact ⟨⟨_, rfl⟩, hB, But.refl⟩
      · exact ⟨⟨_, rfl⟩, hB, But.refl⟩
    · rintro σ H2 ⟨⟨v, rfl⟩, hB2, hk⟩
      obtain ⟨d0, d1, at_, s, m, hat, hb⟩ := id hB2.lst
      refine ⟨fun σ H3 => (∃ v, σ = [some (.ref b), some (.int many), v, none]) ∧ BoxAt H3 b c ns ∧ But b H H3, ?_, ?_⟩
      · have stay : (∃ u, [some (V.ref b), some (V.int many), v, none] = [some (V.ref b), some (V.int many), u, none]) ∧ BoxAt H2 b c ns ∧ But b H H2 := ⟨⟨_, rfl⟩, hB2, hk⟩
        refine ⟨_, rfl, b, _, _, _, rfl, rfl, SqL.of hb, rfl, _, _, rfl, rfl, _, rfl, ?_⟩
        refine ite2 (fun _ => ?_) (fun _ => stay)
        refine ⟨_, rfl, b, _, _, _, rfl, rfl, SqL.of hb, rfl, _, _, rfl, rfl, _, rfl, ?_⟩
        refine ite2 (fun _ => ?_) (fun _ => stay)
        refine ⟨_, rfl, b, _, _, _, rfl, rfl, SqL.of hb, rfl, .inl ⟨_, rfl, _, rfl, _, _, rfl, rfl, (by omega), ?_⟩⟩
        refine ⟨_, rfl, b, _, _, _, rfl, rfl, SqL.of hb, rfl, _, rfl, _, _, rfl, rfl, ⟨by omega, by omega⟩, _, rfl, b, _, _, _, rfl, rfl, hb, rfl, ?_⟩
        refine ⟨_, rfl, b, _, _, _, rfl, rfl, SqL.of upd_same, rfl, _, _, rfl, rfl, _, rfl, b, _, _, _, rfl, rfl, upd_same, rfl, ?_⟩
        rw [upd_upd]
        refine ⟨_, rfl, ?_⟩
        exact k _ _ (Int.fmod_nonneg_of_pos _ hm0) (Int.fmod_lt_of_pos _ hm0) (hB2.put hat) (hk.trans But.upd)
      · rintro σ H3 ⟨⟨v, rfl⟩, hB3, hk3⟩
        obtain ⟨e0, e1, at_, s, m, hat, hb⟩ := id hB3.lst
        refine ⟨_, rfl, b, _, _, _, rfl, rfl, hb, rfl, ?_⟩
        refine ⟨_, rfl, b, _, _, _, rfl, rfl, SqL.of upd_same, rfl, _, _, rfl, rfl, _, rfl, b, _, _, _, rfl, rfl, upd_same, rfl, ?_⟩
        rw [upd_upd]
        refine ⟨_, rfl, b, _, _, _, rfl, rfl, SqL.of upd_same, rfl, _, rfl, b, _, _, _, rfl, rfl, SqL.of upd_same, rfl, _, _, rfl, fun r h0 => .inl ⟨_, rfl, _, rfl, _, _, rfl, rfl, (by omega), ?_⟩⟩
        exact k _ _ (Int.fmod_nonneg_of_pos _ hm0) (Int.fmod_lt_of_pos _ hm0) (hB3.put hat) (hk3.trans But.upd)
end
end K5


set_option Elab.async false
set_option linter.all false
set_option maxRecDepth 100000
set_option maxHeartbeats 4000000
namespace K5
open PySem L2
def scalV : V → Prop
  | .non => True
  | .bl _ => True
  | .int _ => True
  | .str _ => True
  | _ => False
/-- the same data at both, n deep at most -/
def Alike (K : PySem.W.Frag) (H : Hp) : Nat → V → V → Prop
  | 0, x, y => x = y ∧ scalV x
  | n + 1, x, y => (x = y ∧ scalV x) ∨ ∃ (a b : Addr) (xs ys : List V), x = .ref a ∧ y = .ref b ∧ ((SqT K H a xs ∧ SqT K H b ys) ∨ (SqL K H a xs ∧ SqL K H b ys)) ∧ xs.length = ys.length ∧ ys.length ≤ 1000000 ∧
      ∀ (i : Nat) (u v : V), xs[i]? = some u → ys[i]? = some v → Alike K H n u v
theorem sqT_same {K : PySem.W.Frag} {H H' : Hp} {a : Addr} {xs : List V} (s : Same H H') (h : SqT K H a xs) : SqT K H' a xs := by
  rcases h with (h | ⟨o, h⟩) | h
  · exact .inl (.inl (s _ _ h))
  · exact .inl (.inr ⟨o, s _ _ h⟩)
  · exact .inr h
theorem Alike.same {K : PySem.W.Frag} {H H' : Hp} (s : Same H H') : ∀ {n : Nat} {x y : V}, Alike K H n x y → Alike K H' n x y
  | 0, _, _, h => h
  | n + 1, x, y, h => by
    rcases h with h | ⟨a, b, xs, ys, rfl, rfl, h, hl, h1, h2⟩
    · exact .inl h
    · refine .inr ⟨a, b, xs, ys, rfl, rfl, ?_, hl, h1, fun i u v e1 e2 => (h2 i u v e1 e2).same s⟩
      rcases h with ⟨p, q⟩ | ⟨p, q⟩
      · exact .inl ⟨sqT_same s p, sqT_same s q⟩
      · exact .inr ⟨s.seq p, s.seq q⟩
theorem tyX_T {K : PySem.W.Frag} {H : Hp} {a : Addr} {xs : List V} (h : SqT K H a xs) : TyX K H (.ref a) (.type "tuple") := by
  rcases h with (h | ⟨o, h⟩) | ⟨o, its, n, h1, h2, _⟩
  · exact .base (.tup h)
  · exact .fTuple h
  · exact .kTuple h1 h2
theorem tyX_L {K : PySem.W.Frag} {H : Hp} {a : Addr} {xs : List V} (h : SqL K H a xs) : TyX K H (.ref a) (.type "list") := by
  rcases h with (h | ⟨o, h⟩) | ⟨o, its, n, h1, h2, _⟩
  · exact .base (.lst h)
  · exact .base (.frz h)
  · exact .kList h1 h2
def spAlike (K : PySem.W.Frag) (n : Nat) : Sp := fun vs H Q _ => ∃ x y : V, vs = [x, y] ∧ Alike K H n x y ∧ ∀ H', Same H H' → Q (.bl true) H'
theorem Alike.two {K : PySem.W.Frag} {H : Hp} {n : Nat} {x y : V} (h : Alike K H n x y) : (x = y ∧ scalV x) ∨ ∃ (m : Nat) (a b : Addr) (xs ys : List V), n = m + 1 ∧ x = .ref a ∧ y = .ref b ∧ ((SqT K H a xs ∧ SqT K H b ys) ∨ (SqL K H a xs ∧ SqL K H b ys)) ∧ xs.length = ys.length ∧ ys.length ≤ 1000000 ∧
    ∀ (i : Nat) (u v : V), xs[i]? = some u → ys[i]? = some v → Alike K H m u v := by
  cases n with
  | zero => exact .inl h
  | succ m =>
    rcases h with h | ⟨a, b, xs, ys, h⟩
    · exact .inl h
    · exact .inr ⟨m, a, b, xs, ys, rfl, h⟩
def spA (K : PySem.W.Frag) : Nat → Sp
  | 0 => fun _ _ _ _ => False
  | n + 1 => spAlike K n
theorem kitAnyS {K : PySem.W.Frag} {t : String} (h : t = "tuple" ∨ t = "list") : PySem.W.kitAny K (.type t) [.type "tuple", .type "list"] = some true := by
  rcases h with rfl | rfl
  · exact kitAny_cons (b := true) (kit_ty (by decide +kernel)) (fun z => nomatch z) fun _ => rfl
  · exact kitAny_cons (b := false) (kit_ty (by decide +kernel)) (fun _ => kitAny_cons (b := true) (kit_ty (by decide +kernel)) (fun z => nomatch z) fun _ => rfl) fun z => nomatch z
theorem atI_some {xs : List V} {i : Nat} (h : i < xs.length) : atI xs ((0 : Int) + (i : Int)) = some (xs[i]) := by
  rw [Int.zero_add]
  exact atI_nat (by simp [h])
structure Nm (mg : Str → Option Value) : Prop where
  isi : mg "isinstance" = none
  tup : mg "tuple" = none
  lst : mg "list" = none
  len : mg "len" = none
  rng : mg "range" = none
  bool : mg "bool" = none
  str : mg "str" = none
  int : mg "int" = none
def typName : V → String
  | .non => "NoneType"
  | .bl _ => "bool"
  | .int _ => "int"
  | _ => "str"
theorem scal_ty {K : PySem.W.Frag} {H : Hp} {x : V} (h : scalV x) : TyX K H x (.type (typName x)) := by
  cases x <;> first | exact h.elim | exact .base .non | exact .base (.bl _) | exact .base (.int _) | exact .base (.str _)
theorem kitAny2 {K : PySem.W.Frag} {t a b : String} (h1 : kitB t a = some false) (h2 : kitB t b = some false) : PySem.W.kitAny K (.type t) [.type a, .type b] = some false :=
  kitAny_cons (kit_ty h1) (fun _ => kitAny_cons (kit_ty h2) (fun _ => rfl) fun z => nomatch z) fun z => nomatch z
section
variable {P : Program} {w : World} {K : PySem.W.Frag} {mg : Str → Option Value} {base : Heap}
theorem scAlike : FnScope ["told", "due", "k"] ["told", "due"] (defScope sAlike) := ⟨rfl, rfl, rfl, by decide +kernel, rfl, by decide +kernel, by decide +kernel⟩
theorem ok_alike {f : Addr} {fd : FuncData} (F : Fun K "_law_alike" "_law_alike" sAlike f fd) (b : Binds K fd ["told", "due"] []) (g : mg "_law_alike" = some (.ref f)) (kp : PySem.W.keepIn K (.ref f) = true) (N : Nm mg) :
    ∀ n : Nat, FnOk P w K mg base CX0 n f fd ["told", "due"] (spA K n) := by
  intro n
  induction n with
  | zero => exact ⟨fun _ _ _ _ h => h.elim, fun _ _ _ _ _ _ _ _ _ _ _ _ _ h => h.elim⟩
  | succ n ih =>
    refine F.ok scAlike (fun vs H Q E h => ?_) (fun cdv A outer s H vs Q E hr h => ?_)
    · obtain ⟨x, y, rfl, _⟩ := h
      rfl
    · obtain ⟨x, y, rfl, hA, k⟩ := h
      refine ⟨_, pss_cons (ps_if (pt_val (pe_callB call_isiT (by rfl) N.isi (by decide +kernel) (pa_cons (pv 1) (pa_cons (pe_tup (pa_cons (pe_bltn (v := .ty "tuple") (by rfl) N.tup (by decide +kernel) rfl) (pa_cons (pe_bltn (v := .ty "list") (by rfl) N.lst (by decide +kernel) rfl) pa_nil))) pa_nil))))
          (pss_cons (ps_if (PW.pt (pw_or (pt_cmpR op_ne (pe_callB call_isi (by rfl) N.isi (by decide +kernel) (pa_cons (pv 0) (pa_cons (pe_bltn (v := .ty "tuple") (by rfl) N.tup (by decide +kernel) rfl) pa_nil))) (pe_callB call_isi (by rfl) N.isi (by decide +kernel) (pa_cons (pv 1) (pa_cons (pe_bltn (v := .ty "tuple") (by rfl) N.tup (by decide +kernel) rfl) pa_nil))) (nomark _))
              (pw_or1 (pt_cmpR op_ne (pe_callB call_isi (by rfl) N.isi (by decide +kernel) (pa_cons (pv 0) (pa_cons (pe_bltn (v := .ty "list") (by rfl) N.lst (by decide +kernel) rfl) pa_nil))) (pe_callB call_isi (by rfl) N.isi (by decide +kernel) (pa_cons (pv 1) (pa_cons (pe_bltn (v := .ty "list") (by rfl) N.lst (by decide +kernel) rfl) pa_nil))) (nomark _))))) (pss_one (ps_ret pe_bl)) pss_nil)
          (pss_cons (ps_if (pt_cmpR op_ne (pe_callB call_len_seq (by rfl) N.len PySem.boot_len (pa_cons (pv 0) pa_nil)) (pe_callB call_len_seq (by rfl) N.len PySem.boot_len (pa_cons (pv 1) pa_nil)) (nomark _)) (pss_one (ps_ret pe_bl)) pss_nil)
          (pss_cons (ps_for PassesOwn.never rfl (pi_range1 rfl N.rng (pa_cons (pe_callB call_len_seq (by rfl) N.len PySem.boot_len (pa_cons (pv 1) pa_nil)) pa_nil)) (pg_name (i := 2) scAlike.nd rfl (Or.inl rfl))
            (pss_one (ps_if (pt_not (pt_val (pe_call ih hr rfl g kp b .nil pass0 (pa_cons (pe_ix ix_seq (pv 0) (pv 2) (fun _ _ => rfl)) (pa_cons (pe_ix ix_seq (pv 1) (pv 2) (fun _ _ => rfl)) pa_nil))))) (pss_one (ps_ret pe_bl)) pss_nil)))
          (pss_one (ps_ret pe_bl))))) pss_nil)
        (pss_cons (ps_if (pt_cmpR op_isN (pv 1) pe_non (nomark _)) (pss_one (ps_ret (pe_cmpR op_isN (pv 0) pe_non (nomark _)))) pss_nil)
        (pss_cons (ps_if (pt_val (pe_callB call_isi (by rfl) N.isi (by decide +kernel) (pa_cons (pv 1) (pa_cons (pe_bltn (v := .ty "bool") (by rfl) N.bool (by decide +kernel) rfl) pa_nil)))) (pss_one (ps_ret (pe_and (pe_callB call_isi (by rfl) N.isi (by decide +kernel) (pa_cons (pv 0) (pa_cons (pe_bltn (v := .ty "bool") (by rfl) N.bool (by decide +kernel) rfl) pa_nil))) (pe_one (pe_cmpR op_eq (pv 0) (pv 1) (nomark _)))))) pss_nil)
        (pss_cons (ps_if (pt_val (pe_callB call_isi (by rfl) N.isi (by decide +kernel) (pa_cons (pv 1) (pa_cons (pe_bltn (v := .ty "str") (by rfl) N.str (by decide +kernel) rfl) pa_nil)))) (pss_one (ps_ret (pe_and (pe_callB call_isi (by rfl) N.isi (by decide +kernel) (pa_cons (pv 0) (pa_cons (pe_bltn (v := .ty "str") (by rfl) N.str (by decide +kernel) rfl) pa_nil))) (pe_one (pe_cmpR op_eq (pv 0) (pv 1) (nomark _)))))) pss_nil)
        (pss_one (ps_ret (pe_and (pe_callB call_isi (by rfl) N.isi (by decide +kernel) (pa_cons (pv 0) (pa_cons (pe_bltn (v := .ty "int") (by rfl) N.int (by decide +kernel) rfl) pa_nil)))
          (pe_and (pe_not (pe_callB call_isi (by rfl) N.isi (by decide +kernel) (pa_cons (pv 0) (pa_cons (pe_bltn (v := .ty "bool") (by rfl) N.bool (by decide +kernel) rfl) pa_nil)))) (pe_one (pe_cmpR op_eq (pv 0) (pv 1) (nomark _)))))))))), ?_⟩
      rcases hA.two with ⟨rfl, hs⟩ | ⟨m, a, c, xs, ys, rfl, rfl, rfl, hh, hl, h1, h2⟩
      · -- a scalar
        refine ⟨_, rfl, (by show 2 ≤ sizeLine; decide), fun p np => ?_⟩
        have sm : Same H (upd H p (.tup [.ty "tuple", .ty "list"])) := fun q o e => by
          rw [upd_ne (ne_of_none e np)]
          exact e
        have kk := k _ sm
        cases x with
        | non =>
          refine ⟨_, p, [.ty "tuple", .ty "list"], _, [.type "tuple", .type "list"], false, rfl, upd_same, .cons (.ty _) (.cons (.ty _) .nil), .base .non, kitAny2 (by decide +kernel) (by decide +kernel), false, rfl, iteF ?_⟩
          refine ⟨_, rfl, rfl, _, rfl, iteT ?_⟩
          exact ⟨_, rfl, rfl, kk⟩
        | bl z =>
          refine ⟨_, p, [.ty "tuple", .ty "list"], _, [.type "tuple", .type "list"], false, rfl, upd_same, .cons (.ty _) (.cons (.ty _) .nil), .base (.bl z), kitAny2 (by decide +kernel) (by decide +kernel), false, rfl, iteF ?_⟩
          refine ⟨_, rfl, rfl, _, rfl, iteF ?_⟩
          refine ⟨_, rfl, _, _, _, _, true, rfl, .ty _, .base (.bl z), kit_ty (by decide +kernel), true, rfl, iteT ?_⟩
          refine ⟨_, rfl, _, _, _, _, true, rfl, .ty _, .base (.bl z), kit_ty (by decide +kernel), true, rfl, ?_⟩
          refine iteT ⟨_, rfl, _, rfl, rfl, ?_⟩
          rw [decide_eq_true rfl]
          exact kk
        | int z =>
          refine ⟨_, p, [.ty "tuple", .ty "list"], _, [.type "tuple", .type "list"], false, rfl, upd_same, .cons (.ty _) (.cons (.ty _) .nil), .base (.int z), kitAny2 (by decide +kernel) (by decide +kernel), false, rfl, iteF ?_⟩
          refine ⟨_, rfl, rfl, _, rfl, iteF ?_⟩
          refine ⟨_, rfl, _, _, _, _, false, rfl, .ty _, .base (.int z), kit_ty (by decide +kernel), false, rfl, iteF ?_⟩
          refine ⟨_, rfl, _, _, _, _, false, rfl, .ty _, .base (.int z), kit_ty (by decide +kernel), false, rfl, iteF ?_⟩
          refine ⟨_, rfl, _, _, _, _, true, rfl, .ty _, .base (.int z), kit_ty (by decide +kernel), true, rfl, ?_⟩
          refine iteT ?_
          refine ⟨_, rfl, _, _, _, _, false, rfl, .ty _, .base (.int z), kit_ty (by decide +kernel), false, rfl, true, rfl, ?_⟩
          refine iteT ⟨_, rfl, _, rfl, rfl, ?_⟩
          rw [decide_eq_true rfl]
          exact kk
        | str z =>
          refine ⟨_, p, [.ty "tuple", .ty "list"], _, [.type "tuple", .type "list"], false, rfl, upd_same, .cons (.ty _) (.cons (.ty _) .nil), .base (.str z), kitAny2 (by decide +kernel) (by decide +kernel), false, rfl, iteF ?_⟩
          refine ⟨_, rfl, rfl, _, rfl, iteF ?_⟩
          refine ⟨_, rfl, _, _, _, _, false, rfl, .ty _, .base (.str z), kit_ty (by decide +kernel), false, rfl, iteF ?_⟩
          refine ⟨_, rfl, _, _, _, _, true, rfl, .ty _, .base (.str z), kit_ty (by decide +kernel), true, rfl, iteT ?_⟩
          refine ⟨_, rfl, _, _, _, _, true, rfl, .ty _, .base (.str z), kit_ty (by decide +kernel), true, rfl, ?_⟩
          refine iteT ⟨_, rfl, _, rfl, rfl, ?_⟩
          rw [decide_eq_true rfl]
          exact kk
        | byt _ => exact hs.elim
        | flt _ => exact hs.elim
        | ref _ => exact hs.elim
        | ty _ => exact hs.elim
      · -- a sequence
        refine ⟨_, rfl, (by show 2 ≤ sizeLine; decide), fun p np => ?_⟩
        have sm : Same H (upd H p (.tup [.ty "tuple", .ty "list"])) := fun q o e => by
          rw [upd_ne (ne_of_none e np)]
          exact e
        obtain ⟨t, ht, tA, tC⟩ : ∃ t : String, (t = "tuple" ∨ t = "list") ∧ TyX K (upd H p (.tup [.ty "tuple", .ty "list"])) (.ref a) (.type t) ∧ TyX K (upd H p (.tup [.ty "tuple", .ty "list"])) (.ref c) (.type t) := by
          rcases hh with ⟨p1, p2⟩ | ⟨p1, p2⟩
          · exact ⟨"tuple", .inl rfl, tyX_T (sqT_same sm p1), tyX_T (sqT_same sm p2)⟩
          · exact ⟨"list", .inr rfl, tyX_L (sm.seq p1), tyX_L (sm.seq p2)⟩
        refine ⟨_, p, [.ty "tuple", .ty "list"], _, [.type "tuple", .type "list"], true, rfl, upd_same, .cons (.ty _) (.cons (.ty _) .nil), tC, kitAnyS ht, true, rfl, iteT ?_⟩
        obtain ⟨b1, b2, k1, k2⟩ : ∃ b1 b2 : Bool, kitB t "tuple" = some b1 ∧ kitB t "list" = some b2 := by
          rcases ht with rfl | rfl
          · exact ⟨true, false, by decide +kernel, by decide +kernel⟩
          · exact ⟨false, true, by decide +kernel, by decide +kernel⟩
        refine ⟨_, rfl, _, _, _, _, b1, rfl, .ty _, tA, kit_ty k1, _, rfl, _, _, _, _, b1, rfl, .ty _, tC, kit_ty k1, rfl, _, rfl, ?_⟩
        rw [show (!decide (V.bl b1 = V.bl b1)) = false by simp]
        refine iteF ?_
        refine ⟨_, rfl, _, _, _, _, b2, rfl, .ty _, tA, kit_ty k2, _, rfl, _, _, _, _, b2, rfl, .ty _, tC, kit_ty k2, rfl, _, rfl, ?_⟩
        rw [show (!decide (V.bl b2 = V.bl b2)) = false by simp]
        refine iteF ?_
        have sq : ∀ H2, Same H H2 → (SqL K H2 a xs ∨ SqT K H2 a xs) ∧ (SqL K H2 c ys ∨ SqT K H2 c ys) := fun H2 s2 => by
          rcases hh with ⟨p1, p2⟩ | ⟨p1, p2⟩
          · exact ⟨.inr (sqT_same s2 p1), .inr (sqT_same s2 p2)⟩
          · exact ⟨.inl (s2.seq p1), .inl (s2.seq p2)⟩
        refine ⟨_, rfl, a, xs, rfl, (sq _ sm).1, _, rfl, c, ys, rfl, (sq _ sm).2, rfl, _, rfl, ?_⟩
        rw [hl, show (!decide (V.int (ys.length : Int) = V.int (ys.length : Int))) = false by simp]
        refine iteF ?_
        refine ⟨_, rfl, c, ys, rfl, (sq _ sm).2, _, rfl, (by omega), (by omega), ?_⟩
        refine for_range (n := ys.length) (fun i σ H2 => (∃ v, σ = [some (.ref a), some (.ref c), v]) ∧ Same H H2) ⟨⟨none, rfl⟩, sm⟩ ?_ ?_
        · rintro i σ H2 hi ⟨⟨v, rfl⟩, s2⟩
          have hix : i < xs.length := by omega
          have pick : ∀ (q : Addr) (zs : List V), (SqL K H2 q zs ∨ SqT K H2 q zs) → ∀ (hz : i < zs.length) (Q' : VK), Q' zs[i] H2 → rIx K (.ref q) (.int (0 + (i : Int))) H2 Q' := fun q zs hq hz Q' hQ => by
            rcases hq with hq | hq
            · exact .inl ⟨q, zs, _, _, rfl, rfl, hq, atI_some hz, hQ⟩
            · exact .inr (.inl ⟨q, zs, _, _, rfl, rfl, hq, atI_some hz, hQ⟩)
          have s2' := sq H2 s2
          refine ⟨_, rfl, _, rfl, pick a xs s2'.1 hix _ ⟨_, rfl, _, rfl, pick c ys s2'.2 hi _ ?_⟩⟩
          refine ⟨_, _, rfl, (h2 i _ _ (by simp [hix]) (by simp [hi])).same s2, fun H3 s3 => ⟨_, rfl, ?_⟩⟩
          refine iteF ?_
          exact ⟨⟨_, rfl⟩, s2.trans s3⟩
        · rintro σ H2 ⟨_, s2⟩
          exact k _ s2
end
end K5


set_option Elab.async false
set_option linter.all false
set_option maxRecDepth 100000
set_option maxHeartbeats 2000000
namespace K5
open PySem L2 Nd Bk
/-! data of tuples alone -/
mutual
def tupOnly : PyData → Bool
  | .tuple ds => tupOnlyAll ds
  | .int _ => true
  | .str _ => true
  | .none => true
  | .bool _ => true
  | _ => false
def tupOnlyAll : List PyData → Bool
  | [] => true
  | d :: ds => tupOnly d && tupOnlyAll ds
end
def NotT (u : Option HO) : Prop := (∀ xs, u ≠ some (.tup xs)) ∧ ∀ o xs, u ≠ some (.frz o (.tup xs))
theorem notT_none : NotT none := ⟨fun _ h => (nomatch h), fun _ _ h => nomatch h⟩
theorem notT_lst {xs : List V} : NotT (some (.lst xs)) := ⟨fun _ h => (nomatch h), fun _ _ h => nomatch h⟩
theorem notT_dK {xs : List (Key × V)} : NotT (some (.dK xs)) := ⟨fun _ h => (nomatch h), fun _ _ h => nomatch h⟩
theorem notT_nd {P : Program} {w : World} {d : Addr} {es : List Ent} : NotT (some (ndO P w d es)) := ⟨fun _ h => (by unfold ndO at h; cases h), fun _ _ h => (by unfold ndO at h; cases h)⟩
theorem notT_frzN {P : Program} {w : World} {d : Addr} {es : List Ent} {o : Obj} : NotT (some (.frz o (ndO P w d es))) := ⟨fun _ h => (by cases h), fun _ _ h => (by unfold ndO at h; cases h)⟩
theorem notT_frzK {xs : List (Key × V)} {o : Obj} : NotT (some (.frz o (.dK xs))) := ⟨fun _ h => (by cases h), fun _ _ h => (by cases h)⟩
theorem sqT_put {K : PySem.W.Frag} {H : Hp} {D a : Addr} {o : HO} {xs : List V} (n : NotT (H D)) (h : SqT K H a xs) : SqT K (upd H D o) a xs := by
  rcases h with (h | ⟨o', h⟩) | h
  · refine .inl (.inl ?_)
    rw [upd_ne (fun e => n.1 xs (by rw [← e]; exact h))]
    exact h
  · refine .inl (.inr ⟨o', ?_⟩)
    rw [upd_ne (fun e => n.2 o' xs (by rw [← e]; exact h))]
    exact h
  · exact .inr h
mutual
theorem dp_put0 {K : PySem.W.Frag} {H : Hp} {D : Addr} {o : HO} (n : NotT (H D)) : ∀ {v : V} {d : PyData}, Dp K H v d → tupOnly d = true → Dp K (upd H D o) v d
  | _, _, .non => fun _ => .non
  | _, _, .bl b => fun _ => .bl b
  | _, _, .int i => fun _ => .int i
  | _, _, .str x => fun _ => .str x
  | _, _, .lst h a => fun t => by simp [tupOnly] at t
  | _, _, .tup h a => fun t => .tup (sqT_put n h) (dpAll_put0 n a (by simpa [tupOnly] using t))
theorem dpAll_put0 {K : PySem.W.Frag} {H : Hp} {D : Addr} {o : HO} (n : NotT (H D)) : ∀ {v : List V} {d : List PyData}, DpAll K H v d → tupOnlyAll d = true → DpAll K (upd H D o) v d
  | _, _, .nil => fun _ => .nil
  | _, _, .cons h r => fun t => by
    simp only [tupOnlyAll, Bool.and_eq_true] at t
    exact .cons (dp_put0 n h t.1) (dpAll_put0 n r t.2)
end
theorem dp_put {K : PySem.W.Frag} {H : Hp} {D : Addr} {o : HO} (n : NotT (H D)) {v : V} {d : PyData} (t : tupOnly d = true) (h : Dp K H v d) : Dp K (upd H D o) v d := dp_put0 n h t
theorem dpAll_put {K : PySem.W.Frag} {H : Hp} {D : Addr} {o : HO} (n : NotT (H D)) {v : List V} {d : List PyData} (t : tupOnlyAll d = true) (h : DpAll K H v d) : DpAll K (upd H D o) v d := dpAll_put0 n h t
theorem tupOnlyAll_of : ∀ {ds : List PyData}, (∀ d ∈ ds, tupOnly d = true) → tupOnlyAll ds = true
  | [], _ => rfl
  | d :: ds, h => by
    simp only [tupOnlyAll, Bool.and_eq_true]
    exact ⟨h d List.mem_cons_self, tupOnlyAll_of fun e he => h e (List.mem_cons_of_mem _ he)⟩
/-! bags as data -/
section
variable {κ : Type} [DecidableEq κ] [Ky κ]
def bD (l : Bag κ) : PyData := .tuple (l.map encP)
class Tu (κ : Type) [DecidableEq κ] [Ky κ] : Prop where
  tu : ∀ k : κ, tupOnly (Ky.enc k) = true
theorem tu_encP [Tu κ] (p : κ × Int) : tupOnly (encP p) = true := by
  show (tupOnlyAll [Ky.enc p.1, .int p.2]) = true
  simp [tupOnlyAll, tupOnly, Tu.tu]
theorem tu_encPs [Tu κ] (l : Bag κ) : ∀ d ∈ l.map encP, tupOnly d = true := fun d h => by
  obtain ⟨p, _, rfl⟩ := List.mem_map.mp h
  exact tu_encP p
theorem tu_bD [Tu κ] (l : Bag κ) : tupOnly (bD l) = true := by
  show tupOnlyAll (l.map encP) = true
  exact tupOnlyAll_of (tu_encPs l)
end
instance : Tu Str := ⟨fun _ => rfl⟩
theorem mD_bD (m : Mono) : mD m = bD m := rfl
theorem enc_mono (m : Mono) : Ky.enc m = bD m := rfl
instance : Tu Mono := ⟨fun m => tu_bD (κ := Str) m⟩
section
variable {K : PySem.W.Frag} {H : Hp}
theorem dpAll_len : ∀ {xs : List V} {ds : List PyData}, DpAll K H xs ds → xs.length = ds.length
  | _, _, .nil => rfl
  | _, _, .cons _ t => by simp [dpAll_len t]
theorem dpAll_get : ∀ {xs : List V} {ds : List PyData}, DpAll K H xs ds → ∀ {i : Nat} {x : V}, xs[i]? = some x → ∃ d, ds[i]? = some d ∧ Dp K H x d
  | _, _, .cons h t, 0, x, e => by
    simp only [List.getElem?_cons_zero, Option.some.injEq] at e
    exact ⟨_, rfl, by rw [← e]; exact h⟩
  | _, _, .cons h t, i + 1, x, e => by
    simp only [List.getElem?_cons_succ] at e ⊢
    exact dpAll_get t e
theorem dpAll_append : ∀ {xs ys : List V} {ds es : List PyData}, DpAll K H xs ds → DpAll K H ys es → DpAll K H (xs ++ ys) (ds ++ es)
  | _, _, _, _, .nil, h => h
  | _, _, _, _, .cons h t, h2 => .cons h (dpAll_append t h2)
theorem dp_tup {v : V} {ds : List PyData} (h : Dp K H v (.tuple ds)) : ∃ a xs, v = .ref a ∧ SqT K H a xs ∧ DpAll K H xs ds := by
  cases h with
  | tup h a => exact ⟨_, _, rfl, h, a⟩
theorem dp_int {v : V} {i : Int} (h : Dp K H v (.int i)) : v = .int i := by
  cases h
  rfl
theorem dp_str {v : V} {i : Str} (h : Dp K H v (.str i)) : v = .str i := by
  cases h
  rfl
/-- the pair (key, number) at T -/
theorem dp_pair {κ : Type} [DecidableEq κ] [Ky κ] {v : V} {p : κ × Int} (h : Dp K H v (encP p)) : ∃ T k, v = .ref T ∧ SqT K H T [k, .int p.2] ∧ Dp K H k (Ky.enc p.1) := by
  obtain ⟨a, xs, rfl, hs, ha⟩ := dp_tup h
  cases ha with
  | cons h1 h2 =>
    cases h2 with
    | cons h3 h4 =>
      cases h4
      cases h3
      exact ⟨a, _, rfl, hs, h1⟩
theorem dp_mk {κ : Type} [DecidableEq κ] [Ky κ] {T : Addr} {k : V} {c : Int} {x : κ} (h : SqT K H T [k, .int c]) (hk : Dp K H k (Ky.enc x)) : Dp K H (.ref T) (encP (x, c)) := .tup h (.cons hk (.cons (.int c) .nil))
/-- a bag's tuple at a -/
theorem dp_bag {κ : Type} [DecidableEq κ] [Ky κ] {v : V} {l : Bag κ} (h : Dp K H v (bD l)) : ∃ a xs, v = .ref a ∧ SqT K H a xs ∧ xs.length = l.length ∧ DpAll K H xs (l.map encP) := by
  obtain ⟨a, xs, rfl, hs, ha⟩ := dp_tup h
  exact ⟨a, xs, rfl, hs, by rw [dpAll_len ha, List.length_map], ha⟩
theorem bag_get {κ : Type} [DecidableEq κ] [Ky κ] {xs : List V} {l : Bag κ} (h : DpAll K H xs (l.map encP)) {i : Nat} {x : V} (e : xs[i]? = some x) : ∃ p, l[i]? = some p ∧ Dp K H x (encP p) := by
  obtain ⟨d, h1, h2⟩ := dpAll_get h e
  rw [List.getElem?_map] at h1
  cases q : l[i]? with
  | none => rw [q] at h1; cases h1
  | some p =>
    rw [q] at h1
    cases h1
    exact ⟨p, rfl, h2⟩
end
/-! a list that is put together -/
theorem sm_new {H H2 : Hp} {d : Addr} {o : HO} (s : Same H H2) (n : H d = none) : Same H (upd H2 d o) := fun a u h => by
  rw [upd_ne (ne_of_none h n)]
  exact s a u h
theorem sm_refl {H : Hp} : Same H H := fun _ _ h => h
structure AccI (K : PySem.W.Frag) (H1 : Hp) (D : Addr) (ds : List PyData) (i : Nat) (H2 : Hp) : Prop where
  sm : Same H1 H2
  at_ : ∃ ys, H2 D = some (.lst ys) ∧ DpAll K H2 ys (ds.take i)
section
variable {K : PySem.W.Frag} {H1 : Hp} {D : Addr} {ds : List PyData}
theorem acc_zero (n : H1 D = none) : AccI K H1 D ds 0 (upd H1 D (.lst [])) := ⟨sm_new sm_refl n, [], upd_same, by rw [List.take_zero]; exact .nil⟩
theorem acc_step {i : Nat} {H2 H4 : Hp} {y : V} {d : PyData} (a : AccI K H1 D ds i H2) (n : H1 D = none) (hl : ds.length ≤ 1000000) (tu : ∀ d ∈ ds, tupOnly d = true) (s : Same H2 H4) (e : ds[i]? = some d) (h : Dp K H4 y d) :
    ∃ acc, H4 D = some (.lst acc) ∧ acc.length < sizeLine ∧ AccI K H1 D ds (i + 1) (upd H4 D (.lst (acc ++ [y]))) := by
  obtain ⟨s1, ys, hD, hy⟩ := a
  have hD4 := s _ _ hD
  have nt : NotT (H4 D) := by rw [hD4]; exact notT_lst
  have lt : tupOnlyAll (ds.take i) = true := tupOnlyAll_of fun d hd => tu d (List.mem_of_mem_take hd)
  refine ⟨ys, hD4, ?_, sm_new (s1.trans s) n, ys ++ [y], upd_same, ?_⟩
  · have := dpAll_len hy
    rw [List.length_take] at this
    rw [sizeLine_eq]
    omega
  · rw [List.take_succ, e]
    exact dpAll_append (dpAll_put nt lt (dpAll_same s hy)) (.cons (dp_put nt (tu d (List.mem_of_getElem? e)) h) .nil)
theorem acc_end {H2 : Hp} {n : Nat} (a : AccI K H1 D ds n H2) (e : n = ds.length) : Same H1 H2 ∧ ∃ ys, H2 D = some (.lst ys) ∧ DpAll K H2 ys ds := by
  subst e
  obtain ⟨s1, ys, hD, hy⟩ := a
  rw [List.take_length] at hy
  exact ⟨s1, ys, hD, hy⟩
end
/-! what a dict of this kind holds, as a bag -/
def bagOf (es : List Ent) : Poly := es.map fun e => (e.1, e.2.2)
theorem bagOf_len (es : List Ent) : (bagOf es).length = es.length := List.length_map ..
theorem look_bagOf (es : List Ent) (m : Mono) : look (bagOf es) m = getN es m := by
  induction es with
  | nil => rfl
  | cons e r ih =>
    unfold look getN bagOf at ih ⊢
    rw [List.map_cons, List.find?_cons, List.find?_cons]
    by_cases h : e.1 = m
    · simp [h]
    · simp only [decide_eq_false h]
      exact ih
theorem bagOf_put (es : List Ent) (m : Mono) (a : Addr) (c : Int) : bagOf (putN es m a c) = put (bagOf es) m c := by
  unfold putN put
  rw [look_bagOf]
  split
  · unfold bagOf
    rw [List.map_map, List.map_map]
    refine List.map_congr_left fun e _ => ?_
    show (fun e : Ent => (e.1, e.2.2)) (if e.1 = m then (e.1, e.2.1, c) else e) = if e.1 = m then (e.1, c) else (e.1, e.2.2)
    split <;> rfl
  · unfold bagOf
    rw [List.map_append]
    rfl
end K5


set_option Elab.async false
set_option linter.all false
set_option maxRecDepth 100000
set_option maxHeartbeats 2000000
namespace K5
open PySem L2 Nd Bk PySem.Spec PyProof.Rows
/-! dict(tuple of pairs), the tuple known to be without a dict of its own -/
def PlainT (H : Hp) (a : Addr) : Prop := ∃ o xs, H a = some (.frz o (.tup xs)) ∧ o.dict = none
theorem PlainT.same {H H' : Hp} {a : Addr} (s : Same H H') (h : PlainT H a) : PlainT H' a := let ⟨o, xs, h1, h2⟩ := h; ⟨o, xs, s _ _ h1, h2⟩
theorem PlainT.put {H : Hp} {a D : Addr} {u : HO} (n : NotT (H D)) (h : PlainT H a) : PlainT (upd H D u) a := by
  obtain ⟨o, xs, h1, h2⟩ := h
  refine ⟨o, xs, ?_, h2⟩
  rw [upd_ne (fun e => n.2 o xs (by rw [← e]; exact h1))]
  exact h1
def tx (m : Mono) : List (Key × V) := m.map fun p => (.inr p.1, .int p.2)
section
variable {X : Cx}
theorem call_tupleF : CallR X (.type "tuple") (fun xs H Q => ∃ p ys, xs = [.ref p] ∧ SqL X.K H p ys ∧ ∀ l o, H l = none → o.dict = none → Q (.ref l) (upd H l (.frz o (.tup ys)))) := by
  intro pins s σ H xs us Q I r h
  obtain ⟨p, ys, rfl, hq, q⟩ := h
  obtain ⟨u, rfl, rx⟩ := vals1 r
  cases rx
  obtain ⟨its, r', pl, hz⟩ := I.list hq
  have hlen := r'.length
  refine call_tuple_list pl.isList (fun h' kp => ?_) (by simp only [List.size_toArray] <;> omega)
  have I1 : Inv X pins σ H { s with heap := h' } := I.kept (t' := s.toks) kp
  have I2 : Inv X pins σ (upd H h'.objs.size (.frz { cls := .type "tuple", data := .seq its.toArray } (.tup ys))) { s with heap := h'.push { cls := .type "tuple", data := .seq its.toArray } } :=
    I1.laid (t' := s.toks) (fun b o e => Heap.get?_push_of_some _ e) (Nat.le_refl _) (show ObjOk X.prog X.w _ _ _ (.frz _ (.tup ys)) from ⟨Heap.get?_push_size _ rfl, hz, its, r', IsTup.new _ _⟩)
  exact ⟨.ref h'.objs.size, _, I2, rfl, q _ _ (I1.hok.fresh (Nat.le_refl _)) rfl⟩
theorem pairs_ofT {pins : List (Addr × Obj)} {σ : L2.St} {H : Hp} {s : Shared} (I : Inv X pins σ H s) : ∀ {m : Mono} {xs : List V} {us : List Value}, DpAll X.K H xs (m.map tkD) → Vals xs us →
    ∃ (as : List Addr) (ps : List (Value × Value)) (prs : List (Key × Value)), us = as.map Value.ref ∧ KV (tx m) prs ∧ as.length = m.length ∧ ps.length = m.length ∧
      ∀ (j : Nat) (k v : Value), ps[j]? = some (k, v) → (∃ a, as[j]? = some a ∧ PairAt s.heap a k v) ∧ ∃ key, prs[j]? = some (key, v) ∧ (mixKind X.prog X.w).is key k = true
  | [], _, _, h, r => by
    cases h
    cases r
    exact ⟨[], [], [], rfl, .nil, rfl, rfl, fun j k v e => by simp at e⟩
  | p :: m, _, _, h, r => by
    cases h with
    | cons h1 h2 =>
      cases r with
      | cons r1 r2 =>
        obtain ⟨as, ps, prs, rfl, kv, la, lp, hh⟩ := pairs_ofT I h2 r2
        obtain ⟨T, k, rfl, hs, hk⟩ := dp_pair (κ := Str) (p := p) h1
        cases dp_str (i := p.1) hk
        cases r1
        obtain ⟨its, rv, ht, _⟩ := I.tuple hs
        obtain ⟨u, y, ei, ru, ry⟩ := vals2 rv
        subst ei
        refine ⟨T :: as, (u, y) :: ps, (.inr p.1, y) :: prs, rfl, .cons ⟨rfl, ry⟩ kv, by simp [la], by simp [lp], fun j k v e => ?_⟩
        cases j with
        | zero =>
          simp only [List.getElem?_cons_zero, Option.some.injEq, Prod.mk.injEq] at e
          obtain ⟨rfl, rfl⟩ := e
          exact ⟨⟨T, rfl, .inl ht⟩, .inr p.1, rfl, kV_is (P := X.prog) (w := X.w) ru⟩
        | succ j =>
          simp only [List.getElem?_cons_succ] at e ⊢
          exact hh j k v e
theorem merge_snoc {k : Key} {v : V} : ∀ (more kvs : List (Key × V)), (kvs ++ more).map (·.1) |>.Nodup → mergeK kvs more = kvs ++ more
  | [], kvs, _ => by
    rw [List.append_nil]
    rfl
  | p :: r, kvs, h => by
    have hn : valV kvs p.1 = none := by
      cases e : valV kvs p.1 with
      | none => rfl
      | some y =>
        unfold valV at e
        obtain ⟨q, hq, _⟩ := Option.map_eq_some_iff.mp e
        have h1 := List.mem_of_find?_eq_some hq
        have h2' := List.find?_some hq
        have h2 : q.1 = p.1 := of_decide_eq_true h2'
        rw [List.map_append, List.nodup_append] at h
        exact absurd h2 (h.2.2 q.1 (List.mem_map.mpr ⟨q, h1, rfl⟩) p.1 (by simp))
    show mergeK (putK kvs p.1 p.2) r = _
    rw [putK_new _ hn, merge_snoc r (k := k) (v := v) _ (by simpa using h)]
    simp
theorem tx_nodup {m : Mono} (h : (m.map (·.1)).Nodup) : ((tx m).map (·.1)).Nodup := by
  unfold tx
  rw [List.map_map]
  have e : ((fun kv : Key × V => kv.1) ∘ fun p : Str × Int => ((Sum.inr p.1 : Key), V.int p.2)) = (fun x : Str => (Sum.inr x : Key)) ∘ fun p : Str × Int => p.1 := rfl
  rw [e, ← List.map_map]
  rw [List.Nodup, List.pairwise_map]
  exact h.imp fun {a b} hab e => hab (Sum.inr.inj e)
theorem call_dictT (hcalm : X.calm = true) : CallR X (.type "dict") (fun xs H Q => ∃ (a : Addr) (m : Mono), xs = [.ref a] ∧ PlainT H a ∧ Dp X.K H (.ref a) (mD m) ∧ (m.map (·.1)).Nodup ∧
    ∀ p, H p = none → Q (.ref p) (upd H p (.dK (tx m)))) := by
  intro pins s σ H xs us Q I r q
  obtain ⟨a, m, ex, hp, hd, hnd, q⟩ := q
  subst ex
  obtain ⟨u, eu, rx⟩ := vals1 r
  subst eu
  cases rx
  obtain ⟨a', ys, ea, hs, hl, ha⟩ := dp_bag (κ := Str) hd
  cases ea
  obtain ⟨its, rv, ht, hz⟩ := I.tuple hs
  obtain ⟨as, ps, prs, rfl, kv, la, lp, hh⟩ := pairs_ofT I ha rv
  obtain ⟨o, zs, hH, ho⟩ := hp
  have hk : s.heap.get? a = some o := (show ObjOk X.prog X.w H s.heap a (.frz o (.tup zs)) from I.hok a _ hH).1
  obtain ⟨o', ho', hc', n', hd'⟩ := ht
  rw [hk] at ho'
  cases ho'
  have tl : (tx m).length = m.length := List.length_map ..
  have pl : prs.length = m.length := by rw [← tl, kv.length]
  refine PySem.call_dict_pairs (knd := mixKind X.prog X.w) (kvs := prs) (PairArg.tuple a (as.map Value.ref).toArray (fun j => as.getD j 0) ps) (I.ok.hd hcalm) ⟨⟨o, n', hk, hc', ho, hd'⟩, by simp [la, lp], fun j k v e => ?_⟩ ⟨by rw [pl, lp], fun i key v e => ?_⟩ (by rw [lp, ← hl]; exact hz) fun h' tk hdd hkk => ?_
  · obtain ⟨⟨b, hb, hpa⟩, _⟩ := hh j k v e
    have e2 : as.getD j 0 = b := by rw [List.getD_eq_getElem?_getD, hb]; rfl
    show (List.map Value.ref as).toArray[j]? = some (Value.ref (as.getD j 0)) ∧ PairAt s.heap (as.getD j 0) k v
    rw [e2]
    exact ⟨by simp [hb], hpa⟩
  · obtain ⟨_, key', h1, h2⟩ := hh i key v e
    exact ⟨key', h1, h2⟩
  · have hm : (s.heap.objs.size == sysModules) = false := beq_eq_false_iff_ne.mpr (Nat.ne_of_gt I.big)
    have em : mergeK [] (tx m) = tx m := merge_snoc (k := .inl 0) (v := .non) (tx m) [] (by rw [List.nil_append]; exact tx_nodup hnd)
    have mr := KV.merge kv (kvs := []) (vs := []) .nil
    rw [em] at mr
    refine ⟨.ref s.heap.objs.size, upd H s.heap.objs.size (.dK (tx m)), I.laid (t' := tk) (fun b o e => hkk b o (by simp) e) (Nat.le_refl _) (show ObjOk X.prog X.w _ _ _ (.dK (tx m)) from ⟨?_, hm, merged [] prs, mr, hdd⟩), rfl, q _ (I.hok.fresh (Nat.le_refl _))⟩
    rw [tl, ← hl]
    exact hz
end
end K5


set_option Elab.async false
set_option linter.all false
set_option maxRecDepth 100000
set_option maxHeartbeats 4000000
namespace K5
open PySem L2 Nd Bk
def BEY : Int := 10 ^ 100
/-- the names that are used -/
structure Cn (K : PySem.W.Frag) (mg : Str → Option Value) : Prop where
  N : Nm mg
  min : mg "min" = none
  any : mg "any" = none
  dict : mg "dict" = none
  srt : mg "sorted" = none
  bey : ∃ t, mg "BEYOND_FIGURES" = some (.int BEY t)
  zero : ∃ a, mg "ZERO" = some (.ref a) ∧ ∀ H, Dp K H (.ref a) (bD ([] : Poly))
  one : ∃ a, mg "ONE" = some (.ref a) ∧ ∀ H, Dp K H (.ref a) (bD oneP)
/-- a def of the program, as it is called -/
structure Df (P : Program) (w : World) (K : PySem.W.Frag) (mg : Str → Option Value) (base : Heap) (k : Nat) (x : Str) (ps : List Str) (sp : Sp) : Prop where
  ok : ∃ (f : Addr) (fd : FuncData), mg x = some (.ref f) ∧ PySem.W.keepIn K (.ref f) = true ∧ Binds K fd ps [] ∧ FnOk P w K mg base CX0 k f fd ps sp
theorem u9 {k : Nat} {A : Around} (hr : Room k A) : A.units + 9 < cLine := by
  have := hr.un
  omega
theorem u64 {k : Nat} {A : Around} (hr : Room k A) : A.units + 64 < cLine := by
  have := hr.un
  omega
def spPut (K : PySem.W.Frag) (P : Program) (w : World) : Sp := fun vs H Q _ => ∃ (d a : Addr) (es : List Ent) (m : Mono) (c : Int), vs = [.ref d, .ref a, .int c] ∧ NdAt K P w H d es ∧ Dp K H (.ref a) (mD m) ∧ es.length ≤ 1000000 ∧
  (getN es m).getD 0 + c < BEY ∧ Q .non (upd H d (ndO P w d (putN es m a ((getN es m).getD 0 + c))))
def spChk (K : PySem.W.Frag) (P : Program) (w : World) : Sp := fun vs H Q _ => ∃ (d : Addr) (es : List Ent), vs = [.ref d] ∧ NdAt K P w H d es ∧ es.length ≤ 400 ∧ Q .non H
section
variable {P : Program} {w : World} {K : PySem.W.Frag} {mg : Str → Option Value} {base : Heap}
end
end K5


set_option Elab.async false
set_option linter.all false
set_option maxRecDepth 100000
set_option maxHeartbeats 4000000
namespace K5
open PySem L2 Nd Bk
theorem lock_back {H H' : Hp} {d : Addr} {u : HO} {od : Obj} (e : H d = some u) (s : Same (upd H d (.frz od u)) H') : Same H (upd H' d u) := fun a o h => by
  by_cases q : a = d
  · rw [q] at h ⊢
    rw [upd_same]
    rw [h] at e
    exact e.symm ▸ rfl
  · rw [upd_ne q]
    exact s a o (by rw [upd_ne q]; exact h)
theorem nd_back {K : PySem.W.Frag} {P : Program} {w : World} {H H' : Hp} {d : Addr} {es : List Ent} (n : NdAt K P w H d es) (s : Same H H') : NdAt K P w H' d es := ⟨s _ _ n.at_, fun e he => dp_same s (n.keys e he)⟩
theorem nd_other {K : PySem.W.Frag} {P : Program} {w : World} {H : Hp} {d D : Addr} {es : List Ent} {o : HO} (n : NdAt K P w H d es) (ne : d ≠ D) (nt : NotT (H D)) : NdAt K P w (upd H D o) d es :=
  ⟨by rw [upd_ne ne]; exact n.at_, fun e he => dp_put nt (tu_bD (κ := Str) e.1) (n.keys e he)⟩
theorem map_srt {κ : Type} [DecidableEq κ] [Ky κ] (l : Bag κ) : (l.map encP).mergeSort (PySem.W.dataLe false id) = (srt l).map encP := by
  unfold srt
  rw [List.map_mergeSort]
  intro a _ b _
  rfl
theorem al_encP {κ : Type} [DecidableEq κ] [Ky κ] (p q : κ × Int) : PySem.W.alike (encP p) (encP q) = true := by
  have ai : PySem.W.alike (.int p.2) (.int q.2) = true := by simp [PySem.W.alike]
  simp [encP, PySem.W.alike, PySem.W.alikeAll, Ky.al]
theorem dep_encP {κ : Type} [DecidableEq κ] [Ky κ] (p : κ × Int) : (encP p).depth ≤ 20 := by
  have := Ky.dep p.1
  simp only [encP, PyData.depth, PyData.depthAll]
  omega
theorem prd_of {K : PySem.W.Frag} {P : Program} {w : World} {H : Hp} {d : Addr} {es : List Ent} (n : NdAt K P w H d es) : PrD K H (es.map fun e => (V.ref e.2.1, V.int e.2.2)) ((bagOf es).map encP) := by
  have h := n.keys
  clear n
  induction es with
  | nil => exact .nil
  | cons e r ih => exact .cons ⟨_, _, rfl, h e List.mem_cons_self, .int _⟩ (ih fun x hx => h x (List.mem_cons_of_mem _ hx))
def spPoly (K : PySem.W.Frag) (P : Program) (w : World) : Sp := fun vs H Q _ => ∃ (d : Addr) (es : List Ent), vs = [.ref d] ∧ NdAt K P w H d es ∧ es.length ≤ 400 ∧ (∀ t ∈ bagOf es, t.2 < BEY ∧ t.1.length ≤ 1000 ∧ ∀ x ∈ t.1, x.2 < BEY) ∧
  ∀ (v : V) (H' : Hp), Same H H' → Dp K H' v (bD (srt (bagOf es))) → Q v H'
def spAs (K : PySem.W.Frag) (P : Program) (w : World) : Sp := fun vs H Q _ => ∃ (d : Addr) (es : List Ent), vs = [.ref d] ∧ NdAt K P w H d es ∧ ∀ (v : V) (H' : Hp), Same H H' → Dp K H' v (bD (srt (bagOf es))) → Q v H'
def spCkF (K : PySem.W.Frag) : Sp := fun vs H Q _ => ∃ (v : V) (B : Poly), vs = [v] ∧ Dp K H v (bD B) ∧ (∀ t ∈ B, t.2 < BEY ∧ t.1.length ≤ 1000 ∧ ∀ x ∈ t.1, x.2 < BEY) ∧ ∀ H', Same H H' → Q .non H'
section
variable {P : Program} {w : World} {K : PySem.W.Frag} {mg : Str → Option Value} {base : Heap}
theorem srt_lim {B : Poly} {p : Mono × Int → Prop} (h : ∀ t ∈ B, p t) : ∀ t ∈ srt B, p t := fun t ht => h t (List.mem_mergeSort.mp ht)
end
end K5


set_option Elab.async false
set_option linter.all false
set_option maxRecDepth 100000
set_option maxHeartbeats 4000000
namespace K5
open PySem L2 Nd Bk
/-- a pair whose first is a tuple that is known to be without a dict -/
def PlP (K : PySem.W.Frag) (H : Hp) (x : V) (t : Mono × Int) : Prop := ∃ U a, x = .ref U ∧ SqT K H U [.ref a, .int t.2] ∧ PlainT H a ∧ Dp K H (.ref a) (bD t.1)
theorem PlP.same {K : PySem.W.Frag} {H H' : Hp} {x : V} {t : Mono × Int} (s : Same H H') (h : PlP K H x t) : PlP K H' x t := let ⟨U, a, h1, h2, h3, h4⟩ := h; ⟨U, a, h1, sqT_same s h2, h3.same s, dp_same s h4⟩
theorem PlP.put {K : PySem.W.Frag} {H : Hp} {D : Addr} {o : HO} {x : V} {t : Mono × Int} (n : NotT (H D)) (h : PlP K H x t) : PlP K (upd H D o) x t :=
  let ⟨U, a, h1, h2, h3, h4⟩ := h; ⟨U, a, h1, sqT_put n h2, h3.put n, dp_put n (tu_bD (κ := Str) t.1) h4⟩
structure Fz (K : PySem.W.Frag) (H : Hp) (T : Addr) (xs : List V) (p : Poly) : Prop where
  sq : SqT K H T xs
  all : DpAll K H xs (p.map encP)
  pl : Paired (PlP K H) xs p
theorem Fz.same {K : PySem.W.Frag} {H H' : Hp} {T : Addr} {xs : List V} {p : Poly} (s : Same H H') (h : Fz K H T xs p) : Fz K H' T xs p := ⟨sqT_same s h.sq, dpAll_same s h.all, Paired.mapP h.pl fun _ _ q => q.same s⟩
theorem Fz.put {K : PySem.W.Frag} {H : Hp} {D : Addr} {o : HO} {T : Addr} {xs : List V} {p : Poly} (n : NotT (H D)) (h : Fz K H T xs p) : Fz K (upd H D o) T xs p :=
  ⟨sqT_put n h.sq, dpAll_put n (tupOnlyAll_of (tu_encPs p)) h.all, Paired.mapP h.pl fun _ _ q => q.put n⟩
theorem Fz.len {K : PySem.W.Frag} {H : Hp} {T : Addr} {xs : List V} {p : Poly} (h : Fz K H T xs p) : xs.length = p.length := by rw [dpAll_len h.all, List.length_map]
def rTupF (K : PySem.W.Frag) : List V → Hp → VK → Prop := fun xs H Q => ∃ p ys, xs = [.ref p] ∧ SqL K H p ys ∧ ∀ l o, H l = none → o.dict = none → Q (.ref l) (upd H l (.frz o (.tup ys)))
def Szd (p : Poly) : Prop := p.length ≤ 1000 ∧ ∀ t ∈ p, t.1.length ≤ 1000
def spFroz (K : PySem.W.Frag) : Sp := fun vs H Q _ => ∃ (v : V) (p : Poly), vs = [v] ∧ Dp K H v (bD p) ∧ Szd p ∧ ∀ (T : Addr) (xs : List V) (H' : Hp), Same H H' → Fz K H' T xs p → Q (.ref T) H'
theorem list1000 {n : Nat} (h : n ≤ 1000) : n ≤ 1000000 := by omega
section
variable {P : Program} {w : World} {K : PySem.W.Frag} {mg : Str → Option Value} {base : Heap}
end
end K5


set_option Elab.async false
set_option linter.all false
set_option maxRecDepth 100000
set_option maxHeartbeats 4000000
namespace K5
open PySem L2 Nd Bk
/-! tuples stay -/
def KeepT (H H' : Hp) : Prop := (∀ a xs, H a = some (.tup xs) → H' a = some (.tup xs)) ∧ ∀ a o xs, H a = some (.frz o (.tup xs)) → H' a = some (.frz o (.tup xs))
theorem KeepT.trans {H H1 H2 : Hp} (x : KeepT H H1) (y : KeepT H1 H2) : KeepT H H2 := ⟨fun a xs h => y.1 a xs (x.1 a xs h), fun a o xs h => y.2 a o xs (x.2 a o xs h)⟩
theorem KeepT.same {H H' : Hp} (s : Same H H') : KeepT H H' := ⟨fun a xs h => s _ _ h, fun a o xs h => s _ _ h⟩
theorem KeepT.but {H H' : Hp} {d : Addr} (n : NotT (H d)) (s : But d H H') : KeepT H H' := ⟨fun a xs h => s _ _ h (fun e => n.1 xs (by rw [← e]; exact h)), fun a o xs h => s _ _ h (fun e => n.2 o xs (by rw [← e]; exact h))⟩
theorem KeepT.upd {H : Hp} {d : Addr} {o : HO} (n : NotT (H d)) : KeepT H (upd H d o) := .but n But.upd
theorem sqT_kt {K : PySem.W.Frag} {H H' : Hp} (k : KeepT H H') {a : Addr} {xs : List V} (h : SqT K H a xs) : SqT K H' a xs := by
  rcases h with (h | ⟨o, h⟩) | h
  · exact .inl (.inl (k.1 _ _ h))
  · exact .inl (.inr ⟨o, k.2 _ _ _ h⟩)
  · exact .inr h
mutual
theorem dp_kt0 {K : PySem.W.Frag} {H H' : Hp} (k : KeepT H H') : ∀ {v : V} {d : PyData}, Dp K H v d → tupOnly d = true → Dp K H' v d
  | _, _, .non => fun _ => .non
  | _, _, .bl b => fun _ => .bl b
  | _, _, .int i => fun _ => .int i
  | _, _, .str x => fun _ => .str x
  | _, _, .lst h a => fun t => by simp [tupOnly] at t
  | _, _, .tup h a => fun t => .tup (sqT_kt k h) (dpAll_kt0 k a (by simpa [tupOnly] using t))
theorem dpAll_kt0 {K : PySem.W.Frag} {H H' : Hp} (k : KeepT H H') : ∀ {v : List V} {d : List PyData}, DpAll K H v d → tupOnlyAll d = true → DpAll K H' v d
  | _, _, .nil => fun _ => .nil
  | _, _, .cons h r => fun t => by
    simp only [tupOnlyAll, Bool.and_eq_true] at t
    exact .cons (dp_kt0 k h t.1) (dpAll_kt0 k r t.2)
end
theorem bD_kt {K : PySem.W.Frag} {H H' : Hp} {κ : Type} [DecidableEq κ] [Ky κ] [Tu κ] (k : KeepT H H') {v : V} {l : Bag κ} (h : Dp K H v (bD l)) : Dp K H' v (bD l) := dp_kt0 k h (tu_bD l)
theorem bA_kt {K : PySem.W.Frag} {H H' : Hp} {κ : Type} [DecidableEq κ] [Ky κ] [Tu κ] (k : KeepT H H') {v : List V} {l : Bag κ} (h : DpAll K H v (l.map encP)) : DpAll K H' v (l.map encP) := dpAll_kt0 k h (tupOnlyAll_of (tu_encPs l))
theorem PlP.kt {K : PySem.W.Frag} {H H' : Hp} {x : V} {t : Mono × Int} (k : KeepT H H') (h : PlP K H x t) : PlP K H' x t := let ⟨U, a, h1, h2, ⟨o, xs, h3, h5⟩, h4⟩ := h; ⟨U, a, h1, sqT_kt k h2, ⟨o, xs, k.2 _ _ _ h3, h5⟩, bD_kt (κ := Str) k h4⟩
theorem Fz.kt {K : PySem.W.Frag} {H H' : Hp} (k : KeepT H H') {T : Addr} {xs : List V} {p : Poly} (h : Fz K H T xs p) : Fz K H' T xs p := ⟨sqT_kt k h.sq, bA_kt k h.all, Paired.mapP h.pl fun _ _ q => q.kt k⟩
theorem sm_but {H H3 H5 : Hp} {d : Addr} (s : Same H H3) (n : H d = none) (b : But d H3 H5) : Same H H5 := fun a o h => b _ _ (s _ _ h) (ne_of_none h n)
/-! sizes -/
section
variable {κ : Type} [DecidableEq κ] [Ky κ]
theorem put_mem (l : Bag κ) (k : κ) (v : Int) : (k, v) ∈ put l k v := by
  unfold put
  split
  · rename_i h
    obtain ⟨u, hu⟩ := Option.isSome_iff_exists.mp h
    exact List.mem_map.mpr ⟨(k, u), look_mem hu, by simp⟩
  · simp
theorem S_take_le {ts : Bag κ} (h : Pos ts) (i : Nat) : S (ts.take i) ≤ S ts := by
  have e : S ts = S (ts.take i) + S (ts.drop i) := by rw [← S_append, List.take_append_drop]
  have := S_nonneg (l := ts.drop i) fun p hp => h p (List.mem_of_mem_drop hp)
  omega
theorem look_le {ts : Bag κ} (h : Pos ts) {i : Nat} {p : κ × Int} (e : ts[i]? = some p) : (look (book (ts.take i)) p.1).getD 0 + p.2 ≤ S ts := by
  have ht : ts.take (i + 1) = ts.take i ++ [p] := by rw [List.take_succ, e]; rfl
  have hp : Pos (ts.take (i + 1)) := fun q hq => h q (List.mem_of_mem_take hq)
  have h1 : (p.1, (look (book (ts.take i)) p.1).getD 0 + p.2) ∈ book (ts.take (i + 1)) := by
    rw [ht, book_snoc]
    exact put_mem _ _ _
  have h2 := le_S (pos_book hp) h1
  rw [S_book] at h2
  have h3 := S_take_le h (i + 1)
  exact Int.le_trans h2 h3
theorem len_le_S {m : Bag κ} (h : Pos m) : (m.length : Int) ≤ S m := by
  induction m with
  | nil => exact Int.le_refl _
  | cons x r ih =>
    have h1 := h x List.mem_cons_self
    have h2 := ih fun q hq => h q (List.mem_cons_of_mem _ hq)
    have e : S (x :: r) = x.2 * 1 + S r := by unfold S pr; simp
    rw [List.length_cons]
    omega
end
theorem szd_of {p : Poly} (h : POk p) (hl : p.length ≤ 1000) (hd : Dg p 1000) : Szd p := ⟨hl, fun t ht => by
  have h1 := len_le_S (h.2.2 t ht).2
  have h2 := hd t ht
  omega⟩
theorem book_keys {Pk : Mono → Prop} {ts : Poly} (h : ∀ t ∈ ts, Pk t.1) : ∀ t ∈ book ts, Pk t.1 := key_book ts [] (fun _ q => nomatch q) h
theorem poly_lim {ts : Poly} (hp : Pos ts) (hs : S ts < BEY) (hm : ∀ t ∈ ts, Pos t.1 ∧ S t.1 ≤ 1000) : ∀ t ∈ book ts, t.2 < BEY ∧ t.1.length ≤ 1000 ∧ ∀ x ∈ t.1, x.2 < BEY := fun t ht => by
  have h1 := le_S (pos_book hp) ht
  rw [S_book] at h1
  obtain ⟨h2, h3⟩ := book_keys (Pk := fun m => Pos m ∧ S m ≤ 1000) hm t ht
  have h4 := len_le_S h2
  refine ⟨by omega, by omega, fun x hx => ?_⟩
  have h5 := le_S h2 hx
  have : (1000 : Int) < BEY := by decide
  omega
theorem rcat_mk {K : PySem.W.Frag} {H : Hp} {a b : Addr} {xs ys : List V} {Q : VK} (ha : SqT K H a xs) (hb : SqT K H b ys) (hz : xs.length + ys.length ≤ sizeLine) (h : ∀ r H', Same H H' → SqT K H' r (xs ++ ys) → Q (.ref r) H') : rCatA K (.ref a) (.ref b) H Q :=
  ⟨a, b, xs, ys, rfl, rfl, ha, hb, hz, fun e => h b H sm_refl (by rw [e]; exact hb), fun _ e => h a H sm_refl (by rw [e, List.append_nil]; exact ha), fun _ _ p np => h p _ (sm_new sm_refl np) (SqT.of upd_same)⟩
theorem nd_put {K : PySem.W.Frag} {P : Program} {w : World} {H : Hp} {d a : Addr} {es : List Ent} {m : Mono} {c : Int} (n : NdAt K P w H d es) (hm : Dp K H (.ref a) (mD m)) : NdAt K P w (upd H d (ndO P w d (putN es m a c))) d (putN es m a c) := by
  have kt : KeepT H (upd H d (ndO P w d (putN es m a c))) := .upd (by rw [n.at_]; exact notT_nd)
  refine ⟨upd_same, fun e he => ?_⟩
  have : ∀ e ∈ putN es m a c, Dp K H (.ref e.2.1) (mD e.1) := fun e he => by
    unfold putN at he
    split at he
    · obtain ⟨e0, h0, rfl⟩ := List.mem_map.mp he
      split
      · exact n.keys e0 h0
      · exact n.keys e0 h0
    · rcases List.mem_append.mp he with h | h
      · exact n.keys e h
      · rw [List.mem_singleton.mp h]
        exact hm
  exact bD_kt (κ := Str) kt (this e he)
def spPlus (K : PySem.W.Frag) : Sp := fun vs H Q _ => ∃ (x y : V) (p q : Poly), vs = [x, y] ∧ Dp K H x (bD p) ∧ Dp K H y (bD q) ∧ POk p ∧ POk q ∧ p.length + q.length ≤ 400 ∧ S p + S q < BEY ∧ Dg p 1000 ∧ Dg q 1000 ∧
  ∀ (v : V) (H' : Hp), Same H H' → Dp K H' v (bD (plusP p q)) → Q v H'
section
variable {P : Program} {w : World} {K : PySem.W.Frag} {mg : Str → Option Value} {base : Heap}
end
end K5


set_option Elab.async false
set_option linter.all false
set_option maxRecDepth 100000
set_option maxHeartbeats 4000000
namespace K5
open PySem L2 Nd Bk
/-! a dict of tokens -/
theorem valV_tx (m : Mono) (t : Str) : valV (tx m) (.inr t) = (look m t).map V.int := by
  induction m with
  | nil => rfl
  | cons p r ih =>
    unfold valV look tx at ih ⊢
    rw [List.map_cons, List.find?_cons, List.find?_cons]
    by_cases h : p.1 = t
    · simp [h]
    · have h2 : ¬ (Sum.inr p.1 : Key) = Sum.inr t := fun e => h (Sum.inr.inj e)
      simp only [decide_eq_false h, decide_eq_false h2]
      exact ih
theorem putK_tx (m : Mono) (t : Str) (c : Int) : putK (tx m) (.inr t) (.int c) = tx (put m t c) := by
  unfold putK put
  rw [valV_any, valV_tx, Option.isSome_map]
  split
  · unfold tx
    rw [List.map_map, List.map_map]
    refine List.map_congr_left fun e _ => ?_
    show (if (Sum.inr e.1 : Key) = Sum.inr t then _ else _) = ((fun p : Str × Int => ((Sum.inr p.1 : Key), V.int p.2)) (if e.1 = t then (e.1, c) else e))
    by_cases h : e.1 = t
    · rw [if_pos h, if_pos (by rw [h])]
    · rw [if_neg h, if_neg fun z => h (Sum.inr.inj z)]
  · unfold tx
    rw [List.map_append]
    rfl
theorem getD_tx (m : Mono) (t : Str) : (valV (tx m) (.inr t)).getD (.int 0) = .int ((look m t).getD 0) := by
  rw [valV_tx]
  cases look m t <;> rfl
theorem prd_tx {K : PySem.W.Frag} {H : Hp} (m : Mono) : PrD K H ((tx m).map fun kv => (kV kv.1, kv.2)) (m.map encP) := by
  induction m with
  | nil => exact .nil
  | cons e r ih => exact .cons ⟨_, _, rfl, .str _, .int _⟩ ih
theorem tx_len (m : Mono) : (tx m).length = m.length := List.length_map ..
section
variable {κ : Type} [DecidableEq κ] [Ky κ]
theorem asc_nodup {m : Bag κ} (h : Asc m) : (m.map (·.1)).Nodup := by
  rw [List.Nodup, List.pairwise_map]
  exact List.Pairwise.imp (fun h => lt_ne h) h
theorem fold_id : ∀ (m l : Bag κ), ((l ++ m).map (·.1)).Nodup → m.foldl add1 l = l ++ m
  | [], l, _ => by rw [List.append_nil]; rfl
  | p :: r, l, h => by
    have hn : look l p.1 = none := by
      cases e : look l p.1 with
      | none => rfl
      | some u =>
        have h1 := look_mem e
        rw [List.map_append, List.nodup_append] at h
        exact absurd rfl (h.2.2 p.1 (List.mem_map.mpr ⟨_, h1, rfl⟩) p.1 (by simp))
    have e1 : add1 l p = l ++ [p] := by
      unfold add1 put
      rw [hn]
      simp
    rw [List.foldl_cons, e1, fold_id r _ (by simpa using h)]
    simp
theorem book_id {m : Bag κ} (h : (m.map (·.1)).Nodup) : book m = m := by
  unfold book
  rw [fold_id m [] (by simpa using h)]
  rfl
theorem book_app (l m : Bag κ) : book (l ++ m) = m.foldl add1 (book l) := by simp [book]
end
def spJoin (K : PySem.W.Frag) : Sp := fun vs H Q _ => ∃ (a b : Addr) (m n : Mono), vs = [.ref a, .ref b] ∧ PlainT H a ∧ Dp K H (.ref a) (mD m) ∧ Dp K H (.ref b) (mD n) ∧ MOk m ∧ MOk n ∧ m.length ≤ 1000 ∧ n.length ≤ 1000 ∧
  ∀ (c : Addr) (H' : Hp), Same H H' → Dp K H' (.ref c) (mD (mulM m n)) → Q (.ref c) H'
section
variable {P : Program} {w : World} {K : PySem.W.Frag} {mg : Str → Option Value} {base : Heap}
theorem u1 {k : Nat} {A : Around} (hr : Room k A) : A.units + 1 < cLine := by
  have := hr.un
  omega
end
end K5


set_option Elab.async false
set_option linter.all false
set_option maxRecDepth 100000
set_option maxHeartbeats 4000000
namespace K5
open PySem L2 Nd Bk
theorem prods_cons (t : Mono × Int) (p q : Poly) : prods (t :: p) q = q.map (fun b => (mulM t.1 b.1, t.2 * b.2)) ++ prods p q := by simp [prods]
theorem prods_app (p p' q : Poly) : prods (p ++ p') q = prods p q ++ prods p' q := by simp [prods]
theorem split_at {α : Type} {l : List α} {i : Nat} {x : α} (h : l[i]? = some x) : l = l.take i ++ x :: l.drop (i + 1) := by
  have h1 := (List.getElem?_eq_some_iff.mp h)
  obtain ⟨h2, h3⟩ := h1
  rw [← h3, ← List.drop_eq_getElem_cons h2, List.take_append_drop]
theorem prods_split {p q : Poly} {i j : Nat} {t u : Mono × Int} (h : p[i]? = some t) (h2 : q[j]? = some u) :
    ∃ B, prods p q = (prods (p.take i) q ++ (q.take j).map fun b => (mulM t.1 b.1, t.2 * b.2)) ++ (mulM t.1 u.1, t.2 * u.2) :: B := by
  refine ⟨(q.drop (j + 1)).map (fun b => (mulM t.1 b.1, t.2 * b.2)) ++ prods (p.drop (i + 1)) q, ?_⟩
  have e1 : prods p q = prods (p.take i ++ t :: p.drop (i + 1)) q := by rw [← split_at h]
  have e2 : q.map (fun b => (mulM t.1 b.1, t.2 * b.2)) = (q.take j ++ u :: q.drop (j + 1)).map fun b => (mulM t.1 b.1, t.2 * b.2) := by rw [← split_at h2]
  rw [e1, prods_app, prods_cons, e2, List.map_append, List.map_cons]
  simp
section
variable {κ : Type} [DecidableEq κ] [Ky κ]
theorem look_le2 {A B : Bag κ} {p : κ × Int} (h : Pos (A ++ p :: B)) : (look (book A) p.1).getD 0 + p.2 ≤ S (A ++ p :: B) := by
  have e : (A ++ p :: B)[A.length]? = some p := by simp
  have := look_le h e
  rw [List.take_left] at this
  exact this
end
theorem pos_of_prods {p q : Poly} (hp : POk p) (hq : POk q) : Pos (prods p q) := pos_prods hp.2.1 hq.2.1
theorem S_prods (p q : Poly) : S (prods p q) = S p * S q := by
  have h := S_times p q
  unfold timesP at h
  rw [S_nf] at h
  exact h
theorem prods_take_succ {p q : Poly} {i : Nat} {t : Mono × Int} (h : p[i]? = some t) : prods (p.take (i + 1)) q = prods (p.take i) q ++ q.map fun b => (mulM t.1 b.1, t.2 * b.2) := by
  rw [List.take_succ, h, show (some t).toList = [t] from rfl, prods_app, prods_cons]
  simp [prods]
theorem prods_dg {p q : Poly} (okp : POk p) (okq : POk q) (h : ∀ a ∈ p, ∀ b ∈ q, S a.1 + S b.1 ≤ 1000) : ∀ t ∈ prods p q, Pos t.1 ∧ S t.1 ≤ 1000 := fun t ht => by
  obtain ⟨a, ha, b, hb, rfl⟩ := mem_prods ht
  refine ⟨(mulM_ok (okp.2.2 a ha) (okq.2.2 b hb)).2, ?_⟩
  show S (mulM a.1 b.1) ≤ 1000
  rw [S_mulM]
  exact h a ha b hb
theorem natAbs_bey {c : Int} (h0 : 0 ≤ c) (h : c < BEY) : c.natAbs < 2 ^ 400 := by
  have e : (c.natAbs : Int) = c := Int.natAbs_of_nonneg h0
  have hb : BEY ≤ ((2 ^ 400 : Nat) : Int) := by decide +kernel
  omega
/-- what a product asks of its factors -/
structure Mul (p q : Poly) : Prop where
  okp : POk p
  okq : POk q
  len : p.length * q.length ≤ 400
  lp : p.length ≤ 1000
  lq : q.length ≤ 1000
  sum : S p * S q < BEY
  sp : S p < BEY
  sq : S q < BEY
  dp : Dg p 1000
  dq : Dg q 1000
  deg : ∀ a ∈ p, ∀ b ∈ q, S a.1 + S b.1 ≤ 1000
def spProd (K : PySem.W.Frag) (P : Program) (w : World) : Sp := fun vs H Q _ => ∃ (T1 T2 : Addr) (xs ys : List V) (p q : Poly), vs = [.ref T1, .ref T2] ∧ Fz K H T1 xs p ∧ Fz K H T2 ys q ∧ Mul p q ∧
  ∀ (d : Addr) (es : List Ent) (H' : Hp), Same H H' → NdAt K P w H' d es → bagOf es = book (prods p q) → Q (.ref d) H'
def spTimes (K : PySem.W.Frag) : Sp := fun vs H Q _ => ∃ (x y : V) (p q : Poly), vs = [x, y] ∧ Dp K H x (bD p) ∧ Dp K H y (bD q) ∧ Mul p q ∧ ∀ (v : V) (H' : Hp), Same H H' → Dp K H' v (bD (timesP p q)) → Q v H'
section
variable {P : Program} {w : World} {K : PySem.W.Frag} {mg : Str → Option Value} {base : Heap}
end
end K5


set_option Elab.async false
set_option linter.all false
set_option maxRecDepth 100000
set_option maxHeartbeats 4000000
namespace K5
open PySem L2 Nd Bk
section
variable {κ : Type} [DecidableEq κ] [Ky κ]
def AscK (l : List κ) : Prop := l.Pairwise fun a b => lt a b = true
def cnt (f : List κ) (k : κ) : Nat := (f.filter fun o => lt o k).length
def insK (f : List κ) (k : κ) : List κ := f.take (cnt f k) ++ [k] ++ f.drop (cnt f k)
def sortK (ks : List κ) : List κ := ks.foldl insK []
theorem cut_ok : ∀ {f : List κ} {k : κ}, AscK f → k ∉ f → (∀ a ∈ f.take (cnt f k), lt a k = true) ∧ ∀ b ∈ f.drop (cnt f k), lt k b = true
  | [], k, _, _ => ⟨fun a h => by simp [cnt] at h, fun a h => by simp [cnt] at h⟩
  | x :: r, k, h, hk => by
    obtain ⟨h1, h2⟩ := List.pairwise_cons.mp h
    rw [List.mem_cons, not_or] at hk
    cases e : lt x k with
    | true =>
      have ec : cnt (x :: r) k = cnt r k + 1 := by simp [cnt, List.filter_cons, e]
      obtain ⟨i1, i2⟩ := cut_ok h2 hk.2
      rw [ec, List.take_succ_cons, List.drop_succ_cons]
      refine ⟨fun a ha => ?_, i2⟩
      rcases List.mem_cons.mp ha with q | q
      · rw [q]; exact e
      · exact i1 a q
    | false =>
      have hxk : lt k x = true := by
        cases q : lt k x with
        | true => rfl
        | false => exact absurd (lt_total q e) hk.1
      have hr : ∀ o ∈ r, lt o k = false := fun o ho => lt_asymm (lt_trans hxk (h1 o ho))
      have ec : cnt (x :: r) k = 0 := by
        unfold cnt
        rw [List.filter_cons, e, if_neg Bool.false_ne_true, List.filter_eq_nil_iff.mpr (fun o ho => by rw [hr o ho]; exact Bool.false_ne_true)]
        rfl
      rw [ec]
      refine ⟨fun a ha => by simp at ha, fun b hb => ?_⟩
      rw [List.drop_zero] at hb
      rcases List.mem_cons.mp hb with q | q
      · rw [q]; exact hxk
      · exact lt_trans hxk (h1 b q)
theorem insK_perm (f : List κ) (k : κ) : (insK f k).Perm (k :: f) := by
  unfold insK
  have h : (f.take (cnt f k) ++ [k] ++ f.drop (cnt f k)).Perm (k :: (f.take (cnt f k) ++ f.drop (cnt f k))) := by
    rw [List.append_assoc, List.singleton_append]
    exact List.perm_middle
  rw [List.take_append_drop] at h
  exact h
theorem insK_asc {f : List κ} {k : κ} (h : AscK f) (hk : k ∉ f) : AscK (insK f k) := by
  obtain ⟨h1, h2⟩ := cut_ok h hk
  unfold insK AscK
  rw [List.append_assoc, List.singleton_append, List.pairwise_append]
  refine ⟨List.Pairwise.sublist (List.take_sublist _ _) h, List.pairwise_cons.mpr ⟨h2, List.Pairwise.sublist (List.drop_sublist _ _) h⟩, fun a ha b hb => ?_⟩
  rcases List.mem_cons.mp hb with q | q
  · rw [q]; exact h1 a ha
  · exact lt_trans (h1 a ha) (h2 b q)
theorem sortK_ok : ∀ (ks f : List κ), (f ++ ks).Nodup → AscK f → AscK (ks.foldl insK f) ∧ (ks.foldl insK f).Perm (f ++ ks)
  | [], f, _, h => ⟨h, by rw [List.append_nil]; exact List.Perm.refl _⟩
  | k :: r, f, hn, h => by
    have hk : k ∉ f := fun q => by
      rw [List.nodup_append] at hn
      exact hn.2.2 k q k List.mem_cons_self rfl
    have p1 : (insK f k ++ r).Perm (f ++ k :: r) := ((insK_perm f k).append_right r).trans (by rw [List.cons_append]; exact List.perm_middle.symm)
    obtain ⟨h1, h2⟩ := sortK_ok r (insK f k) (p1.nodup_iff.mpr hn) (insK_asc h hk)
    exact ⟨h1, h2.trans p1⟩
theorem sortK_len {ks : List κ} (h : ks.Nodup) : (sortK ks).length = ks.length := by
  have := (sortK_ok ks [] (by simpa using h) List.Pairwise.nil).2.length_eq
  simpa [sortK] using this
theorem srt_keys {l : Bag κ} (h : (l.map (·.1)).Nodup) : (srt l).map (·.1) = sortK (l.map (·.1)) := by
  obtain ⟨h1, h2⟩ := sortK_ok (l.map (·.1)) [] (by simpa using h) List.Pairwise.nil
  have h3 := srt_asc h
  have h4 : (((srt l).map (·.1)).map fun k => (k, (0 : Int))) = (sortK (l.map (·.1))).map fun k => (k, (0 : Int)) := by
    refine asc_ext ?_ ?_ fun p => ?_
    · unfold Asc at h3 ⊢
      rw [List.map_map, List.pairwise_map]
      exact h3
    · unfold Asc
      rw [List.pairwise_map]
      exact h1
    · have e : ∀ k, k ∈ (srt l).map (·.1) ↔ k ∈ sortK (l.map (·.1)) := fun k => by
        rw [(((srt_perm l).map _).mem_iff : k ∈ (srt l).map (·.1) ↔ k ∈ l.map (·.1))]
        have := h2.mem_iff (a := k)
        rw [List.nil_append] at this
        exact this.symm
      simp only [List.mem_map (f := fun k : κ => (k, (0 : Int)))]
      constructor
      · rintro ⟨k, hk, rfl⟩
        exact ⟨k, (e k).mp hk, rfl⟩
      · rintro ⟨k, hk, rfl⟩
        exact ⟨k, (e k).mpr hk, rfl⟩
  have inv : ∀ l : List κ, (l.map fun k => (k, (0 : Int))).map (·.1) = l := fun l => by
    induction l with
    | nil => rfl
    | cons x r ih => rw [List.map_cons, List.map_cons, ih]
  have h5 := congrArg (List.map (·.1)) h4
  rw [inv, inv] at h5
  exact h5
theorem sortK_take {ks : List κ} {i : Nat} {k : κ} (h : ks[i]? = some k) : sortK (ks.take (i + 1)) = insK (sortK (ks.take i)) k := by
  rw [List.take_succ, h]
  simp [sortK]
end
def spSort (K : PySem.W.Frag) (κ : Type) [DecidableEq κ] [Ky κ] : Sp := fun vs H Q _ => ∃ (a : Addr) (xs : List V) (ks : List κ), vs = [.ref a] ∧ SqL K H a xs ∧ DpAll K H xs (ks.map Ky.enc) ∧ ks.Nodup ∧ ks.length ≤ 1000 ∧
  ∀ (l : Addr) (ys : List V) (H' : Hp), H l = none → Same H H' → H' l = some (.lst ys) → DpAll K H' ys ((sortK ks).map Ky.enc) → Q (.ref l) H'
theorem tu_encs {κ : Type} [DecidableEq κ] [Ky κ] [Tu κ] (l : List κ) : tupOnlyAll (l.map Ky.enc) = true := tupOnlyAll_of fun d h => by
  obtain ⟨k, _, rfl⟩ := List.mem_map.mp h
  exact Tu.tu k
theorem enc_get {K : PySem.W.Frag} {H : Hp} {κ : Type} [DecidableEq κ] [Ky κ] {xs : List V} {l : List κ} (h : DpAll K H xs (l.map Ky.enc)) {i : Nat} {x : V} (e : xs[i]? = some x) : ∃ k, l[i]? = some k ∧ Dp K H x (Ky.enc k) := by
  obtain ⟨d, h1, h2⟩ := dpAll_get h e
  rw [List.getElem?_map] at h1
  cases q : l[i]? with
  | none => rw [q] at h1; cases h1
  | some p =>
    rw [q] at h1
    cases h1
    exact ⟨p, rfl, h2⟩
theorem dpAll_take {K : PySem.W.Frag} {H : Hp} : ∀ {xs : List V} {ds : List PyData} (n : Nat), DpAll K H xs ds → DpAll K H (xs.take n) (ds.take n)
  | _, _, 0, h => by rw [List.take_zero, List.take_zero]; exact .nil
  | _, _, n + 1, .nil => by rw [List.take_nil, List.take_nil]; exact .nil
  | _, _, n + 1, .cons h t => by rw [List.take_succ_cons, List.take_succ_cons]; exact .cons h (dpAll_take n t)
theorem dpAll_drop {K : PySem.W.Frag} {H : Hp} : ∀ {xs : List V} {ds : List PyData} (n : Nat), DpAll K H xs ds → DpAll K H (xs.drop n) (ds.drop n)
  | _, _, 0, h => by rw [List.drop_zero, List.drop_zero]; exact h
  | _, _, n + 1, .nil => by rw [List.drop_nil, List.drop_nil]; exact .nil
  | _, _, n + 1, .cons h t => by rw [List.drop_succ_cons, List.drop_succ_cons]; exact dpAll_drop n t
section
variable {P : Program} {w : World} {K : PySem.W.Frag} {mg : Str → Option Value} {base : Heap}
theorem scSort : FnScope ["row", "found", "one", "other"] ["row"] (defScope sSort) := ⟨rfl, rfl, rfl, by decide +kernel, rfl, by decide +kernel, by decide +kernel⟩
theorem ok_sort (κ : Type) [DecidableEq κ] [Ky κ] [Tu κ] {f : Addr} {fd : FuncData} (F : Fun K "_law_sorted" "_law_sorted" sSort f fd) (C : Cn K mg) : FnOk P w K mg base CX0 1 f fd ["row"] (spSort K κ) := by
  refine F.ok scSort (fun vs H Q E h => ?_) (fun cdv A outer s H vs Q E hr h => ?_)
  · obtain ⟨a, xs, ks, rfl, _⟩ := h
    rfl
  · obtain ⟨a, xs, ks, rfl, hs, hd, hn, hl, k⟩ := h
    refine ⟨_, pss_cons (ps_set (i := 1) scSort.nd rfl (Or.inl rfl) (pe_lst pa_nil))
      (pss_cons (ps_for PassesOwn.never rfl (pi_list (pv 0)) (pg_name (i := 2) scSort.nd rfl (Or.inr rfl))
        (pss_one (ps_expr (pe_bm PySem.F.plainAttrs_list PySem.F.slot_list_insert PySem.F.type_list_insert mt_insert (pv 1) (pa_cons (pe_callB call_len_seq (by rfl) C.N.len PySem.boot_len (pa_cons
          (pe_lc (own := [("other", 3)]) (g := gName 3) (tt := tTest (tOp (rLtD K) (tVar 3) (tVar 2))) rfl scSort.nd (pi_list (pv 1)) (blkOk_by (N := ["row", "found", "one", "other"]) (sc := defScope sSort) (by decide +kernel))
            (fun _ _ _ _ _ => pg_name (i := 3) scSort.nd rfl (Or.inl rfl)) (fun _ _ _ _ _ => pts_one (pt_cmpR (show OpR _ _ (rLtD K) from op_ltD (u64 hr)) (pv 3) (pv 2) (nomark _))) (fun _ _ _ _ _ => pv 3)) pa_nil)) (pa_cons (pv 2) pa_nil))))))
      (pss_one (ps_ret (pv 1)))), ?_⟩
    refine ⟨(by show 0 ≤ sizeLine; decide), fun l nl => ?_⟩
    have s0 : Same H (upd H l (.lst [])) := sm_new sm_refl nl
    have h0 : upd H l (.lst []) l = some (.lst []) := upd_same
    generalize upd H l (.lst []) = H0 at s0 h0 ⊢
    refine ⟨_, rfl, a, rfl, ⟨_, s0.seq hs⟩, ?_⟩
    refine for_list (K := K) (a := a) (xs := xs) (fun i σ H4 => (∃ v, σ = [some (.ref a), some (.ref l), v, none]) ∧ But l H0 H4 ∧ ∃ ys, H4 l = some (.lst ys) ∧ DpAll K H4 ys ((sortK (ks.take i)).map Ky.enc)) ⟨⟨none, rfl⟩, But.refl, [], h0, .nil⟩
      (fun i σ H4 _ ⟨_, b4, _⟩ => (sm_but s0 nl b4).seq hs) ?_ ?_
    · rintro i x σ H4 hi ⟨⟨v, rfl⟩, b4, ys, h4, d4⟩
      obtain ⟨k1, hk, hx⟩ := enc_get hd hi
      have s4 := sm_but s0 nl b4
      have nk : (ks.take i).Nodup := List.Nodup.sublist (List.take_sublist _ _) hn
      have ly : ys.length ≤ 1000 := by
        rw [dpAll_len d4, List.length_map, sortK_len nk, List.length_take]
        omega
      refine ⟨_, rfl, .inl ⟨rfl, ys, SqL.of h4⟩, _, rfl, l, rfl, ⟨_, SqL.of h4⟩, fun D nD => ?_⟩
      refine lc_list (K := K) (a := l) (xs := ys) (fun j H5 => Same H4 H5 ∧ ∃ acc, H5 D = some (.lst acc) ∧ acc.length = (((sortK (ks.take i)).take j).filter fun o => lt o k1).length) ⟨sm_new sm_refl nD, [], upd_same, rfl⟩ (fun j H5 _ ⟨s5, _⟩ => s5.seq (SqL.of h4)) ?_ ?_
      · rintro j y H5 hj ⟨s5, acc, hD, hlen⟩
        obtain ⟨o, ho, hy⟩ := enc_get d4 hj
        have hd1 := Ky.dep o
        refine ⟨rfl, _, rfl, _, rfl, _, _, dp_same s5 hy, dp_same (s4.trans s5) hx, Ky.al _ _, Ky.nn _, by omega, _, rfl, ?_⟩
        have hacc : acc.length ≤ 1000 := by
          rw [hlen]
          refine Nat.le_trans (List.length_filter_le _ _) ?_
          rw [List.length_take, sortK_len nk, List.length_take]
          omega
        show if lt o k1 = true then _ else _
        cases e : lt o k1 with
        | true =>
          refine iteT ⟨_, rfl, acc, hD, small1000 hacc, sm_new s5 nD, _, upd_same, ?_⟩
          rw [List.length_append, hlen, List.take_succ, ho, List.filter_append, List.length_append]
          simp [e]
        | false =>
          refine iteF ⟨s5, acc, hD, ?_⟩
          rw [hlen, List.take_succ, ho, List.filter_append, List.length_append]
          simp [e]
      · rintro H5 ⟨s5, acc, hD, hlen⟩
        have lk : (sortK (ks.take i)).length = ys.length := by rw [dpAll_len d4, List.length_map]
        rw [← lk, List.take_length] at hlen
        have hcnt : acc.length = cnt (sortK (ks.take i)) k1 := hlen
        have hacc : acc.length ≤ 1000 := by
          rw [hlen]
          refine Nat.le_trans (List.length_filter_le _ _) ?_
          rw [lk]
          exact ly
        have h5 := s5 _ _ h4
        refine ⟨D, acc, rfl, .inl (SqL.of hD), _, rfl, l, ys, _, x, rfl, rfl, h5, ?_, by omega, by omega, ⟨_, rfl⟩, (b4.same s5).trans But.upd, _, upd_same, ?_⟩
        · rw [sizeLine_eq]
          omega
        · have nt : NotT (H5 l) := by rw [h5]; exact notT_lst
          rw [Int.toNat_natCast, hcnt, sortK_take hk]
          unfold insK
          rw [List.map_append, List.map_append, List.map_take, List.map_drop]
          have d5 := dpAll_put (o := .lst (ys.take (cnt (sortK (ks.take i)) k1) ++ [x] ++ ys.drop (cnt (sortK (ks.take i)) k1))) nt (tu_encs _) (dpAll_same s5 d4)
          exact dpAll_append (dpAll_append (dpAll_take _ d5) (.cons (dp_put nt (Tu.tu k1) (dp_same (s4.trans s5) hx)) .nil)) (dpAll_drop _ d5)
    · rintro σ H4 ⟨⟨v, rfl⟩, b4, ys, h4, d4⟩
      have lk : xs.length = ks.length := by rw [dpAll_len hd, List.length_map]
      rw [lk, List.take_length] at d4
      exact ⟨_, rfl, k l ys H4 nl (sm_but s0 nl b4) h4 d4⟩
end
end K5


set_option Elab.async false
set_option linter.all false
set_option maxRecDepth 100000
set_option maxHeartbeats 4000000
namespace K5
open PySem L2 Nd Bk
def spNorm (K : PySem.W.Frag) (P : Program) (w : World) : Sp := fun vs H Q _ => ∃ (d : Addr) (es : List Ent), vs = [.ref d] ∧ NdAt K P w H d es ∧ ((bagOf es).map (·.1)).Nodup ∧ Pos (bagOf es) ∧ es.length ≤ 1000 ∧
  ∀ (v : V) (H' : Hp), Same H H' → Dp K H' v (bD (srt (bagOf es))) → Q v H'
def spLPlus (K : PySem.W.Frag) : Sp := fun vs H Q _ => ∃ (x y : V) (p q : Poly), vs = [x, y] ∧ Dp K H x (bD p) ∧ Dp K H y (bD q) ∧ POk p ∧ POk q ∧ p.length + q.length ≤ 1000 ∧
  ∀ (v : V) (H' : Hp), Same H H' → Dp K H' v (bD (plusP p q)) → Q v H'
theorem keys_dp {K : PySem.W.Frag} {H : Hp} {es : List Ent} (h : ∀ e ∈ es, Dp K H (.ref e.2.1) (mD e.1)) : DpAll K H (es.map fun e => V.ref e.2.1) (((bagOf es).map (·.1)).map Ky.enc) := by
  induction es with
  | nil => exact .nil
  | cons e r ih => exact .cons (h e List.mem_cons_self) (ih fun x hx => h x (List.mem_cons_of_mem _ hx))
section
variable {P : Program} {w : World} {K : PySem.W.Frag} {mg : Str → Option Value} {base : Heap}
theorem scNorm : FnScope ["book", "monomial", "one"] ["book"] (defScope sNorm) := ⟨rfl, rfl, rfl, by decide +kernel, rfl, by decide +kernel, by decide +kernel⟩
theorem ok_norm {f : Addr} {fd : FuncData} (F : Fun K "_law_normal" "_law_normal" sNorm f fd) (C : Cn K mg) (Gs : Df P w K mg base 1 "_law_sorted" ["row"] (spSort K Mono)) : FnOk P w K mg base CX0 2 f fd ["book"] (spNorm K P w) := by
  obtain ⟨fs, fds, gS, kS, bS, GS⟩ := Gs.ok
  refine F.ok scNorm (fun vs H Q E h => ?_) (fun cdv A outer s H vs Q E hr h => ?_)
  · obtain ⟨d, es, rfl, _⟩ := h
    rfl
  · obtain ⟨d, es, rfl, n, nd, pos, hl, k⟩ := h
    have hr1 : Room 1 _ := hr
    refine ⟨_, pss_one (ps_ret (pe_callTy call_tuple_of (by rfl) C.N.tup (by rfl) (pa_cons
      (pe_lc (own := [("monomial", 1)]) (g := gName 1) (tt := tTest (tOp (rI0 fun i j => .bl (decide (j < i))) (tNdGet K P w (tVar 0) (tVar 1)) (tC (.int 0)))) rfl scNorm.nd
        (pi_list (pe_call GS hr1 rfl gS kS bS .nil pass0 (pa_cons (pe_lock (pe_lc (own := [("one", 2)]) (g := gName 2) (tt := tYes) rfl scNorm.nd (show PI _ _ _ (iKeysN P w _) from pi_keysN (pv 0)) (blkOk_by (N := ["book", "monomial", "one"]) (sc := defScope sNorm) (by decide +kernel))
          (fun _ _ _ _ _ => pg_name (i := 2) scNorm.nd rfl (Or.inl rfl)) (fun _ _ _ _ _ => pts_nil) (fun _ _ _ _ _ => pv 2))) pa_nil)))
        (blkOk_by (N := ["book", "monomial", "one"]) (sc := defScope sNorm) (by decide +kernel))
        (fun _ _ _ _ _ => pg_name (i := 1) scNorm.nd rfl (Or.inl rfl)) (fun _ _ _ _ _ => pts_one (pt_cmpR op_gt (show PE _ _ (tNdGet K P w (tVar 0) (tVar 1)) from pe_ndGet (u9 hr) (pv 0) (pv 1) (fun _ _ => rfl)) pe_int (nomark _)))
        (fun _ _ _ _ _ => pe_tup (pa_cons (pv 1) (pa_cons (show PE _ _ (tNdGet K P w (tVar 0) (tVar 1)) from pe_ndGet (u9 hr) (pv 0) (pv 1) (fun _ _ => rfl)) pa_nil)))) pa_nil))), ?_⟩
    refine ⟨d, _, n.at_, mut_nd, fun od => ?_⟩
    refine ⟨_, rfl, d, od, es, rfl, upd_same, fun D nD => ?_⟩
    have Dd : D ≠ d := fun e => by rw [e, upd_same] at nD; cases nD
    refine lc_it walk_keysN (fun i H2 => Same (upd H d (.frz od (ndO P w d es))) H2 ∧ H2 D = some (.lst ((es.take i).map fun e => V.ref e.2.1))) ⟨sm_new sm_refl nD, upd_same⟩ (fun i H2 _ ⟨s2, _⟩ => s2 _ _ upd_same) ?_ ?_
    · rintro i x H2 H3 hi ⟨s2, hD⟩ ⟨rfl, e, he, rfl⟩
      refine ⟨rfl, _, rfl, _, hD, small1000 (by rw [List.length_map, List.length_take]; omega), sm_new s2 nD, ?_⟩
      rw [upd_same, List.take_succ, he, List.map_append]
      rfl
    · rintro H2 ⟨s2, hD⟩
      rw [List.take_length] at hD
      refine ⟨s2 _ _ upd_same, ?_⟩
      have sb := lock_back n.at_ s2
      have hD3 : upd H2 d (ndO P w d es) D = some (.lst (es.map fun e => V.ref e.2.1)) := by rw [upd_ne Dd]; exact hD
      generalize upd H2 d (ndO P w d es) = H3 at sb hD3 ⊢
      have n3 := nd_back n sb
      refine ⟨D, _, (bagOf es).map (·.1), rfl, SqL.of hD3, keys_dp n3.keys, nd, by rw [List.length_map, bagOf_len]; exact hl, fun l ys H4 nl s4 hys hd4 => ?_⟩
      have n4 := nd_back n3 s4
      have lsrt : (srt (bagOf es)).length ≤ 1000 := by
        rw [(srt_perm _).length_eq, bagOf_len]
        exact hl
      rw [← srt_keys nd] at hd4
      have ly : ys.length = (srt (bagOf es)).length := by rw [dpAll_len hd4, List.length_map, List.length_map]
      refine ⟨l, rfl, ⟨_, SqL.of hys⟩, fun D2 nD2 => ?_⟩
      refine lc_list (K := K) (a := l) (xs := ys) (fun j H5 => AccI K H4 D2 ((srt (bagOf es)).map encP) j H5) (acc_zero nD2) (fun j H5 _ a5 => a5.sm.seq (SqL.of hys)) ?_ ?_
      · rintro j y H5 hj a5
        obtain ⟨key, hk, hy⟩ := enc_get hd4 hj
        rw [List.getElem?_map] at hk
        obtain ⟨t, ht, rfl⟩ := Option.map_eq_some_iff.mp hk
        obtain ⟨a, zs, rfl, _⟩ := dp_bag (κ := Str) hy
        have tm : t ∈ bagOf es := (srt_perm _).mem_iff.mp (List.mem_of_getElem? ht)
        have hg : getN es t.1 = some t.2 := by
          rw [← look_bagOf]
          exact look_of_mem nd tm
        have n5 := nd_back n4 a5.sm
        have hm5 : Dp K H5 (.ref a) (mD t.1) := dp_same a5.sm hy
        refine ⟨rfl, _, rfl, _, rfl, d, a, es, t.1, t.2, rfl, rfl, n5, hm5, hg, _, _, rfl, rfl, _, rfl, ?_⟩
        have := pos t tm
        rw [show decide ((0 : Int) < t.2) = true from decide_eq_true this]
        refine iteT ?_
        refine ⟨_, rfl, _, rfl, _, rfl, d, a, es, t.1, t.2, rfl, rfl, n5, hm5, hg, (by show 2 ≤ sizeLine; decide), fun W nW => ?_⟩
        exact acc_step a5 nD2 (by rw [List.length_map]; exact list1000 lsrt) (tu_encPs _) (sm_new sm_refl nW) (by rw [List.getElem?_map, ht]; rfl) (dp_mk (κ := Mono) (x := t.1) (SqT.of upd_same) (dp_same (sm_new sm_refl nW) hm5))
      · rintro H5 a5
        obtain ⟨s5, zs, hz, hd5⟩ := acc_end a5 (by rw [ly, List.length_map])
        refine ⟨D2, zs, rfl, .inl ⟨SqL.of hz, fun v nv => ?_⟩⟩
        have s05 : Same H H5 := (sb.trans s4).trans s5
        exact k _ _ (sm_new s05 (s05.free nv)) (.tup (SqT.of upd_same) (dpAll_put (by rw [nv]; exact notT_none) (tupOnlyAll_of (tu_encPs _)) hd5))
end
end K5


set_option Elab.async false
set_option linter.all false
set_option maxRecDepth 100000
set_option maxHeartbeats 4000000
namespace K5
open PySem L2 Nd Bk
def spLProd (K : PySem.W.Frag) : Sp := fun vs H Q _ => ∃ (x y : V) (m n : Mono), vs = [x, y] ∧ Dp K H x (mD m) ∧ Dp K H y (mD n) ∧ MOk m ∧ MOk n ∧ m.length + n.length ≤ 1000 ∧ ∀ (a : Addr) (H' : Hp), Same H H' → Dp K H' (.ref a) (mD (mulM m n)) → Q (.ref a) H'
def spLTimes (K : PySem.W.Frag) : Sp := fun vs H Q _ => ∃ (x y : V) (p q : Poly), vs = [x, y] ∧ Dp K H x (bD p) ∧ Dp K H y (bD q) ∧ POk p ∧ POk q ∧ p.length * q.length ≤ 1000 ∧ S p < BEY ∧ S q < BEY ∧ (∀ t ∈ p, t.1.length ≤ 500) ∧ (∀ t ∈ q, t.1.length ≤ 500) ∧
  ∀ (v : V) (H' : Hp), Same H H' → Dp K H' v (bD (timesP p q)) → Q v H'
theorem txkeys_dp {K : PySem.W.Frag} {H : Hp} (m : Mono) : DpAll K H ((tx m).map fun kv => kV kv.1) ((m.map (·.1)).map Ky.enc) := by
  induction m with
  | nil => exact .nil
  | cons e r ih => exact .cons (.str e.1) ih
section
variable {P : Program} {w : World} {K : PySem.W.Frag} {mg : Str → Option Value} {base : Heap}
end
end K5


set_option Elab.async false
set_option linter.all false
set_option maxRecDepth 100000
set_option maxHeartbeats 4000000
namespace K5
open PySem L2 Nd Bk
section
variable {P : Program} {w : World} {K : PySem.W.Frag} {mg : Str → Option Value} {base : Heap}
end
end K5


set_option Elab.async false
set_option linter.all false
set_option maxRecDepth 100000
set_option maxHeartbeats 4000000
namespace K5
open PySem L2 Nd Bk
theorem BoxAt.notT {H : Hp} {b c : Addr} {ns : List Int} (x : BoxAt H b c ns) : NotT (H b) := by
  obtain ⟨d0, d1, at_, s, m, _, h⟩ := x.lst
  rw [h]
  exact notT_lst
theorem BoxAt.off {H : Hp} {b c d : Addr} {ns : List Int} (x : BoxAt H b c ns) (n : H d = none) : d ≠ b := by
  obtain ⟨d0, d1, at_, s, m, _, h⟩ := x.lst
  exact Ne.symm (ne_of_none h n)
/-- a thing of ours at d changes -/
theorem BoxAt.mine {H : Hp} {b c d : Addr} {ns : List Int} {o : HO} (x : BoxAt H b c ns) (h1 : b ≠ d) (h2 : c ≠ d) : BoxAt (upd H d o) b c ns := by
  obtain ⟨d0, d1, at_, s, m, h0, h⟩ := x.lst
  exact ⟨⟨d0, d1, at_, s, m, h0, by rw [upd_ne h1]; exact h⟩, by rw [upd_ne h2]; exact x.cells, x.len⟩
theorem but_mine {H H4 : Hp} {b d : Addr} {o : HO} (k : But b H H4) (n : H d = none) : But b H (upd H4 d o) := fun a u h ne => by
  rw [upd_ne (ne_of_none h n)]
  exact k a u h ne
theorem pick_int {zs : List Int} {j : Nat} (h : j < zs.length) : ∃ z, (zs.map V.int)[j]? = some (V.int z) ∧ z ∈ zs := ⟨zs[j], by rw [List.getElem?_map, List.getElem?_eq_getElem h]; rfl, List.getElem_mem h⟩
theorem pick_str {zs : List Str} {j : Nat} (h : j < zs.length) : ∃ z, (zs.map V.str)[j]? = some (V.str z) := ⟨zs[j], by rw [List.getElem?_map, List.getElem?_eq_getElem h]; rfl⟩
/-- a short text, not empty -/
def shT (z : Str) : Bool := decide (0 < z.length) && (decide (z.length ≤ 10) && z.cps.toList.all fun c => decide (c < 16 ^ 8))
theorem ofString_small (t : String) : ∀ c ∈ (Str.ofString t).cps.toList, c < 16 ^ 8 := by
  rw [Str.ofString_eq_toList]
  intro c hc
  obtain ⟨x, _, rfl⟩ := List.mem_map.mp hc
  have h : x.val.toNat < UInt32.size := x.val.toNat_lt
  have e : (16 : Nat) ^ 8 = UInt32.size := by decide
  rw [e]
  exact h
theorem shT_mk {z : Str} (h0 : 0 < z.length) (h1 : z.length ≤ 10) (h2 : ∀ c ∈ z.cps.toList, c < 16 ^ 8) : shT z = true := by
  unfold shT
  rw [Bool.and_eq_true, Bool.and_eq_true, decide_eq_true_eq, decide_eq_true_eq, List.all_eq_true]
  exact ⟨h0, h1, fun c hc => decide_eq_true (h2 c hc)⟩
theorem pick_strM {zs : List Str} {j : Nat} (h : j < zs.length) : ∃ z, (zs.map V.str)[j]? = some (V.str z) ∧ z ∈ zs := ⟨zs[j], by rw [List.getElem?_map, List.getElem?_eq_getElem h]; rfl, List.getElem_mem h⟩
def spTok : Sp := fun vs H Q _ => ∃ (b c : Addr) (ns : List Int), vs = [.ref b] ∧ BoxAt H b c ns ∧ ∀ (z : Str) (H' : Hp), shT z = true → BoxAt H' b c ns → But b H H' → Q (.str z) H'
section
variable {P : Program} {w : World} {K : PySem.W.Frag} {mg : Str → Option Value} {base : Heap}
theorem scTok : FnScope ["box"] ["box"] (defScope sTok) := ⟨rfl, rfl, rfl, by decide +kernel, rfl, by decide +kernel, by decide +kernel⟩
theorem ok_tok {f : Addr} {fd : FuncData} (F : Fun K "_law_token" "_law_token" sTok f fd) (C : Cn K mg) (Gd : Df P w K mg base 2 "_law_draw" ["box", "many"] spDraw) : FnOk P w K mg base CX0 3 f fd ["box"] spTok := by
  obtain ⟨fd', fdd, gD, kD, bD', GD⟩ := Gd.ok
  refine F.ok scTok (fun vs H Q E h => ?_) (fun cdv A outer s H vs Q E hr h => ?_)
  · obtain ⟨b, c, ns, rfl, _⟩ := h
    rfl
  · obtain ⟨b, c, ns, rfl, hB, k⟩ := h
    have hr2 : Room 2 _ := hr
    refine ⟨_, pss_cons (ps_if (pt_cmpR op_gt (pe_call GD hr2 rfl gD kD bD' .nil pass0 (pa_cons (pv 0) (pa_cons pe_int pa_nil))) pe_int (nomark _))
        (pss_one (ps_ret (pe_ix ix_list (pe_lst (pa_cons pe_str (pa_cons pe_str (pa_cons pe_str (pa_cons pe_str (pa_cons pe_str (pa_cons pe_str (pa_cons pe_str pa_nil))))))))
          (pe_call GD hr2 rfl gD kD bD' .nil pass0 (pa_cons (pv 0) (pa_cons pe_int pa_nil))) (fun _ _ => rfl)))) pss_nil)
      (pss_one (ps_ret (pe_op op_add_str (pe_ix ix_str pe_str (pe_call GD hr2 rfl gD kD bD' .nil pass0 (pa_cons (pv 0) (pa_cons pe_int pa_nil))) (fun _ _ => rfl))
        (pe_callTy call_str_int (by rfl) C.N.str (by rfl) (pa_cons (pe_op op_add pe_int (pe_call GD hr2 rfl gD kD bD' .nil pass0 (pa_cons (pv 0) (pa_cons
          (pe_ix ix_list (pe_lst (pa_cons pe_int (pa_cons pe_int pa_nil))) (pe_call GD hr2 rfl gD kD bD' .nil pass0 (pa_cons (pv 0) (pa_cons pe_int pa_nil))) (fun _ _ => rfl)) pa_nil)))) pa_nil))))), ?_⟩
    refine ⟨_, rfl, b, c, ns, _, rfl, by decide, by decide, hB, fun r H1 h0 h1 B1 k1 => ⟨_, _, rfl, rfl, _, rfl, ?_⟩⟩
    refine ite2 (fun _ => ?_) (fun _ => ?_)
    · refine ⟨by show 7 ≤ sizeLine; decide, fun p np => ?_⟩
      have s2 : Same H1 (upd H1 p (.lst ((["a1", "a2", "a10", "b1", "a100", "z9999", "b12"] : List Str).map V.str))) := sm_new sm_refl np
      have pb := B1.off np
      refine ⟨_, rfl, b, c, ns, _, rfl, by decide, by decide, B1.same s2, fun r2 H3 h2 h3 B3 k3 => ?_⟩
      obtain ⟨j, rfl⟩ := Int.eq_ofNat_of_zero_le h2
      obtain ⟨z, hz, hzm⟩ := pick_strM (zs := ["a1", "a2", "a10", "b1", "a100", "z9999", "b12"]) (j := j) (by show j < 7; omega)
      have sz := (by decide +kernel : ∀ z ∈ (["a1", "a2", "a10", "b1", "a100", "z9999", "b12"] : List Str), shT z = true) z hzm
      exact ⟨p, _, _, _, rfl, rfl, SqL.of (k3 _ _ upd_same pb), atI_nat hz, k z H3 sz B3 ((k1.same s2).trans k3)⟩
    · refine ⟨_, rfl, b, c, ns, _, rfl, by decide, by decide, B1, fun r2 H2 h2 h3 B2 k2 => ?_⟩
      obtain ⟨j, rfl⟩ := Int.eq_ofNat_of_zero_le h2
      have len3 : (Str.cps "abz").toList.length = 3 := by decide +kernel
      have hj : j < (Str.cps "abz").toList.length := by omega
      refine ⟨_, _, _, rfl, rfl, by decide +kernel, atI_nat (List.getElem?_eq_getElem hj), ?_⟩
      refine ⟨_, rfl, by show 2 ≤ sizeLine; decide, fun p np => ?_⟩
      have s3 : Same H2 (upd H2 p (.lst (([9, 9999] : List Int).map V.int))) := sm_new sm_refl np
      have pb := B2.off np
      refine ⟨_, rfl, b, c, ns, _, rfl, by decide, by decide, B2.same s3, fun r4 H4 h4 h5 B4 k4 => ?_⟩
      obtain ⟨j4, rfl⟩ := Int.eq_ofNat_of_zero_le h4
      obtain ⟨z, hz, hzm⟩ := pick_int (zs := [9, 9999]) (j := j4) (by show j4 < 2; omega)
      have hz9 : 0 < z ∧ z ≤ 9999 := by
        simp only [List.mem_cons, List.not_mem_nil, or_false] at hzm
        omega
      refine ⟨p, _, _, _, rfl, rfl, SqL.of (k4 _ _ upd_same pb), atI_nat hz, ?_⟩
      refine ⟨b, c, ns, z, rfl, by omega, by omega, B4, fun r6 H6 h6 h7 B6 k6 => ?_⟩
      refine ⟨_, _, rfl, rfl, _, rfl, ?_, ?_⟩
      · refine (Nat.log2_lt (by omega)).mpr (Nat.lt_of_lt_of_le (show (1 + r6).natAbs < 2 ^ 14 by omega) (Nat.pow_le_pow_right (by decide) (by decide)))
      · have e1 : Str.length ⟨#[(Str.cps "abz").toList[j]]⟩ = 1 := rfl
        have l4 : (Str.ofString (toString (1 + r6))).length ≤ 5 := PyProof.Rows.toString_length_le (by omega) (by decide) (by omega)
        refine ⟨_, _, rfl, rfl, ?_, k _ H6 (shT_mk ?_ ?_ ?_) B6 ((((k1.trans k2).same s3).trans k4).trans k6)⟩
        · rw [sizeLine_eq, e1]
          have := PySem.W.KT.len_num (n := 1 + r6) (by omega) (by omega)
          omega
        · rw [Str.length_append, e1]
          omega
        · rw [Str.length_append, e1]
          omega
        · intro x hx
          rw [PySem.W.KT.app_list] at hx
          rcases List.mem_append.mp hx with q | q
          · have e2 : x ∈ (Str.cps "abz").toList := by
              rw [List.mem_singleton.mp q]
              exact List.getElem_mem hj
            exact (by decide +kernel : ∀ y ∈ (Str.cps "abz").toList, y < 16 ^ 8) x e2
          · exact ofString_small _ x q
end
end K5


set_option Elab.async false
set_option linter.all false
set_option maxRecDepth 100000
set_option maxHeartbeats 4000000
namespace K5
open PySem L2 Nd Bk
structure PM (m : Mono) : Prop where
  ok : MOk m
  len : m.length ≤ 4
  sz : S m ≤ 48
  tk : ∀ x ∈ m, shT x.1 = true
structure PB (p : Poly) : Prop where
  ok : POk p
  len : p.length ≤ 8
  sz : S p ≤ 8000
  dg : Dg p 48
  tk : ∀ t ∈ p, ∀ x ∈ t.1, shT x.1 = true
theorem S_le {κ : Type} {l : Bag κ} {n : Nat} {c : Int} (hc : 0 ≤ c) (hl : l.length ≤ n) (h : ∀ t ∈ l, t.2 ≤ c) : S l ≤ n * c := by
  induction l generalizing n with
  | nil =>
    have : (0 : Int) ≤ n * c := Int.mul_nonneg (by omega) hc
    exact this
  | cons x r ih =>
    cases n with
    | zero => simp at hl
    | succ n =>
      have h1 := h x List.mem_cons_self
      have h2 := ih (n := n) (by rw [List.length_cons] at hl; omega) fun t ht => h t (List.mem_cons_of_mem _ ht)
      have e : S (x :: r) = x.2 * 1 + S r := by unfold S pr; simp
      have e2 : ((n + 1 : Nat) : Int) * c = (n : Int) * c + c := by rw [Int.natCast_add, Int.add_mul]; simp
      omega
theorem put_all {κ : Type} [DecidableEq κ] {l : Bag κ} {k : κ} {v : Int} {R : κ × Int → Prop} (h : ∀ t ∈ l, R t) (hv : R (k, v)) : ∀ t ∈ put l k v, R t := fun t ht => by
  unfold put at ht
  split at ht
  · obtain ⟨e, he, rfl⟩ := List.mem_map.mp ht
    by_cases q : e.1 = k
    · rw [if_pos q, q]
      exact hv
    · rw [if_neg q]
      exact h e he
  · rcases List.mem_append.mp ht with q | q
    · exact h t q
    · rw [List.mem_singleton.mp q]
      exact hv
theorem put_len {κ : Type} [DecidableEq κ] (l : Bag κ) (k : κ) (v : Int) : (put l k v).length ≤ l.length + 1 := by
  unfold put
  split
  · rw [List.length_map]; omega
  · rw [List.length_append]; exact Nat.le_refl _
def spLMono (K : PySem.W.Frag) : Sp := fun vs H Q _ => ∃ (b c : Addr) (ns : List Int), vs = [.ref b, .int 4] ∧ BoxAt H b c ns ∧ ∀ (a : Addr) (m : Mono) (H' : Hp), PM m → BoxAt H' b c ns → But b H H' → Dp K H' (.ref a) (mD m) → Q (.ref a) H'
def spLPoly (K : PySem.W.Frag) : Sp := fun vs H Q _ => ∃ (b c : Addr) (ns : List Int), vs = [.ref b, .int 8, .int 4] ∧ BoxAt H b c ns ∧ ∀ (v : V) (p : Poly) (H' : Hp), PB p → BoxAt H' b c ns → But b H H' → Dp K H' v (bD p) → Q v H'
section
variable {P : Program} {w : World} {K : PySem.W.Frag} {mg : Str → Option Value} {base : Heap}
theorem scLMono : FnScope ["box", "most", "book", "k", "one", "token"] ["box", "most"] (defScope sLMono) := ⟨rfl, rfl, rfl, by decide +kernel, rfl, by decide +kernel, by decide +kernel⟩
theorem ok_lmono {f : Addr} {fd : FuncData} (F : Fun K "_law_monomial" "_law_monomial" sLMono f fd) (C : Cn K mg) (Gd : Df P w K mg base 2 "_law_draw" ["box", "many"] spDraw) (Gt : Df P w K mg base 3 "_law_token" ["box"] spTok)
    (Gs : Df P w K mg base 1 "_law_sorted" ["row"] (spSort K Str)) : FnOk P w K mg base CX0 4 f fd ["box", "most"] (spLMono K) := by
  obtain ⟨fd', fdd, gD, kD, bD', GD⟩ := Gd.ok
  obtain ⟨ft, fdt, gT, kT, bT, GT⟩ := Gt.ok
  obtain ⟨fs, fds, gS, kS, bS, GS⟩ := Gs.ok
  refine F.ok scLMono (fun vs H Q E h => ?_) (fun cdv A outer s H vs Q E hr h => ?_)
  · obtain ⟨b, c, ns, rfl, _⟩ := h
    rfl
  · obtain ⟨b, c, ns, rfl, hB, k⟩ := h
    have hr1 : Room 1 _ := hr.mono (by decide)
    have hr2 : Room 2 _ := hr.mono (by decide)
    have hr3 : Room 3 _ := hr
    refine ⟨_, pss_cons (ps_set (i := 2) scLMono.nd rfl (Or.inr rfl) pe_dnewK)
      (pss_cons (ps_for PassesOwn.never rfl (pi_range1 rfl C.N.rng (pa_cons (pe_call GD hr2 rfl gD kD bD' .nil pass0 (pa_cons (pv 0) (pa_cons (pe_op op_add (pv 1) pe_int) pa_nil))) pa_nil)) (pg_name (i := 3) scLMono.nd rfl (Or.inl rfl))
        (pss_one (ps_dput (u1 hr) (pv 2) (pe_call GT hr3 rfl gT kT bT .nil pass0 (pa_cons (pv 0) pa_nil)) (pe_op op_add pe_int (pe_call GD hr2 rfl gD kD bD' .nil pass0 (pa_cons (pv 0) (pa_cons
          (pe_ix ix_list (pe_lst (pa_cons pe_int (pa_cons pe_int (pa_cons pe_int pa_nil)))) (pe_call GD hr2 rfl gD kD bD' .nil pass0 (pa_cons (pv 0) (pa_cons pe_int pa_nil))) (fun _ _ => rfl)) pa_nil)))) rfl)))
      (pss_one (ps_ret (pe_callTy call_tuple_of (by rfl) C.N.tup (by rfl) (pa_cons
        (pe_lc (own := [("token", 5)]) (g := gName 5) (tt := tYes) rfl scLMono.nd
          (pi_list (pe_call GS hr1 rfl gS kS bS .nil pass0 (pa_cons (pe_lock (pe_lc (own := [("one", 4)]) (g := gName 4) (tt := tYes) rfl scLMono.nd (pi_keys (pv 2)) (blkOk_by (N := ["box", "most", "book", "k", "one", "token"]) (sc := defScope sLMono) (by decide +kernel))
            (fun _ _ _ _ _ => pg_name (i := 4) scLMono.nd rfl (Or.inl rfl)) (fun _ _ _ _ _ => pts_nil) (fun _ _ _ _ _ => pv 4))) pa_nil)))
          (blkOk_by (N := ["box", "most", "book", "k", "one", "token"]) (sc := defScope sLMono) (by decide +kernel))
          (fun _ _ _ _ _ => pg_name (i := 5) scLMono.nd rfl (Or.inl rfl)) (fun _ _ _ _ _ => pts_nil)
          (fun _ _ _ _ _ => pe_tup (pa_cons (pv 5) (pa_cons (pe_dget (u1 hr) (pv 2) (pv 5) (fun _ _ => rfl)) pa_nil)))) pa_nil))))), ?_⟩
    intro d nd
    have s0 : Same H (upd H d (.dK [])) := sm_new sm_refl nd
    have d0 : upd H d (.dK []) d = some (.dK (tx [])) := upd_same
    have db := hB.off nd
    have dc : c ≠ d := ne_of_none hB.cells nd
    generalize upd H d (.dK []) = H0 at s0 d0 ⊢
    have k0 : But b H H0 := But.refl.same s0
    refine ⟨_, rfl, _, rfl, _, _, rfl, rfl, b, c, ns, _, rfl, by decide, by decide, hB.same s0, fun r H1 h0 h1 B1 k1 => ?_⟩
    refine ⟨_, rfl, by omega, by omega, ?_⟩
    refine for_range (n := r.toNat) (fun i σ H4 => (∃ v, σ = [some (.ref b), some (.int 4), some (.ref d), v, none, none]) ∧ BoxAt H4 b c ns ∧ But b H H4 ∧ ∃ m : Mono, H4 d = some (.dK (tx m)) ∧ (m.map (·.1)).Nodup ∧ m.length ≤ i ∧ ∀ t ∈ m, (0 < t.2 ∧ t.2 ≤ 12) ∧ shT t.1 = true)
      ⟨⟨none, rfl⟩, B1, k0.trans k1, [], k1 _ _ d0 db, List.nodup_nil, Nat.le_refl _, fun t ht => nomatch ht⟩ ?_ ?_
    · rintro i σ H4 hi ⟨⟨v, rfl⟩, B4, k4, m, h4, hn, hl, hm⟩
      refine ⟨_, rfl, by show 3 ≤ sizeLine; decide, fun p np => ?_⟩
      have s5 : Same H4 (upd H4 p (.lst (([1, 3, 12] : List Int).map V.int))) := sm_new sm_refl np
      have pb := B4.off np
      refine ⟨_, rfl, b, c, ns, _, rfl, by decide, by decide, B4.same s5, fun r2 H6 h2 h3 B6 k6 => ?_⟩
      obtain ⟨j, rfl⟩ := Int.eq_ofNat_of_zero_le h2
      obtain ⟨z, hz, hzm⟩ := pick_int (zs := [1, 3, 12]) (j := j) (by show j < 3; omega)
      have hz9 : 0 < z ∧ z ≤ 12 := by
        simp only [List.mem_cons, List.not_mem_nil, or_false] at hzm
        omega
      refine ⟨p, _, _, _, rfl, rfl, SqL.of (k6 _ _ upd_same pb), atI_nat hz, ?_⟩
      refine ⟨b, c, ns, z, rfl, by omega, by omega, B6, fun e H7 h6 h7 B7 k7 => ?_⟩
      refine ⟨_, _, rfl, rfl, _, rfl, _, rfl, b, c, ns, rfl, B7, fun x H8 sx B8 k8 => ?_⟩
      have k48 : But b H4 H8 := (((But.refl.same s5).trans k6).trans k7).trans k8
      have h8 := k48 _ _ h4 db
      refine ⟨d, _, rfl, DPut.k (k := Sum.inr x) h8 (small1000 (by rw [tx_len]; omega)), ⟨_, rfl⟩, B8.mine (Ne.symm db) dc, but_mine (k4.trans k48) nd, put m x (1 + e), ?_, nodup_put hn _ _, ?_, ?_⟩
      · rw [upd_same, putK_tx]
      · have := put_len m x (1 + e)
        omega
      · exact put_all (R := fun t => (0 < t.2 ∧ t.2 ≤ 12) ∧ shT t.1 = true) hm ⟨⟨by show 0 < 1 + e; omega, by show 1 + e ≤ 12; omega⟩, sx⟩
    · rintro σ H4 ⟨⟨v, rfl⟩, B4, k4, B, h4, ndB, hl, hm⟩
      have lenB : (tx B).length ≤ 1000 := by rw [tx_len]; omega
      refine ⟨d, _, h4, True.intro, fun od => ?_⟩
      refine ⟨_, rfl, d, od, rfl, .inl ⟨_, upd_same, fun D nD => ?_⟩⟩
      have Dd : D ≠ d := fun e => by rw [e, upd_same] at nD; cases nD
      refine lc_it walk_keys (fun i H5 => Same (upd H4 d (.frz od (.dK (tx B)))) H5 ∧ H5 D = some (.lst (((tx B).take i).map fun kv => kV kv.1))) ⟨sm_new sm_refl nD, upd_same⟩ (fun i H5 _ ⟨s5, _⟩ => s5 _ _ upd_same) ?_ ?_
      · rintro i x H5 H6 hi ⟨s5, hD⟩ ⟨rfl, kk, vv, he, rfl⟩
        refine ⟨rfl, _, rfl, _, hD, small1000 (by rw [List.length_map, List.length_take]; omega), sm_new s5 nD, ?_⟩
        rw [upd_same, List.take_succ, he, List.map_append]
        rfl
      · rintro H5 ⟨s5, hD⟩
        rw [List.take_length] at hD
        refine ⟨s5 _ _ upd_same, ?_⟩
        have sb := lock_back h4 s5
        have hD3 : upd H5 d (.dK (tx B)) D = some (.lst ((tx B).map fun kv => kV kv.1)) := by rw [upd_ne Dd]; exact hD
        generalize upd H5 d (.dK (tx B)) = H6 at sb hD3 ⊢
        have h6 := sb _ _ h4
        refine ⟨D, _, B.map (·.1), rfl, SqL.of hD3, txkeys_dp B, ndB, by rw [List.length_map, ← tx_len]; exact lenB, fun l zs H7 nl s7 hzs hd7 => ?_⟩
        have lsrt : (srt B).length ≤ 1000 := by
          rw [(srt_perm _).length_eq, ← tx_len]
          exact lenB
        rw [← srt_keys ndB] at hd7
        have lz : zs.length = (srt B).length := by rw [dpAll_len hd7, List.length_map, List.length_map]
        refine ⟨l, rfl, ⟨_, SqL.of hzs⟩, fun D2 nD2 => ?_⟩
        refine lc_list (K := K) (a := l) (xs := zs) (fun j H8 => AccI K H7 D2 ((srt B).map encP) j H8) (acc_zero nD2) (fun j H8 _ a8 => a8.sm.seq (SqL.of hzs)) ?_ ?_
        · rintro j y H8 hj a8
          obtain ⟨key, hk, hy⟩ := enc_get hd7 hj
          rw [List.getElem?_map] at hk
          obtain ⟨t, ht, rfl⟩ := Option.map_eq_some_iff.mp hk
          cases dp_str (i := t.1) hy
          have tm : t ∈ B := (srt_perm _).mem_iff.mp (List.mem_of_getElem? ht)
          have hg : valV (tx B) (.inr t.1) = some (.int t.2) := by
            rw [valV_tx, look_of_mem ndB tm]
            rfl
          have h8 := a8.sm _ _ (s7 _ _ h6)
          refine ⟨rfl, _, rfl, _, rfl, _, rfl, d, .int t.2, rfl, by rw [← hg]; exact DGet.k (k := Sum.inr t.1) h8, (by show 2 ≤ sizeLine; decide), fun W nW => ?_⟩
          exact acc_step a8 nD2 (by rw [List.length_map]; exact list1000 lsrt) (tu_encPs _) (sm_new sm_refl nW) (by rw [List.getElem?_map, ht]; rfl) (dp_mk (κ := Str) (x := t.1) (SqT.of upd_same) (.str _))
        · rintro H8 a8
          obtain ⟨s8, us, hu, hd8⟩ := acc_end a8 (by rw [lz, List.length_map])
          have s48 : Same H4 H8 := (sb.trans s7).trans s8
          have mem : ∀ t ∈ srt B, (0 < t.2 ∧ t.2 ≤ 12) ∧ shT t.1 = true := fun t ht => hm t ((srt_perm _).mem_iff.mp ht)
          have ls3 : (srt B).length ≤ 4 := by
            rw [(srt_perm _).length_eq]
            omega
          refine ⟨D2, us, rfl, .inl ⟨SqL.of hu, fun v nv => ?_⟩⟩
          have s9 : Same H4 (upd H8 v (.tup us)) := sm_new s48 (s48.free nv)
          refine k v (srt B) _ ⟨⟨srt_asc ndB, fun t ht => (mem t ht).1.1⟩, ls3, ?_, fun t ht => (mem t ht).2⟩ (B4.same s9) (k4.same s9) (.tup (SqT.of upd_same) (dpAll_put (by rw [nv]; exact notT_none) (tupOnlyAll_of (tu_encPs _)) hd8))
          exact S_le (n := 4) (c := 12) (by decide) ls3 fun t ht => (mem t ht).1.2
theorem scLPoly : FnScope ["box", "terms", "most", "book", "k"] ["box", "terms", "most"] (defScope sLPoly) := ⟨rfl, rfl, rfl, by decide +kernel, rfl, by decide +kernel, by decide +kernel⟩
theorem ok_lpoly {f : Addr} {fd : FuncData} (F : Fun K "_law_poly" "_law_poly" sLPoly f fd) (C : Cn K mg) (Gd : Df P w K mg base 2 "_law_draw" ["box", "many"] spDraw) (Gm : Df P w K mg base 4 "_law_monomial" ["box", "most"] (spLMono K))
    (Gn : Df P w K mg base 2 "_law_normal" ["book"] (spNorm K P w)) : FnOk P w K mg base CX0 5 f fd ["box", "terms", "most"] (spLPoly K) := by
  obtain ⟨fd', fdd, gD, kD, bD', GD⟩ := Gd.ok
  obtain ⟨fm, fdm, gM, kM, bM, GM⟩ := Gm.ok
  obtain ⟨fn, fdn, gN, kN, bN, GN⟩ := Gn.ok
  refine F.ok scLPoly (fun vs H Q E h => ?_) (fun cdv A outer s H vs Q E hr h => ?_)
  · obtain ⟨b, c, ns, rfl, _⟩ := h
    rfl
  · obtain ⟨b, c, ns, rfl, hB, k⟩ := h
    have hr2 : Room 2 _ := hr.mono (by decide)
    have hr4 : Room 4 _ := hr
    refine ⟨_, pss_cons (ps_set (i := 3) scLPoly.nd rfl (Or.inl rfl) (show PE _ _ (tNdNew P w) from pe_ndNew))
      (pss_cons (ps_for PassesOwn.never rfl (pi_range1 rfl C.N.rng (pa_cons (pe_call GD hr2 rfl gD kD bD' .nil pass0 (pa_cons (pv 0) (pa_cons (pe_op op_add (pv 1) pe_int) pa_nil))) pa_nil)) (pg_name (i := 4) scLPoly.nd rfl (Or.inl rfl))
        (pss_one (ps_asg (pe_op op_add pe_int (pe_call GD hr2 rfl gD kD bD' .nil pass0 (pa_cons (pv 0) (pa_cons
          (pe_ix ix_list (pe_lst (pa_cons pe_int (pa_cons pe_int (pa_cons pe_int pa_nil)))) (pe_call GD hr2 rfl gD kD bD' .nil pass0 (pa_cons (pv 0) (pa_cons pe_int pa_nil))) (fun _ _ => rfl)) pa_nil))))
          (pg_sub (pv 3) (pe_call GM hr4 rfl gM kM bM .nil pass0 (pa_cons (pv 0) (pa_cons (pv 2) pa_nil))) (set_nd (u9 hr))))))
      (pss_one (ps_ret (pe_call GN hr2 rfl gN kN bN .nil pass0 (pa_cons (pv 3) pa_nil))))), ?_⟩
    intro d nd
    have s0 : Same H (upd H d (ndO P w d [])) := sm_new sm_refl nd
    have n0 : NdAt K P w (upd H d (ndO P w d [])) d [] := ⟨upd_same, fun e he => nomatch he⟩
    have db := hB.off nd
    have dc : c ≠ d := ne_of_none hB.cells nd
    generalize upd H d (ndO P w d []) = H0 at s0 n0 ⊢
    have k0 : But b H H0 := But.refl.same s0
    refine ⟨_, rfl, _, rfl, _, _, rfl, rfl, b, c, ns, _, rfl, by decide, by decide, hB.same s0, fun r H1 h0 h1 B1 k1 => ?_⟩
    have nd_but : ∀ {H2 H3 : Hp} {es : List Ent}, BoxAt H2 b c ns → But b H2 H3 → NdAt K P w H2 d es → NdAt K P w H3 d es := fun {H2 H3 es} hb kb n => ⟨kb _ _ n.at_ db, fun e he => bD_kt (κ := Str) (KeepT.but hb.notT kb) (n.keys e he)⟩
    refine ⟨_, rfl, by omega, by omega, ?_⟩
    refine for_range (n := r.toNat) (fun i σ H4 => (∃ v, σ = [some (.ref b), some (.int 8), some (.int 4), some (.ref d), v]) ∧ BoxAt H4 b c ns ∧ But b H H4 ∧ ∃ es, NdAt K P w H4 d es ∧ ((bagOf es).map (·.1)).Nodup ∧ es.length ≤ i ∧ ∀ t ∈ bagOf es, (0 < t.2 ∧ t.2 ≤ 1000) ∧ PM t.1)
      ⟨⟨none, rfl⟩, B1, k0.trans k1, [], nd_but (hB.same s0) k1 n0, List.nodup_nil, Nat.le_refl _, fun t ht => nomatch ht⟩ ?_ ?_
    · rintro i σ H4 hi ⟨⟨v, rfl⟩, B4, k4, es, n4, hn, hl, hm⟩
      refine ⟨_, rfl, by show 3 ≤ sizeLine; decide, fun p np => ?_⟩
      have s5 : Same H4 (upd H4 p (.lst (([1, 3, 1000] : List Int).map V.int))) := sm_new sm_refl np
      have pb := B4.off np
      refine ⟨_, rfl, b, c, ns, _, rfl, by decide, by decide, B4.same s5, fun r2 H6 h2 h3 B6 k6 => ?_⟩
      obtain ⟨j, rfl⟩ := Int.eq_ofNat_of_zero_le h2
      obtain ⟨z, hz, hzm⟩ := pick_int (zs := [1, 3, 1000]) (j := j) (by show j < 3; omega)
      have hz9 : 0 < z ∧ z ≤ 1000 := by
        simp only [List.mem_cons, List.not_mem_nil, or_false] at hzm
        omega
      refine ⟨p, _, _, _, rfl, rfl, SqL.of (k6 _ _ upd_same pb), atI_nat hz, ?_⟩
      refine ⟨b, c, ns, z, rfl, by omega, by omega, B6, fun e H7 h6 h7 B7 k7 => ?_⟩
      refine ⟨_, _, rfl, rfl, _, rfl, _, rfl, _, rfl, b, c, ns, rfl, B7, fun a m H8 pm B8 k8 hm8 => ?_⟩
      have k48 : But b H4 H8 := (((But.refl.same s5).trans k6).trans k7).trans k8
      have n8 := nd_but B4 k48 n4
      refine ⟨d, a, es, m, _, rfl, rfl, rfl, n8, hm8, small1000 (by omega), ⟨_, rfl⟩, B8.mine (Ne.symm db) dc, but_mine (k4.trans k48) nd, _, nd_put n8 hm8, ?_, ?_, ?_⟩
      · rw [bagOf_put]
        exact nodup_put hn _ _
      · have := putN_len es m a (1 + e)
        omega
      · rw [bagOf_put]
        exact put_all (R := fun t => (0 < t.2 ∧ t.2 ≤ 1000) ∧ PM t.1) hm ⟨⟨by show 0 < 1 + e; omega, by show 1 + e ≤ 1000; omega⟩, pm⟩
    · rintro σ H4 ⟨⟨v, rfl⟩, B4, k4, es, n4, hn, hl, hm⟩
      refine ⟨_, rfl, d, es, rfl, n4, hn, fun t ht => (hm t ht).1.1, by omega, fun v H5 s5 h5 => ?_⟩
      have mem : ∀ t ∈ srt (bagOf es), (0 < t.2 ∧ t.2 ≤ 1000) ∧ PM t.1 := fun t ht => hm t ((srt_perm _).mem_iff.mp ht)
      have ls5 : (srt (bagOf es)).length ≤ 8 := by
        rw [(srt_perm _).length_eq, bagOf_len]
        omega
      exact k v _ H5 ⟨⟨srt_asc hn, fun t ht => (mem t ht).1.1, fun t ht => (mem t ht).2.ok⟩, ls5, S_le (n := 8) (c := 1000) (by decide) ls5 fun t ht => (mem t ht).1.2, fun t ht => (mem t ht).2.sz, fun t ht => (mem t ht).2.tk⟩ (B4.same s5) (k4.same s5) h5
end
end K5


set_option Elab.async false
set_option linter.all false
set_option maxRecDepth 100000
set_option maxHeartbeats 4000000
namespace K5
open PySem L2 Nd Bk
/-! forms of data: some of its tuples as lists, apart from what is going to change -/
mutual
def flat : PyData → PyData
  | .list xs => .tuple (flats xs)
  | .tuple xs => .tuple (flats xs)
  | d => d
def flats : List PyData → List PyData
  | [] => []
  | x :: xs => flat x :: flats xs
end
theorem flats_map : ∀ xs : List PyData, flats xs = xs.map flat
  | [] => by simp [flats]
  | x :: xs => by simp [flats, flats_map xs]
mutual
theorem flat_tup : ∀ {d : PyData}, tupOnly d = true → flat d = d
  | .int _, _ => by simp [flat]
  | .str _, _ => by simp [flat]
  | .tuple ds, h => by
    simp only [flat]
    rw [flats_tup (by simpa [tupOnly] using h)]
  | .none, _ => by simp [flat]
  | .bool _, _ => by simp [flat]
  | .list _, h => by simp [tupOnly] at h
  | .dict _, h => by simp [tupOnly] at h
theorem flats_tup : ∀ {ds : List PyData}, tupOnlyAll ds = true → flats ds = ds
  | [], _ => by simp [flats]
  | d :: ds, h => by
    simp only [tupOnlyAll, Bool.and_eq_true] at h
    simp only [flats]
    rw [flat_tup h.1, flats_tup h.2]
end
mutual
inductive Fp (K : PySem.W.Frag) (H : Hp) (av : List Addr) : V → PyData → Prop
  | non : Fp K H av .non .none
  | bl (b : Bool) : Fp K H av (.bl b) (.bool b)
  | int (i : Int) : Fp K H av (.int i) (.int i)
  | str (x : Str) : Fp K H av (.str x) (.str x)
  | lst {a : Addr} {xs : List V} {ds : List PyData} : H a = some (.lst xs) → a ∉ av → FpAll K H av xs ds → Fp K H av (.ref a) (.list ds)
  | tup {a : Addr} {xs : List V} {ds : List PyData} : SqT K H a xs → FpAll K H av xs ds → Fp K H av (.ref a) (.tuple ds)
inductive FpAll (K : PySem.W.Frag) (H : Hp) (av : List Addr) : List V → List PyData → Prop
  | nil : FpAll K H av [] []
  | cons {v : V} {vs : List V} {d : PyData} {ds : List PyData} : Fp K H av v d → FpAll K H av vs ds → FpAll K H av (v :: vs) (d :: ds)
end
section
variable {K : PySem.W.Frag} {H H' : Hp} {av av' : List Addr}
mutual
theorem Fp.dp : ∀ {v : V} {d : PyData}, Fp K H av v d → Dp K H v d
  | _, _, .non => .non
  | _, _, .bl b => .bl b
  | _, _, .int i => .int i
  | _, _, .str x => .str x
  | _, _, .lst h _ a => .lst (SqL.of h) (FpAll.dp a)
  | _, _, .tup h a => .tup h (FpAll.dp a)
theorem FpAll.dp : ∀ {v : List V} {d : List PyData}, FpAll K H av v d → DpAll K H v d
  | _, _, .nil => .nil
  | _, _, .cons h t => .cons (Fp.dp h) (FpAll.dp t)
end
mutual
theorem Fp.of : ∀ {v : V} {d : PyData}, Dp K H v d → tupOnly d = true → Fp K H av v d
  | _, _, .non => fun _ => .non
  | _, _, .bl b => fun _ => .bl b
  | _, _, .int i => fun _ => .int i
  | _, _, .str x => fun _ => .str x
  | _, _, .lst h a => fun t => by simp [tupOnly] at t
  | _, _, .tup h a => fun t => .tup h (FpAll.of a (by simpa [tupOnly] using t))
theorem FpAll.of : ∀ {v : List V} {d : List PyData}, DpAll K H v d → tupOnlyAll d = true → FpAll K H av v d
  | _, _, .nil => fun _ => .nil
  | _, _, .cons h r => fun t => by
    simp only [tupOnlyAll, Bool.and_eq_true] at t
    exact .cons (Fp.of h t.1) (FpAll.of r t.2)
end
/-- the tuples stay, and the lists that aren't to be avoided; what is to be avoided is told anew -/
theorem fp_move (kt : KeepT H H') (kl : ∀ a xs, H a = some (.lst xs) → a ∉ av → H' a = some (.lst xs) ∧ a ∉ av') : (∀ {v : V} {d : PyData}, Fp K H av v d → Fp K H' av' v d) ∧ ∀ {v : List V} {d : List PyData}, FpAll K H av v d → FpAll K H' av' v d := by
  have key : ∀ n : Nat, (∀ (v : V) (d : PyData), sizeOf d ≤ n → Fp K H av v d → Fp K H' av' v d) ∧ ∀ (v : List V) (d : List PyData), sizeOf d ≤ n → FpAll K H av v d → FpAll K H' av' v d := by
    intro n
    induction n with
    | zero =>
      refine ⟨fun v d hs => ?_, fun v d hs => ?_⟩
      · cases d <;> simp at hs
      · cases d <;> simp at hs
    | succ n ih =>
      refine ⟨fun v d hs h => ?_, fun v d hs h => ?_⟩
      · cases h with
        | non => exact .non
        | bl b => exact .bl b
        | int i => exact .int i
        | str x => exact .str x
        | lst h1 h2 h3 =>
          obtain ⟨g1, g2⟩ := kl _ _ h1 h2
          exact .lst g1 g2 (ih.2 _ _ (by simp at hs; omega) h3)
        | tup h1 h2 => exact .tup (sqT_kt kt h1) (ih.2 _ _ (by simp at hs; omega) h2)
      · cases h with
        | nil => exact .nil
        | cons h1 h2 => exact .cons (ih.1 _ _ (by simp at hs; omega) h1) (ih.2 _ _ (by simp at hs; omega) h2)
  exact ⟨fun {v d} h => (key _).1 v d (Nat.le_refl _) h, fun {v d} h => (key _).2 v d (Nat.le_refl _) h⟩
theorem Fp.same {v : V} {d : PyData} (s : Same H H') (h : Fp K H av v d) : Fp K H' av v d := (fp_move (.same s) fun a xs h1 h2 => ⟨s _ _ h1, h2⟩).1 h
theorem FpAll.same {v : List V} {d : List PyData} (s : Same H H') (h : FpAll K H av v d) : FpAll K H' av v d := (fp_move (.same s) fun a xs h1 h2 => ⟨s _ _ h1, h2⟩).2 h
theorem Fp.but {b : Addr} {v : V} {d : PyData} (m : b ∈ av) (n : NotT (H b)) (s : But b H H') (h : Fp K H av v d) : Fp K H' av v d := (fp_move (.but n s) fun a xs h1 h2 => ⟨s _ _ h1 fun e => h2 (by rw [e]; exact m), h2⟩).1 h
theorem FpAll.but {b : Addr} {v : List V} {d : List PyData} (m : b ∈ av) (n : NotT (H b)) (s : But b H H') (h : FpAll K H av v d) : FpAll K H' av v d := (fp_move (.but n s) fun a xs h1 h2 => ⟨s _ _ h1 fun e => h2 (by rw [e]; exact m), h2⟩).2 h
theorem Fp.less {v : V} {d : PyData} (m : ∀ x ∈ av', x ∈ av) (h : Fp K H av v d) : Fp K H av' v d := (fp_move (.same sm_refl) fun a xs h1 h2 => ⟨h1, fun q => h2 (m a q)⟩).1 h
theorem FpAll.less {v : List V} {d : List PyData} (m : ∀ x ∈ av', x ∈ av) (h : FpAll K H av v d) : FpAll K H av' v d := (fp_move (.same sm_refl) fun a xs h1 h2 => ⟨h1, fun q => h2 (m a q)⟩).2 h
theorem Fp.more {x : Addr} {v : V} {d : PyData} (n : H x = none) (h : Fp K H av v d) : Fp K H (x :: av) v d := (fp_move (.same sm_refl) fun a xs h1 h2 => ⟨h1, fun q => (List.mem_cons.mp q).elim (fun e => by rw [e, n] at h1; cases h1) h2⟩).1 h
theorem FpAll.snoc : ∀ {vs : List V} {ds : List PyData} {v : V} {d : PyData}, FpAll K H av vs ds → Fp K H av v d → FpAll K H av (vs ++ [v]) (ds ++ [d])
  | _, _, _, _, .nil, h => .cons h .nil
  | _, _, _, _, .cons h t, h2 => .cons h (FpAll.snoc t h2)
theorem FpAll.len : ∀ {vs : List V} {ds : List PyData}, FpAll K H av vs ds → vs.length = ds.length
  | _, _, .nil => rfl
  | _, _, .cons _ t => by simp [FpAll.len t]
end
end K5


set_option Elab.async false
set_option linter.all false
set_option maxRecDepth 100000
set_option maxHeartbeats 4000000
namespace K5
open PySem L2 Nd Bk
/-- a number, a truth value, none -/
inductive Sc : PyData → Prop
  | int (i : Int) : Sc (.int i)
  | non : Sc .none
  | bl (b : Bool) : Sc (.bool b)
/-- numbers, texts, tuples of them, so many deep -/
def Okd : Nat → PyData → Prop
  | 0, d => Sc d ∨ ∃ z, d = .str z
  | n + 1, d => Sc d ∨ (∃ z, d = .str z) ∨ ∃ ds, d = .tuple ds ∧ ds.length ≤ 1000 ∧ ∀ e ∈ ds, Okd n e
theorem Okd.tu : ∀ {n : Nat} {d : PyData}, Okd n d → tupOnly d = true
  | 0, _, h => by
    rcases h with h | ⟨z, rfl⟩
    · cases h <;> rfl
    · rfl
  | n + 1, _, h => by
    rcases h with h | ⟨z, rfl⟩ | ⟨ds, rfl, _, h⟩
    · cases h <;> rfl
    · rfl
    · show tupOnlyAll ds = true
      exact tupOnlyAll_of fun e he => (h e he).tu
/-- a form that is a tuple is known to be without a dict -/
def Top (H : Hp) (v : V) (d' : PyData) : Prop := ∀ ds, d' = .tuple ds → ∃ T, v = .ref T ∧ PlainT H T
theorem PlainT.kt {H H' : Hp} {a : Addr} (k : KeepT H H') (h : PlainT H a) : PlainT H' a := let ⟨o, xs, h1, h2⟩ := h; ⟨o, xs, k.2 _ _ _ h1, h2⟩
def spLs (K : PySem.W.Frag) (n : Nat) : Sp := fun vs H Q _ => ∃ (b c : Addr) (ns : List Int) (av : List Addr) (v : V) (d : PyData), vs = [.ref b, v] ∧ BoxAt H b c ns ∧ Dp K H v d ∧ Okd n d ∧ b ∈ av ∧ (∀ x ∈ av, H x ≠ none) ∧
  ∀ (v' : V) (d' : PyData) (H' : Hp), flat d' = d → BoxAt H' b c ns → But b H H' → Fp K H' av v' d' → Top H' v' d' → Q v' H'
def sps (K : PySem.W.Frag) : Nat → Sp
  | 0 => fun _ _ _ _ => False
  | n + 1 => spLs K n
section
variable {P : Program} {w : World} {K : PySem.W.Frag} {mg : Str → Option Value} {base : Heap}
theorem scLLists : FnScope ["box", "value", "found", "part"] ["box", "value"] (defScope sLLists) := ⟨rfl, rfl, rfl, by decide +kernel, rfl, by decide +kernel, by decide +kernel⟩
theorem ok_llists {f : Addr} {fd : FuncData} (F : Fun K "_law_lists" "_law_lists" sLLists f fd) (b : Binds K fd ["box", "value"] []) (g : mg "_law_lists" = some (.ref f)) (kp : PySem.W.keepIn K (.ref f) = true) (N : Nm mg)
    (Gd : Df P w K mg base 2 "_law_draw" ["box", "many"] spDraw) : ∀ n : Nat, FnOk P w K mg base CX0 (n + 2) f fd ["box", "value"] (sps K n) := by
  obtain ⟨fd', fdd, gD, kD, bD', GD⟩ := Gd.ok
  intro n
  induction n with
  | zero => exact ⟨fun _ _ _ _ h => False.elim h, fun _ _ _ _ _ _ _ _ _ _ _ _ _ h => False.elim h⟩
  | succ n ih =>
    refine F.ok scLLists (fun vs H Q E h => ?_) (fun cdv A outer s H vs Q E hr h => ?_)
    · obtain ⟨b, c, ns, av, v, d, rfl, _⟩ := h
      rfl
    · obtain ⟨bx, c, ns, av, v, d, rfl, hB, hd, okd, hav, hall, k⟩ := h
      have hr2 : Room 2 _ := hr.mono (by omega)
      refine ⟨_, pss_cons (ps_if (pt_not (pt_val (pe_callB call_isi (by rfl) N.isi (by decide +kernel) (pa_cons (pv 1) (pa_cons (pe_bltn (v := .ty "tuple") (by rfl) N.tup (by decide +kernel) rfl) pa_nil))))) (pss_one (ps_ret (pv 1))) pss_nil)
        (pss_cons (ps_setLc (i := 2) (own := [("part", 3)]) (g := gName 3) (tt := tYes) (by rfl) scLLists.nd rfl rfl (sw_true rfl rfl rfl (by decide +kernel)) (pi_tup (pv 1)) (blkOk_by (N := ["box", "value", "found", "part"]) (sc := defScope sLLists) (by decide +kernel))
          (fun _ _ _ _ _ => pg_name (i := 3) scLLists.nd rfl (Or.inl rfl)) (fun _ _ _ _ _ => pts_nil) (fun _ _ _ _ _ => pe_call ih hr rfl g kp b .nil pass0 (pa_cons (pv 0) (pa_cons (pv 3) pa_nil))))
        (pss_one (ps_ret (pe_ix ix_list (pe_lst (pa_cons (pv 2) (pa_cons (pe_callTy (show CallR _ _ (rTupF K) from call_tupleF) (by rfl) N.tup (by rfl) (pa_cons (pv 2) pa_nil)) pa_nil)))
          (pe_call GD hr2 rfl gD kD bD' .nil pass0 (pa_cons (pv 0) (pa_cons pe_int pa_nil))) (fun _ _ => rfl))))), ?_⟩
      have scal : tupOnly d = true → Sc d ∨ (∃ z, d = .str z) → Q v H := fun tu q => k v d H (flat_tup tu) hB But.refl (Fp.of hd tu) (fun ds e => by subst e; rcases q with q | ⟨z, q⟩ <;> cases q)
      have tu := okd.tu
      cases n with
      | zero =>
        rcases okd with oks | ⟨z, rfl⟩
        · cases oks with
          | int i =>
            cases dp_int hd
            exact ⟨_, rfl, _, _, _, _, false, rfl, .ty _, .base (.int i), kit_ty (by decide +kernel), false, rfl, iteT ⟨_, rfl, scal tu (.inl (.int _))⟩⟩
          | non =>
            cases hd
            exact ⟨_, rfl, _, _, _, _, false, rfl, .ty _, .base .non, kit_ty (by decide +kernel), false, rfl, iteT ⟨_, rfl, scal tu (.inl .non)⟩⟩
          | bl b =>
            cases hd
            exact ⟨_, rfl, _, _, _, _, false, rfl, .ty _, .base (.bl b), kit_ty (by decide +kernel), false, rfl, iteT ⟨_, rfl, scal tu (.inl (.bl b))⟩⟩
        · cases dp_str hd
          exact ⟨_, rfl, _, _, _, _, false, rfl, .ty _, .base (.str z), kit_ty (by decide +kernel), false, rfl, iteT ⟨_, rfl, scal tu (.inr ⟨_, rfl⟩)⟩⟩
      | succ m =>
        rcases okd with oks | ⟨z, rfl⟩ | ⟨ds, rfl, hl, hds⟩
        · cases oks with
          | int i =>
            cases dp_int hd
            exact ⟨_, rfl, _, _, _, _, false, rfl, .ty _, .base (.int i), kit_ty (by decide +kernel), false, rfl, iteT ⟨_, rfl, scal tu (.inl (.int _))⟩⟩
          | non =>
            cases hd
            exact ⟨_, rfl, _, _, _, _, false, rfl, .ty _, .base .non, kit_ty (by decide +kernel), false, rfl, iteT ⟨_, rfl, scal tu (.inl .non)⟩⟩
          | bl b =>
            cases hd
            exact ⟨_, rfl, _, _, _, _, false, rfl, .ty _, .base (.bl b), kit_ty (by decide +kernel), false, rfl, iteT ⟨_, rfl, scal tu (.inl (.bl b))⟩⟩
        · cases dp_str hd
          exact ⟨_, rfl, _, _, _, _, false, rfl, .ty _, .base (.str z), kit_ty (by decide +kernel), false, rfl, iteT ⟨_, rfl, scal tu (.inr ⟨_, rfl⟩)⟩⟩
        · obtain ⟨a, xs, rfl, hxs, hxd⟩ := dp_tup hd
          have lx := dpAll_len hxd
          have tud : tupOnlyAll ds = true := by simpa [tupOnly] using tu
          refine ⟨_, rfl, _, _, _, _, true, rfl, .ty _, tyX_T hxs, kit_ty (by decide +kernel), true, rfl, iteF ?_⟩
          refine ⟨_, rfl, a, rfl, ⟨_, hxs⟩, fun D nD => ?_⟩
          have Db := hB.off nD
          have Dc : c ≠ D := ne_of_none hB.cells nD
          have Dav : D ∉ av := fun q => hall D q nD
          have kt : ∀ {H2 : Hp}, But bx H H2 → KeepT H H2 := fun kb => .but hB.notT kb
          refine lc_tup (K := K) (a := a) (xs := xs) (fun i H2 => BoxAt H2 bx c ns ∧ But bx H H2 ∧ ∃ ys es, H2 D = some (.lst ys) ∧ FpAll K H2 (D :: av) ys es ∧ flats es = ds.take i) ⟨hB.mine (Ne.symm Db) Dc, but_mine But.refl nD, [], [], upd_same, .nil, by simp [flats]⟩
            (fun i H2 _ ⟨_, kb, _⟩ => sqT_kt (kt kb) hxs) ?_ ?_
          · rintro i x H2 hi ⟨B2, kb, ys, es, hD, hys, hes⟩
            obtain ⟨e, he, hx⟩ := dpAll_get hxd hi
            have hx2 : Dp K H2 x e := dp_kt0 (kt kb) hx ((hds e (List.mem_of_getElem? he)).tu)
            refine ⟨rfl, _, rfl, _, rfl, bx, c, ns, D :: av, x, e, rfl, B2, hx2, hds e (List.mem_of_getElem? he), List.mem_cons_of_mem _ hav, fun y hy => ?_, fun v' d' H3 hf B3 k3 hv' _ => ?_⟩
            · rcases List.mem_cons.mp hy with q | q
              · rw [q, hD]
                exact fun z => nomatch z
              · intro z
                obtain ⟨o, ho⟩ := Option.ne_none_iff_exists'.mp (hall y q)
                by_cases yb : y = bx
                · obtain ⟨_, _, _, _, _, _, hb⟩ := B2.lst
                  rw [yb, hb] at z
                  cases z
                · rw [kb y o ho yb] at z
                  cases z
            · have hD3 : H3 D = some (.lst ys) := k3 _ _ hD Db
              have hys3 := hys.but (List.mem_cons_of_mem _ hav) B2.notT k3
              have nt3 : NotT (H3 D) := by rw [hD3]; exact notT_lst
              have leny : ys.length ≤ 1000 := by
                have e1 := hys.len
                have e2 := congrArg List.length hes
                rw [flats_map, List.length_map, List.length_take] at e2
                omega
              refine ⟨ys, hD3, small1000 leny, B3.mine (Ne.symm Db) Dc, but_mine (kb.trans k3) nD, ys ++ [v'], es ++ [d'], upd_same, ?_, ?_⟩
              · have all := FpAll.snoc hys3 hv'
                exact all.but List.mem_cons_self nt3 But.upd
              · rw [flats_map, List.map_append, ← flats_map, hes, List.take_succ, he, List.map_cons, List.map_nil, hf]
                rfl
          · rintro H2 ⟨B2, kb, ys, es, hD, hys, hes⟩
            rw [lx, List.take_length] at hes
            have hysA : FpAll K H2 av ys es := hys.less fun x hx => List.mem_cons_of_mem _ hx
            refine ⟨_, rfl, _, rfl, D, ys, rfl, SqL.of hD, fun T oT nT hoT => ?_⟩
            have sT : Same H2 (upd H2 T (.frz oT (.tup ys))) := sm_new sm_refl nT
            have hT : SqT K (upd H2 T (.frz oT (.tup ys))) T ys := .inl (.inr ⟨oT, upd_same⟩)
            have pT : PlainT (upd H2 T (.frz oT (.tup ys))) T := ⟨oT, ys, upd_same, hoT⟩
            generalize upd H2 T (.frz oT (.tup ys)) = H3 at sT hT pT ⊢
            refine ⟨(by show 2 ≤ sizeLine; decide), fun L nL => ?_⟩
            have sL : Same H3 (upd H3 L (.lst [.ref D, .ref T])) := sm_new sm_refl nL
            have hL : upd H3 L (.lst [.ref D, .ref T]) L = some (.lst [.ref D, .ref T]) := upd_same
            have hB3 := B2.same sT
            have Lb := hB3.off nL
            generalize upd H3 L (.lst [.ref D, .ref T]) = H4 at sL hL ⊢
            have B4 := hB3.same sL
            refine ⟨_, rfl, bx, c, ns, _, rfl, by decide, by decide, B4, fun r H5 h0 h1 B5 k5 => ?_⟩
            have k25 : But bx H2 H5 := ((But.refl.same sT).same sL).trans k5
            have all5 : FpAll K H5 av ys es := hysA.but hav B2.notT k25
            have kb5 := kb.trans k25
            obtain ⟨j, rfl⟩ := Int.eq_ofNat_of_zero_le h0
            have ff : flat (.list es) = .tuple ds := by simp only [flat]; rw [hes]
            have ft : flat (.tuple es) = .tuple ds := by simp only [flat]; rw [hes]
            match j, h1 with
            | 0, _ => exact ⟨L, _, _, _, rfl, rfl, SqL.of (k5 _ _ hL Lb), rfl, k (.ref D) (.list es) H5 ff B5 kb5 (.lst (k25 _ _ hD Db) Dav all5) fun _ e => nomatch e⟩
            | 1, _ => exact ⟨L, _, _, _, rfl, rfl, SqL.of (k5 _ _ hL Lb), rfl, k (.ref T) (.tuple es) H5 ft B5 kb5 (.tup (sqT_kt (KeepT.but hB3.notT ((But.refl.same sL).trans k5)) hT) all5) fun _ _ => ⟨T, rfl, pT.kt (KeepT.but hB3.notT ((But.refl.same sL).trans k5))⟩⟩
            | n + 2, h => omega
end
end K5


set_option Elab.async false
set_option linter.all false
set_option maxRecDepth 100000
set_option maxHeartbeats 4000000
namespace K5
open PySem L2 Nd Bk Gd
/-- at v: a form of the data -/
def FD (K : PySem.W.Frag) (H : Hp) (v : V) (d : PyData) : Prop := ∃ d', Dp K H v d' ∧ flat d' = d
section
variable {K : PySem.W.Frag} {H H' : Hp} {v : V}
theorem FD.same {d : PyData} (s : Same H H') (h : FD K H v d) : FD K H' v d := let ⟨d', h1, h2⟩ := h; ⟨d', dp_same s h1, h2⟩
theorem FD.of {d : PyData} (h : Dp K H v d) (t : tupOnly d = true) : FD K H v d := ⟨d, h, flat_tup t⟩
theorem Fp.fd {av : List Addr} {d d' : PyData} (h : Fp K H av v d') (e : flat d' = d) : FD K H v d := ⟨d', h.dp, e⟩
theorem fd_int {i : Int} (h : FD K H v (.int i)) : v = .int i := by
  obtain ⟨d', h, e⟩ := h
  cases d' <;> simp [flat] at e
  subst e
  exact dp_int h
theorem fd_str {z : Str} (h : FD K H v (.str z)) : v = .str z := by
  obtain ⟨d', h, e⟩ := h
  cases d' <;> simp [flat] at e
  subst e
  exact dp_str h
theorem fd_seq {ds : List PyData} (h : FD K H v (.tuple ds)) : ∃ a xs, v = .ref a ∧ (SqL K H a xs ∨ SqT K H a xs) ∧ xs.length = ds.length ∧ ∀ (i : Nat) (x : V), xs[i]? = some x → ∃ d, ds[i]? = some d ∧ FD K H x d := by
  obtain ⟨d', h, e⟩ := h
  have key : ∀ {a : Addr} {xs : List V} {es : List PyData}, DpAll K H xs es → flats es = ds → xs.length = ds.length ∧ ∀ (i : Nat) (x : V), xs[i]? = some x → ∃ d, ds[i]? = some d ∧ FD K H x d := by
    intro a xs es ha hes
    rw [flats_map] at hes
    refine ⟨by rw [dpAll_len ha, ← hes, List.length_map], fun i x hx => ?_⟩
    obtain ⟨d, h1, h2⟩ := dpAll_get ha hx
    exact ⟨flat d, by rw [← hes, List.getElem?_map, h1]; rfl, d, h2, rfl⟩
  cases h with
  | non => simp [flat] at e
  | bl => simp [flat] at e
  | int => simp [flat] at e
  | str => simp [flat] at e
  | lst h1 h2 =>
    simp only [flat, PyData.tuple.injEq] at e
    obtain ⟨k1, k2⟩ := key (a := 0) h2 e
    exact ⟨_, _, rfl, .inl h1, k1, k2⟩
  | tup h1 h2 =>
    simp only [flat, PyData.tuple.injEq] at e
    obtain ⟨k1, k2⟩ := key (a := 0) h2 e
    exact ⟨_, _, rfl, .inr h1, k1, k2⟩
/-- a bag's form -/
theorem fd_bag {κ : Type} [DecidableEq κ] [Ky κ] {l : Bag κ} (h : FD K H v (bD l)) : ∃ a xs, v = .ref a ∧ (SqL K H a xs ∨ SqT K H a xs) ∧ xs.length = l.length ∧ ∀ (i : Nat) (x : V), xs[i]? = some x → ∃ p, l[i]? = some p ∧ FD K H x (encP p) := by
  obtain ⟨a, xs, rfl, sq, len, get⟩ := fd_seq h
  refine ⟨a, xs, rfl, sq, by rw [len, List.length_map], fun i x hx => ?_⟩
  obtain ⟨d, h1, h2⟩ := get i x hx
  rw [List.getElem?_map] at h1
  obtain ⟨p, hp, rfl⟩ := Option.map_eq_some_iff.mp h1
  exact ⟨p, hp, h2⟩
theorem fd_pair {κ : Type} [DecidableEq κ] [Ky κ] {p : κ × Int} (h : FD K H v (encP p)) : ∃ T k, v = .ref T ∧ (SqL K H T [k, .int p.2] ∨ SqT K H T [k, .int p.2]) ∧ FD K H k (Ky.enc p.1) := by
  obtain ⟨a, xs, rfl, sq, len, get⟩ := fd_seq h
  match xs, len with
  | [x, y], _ =>
    obtain ⟨d, h1, h2⟩ := get 0 x rfl
    obtain ⟨e, h3, h4⟩ := get 1 y rfl
    simp only [List.getElem?_cons_zero, Option.some.injEq] at h1
    simp only [List.getElem?_cons_succ, List.getElem?_cons_zero, Option.some.injEq] at h3
    subst h1 h3
    cases fd_int h4
    exact ⟨a, x, rfl, sq, h2⟩
end
/-- a walk over a list or a tuple that a name holds -/
theorem seq_go {K : PySem.W.Frag} {σ : L2.St} {i : Nat} {H : Hp} {a : Addr} {xs : List V} {R : It → Hp → Prop} (hv : σ[i]? = some (some (.ref a))) (h : SqL K H a xs ∨ SqT K H a xs)
    (k : ∀ (J : It) (G : Hp → Prop), Walk J xs.length G (YAt xs) → (∀ H', (SqL K H a xs → SqL K H' a xs) → (SqT K H a xs → SqT K H' a xs) → G H') → R J H) : iSeq K (tVar i) σ H R := by
  rcases h with h | h
  · exact .inl ⟨_, hv, a, rfl, ⟨_, h⟩, k _ _ walk_list fun H' f _ => f h⟩
  · exact .inr ⟨_, hv, a, rfl, ⟨_, h⟩, k _ _ walk_tup fun H' _ f => f h⟩
theorem sq_same {K : PySem.W.Frag} {H H' : Hp} {a : Addr} {xs : List V} (s : Same H H') (h : SqL K H a xs ∨ SqT K H a xs) : SqL K H' a xs ∨ SqT K H' a xs := h.imp s.seq (sqT_same s)
def spFroz2 (K : PySem.W.Frag) : Sp := fun vs H Q _ => ∃ (v : V) (p : Poly), vs = [v] ∧ FD K H v (bD p) ∧ Szd p ∧ ∀ (T : Addr) (xs : List V) (H' : Hp), Same H H' → Fz K H' T xs p → Q (.ref T) H'
section
variable {P : Program} {w : World} {K : PySem.W.Frag} {mg : Str → Option Value} {base : Heap}
end
end K5


set_option Elab.async false
set_option linter.all false
set_option maxRecDepth 100000
set_option maxHeartbeats 4000000
namespace K5
open PySem L2 Nd Bk Gd PySem.ExE
/-! what goes beyond -/
def cp (i : Int) : Int := if BEY < i then BEY else i
def capB (l : Poly) : Poly := l.map fun e => (e.1, cp e.2)
theorem cp_ge (i : Int) : BEY ≤ cp i ↔ BEY ≤ i := by
  unfold cp
  split <;> omega
theorem cp_id {i : Int} (h : i < BEY) : cp i = i := by
  unfold cp
  rw [if_neg (by omega)]
theorem cp_add {x c : Int} (hc : 0 ≤ c) : cp (cp x + c) = cp (x + c) := by
  unfold cp
  repeat' split
  all_goals omega
theorem look_capB (l : Poly) (k : Mono) : look (capB l) k = (look l k).map cp := by
  unfold look capB
  induction l with
  | nil => rfl
  | cons e r ih =>
    rw [List.map_cons, List.find?_cons, List.find?_cons]
    by_cases h : e.1 = k
    · simp [h]
    · simp only [decide_eq_false h]
      exact ih
theorem put_capB (l : Poly) (k : Mono) (v : Int) : put (capB l) k (cp v) = capB (put l k v) := by
  unfold put
  rw [look_capB, Option.isSome_map]
  split
  · unfold capB
    rw [List.map_map, List.map_map]
    refine List.map_congr_left fun e _ => ?_
    show (if e.1 = k then (e.1, cp v) else (e.1, cp e.2)) = (fun e : Mono × Int => (e.1, cp e.2)) (if e.1 = k then (e.1, v) else e)
    split <;> rfl
  · unfold capB
    rw [List.map_append]
    rfl
theorem cp_zero : cp 0 = 0 := by decide +kernel
theorem add_capB (l : Poly) (k : Mono) {c : Int} (hc : 0 ≤ c) : put (capB l) k (cp ((look (capB l) k).getD 0 + c)) = capB (add1 l (k, c)) := by
  unfold add1
  rw [← put_capB, look_capB]
  cases look l k with
  | none => rfl
  | some u =>
    show put (capB l) k (cp (cp u + c)) = put (capB l) k (cp (u + c))
    rw [cp_add hc]
def Big (B : Poly) : Prop := ∃ t ∈ B, BEY ≤ t.2 ∨ ∃ x ∈ t.1, BEY ≤ x.2
theorem big_cap (B : Poly) : Big (capB B) ↔ Big B := by
  unfold Big capB
  constructor
  · rintro ⟨t, ht, h⟩
    obtain ⟨e, he, rfl⟩ := List.mem_map.mp ht
    exact ⟨e, he, h.imp (cp_ge _).mp id⟩
  · rintro ⟨e, he, h⟩
    exact ⟨_, List.mem_map.mpr ⟨e, he, rfl⟩, h.imp (cp_ge _).mpr id⟩
theorem cap_id {B : Poly} (h : ¬ Big B) : capB B = B := by
  have : ∀ e ∈ B, (e.1, cp e.2) = e := fun e he => by
    have : e.2 < BEY := by
      by_cases q : BEY ≤ e.2
      · exact absurd ⟨e, he, .inl q⟩ h
      · omega
    rw [cp_id this]
  unfold capB
  rw [List.map_congr_left this, List.map_id']
theorem cap_len (B : Poly) : (capB B).length = B.length := List.length_map ..
/-- the class of what is raised -/
structure Tm (K : PySem.W.Frag) (mg : Str → Option Value) (T C fI : Addr) : Prop where
  E : EC K C T "word" fI
  mks : Makes K C "word"
  g : mg "TooMany" = some (.ref C)
/-- what is told of such a book, or raised -/
structure Told (K : PySem.W.Frag) (C : Addr) (B : Poly) (H : Hp) (Q : VK) (E : XK) : Prop where
  terms : 400 < B.length → ∀ d H', Same H H' → H' d = some (.xd [("word", .str "terms")]) → E (.ref C) (some d) H'
  figs : B.length ≤ 400 → Big B → ∀ d H', Same H H' → H' d = some (.xd [("word", .str "figures")]) → E (.ref C) (some d) H'
  poly : B.length ≤ 400 → ¬ Big B → ∀ v H', Same H H' → Dp K H' v (bD (srt B)) → Q v H'
def spPut2 (K : PySem.W.Frag) (P : Program) (w : World) : Sp := fun vs H Q _ => ∃ (d a : Addr) (es : List Ent) (m : Mono) (c : Int), vs = [.ref d, .ref a, .int c] ∧ NdAt K P w H d es ∧ Dp K H (.ref a) (mD m) ∧ es.length ≤ 1000000 ∧
  Q .non (upd H d (ndO P w d (putN es m a (cp ((getN es m).getD 0 + c)))))
def spChk2 (K : PySem.W.Frag) (P : Program) (w : World) (C : Addr) : Sp := fun vs H Q E => ∃ (d : Addr) (es : List Ent), vs = [.ref d] ∧ NdAt K P w H d es ∧
  (400 < es.length → ∀ x H', Same H H' → H' x = some (.xd [("word", .str "terms")]) → E (.ref C) (some x) H') ∧ (es.length ≤ 400 → Q .non H)
section
variable {P : Program} {w : World} {K : PySem.W.Frag} {mg : Str → Option Value} {base : Heap} {T C fI : Addr}
end
end K5


set_option Elab.async false
set_option linter.all false
set_option maxRecDepth 100000
set_option maxHeartbeats 4000000
namespace K5
open PySem L2 Nd Bk Gd PySem.ExE
section
variable {P : Program} {w : World} {K : PySem.W.Frag} {mg : Str → Option Value} {base : Heap} {T C fI : Addr}
/-- the exponents' walk -/
theorem any_big {xs : Mono} : (xs.map fun x => decide (BEY ≤ x.2)).any id = decide (∃ x ∈ xs, BEY ≤ x.2) := by
  induction xs with
  | nil => simp
  | cons x r ih =>
    rw [List.map_cons, List.any_cons, ih]
    by_cases h : BEY ≤ x.2 <;> simp [h]
def spPolyR (K : PySem.W.Frag) (P : Program) (w : World) (C : Addr) : Sp := fun vs H Q E => ∃ (d : Addr) (es : List Ent), vs = [.ref d] ∧ NdAt K P w H d es ∧ es.length ≤ 1000 ∧ (∀ t ∈ bagOf es, t.1.length ≤ 1000) ∧
  (400 < es.length → ∀ x H', Same H H' → H' x = some (.xd [("word", .str "terms")]) → E (.ref C) (some x) H') ∧
  (es.length ≤ 400 → Big (bagOf es) → ∀ x H', But d H H' → H' x = some (.xd [("word", .str "figures")]) → E (.ref C) (some x) H') ∧
  (es.length ≤ 400 → ¬ Big (bagOf es) → ∀ v H', Same H H' → Dp K H' v (bD (srt (bagOf es))) → Q v H')
theorem big_srt {B : Poly} : Big (srt B) ↔ Big B := ⟨fun ⟨t, h1, h2⟩ => ⟨t, List.mem_mergeSort.mp h1, h2⟩, fun ⟨t, h1, h2⟩ => ⟨t, List.mem_mergeSort.mpr h1, h2⟩⟩
def spCkF2 (K : PySem.W.Frag) (C : Addr) : Sp := fun vs H Q E => ∃ (v : V) (B : Poly), vs = [v] ∧ Dp K H v (bD B) ∧ (∀ t ∈ B, t.1.length ≤ 1000) ∧
  (Big B → ∀ x H', Same H H' → H' x = some (.xd [("word", .str "figures")]) → E (.ref C) (some x) H') ∧ (¬ Big B → ∀ H', Same H H' → Q .non H')
end
end K5


set_option Elab.async false
set_option linter.all false
set_option maxRecDepth 100000
set_option maxHeartbeats 4000000
namespace K5
open PySem L2 Nd Bk Gd PySem.ExE
section
variable {κ : Type} [DecidableEq κ] [Ky κ]
theorem len_ge1 (l : Bag κ) (p : κ × Int) : l.length ≤ (add1 l p).length := by
  unfold add1 put
  split
  · rw [List.length_map]; exact Nat.le_refl _
  · rw [List.length_append]; exact Nat.le_add_right _ _
theorem len_geF : ∀ (ts l : Bag κ), l.length ≤ (ts.foldl add1 l).length
  | [], l => Nat.le_refl _
  | p :: ts, l => Nat.le_trans (len_ge1 l p) (len_geF ts (add1 l p))
theorem book_mono (ts us : Bag κ) : (book ts).length ≤ (book (ts ++ us)).length := by
  rw [book_app]
  exact len_geF us (book ts)
end
theorem Told.of {K : PySem.W.Frag} {C : Addr} {B : Poly} {H H1 : Hp} {Q : VK} {E : XK} {d : Addr} {es : List Ent} (t : Told K C B H Q E) (s : Same H H1) (nd : H d = none) (e : bagOf es = capB B) :
    (400 < es.length → ∀ x H', Same H1 H' → H' x = some (.xd [("word", .str "terms")]) → E (.ref C) (some x) H') ∧ (es.length ≤ 400 → Big (bagOf es) → ∀ x H', But d H1 H' → H' x = some (.xd [("word", .str "figures")]) → E (.ref C) (some x) H') ∧
    (es.length ≤ 400 → ¬ Big (bagOf es) → ∀ v H', Same H1 H' → Dp K H' v (bD (srt (bagOf es))) → Q v H') := by
  have el : es.length = B.length := by rw [← bagOf_len, e, cap_len]
  rw [el, e]
  refine ⟨fun h x H' s' hx => t.terms h x H' (s.trans s') hx, fun h b x H' s' hx => t.figs h ((big_cap B).mp b) x H' (sm_but s nd s') hx, fun h b v H' s' hv => ?_⟩
  have nb : ¬ Big B := fun q => b ((big_cap B).mpr q)
  rw [cap_id nb] at hv
  exact t.poly h nb v H' (s.trans s') hv
/-- what is asked of terms -/
structure Tms (p : Poly) : Prop where
  ok : POk p
  len : p.length ≤ 500
  mon : ∀ t ∈ p, t.1.length ≤ 500
  num : ∀ t ∈ p, t.2 < BEY
theorem Tms.szd {p : Poly} (h : Tms p) : Szd p := ⟨Nat.le_trans h.len (by decide), fun t ht => Nat.le_trans (h.mon t ht) (by decide)⟩
def spPlus2 (K : PySem.W.Frag) (C : Addr) : Sp := fun vs H Q E => ∃ (x y : V) (p q : Poly), vs = [x, y] ∧ FD K H x (bD p) ∧ FD K H y (bD q) ∧ Tms p ∧ Tms q ∧ Told K C (book (p ++ q)) H Q E
def spProd2 (K : PySem.W.Frag) (P : Program) (w : World) (C : Addr) : Sp := fun vs H Q E => ∃ (T1 T2 : Addr) (xs ys : List V) (p q : Poly), vs = [.ref T1, .ref T2] ∧ Fz K H T1 xs p ∧ Fz K H T2 ys q ∧ Tms p ∧ Tms q ∧ p.length * q.length ≤ 1000 ∧
  (400 < (book (prods p q)).length → ∀ x H', Same H H' → H' x = some (.xd [("word", .str "terms")]) → E (.ref C) (some x) H') ∧
  ∀ (d : Addr) (es : List Ent) (H' : Hp), H d = none → Same H H' → NdAt K P w H' d es → bagOf es = capB (book (prods p q)) → Q (.ref d) H'
def spTimes2 (K : PySem.W.Frag) (C : Addr) : Sp := fun vs H Q E => ∃ (x y : V) (p q : Poly), vs = [x, y] ∧ FD K H x (bD p) ∧ FD K H y (bD q) ∧ Tms p ∧ Tms q ∧ p.length * q.length ≤ 1000 ∧ Told K C (book (prods p q)) H Q E
section
variable {P : Program} {w : World} {K : PySem.W.Frag} {mg : Str → Option Value} {base : Heap} {T C fI : Addr}
end
end K5


set_option Elab.async false
set_option linter.all false
set_option maxRecDepth 100000
set_option maxHeartbeats 4000000
namespace K5
open PySem L2 Nd Bk Gd PySem.ExE
/-- a def that may raise, called where it doesn't -/
theorem calm0 {P : Program} {w : World} {K : PySem.W.Frag} {mg : Str → Option Value} {base : Heap} {k : Nat} {f : Addr} {fd : FuncData} {ps : List Str} {sp : Sp} (F : FnOk P w K mg base (L2.CX P w) k f fd ps sp) :
    FnOk P w K mg base CX0 k f fd ps (fun vs H Q _ => sp vs H Q fun _ _ _ => False) := by
  refine ⟨fun vs H Q E h => F.len _ _ _ _ h, fun A outer s H args us vs Q E room e0 bind rel h => ?_⟩
  refine codeAny_mono (F.run A outer s H args us vs Q _ room e0 bind rel h) ?_
  intro r s' q
  cases r with
  | error e =>
    obtain ⟨_, _, _, _, _, _, _, _, _, _, _, _, _, _, _, _, z⟩ := q
  | ok fl =>
    cases fl with
    | ret u => exact q
    | next => exact q.elim
    | brk => exact q.elim
    | cont => exact q.elim
/-- the polynomial of one token -/
def tokP (t : Str) : Poly := [([(t, 1)], 1)]
theorem asc_one {κ : Type} [DecidableEq κ] [Ky κ] (x : κ × Int) : Asc [x] := List.pairwise_singleton _ _
theorem pos_one {κ : Type} {x : κ × Int} (h : 0 < x.2) : Pos [x] := fun y hy => by rw [List.mem_singleton.mp hy]; exact h
theorem tokP_ok (t : Str) : POk (tokP t) := ⟨asc_one _, pos_one (by show (0 : Int) < 1; decide), fun x h => by rw [List.mem_singleton.mp h]; exact ⟨asc_one _, pos_one (by show (0 : Int) < 1; decide)⟩⟩
theorem one_ok {m : Mono} (hm : MOk m) {c : Int} (hc : 0 < c) : POk [(m, c)] := ⟨asc_one _, pos_one hc, fun x h => by rw [List.mem_singleton.mp h]; exact hm⟩
theorem times_single (a b : Mono) (c d : Int) (h : 0 < c * d) : timesP [(a, c)] [(b, d)] = [(mulM a b, c * d)] := nf_id (asc_one _) (pos_one h)
theorem plus_single {m : Mono} {c d : Int} (hc : 0 < c) (hd : 0 < d) : plusP [(m, c)] [(m, d)] = [(m, c + d)] := by
  refine one_form (nf_asc _) (asc_one _) (nf_pos (pos_append (pos_one hc) (pos_one hd))) (pos_one (by show 0 < c + d; omega)) fun f => ?_
  unfold plusP
  rw [nf_pr, pr_append, pr_cons, pr_cons, pr_cons, pr_nil]
  simp only [Int.add_mul]
  omega
section
variable {κ : Type} [DecidableEq κ] [Ky κ]
theorem pr_rep (k : Nat) (x : κ) (f : κ → Int) : pr (List.replicate k (x, (1 : Int))) f = k * f x := by
  induction k with
  | zero => simp [pr]
  | succ k ih =>
    rw [List.replicate_succ, pr_cons, ih]
    simp only [Int.natCast_add, Int.add_mul]
    omega
theorem pos_rep (k : Nat) (x : κ) : Pos (List.replicate k (x, (1 : Int))) := fun y hy => by rw [(List.mem_replicate.mp hy).2]; show (0 : Int) < 1; decide
/-- a bag's beginning and so many of the next key -/
def upTo (m : Bag κ) (i k : Nat) (x : κ) : Bag κ := nf (m.take i ++ List.replicate k (x, 1))
theorem pos_upTo {m : Bag κ} (h : Pos m) (i k : Nat) (x : κ) : Pos (m.take i ++ List.replicate k (x, (1 : Int))) := pos_append (fun p hp => h p (List.mem_of_mem_take hp)) (pos_rep k x)
theorem upTo_zero {m : Bag κ} (ha : Asc m) (h : Pos m) (i : Nat) (x : κ) : upTo m i 0 x = m.take i := by
  unfold upTo
  rw [List.replicate_zero, List.append_nil]
  exact nf_id (List.Pairwise.sublist (List.take_sublist _ _) ha) fun p hp => h p (List.mem_of_mem_take hp)
theorem upTo_succ {m : Bag κ} (h : Pos m) (i k : Nat) (x : κ) : nf (upTo m i k x ++ [(x, 1)]) = upTo m i (k + 1) x := by
  refine nf_eq (pos_append (nf_pos (pos_upTo h i k x)) (pos_one (by show (0 : Int) < 1; decide))) (pos_upTo h i (k + 1) x) fun f => ?_
  unfold upTo
  rw [pr_append, nf_pr, pr_append, pr_append, pr_rep, pr_rep, pr_cons, pr_nil]
  simp only [Int.natCast_add, Int.add_mul]
  omega
theorem upTo_full {m : Bag κ} (ha : Asc m) (h : Pos m) {i : Nat} {x : κ × Int} (e : m[i]? = some x) : upTo m i x.2.toNat x.1 = m.take (i + 1) := by
  have hx := h x (List.mem_of_getElem? e)
  have hp : Pos (m.take (i + 1)) := fun p hp => h p (List.mem_of_mem_take hp)
  have ha' : Asc (m.take (i + 1)) := List.Pairwise.sublist (List.take_sublist _ _) ha
  refine one_form (nf_asc _) ha' (nf_pos (pos_upTo h _ _ _)) hp fun f => ?_
  unfold upTo
  rw [nf_pr, pr_append, pr_rep, List.take_succ, e, pr_append]
  have e2 : ((x.2.toNat : Nat) : Int) = x.2 := Int.toNat_of_nonneg (by omega)
  rw [e2]
  show _ = pr (m.take i) f + pr [x] f
  rw [pr_cons, pr_nil, Int.add_zero]
end
theorem plus_next {p : Poly} (h : POk p) {i : Nat} {t : Mono × Int} (e : p[i]? = some t) : plusP (p.take i) [t] = p.take (i + 1) := by
  have hp : Pos (p.take (i + 1)) := fun x hx => h.2.1 x (List.mem_of_mem_take hx)
  have ha' : Asc (p.take (i + 1)) := List.Pairwise.sublist (List.take_sublist _ _) h.1
  have e1 : p.take i ++ [t] = p.take (i + 1) := by rw [List.take_succ, e]; rfl
  unfold plusP
  rw [e1]
  exact nf_id ha' hp
end K5


set_option Elab.async false
set_option linter.all false
set_option maxRecDepth 100000
set_option maxHeartbeats 4000000
namespace K5
open PySem L2 Nd Bk Gd PySem.ExE
/-- plus, times of forms, where nothing goes beyond -/
def spPlusF (K : PySem.W.Frag) : Sp := fun vs H Q _ => ∃ (x y : V) (p q : Poly), vs = [x, y] ∧ FD K H x (bD p) ∧ FD K H y (bD q) ∧ Tms p ∧ Tms q ∧ p.length + q.length ≤ 400 ∧ ¬ Big (book (p ++ q)) ∧ ∀ (v : V) (H' : Hp), Same H H' → Dp K H' v (bD (plusP p q)) → Q v H'
def spTimesF (K : PySem.W.Frag) : Sp := fun vs H Q _ => ∃ (x y : V) (p q : Poly), vs = [x, y] ∧ FD K H x (bD p) ∧ FD K H y (bD q) ∧ Tms p ∧ Tms q ∧ p.length * q.length ≤ 400 ∧ ¬ Big (book (prods p q)) ∧ ∀ (v : V) (H' : Hp), Same H H' → Dp K H' v (bD (timesP p q)) → Q v H'
theorem not_big {ts : Poly} (hp : Pos ts) (hs : S ts < BEY) (hm : ∀ t ∈ ts, Pos t.1 ∧ S t.1 < BEY) : ¬ Big (book ts) := fun ⟨t, ht, h⟩ => by
  have h1 := le_S (pos_book hp) ht
  rw [S_book] at h1
  obtain ⟨h2, h3⟩ := book_keys (Pk := fun m => Pos m ∧ S m < BEY) hm t ht
  rcases h with h | ⟨x, hx, h⟩
  · omega
  · have := le_S h2 hx
    omega
/-- so many terms, numbers and exponents that stay below -/
structure PZ (p : Poly) (l : Nat) (s d : Int) : Prop where
  ok : POk p
  len : p.length ≤ l
  sz : S p ≤ s
  dg : Dg p d
theorem PZ.tms {p : Poly} {l : Nat} {s d : Int} (z : PZ p l s d) (h1 : l ≤ 500) (h2 : s < BEY) (h3 : d ≤ 500) : Tms p := ⟨z.ok, Nat.le_trans z.len h1, fun t ht => by
    have := len_le_S (z.ok.2.2 t ht).2
    have := z.dg t ht
    omega, fun t ht => by
    have := le_S z.ok.2.1 ht
    have := z.sz
    omega⟩
theorem PZ.sz0 {p : Poly} {l : Nat} {s d : Int} (h : PZ p l s d) : 0 ≤ S p := S_nonneg h.ok.2.1
section
variable {K : PySem.W.Frag} {H : Hp} {x y : V} {p q : Poly} {l l' : Nat} {s s' d d' : Int} {Q : VK}
theorem go_plusF (hx : FD K H x (bD p)) (hy : FD K H y (bD q)) (zp : PZ p l s d) (zq : PZ q l' s' d') (h1 : l + l' ≤ 400) (h2 : s + s' < BEY) (h3 : d ≤ 500) (h4 : d' ≤ 500) (h5 : 0 ≤ s) (h6 : 0 ≤ s')
    (k : ∀ (v : V) (H' : Hp), Same H H' → Dp K H' v (bD (plusP p q)) → Q v H') : spPlusF K [x, y] H Q E0 := by
  have a1 := zp.len
  have a2 := zq.len
  have a3 := zp.sz
  have a4 := zq.sz
  have b0 : (500 : Int) < BEY := by decide +kernel
  refine ⟨x, y, p, q, rfl, hx, hy, zp.tms (by omega) (by omega) h3, zq.tms (by omega) (by omega) h4, by omega, ?_, k⟩
  refine not_big (pos_append zp.ok.2.1 zq.ok.2.1) (by rw [S_append]; omega) fun t ht => ?_
  rcases List.mem_append.mp ht with h | h
  · have := zp.dg t h
    exact ⟨(zp.ok.2.2 t h).2, by omega⟩
  · have := zq.dg t h
    exact ⟨(zq.ok.2.2 t h).2, by omega⟩
theorem go_timesF (hx : FD K H x (bD p)) (hy : FD K H y (bD q)) (zp : PZ p l s d) (zq : PZ q l' s' d') (h1 : l * l' ≤ 400) (h2 : s * s' < BEY) (h3 : d ≤ 250) (h4 : d' ≤ 250) (h5 : l ≤ 500) (h6 : l' ≤ 500) (h7 : s < BEY) (h8 : s' < BEY)
    (k : ∀ (v : V) (H' : Hp), Same H H' → Dp K H' v (bD (timesP p q)) → Q v H') : spTimesF K [x, y] H Q E0 := by
  have a1 := zp.len
  have a2 := zq.len
  have a3 : S p * S q ≤ s * s' := Int.mul_le_mul zp.sz zq.sz zq.sz0 (Int.le_trans zp.sz0 zp.sz)
  have b0 : (500 : Int) < BEY := by decide +kernel
  refine ⟨x, y, p, q, rfl, hx, hy, zp.tms h5 h7 (by omega), zq.tms h6 h8 (by omega), Nat.le_trans (Nat.mul_le_mul a1 a2) h1, ?_, k⟩
  refine not_big (pos_of_prods zp.ok zq.ok) (by rw [S_prods]; omega) fun t ht => ?_
  obtain ⟨a, ha, b, hb, rfl⟩ := mem_prods ht
  have e1 := zp.dg a ha
  have e2 := zq.dg b hb
  refine ⟨(mulM_ok (zp.ok.2.2 a ha) (zq.ok.2.2 b hb)).2, ?_⟩
  show S (mulM a.1 b.1) < BEY
  rw [S_mulM]
  omega
end
section
variable {P : Program} {w : World} {K : PySem.W.Frag} {mg : Str → Option Value} {base : Heap} {C : Addr}
theorem plusF_of {k : Nat} {f : Addr} {fd : FuncData} (F : FnOk P w K mg base (L2.CX P w) k f fd ["p", "q"] (spPlus2 K C)) : FnOk P w K mg base CX0 k f fd ["p", "q"] (spPlusF K) := by
  refine (calm0 F).imp ?_
  rintro vs H Q E ⟨x, y, p, q, rfl, hx, hy, zp, zq, hl, nb, k⟩
  have lb : (book (p ++ q)).length ≤ 400 := Nat.le_trans (len_book _) (by rw [List.length_append]; exact hl)
  exact ⟨x, y, p, q, rfl, hx, hy, zp, zq, ⟨fun h => by omega, fun _ h => absurd h nb, fun _ _ v H' s' hv => k v H' s' hv⟩⟩
theorem timesF_of {k : Nat} {f : Addr} {fd : FuncData} (F : FnOk P w K mg base (L2.CX P w) k f fd ["p", "q"] (spTimes2 K C)) : FnOk P w K mg base CX0 k f fd ["p", "q"] (spTimesF K) := by
  refine (calm0 F).imp ?_
  rintro vs H Q E ⟨x, y, p, q, rfl, hx, hy, zp, zq, hl, nb, k⟩
  have lb : (book (prods p q)).length ≤ 400 := Nat.le_trans (len_book _) (by rw [len_prods]; exact hl)
  exact ⟨x, y, p, q, rfl, hx, hy, zp, zq, by omega, ⟨fun h => by omega, fun _ h => absurd h nb, fun _ _ v H' s' hv => k v H' s' hv⟩⟩
def spOfTok (K : PySem.W.Frag) : Sp := fun vs H Q _ => ∃ t : Str, vs = [.str t] ∧ ∀ (v : V) (H' : Hp), Same H H' → Dp K H' v (bD (tokP t)) → Q v H'
end
end K5


set_option Elab.async false
set_option linter.all false
set_option maxRecDepth 100000
set_option maxHeartbeats 4000000
namespace K5
open PySem L2 Nd Bk Gd PySem.ExE
theorem ak_int {K : PySem.W.Frag} {H : Hp} {n : Nat} {x y : V} {i : Int} (hx : Dp K H x (.int i)) (hy : Dp K H y (.int i)) : Alike K H n x y := by
  cases dp_int hx
  cases dp_int hy
  cases n with
  | zero => exact ⟨rfl, trivial⟩
  | succ n => exact .inl ⟨rfl, trivial⟩
theorem ak_str {K : PySem.W.Frag} {H : Hp} {n : Nat} {x y : V} {i : Str} (hx : Dp K H x (.str i)) (hy : Dp K H y (.str i)) : Alike K H n x y := by
  cases dp_str hx
  cases dp_str hy
  cases n with
  | zero => exact ⟨rfl, trivial⟩
  | succ n => exact .inl ⟨rfl, trivial⟩
theorem ak_sc {K : PySem.W.Frag} {H : Hp} {n : Nat} {x y : V} {d : PyData} (s : Sc d) (hx : Dp K H x d) (hy : Dp K H y d) : Alike K H n x y := by
  cases s with
  | int i => exact ak_int hx hy
  | non =>
    cases hx
    cases hy
    cases n with
    | zero => exact ⟨rfl, trivial⟩
    | succ n => exact .inl ⟨rfl, trivial⟩
  | bl b =>
    cases hx
    cases hy
    cases n with
    | zero => exact ⟨rfl, trivial⟩
    | succ n => exact .inl ⟨rfl, trivial⟩
/-- the same data of tuples, so deep -/
theorem ak_dp {K : PySem.W.Frag} {H : Hp} : ∀ {n : Nat} {d : PyData} {x y : V}, Okd n d → Dp K H x d → Dp K H y d → Alike K H n x y
  | 0, d, x, y, h, hx, hy => by
    rcases h with h | ⟨z, rfl⟩
    · exact ak_sc h hx hy
    · exact ak_str hx hy
  | n + 1, d, x, y, h, hx, hy => by
    rcases h with h | ⟨z, rfl⟩ | ⟨ds, rfl, hl, hds⟩
    · exact ak_sc h hx hy
    · exact ak_str hx hy
    · obtain ⟨a, xs, rfl, h1, h2⟩ := dp_tup hx
      obtain ⟨b, ys, rfl, h3, h4⟩ := dp_tup hy
      refine .inr ⟨a, b, xs, ys, rfl, rfl, .inl ⟨h1, h3⟩, by rw [dpAll_len h2, dpAll_len h4], by rw [dpAll_len h4]; omega, fun i u v e1 e2 => ?_⟩
      obtain ⟨d1, q1, r1⟩ := dpAll_get h2 e1
      obtain ⟨d2, q2, r2⟩ := dpAll_get h4 e2
      rw [q1] at q2
      cases q2
      exact ak_dp (hds d1 (List.mem_of_getElem? q1)) r1 r2
theorem okd_more : ∀ {n : Nat} {d : PyData}, Okd n d → Okd (n + 1) d
  | 0, d, h => h.elim .inl fun z => .inr (.inl z)
  | n + 1, d, h => by
    rcases h with h | h | ⟨ds, rfl, hl, hds⟩
    · exact .inl h
    · exact .inr (.inl h)
    · exact .inr (.inr ⟨ds, rfl, hl, fun e he => okd_more (hds e he)⟩)
theorem okd_mono {m : Mono} (h : m.length ≤ 1000) : Okd 2 (bD m) := .inr (.inr ⟨_, rfl, by rw [List.length_map]; exact h, fun e he => by
  obtain ⟨p, _, rfl⟩ := List.mem_map.mp he
  refine .inr (.inr ⟨_, rfl, by show 2 ≤ 1000; decide, fun e he => ?_⟩)
  simp only [List.mem_cons, List.not_mem_nil, or_false] at he
  rcases he with rfl | rfl
  · exact .inr ⟨_, rfl⟩
  · exact .inl (.int _)⟩)
theorem okd_poly {p : Poly} (h : Szd p) : Okd 4 (bD p) := .inr (.inr ⟨_, rfl, by rw [List.length_map]; exact h.1, fun e he => by
  obtain ⟨t, ht, rfl⟩ := List.mem_map.mp he
  refine .inr (.inr ⟨_, rfl, by show 2 ≤ 1000; decide, fun e he => ?_⟩)
  simp only [List.mem_cons, List.not_mem_nil, or_false] at he
  rcases he with rfl | rfl
  · exact okd_mono (h.2 t ht)
  · exact .inl (.int _)⟩)
theorem S_le5 {l : Poly} (hl : l.length ≤ 5) (h : ∀ t ∈ l, t.2 ≤ 5) : S l ≤ 25 := by
  have key : ∀ (l : Poly) (n : Nat), l.length ≤ n → (∀ t ∈ l, t.2 ≤ 5) → S l ≤ 5 * n := by
    intro l
    induction l with
    | nil =>
      intro n _ _
      show (0 : Int) ≤ 5 * n
      omega
    | cons x r ih =>
      intro n hl h
      have h1 := h x List.mem_cons_self
      rw [List.length_cons] at hl
      have h2 := ih (n - 1) (by omega) fun t ht => h t (List.mem_cons_of_mem _ ht)
      have e : S (x :: r) = x.2 * 1 + S r := by unfold S pr; simp
      omega
  exact key l 5 hl h
/-- few terms of small numbers -/
structure PF (p : Poly) : Prop where
  ok : POk p
  len : p.length ≤ 5
  num : ∀ t ∈ p, t.2 ≤ 5
  deg : Dg p 48
def spBuilt (K : PySem.W.Frag) : Sp := fun vs H Q _ => ∃ (b v : V) (p : Poly), vs = [b, v] ∧ Dp K H v (bD p) ∧ PF p ∧ ∀ H', Same H H' → Q (.bl true) H'
/-- so many times the monomial -/
def manyP (m : Mono) (k : Nat) : Poly := if k = 0 then [] else [(m, (k : Int))]
theorem manyP_succ {m : Mono} (hm : MOk m) (k : Nat) : plusP (manyP m k) [(m, 1)] = manyP m (k + 1) := by
  unfold manyP
  by_cases h : k = 0
  · subst h
    rw [if_pos rfl, if_neg (by decide), zero_plus (one_ok hm (by decide))]
    rfl
  · rw [if_neg h, if_neg (by omega), plus_single (by omega) (by decide)]
    rfl
theorem manyP_pz {m : Mono} (hm : MOk m) (hd : S m ≤ 48) {k : Nat} (hk : k ≤ 5) : PZ (manyP m k) 1 5 48 := by
  unfold manyP
  by_cases h : k = 0
  · rw [if_pos h]
    exact ⟨pok_zero, by decide, by decide, fun _ z => nomatch z⟩
  · rw [if_neg h]
    refine ⟨one_ok hm (by omega), Nat.le_refl _, ?_, fun t ht => ?_⟩
    · show S [(m, (k : Int))] ≤ 5
      unfold S
      rw [pr_cons, pr_nil]
      simp only
      omega
    · rw [List.mem_singleton.mp ht]
      exact hd
section
variable {P : Program} {w : World} {K : PySem.W.Frag} {mg : Str → Option Value} {base : Heap}
end
end K5


set_option Elab.async false
set_option linter.all false
set_option maxRecDepth 100000
set_option maxHeartbeats 4000000
namespace K5
open PySem L2 Nd Bk Gd PySem.ExE
def AskIs (B : Poly) (d : PyData) : Prop := (400 < B.length ∧ d = .tuple [.str "many", .str "terms"]) ∨ (B.length ≤ 400 ∧ Big B ∧ d = .tuple [.str "many", .str "figures"]) ∨ (B.length ≤ 400 ∧ ¬ Big B ∧ d = .tuple [.str "told", bD (srt B)])
def spAsk (K : PySem.W.Frag) : Sp := fun vs H Q _ => ∃ (s : Bool) (x y : V) (p q : Poly), vs = [.bl s, x, y] ∧ FD K H x (bD p) ∧ FD K H y (bD q) ∧ Tms p ∧ Tms q ∧ p.length * q.length ≤ 1000 ∧
  ∀ (v : V) (d : PyData) (H' : Hp), AskIs (book (if s = true then p ++ q else prods p q)) d → Same H H' → Dp K H' v d → Q v H'
section
variable {P : Program} {w : World} {K : PySem.W.Frag} {mg : Str → Option Value} {base : Heap} {T C fI : Addr}
theorem xf_of {C f fI} (E : EC K C T f fI) : XfC K C := ⟨E.ga, E.gg, E.exC, E.hd⟩
end
end K5


set_option Elab.async false
set_option linter.all false
set_option maxRecDepth 100000
set_option maxHeartbeats 8000000
namespace K5
open PySem L2 Nd Bk Gd PySem.ExE
/-! a form is as long as what it is a form of -/
mutual
theorem flat_short : ∀ d : PyData, shortD d = shortD (flat d) ∧ cost d = cost (flat d) ∧ d.depth = (flat d).depth
  | .list xs => by
    obtain ⟨h1, h2, h3⟩ := flats_short xs
    simp [flat, shortD, cost, PyData.depth, h1, h2, h3]
  | .tuple xs => by
    obtain ⟨h1, h2, h3⟩ := flats_short xs
    simp [flat, shortD, cost, PyData.depth, h1, h2, h3]
  | .none => by simp [flat]
  | .bool _ => by simp [flat]
  | .int _ => by simp [flat]
  | .str _ => by simp [flat]
  | .dict _ => by simp [flat]
theorem flats_short : ∀ ds : List PyData, shortDs ds = shortDs (flats ds) ∧ costs ds = costs (flats ds) ∧ PyData.depthAll ds = PyData.depthAll (flats ds)
  | [] => by simp [flats]
  | d :: ds => by
    obtain ⟨h1, h2, h3⟩ := flat_short d
    obtain ⟨g1, g2, g3⟩ := flats_short ds
    simp [flats, shortDs, costs, PyData.depthAll, ← h1, ← h2, ← h3, ← g1, ← g2, ← g3]
end
/-- may be shown -/
structure Sho (p : Poly) : Prop where
  sh : shortD (bD p) = true
  co : cost (bD p) ≤ 1000000
  de : (bD p).depth ≤ 20
theorem fp_ref {K : PySem.W.Frag} {H : Hp} {av : List Addr} {v : V} {d : PyData} {l : Poly} (h : Fp K H av v d) (e : flat d = bD l) : ∃ a, v = .ref a := by
  cases h with
  | non => simp [flat, bD] at e
  | bl b => simp [flat, bD] at e
  | int i => simp [flat, bD] at e
  | str x => simp [flat, bD] at e
  | lst h1 h2 h3 => exact ⟨_, rfl⟩
  | tup h1 h2 => exact ⟨_, rfl⟩
theorem Sho.of {p : Poly} (s : Sho p) {d : PyData} (e : flat d = bD p) : shortD d = true ∧ cost d ≤ 1000000 ∧ d.depth ≤ 20 := by
  obtain ⟨h1, h2, h3⟩ := flat_short d
  rw [h1, h2, h3, e]
  exact ⟨s.sh, s.co, s.de⟩
/-- the degree; the tokens, rising -/
def degP (p : Poly) : Int := p.foldl (fun b t => if S t.1 > b then S t.1 else b) 0
def tokK (p : Poly) : List Str := sortK ((p.flatMap fun t => t.1.map (·.1)).foldl (fun acc t => if t ∈ acc then acc else acc ++ [t]) [])
def tkD (p : Poly) : PyData := .tuple ((tokK p).map .str)
def spDeg (K : PySem.W.Frag) : Sp := fun vs H Q _ => ∃ (v : V) (p : Poly), vs = [v] ∧ FD K H v (bD p) ∧ POk p ∧ Szd p ∧ ∀ H', Same H H' → Q (.int (degP p)) H'
def spTks (K : PySem.W.Frag) : Sp := fun vs H Q _ => ∃ (v : V) (p : Poly), vs = [v] ∧ FD K H v (bD p) ∧ POk p ∧ Szd p ∧ (tokK p).length ≤ 1000 ∧ ∀ (v' : V) (H' : Hp), Same H H' → Dp K H' v' (tkD p) → Q v' H'
def spLTks (K : PySem.W.Frag) : Sp := fun vs H Q _ => ∃ (v : V) (p : Poly), vs = [v] ∧ Dp K H v (bD p) ∧ POk p ∧ Szd p ∧ (tokK p).length ≤ 1000 ∧ ∀ (l : Addr) (ys : List V) (H' : Hp), H l = none → Same H H' → H' l = some (.lst ys) → DpAll K H' ys ((tokK p).map .str) → Q (.ref l) H'
def spRight (K : PySem.W.Frag) : Sp := fun vs H Q _ => ∃ (b c : Addr) (ns : List Int) (x y : V) (p q : Poly), vs = [.ref b, x, y] ∧ BoxAt H b c ns ∧ Dp K H x (bD p) ∧ Dp K H y (bD q) ∧ PZ p 8 8000 48 ∧ PZ q 8 8000 48 ∧ Sho p ∧ Sho q ∧ (tokK p).length ≤ 1000 ∧
  ∀ H', BoxAt H' b c ns → But b H H' → Q (.bl true) H'
/-- keywords of two, told the other way round -/
def sw2 {α : Type} (us : List α) (l : List α) : List α := match us, l with
  | [], [a, b] => [b, a]
  | _, _ => []
def kw1 {α : Type} (us : List α) (l : List α) : List α := match us, l with
  | [], [a] => [a]
  | _, _ => []
theorem ak_l {K : PySem.W.Frag} {H : Hp} {A B : Addr} {xs ys : List V} {ds : List PyData} (h1 : H A = some (.lst xs)) (h2 : H B = some (.lst ys)) (b1 : DpAll K H xs ds) (b2 : DpAll K H ys ds) (hl : ds.length ≤ 10) (hz : ∀ d ∈ ds, Okd 4 d) : Alike K H 5 (.ref A) (.ref B) := by
  refine .inr ⟨A, B, xs, ys, rfl, rfl, .inr ⟨SqL.of h1, SqL.of h2⟩, by rw [dpAll_len b1, dpAll_len b2], by rw [dpAll_len b2]; omega, fun i u v e1 e2 => ?_⟩
  obtain ⟨d1, q1, r1⟩ := dpAll_get b1 e1
  obtain ⟨d2, q2, r2⟩ := dpAll_get b2 e2
  rw [q1] at q2
  cases q2
  exact ak_dp (hz d1 (List.mem_of_getElem? q1)) r1 r2
theorem okd_tks {p : Poly} (h : (tokK p).length ≤ 1000) : Okd 4 (tkD p) := okd_more (okd_more (okd_more (.inr (.inr ⟨_, rfl, by rw [List.length_map]; exact h, fun e he => by
  obtain ⟨z, _, rfl⟩ := List.mem_map.mp he
  exact .inr ⟨_, rfl⟩⟩))))
/-- told and due: lists of data of one kind -/
theorem ak_lists {K : PySem.W.Frag} {H : Hp} {A B : Addr} {xs ys : List V} {ds : List PyData} (nA : H A = none) (nB : upd H A (.lst xs) B = none) (a1 : DpAll K H xs ds) (a2 : DpAll K H ys ds) (hl : ds.length ≤ 10) (hz : ∀ d ∈ ds, Okd 4 d) :
    Alike K (upd (upd H A (.lst xs)) B (.lst ys)) 5 (.ref A) (.ref B) ∧ Same H (upd (upd H A (.lst xs)) B (.lst ys)) := by
  have s1 : Same H (upd H A (.lst xs)) := sm_new sm_refl nA
  have s2 : Same (upd H A (.lst xs)) (upd (upd H A (.lst xs)) B (.lst ys)) := sm_new sm_refl nB
  have hA : upd (upd H A (.lst xs)) B (.lst ys) A = some (.lst xs) := s2 _ _ upd_same
  have s := s1.trans s2
  have b1 := dpAll_same s a1
  have b2 := dpAll_same s a2
  refine ⟨.inr ⟨A, B, xs, ys, rfl, rfl, .inr ⟨SqL.of hA, SqL.of upd_same⟩, by rw [dpAll_len b1, dpAll_len b2], by rw [dpAll_len b2]; omega, fun i u v e1 e2 => ?_⟩, s⟩
  obtain ⟨d1, q1, r1⟩ := dpAll_get b1 e1
  obtain ⟨d2, q2, r2⟩ := dpAll_get b2 e2
  rw [q1] at q2
  cases q2
  exact ak_dp (hz d1 (List.mem_of_getElem? q1)) r1 r2
section
variable {P : Program} {w : World} {K : PySem.W.Frag} {mg : Str → Option Value} {base : Heap}
/-- a def as it may be called: by position and by keywords -/
structure Dk (P : Program) (w : World) (K : PySem.W.Frag) (mg : Str → Option Value) (base : Heap) (k : Nat) (x : Str) (ps ks : List Str) (g : List Value → List Value → List Value) (gV : List V → List V → List V) (sp : Sp) : Prop where
  ok : ∃ (f : Addr) (fd : FuncData), mg x = some (.ref f) ∧ PySem.W.keepIn K (.ref f) = true ∧ Binds K fd ps [] ∧ KBinds K fd ps ks g gV ∧ FnOk P w K mg base CX0 k f fd ps sp
end
end K5


set_option Elab.async false
set_option linter.all false
set_option maxRecDepth 100000
set_option maxHeartbeats 4000000
namespace K5
open PySem L2 Nd Bk Gd PySem.ExE
theorem S_sum (m : Mono) : S m = (m.map (·.2)).sum := by
  induction m with
  | nil => rfl
  | cons x r ih =>
    have e : S (x :: r) = x.2 * 1 + S r := by unfold S pr; simp
    rw [e, ih, List.map_cons, List.sum_cons]
    omega
theorem fd_ix {K : PySem.W.Frag} {H : Hp} {U : Addr} {k : V} {c : Int} (h : SqL K H U [k, .int c] ∨ SqT K H U [k, .int c]) (Q : VK) : (Q (.int c) H → rIx K (.ref U) (.int 1) H Q) ∧ (Q k H → rIx K (.ref U) (.int 0) H Q) := by
  rcases h with h | h
  · exact ⟨fun q => .inl ⟨U, _, _, _, rfl, rfl, h, rfl, q⟩, fun q => .inl ⟨U, _, _, _, rfl, rfl, h, rfl, q⟩⟩
  · exact ⟨fun q => .inr (.inl ⟨U, _, _, _, rfl, rfl, h, rfl, q⟩), fun q => .inr (.inl ⟨U, _, _, _, rfl, rfl, h, rfl, q⟩)⟩
theorem degP_take {p : Poly} {i : Nat} {t : Mono × Int} (h : p[i]? = some t) : degP (p.take (i + 1)) = if S t.1 > degP (p.take i) then S t.1 else degP (p.take i) := by
  unfold degP
  rw [List.take_succ, h]
  simp
section
variable {P : Program} {w : World} {K : PySem.W.Frag} {mg : Str → Option Value} {base : Heap}
end
/-! the tokens, each once -/
def dd (acc : List Str) (t : Str) : List Str := if t ∈ acc then acc else acc ++ [t]
def seen (p : Poly) : List Str := (p.flatMap fun t => t.1.map (·.1)).foldl dd []
theorem tokK_seen (p : Poly) : tokK p = sortK (seen p) := rfl
theorem dd_nodup : ∀ (l acc : List Str), acc.Nodup → (l.foldl dd acc).Nodup
  | [], _, h => h
  | t :: l, acc, h => by
    refine dd_nodup l (dd acc t) ?_
    unfold dd
    split
    · exact h
    · rename_i q
      rw [List.nodup_append]
      refine ⟨h, by simp, fun a ha b hb e => ?_⟩
      rw [List.mem_singleton] at hb
      exact q (by rw [← hb, ← e]; exact ha)
theorem dd_filter : ∀ (l acc : List Str), l.Nodup → l.foldl dd acc = acc ++ l.filter fun t => decide (t ∉ acc)
  | [], acc, _ => by simp
  | t :: l, acc, h => by
    obtain ⟨h1, h2⟩ := List.nodup_cons.mp h
    rw [List.foldl_cons, dd_filter l (dd acc t) h2]
    unfold dd
    by_cases q : t ∈ acc
    · rw [if_pos q, List.filter_cons, if_neg (by simp [q])]
    · rw [if_neg q, List.filter_cons, if_pos (by simp [q]), List.append_assoc, List.singleton_append]
      congr 2
      refine List.filter_congr fun x hx => ?_
      have : x ≠ t := fun e => h1 (by rw [← e]; exact hx)
      simp [this]
theorem seen_take {p : Poly} (h : POk p) {i : Nat} {t : Mono × Int} (e : p[i]? = some t) : seen (p.take (i + 1)) = seen (p.take i) ++ (t.1.map (·.1)).filter fun x => decide (x ∉ seen (p.take i)) := by
  unfold seen
  rw [List.take_succ, e, List.flatMap_append, List.foldl_append]
  have : (some t).toList.flatMap (fun t : Mono × Int => t.1.map (·.1)) = t.1.map (·.1) := by simp
  rw [this]
  exact dd_filter _ _ (asc_nodup (h.2.2 t (List.mem_of_getElem? e)).1)
theorem seen_nodup (p : Poly) : (seen p).Nodup := dd_nodup _ [] List.nodup_nil
theorem strs_dp {K : PySem.W.Frag} {H : Hp} : ∀ l : List Str, DpAll K H (l.map V.str) (l.map Ky.enc)
  | [] => .nil
  | x :: l => .cons (.str x) (strs_dp l)
theorem inV_strs (x : Str) (l : List Str) : (!inV (V.str x) (l.map V.str)) = decide (x ∉ l) := by
  have h : inV (V.str x) (l.map V.str) = decide (x ∈ l) := by
    unfold inV
    induction l with
    | nil => simp
    | cons y r ih =>
      rw [List.map_cons, List.any_cons, ih]
      have e : eqV (V.str y) (V.str x) = decide (y = x) := by
        show (y == x) = _
        by_cases q : y = x
        · rw [q, decide_eq_true rfl]
          exact beq_self_eq_true x
        · rw [decide_eq_false q]
          exact beq_eq_false_iff_ne.mpr q
      rw [e]
      by_cases q : y = x
      · simp [q]
      · have q' : x ≠ y := fun z => q z.symm
        simp [q, q']
  rw [h]
  by_cases q : x ∈ l <;> simp [q]
theorem flat_strs' (l : List Str) : (l.map V.str).all flatV = true := by
  rw [List.all_eq_true]
  intro v hv
  obtain ⟨x, _, rfl⟩ := List.mem_map.mp hv
  rfl
section
variable {P : Program} {w : World} {K : PySem.W.Frag} {mg : Str → Option Value} {base : Heap}
theorem scLTks : FnScope ["p", "found", "monomial", "coefficient", "pair"] ["p"] (defScope sLTokens) := ⟨rfl, rfl, rfl, by decide +kernel, rfl, by decide +kernel, by decide +kernel⟩
theorem dd_grow : ∀ (l acc : List Str), acc.length ≤ (l.foldl dd acc).length
  | [], _ => Nat.le_refl _
  | t :: l, acc => by
    refine Nat.le_trans ?_ (dd_grow l (dd acc t))
    unfold dd
    split
    · exact Nat.le_refl _
    · rw [List.length_append]
      omega
theorem seen_le (p : Poly) (i : Nat) : (seen (p.take i)).length ≤ (tokK p).length := by
  rw [tokK_seen, sortK_len (seen_nodup p)]
  have e : seen p = ((p.drop i).flatMap fun t => t.1.map (·.1)).foldl dd (seen (p.take i)) := by
    unfold seen
    rw [← List.foldl_append, ← List.flatMap_append, List.take_append_drop]
  rw [e]
  exact dd_grow _ _
theorem ok_ltks {f : Addr} {fd : FuncData} (F : Fun K "_law_tokens" "_law_tokens" sLTokens f fd) (Gs : Df P w K mg base 1 "_law_sorted" ["row"] (spSort K Str)) : FnOk P w K mg base CX0 2 f fd ["p"] (spLTks K) := by
  obtain ⟨fs, fds, gS, kS, bS, GS⟩ := Gs.ok
  refine F.ok scLTks (fun vs H Q E h => ?_) (fun cdv A outer s H vs Q E hr h => ?_)
  · obtain ⟨v, p, rfl, _⟩ := h
    rfl
  · obtain ⟨v, p, rfl, hd, okp, hz, hsn, k⟩ := h
    have hseen : ∀ i, (seen (p.take i)).length ≤ 1000 := fun i => Nat.le_trans (seen_le p i) hsn
    have hr1 : Room 1 _ := hr
    refine ⟨_, pss_cons (ps_set (i := 1) scLTks.nd rfl (Or.inr rfl) (pe_lst pa_nil))
      (pss_cons (ps_for PassesOwn.never rfl (pi_tup (pv 0)) (pg_tup rfl (pgs_cons (pg_name (i := 2) scLTks.nd rfl (Or.inl rfl)) (pgs_cons (pg_name (i := 3) scLTks.nd rfl (Or.inl rfl)) pgs_nil)))
        (pss_one (ps_set (i := 1) scLTks.nd rfl (Or.inr rfl) (pe_op op_cat (pv 1)
          (pe_lc (own := [("pair", 4)]) (g := gName 4) (tt := tTest (tOp (rIn K true) (tOp (rIx K) (tVar 4) (tC (.int 0))) (tVar 1))) rfl scLTks.nd (pi_tup (pv 2)) (blkOk_by (N := ["p", "found", "monomial", "coefficient", "pair"]) (sc := defScope sLTokens) (by decide +kernel))
            (fun _ _ _ _ _ => pg_name (i := 4) scLTks.nd rfl (Or.inl rfl)) (fun _ _ _ _ _ => pts_one (pt_cmpR (show OpR _ _ (rIn K true) from op_notIn_seq) (show PE _ _ (tOp (rIx K) (tVar 4) (tC (.int 0))) from pe_ix ix_seq (pv 4) pe_int (fun _ _ => rfl)) (pv 1) (by rfl)))
            (fun _ _ _ _ _ => pe_ix (show IxR _ (rIx K) from ix_seq) (pv 4) pe_int (fun _ _ => rfl)))))))
      (pss_one (ps_ret (pe_call GS hr1 rfl gS kS bS .nil pass0 (pa_cons (pv 1) pa_nil))))), ?_⟩
    obtain ⟨a, xs, rfl, hs, hl, hall⟩ := dp_bag hd
    refine ⟨(by show 0 ≤ sizeLine; decide), fun l nl => ?_⟩
    have s0 : Same H (upd H l (.lst [])) := sm_new sm_refl nl
    have h0 : upd H l (.lst []) l = some (.lst []) := upd_same
    generalize upd H l (.lst []) = H0 at s0 h0 ⊢
    refine ⟨_, rfl, a, rfl, ⟨_, sqT_same s0 hs⟩, ?_⟩
    refine for_tup (K := K) (a := a) (xs := xs) (fun i σ H2 => (∃ f u1 u2, σ = [some (.ref a), some (.ref f), u1, u2, none] ∧ H2 f = some (.lst ((seen (p.take i)).map V.str))) ∧ Same H0 H2) ⟨⟨l, _, _, rfl, h0⟩, sm_refl⟩ (fun i σ H2 _ ⟨_, s2⟩ => sqT_same (s0.trans s2) hs) ?_ ?_
    · rintro i x σ H2 hi ⟨⟨fo, u1, u2, rfl, hfo⟩, s2⟩
      obtain ⟨t, ht, hxt⟩ := bag_get hall hi
      obtain ⟨T, kk, rfl, hT, hk⟩ := dp_pair (dp_same (s0.trans s2) hxt)
      obtain ⟨b, zs, rfl, hb, hbl, hball⟩ := dp_bag (κ := Str) hk
      have tl := hz.2 t (List.mem_of_getElem? ht)
      refine ⟨T, _, rfl, hT, rfl, _, _, rfl, _, _, rfl, rfl, ?_⟩
      refine ⟨_, rfl, _, rfl, b, rfl, ⟨_, hb⟩, fun D nD => ?_⟩
      refine lc_tup (K := K) (a := b) (xs := zs) (fun j H3 => Same H2 H3 ∧ H3 D = some (.lst ((((t.1.take j).map (·.1)).filter fun x => decide (x ∉ seen (p.take i))).map V.str))) ⟨sm_new sm_refl nD, upd_same⟩ (fun j H3 _ ⟨s3, _⟩ => sqT_same s3 hb) ?_ ?_
      · rintro j y H3 hj ⟨s3, hD⟩
        obtain ⟨q, hq, hyq⟩ := bag_get hball hj
        obtain ⟨U, kk2, rfl, hU, hkk⟩ := dp_pair (dp_same s3 hyq)
        cases dp_str (i := q.1) hkk
        have ix := (fd_ix (K := K) (H := H3) (.inr hU))
        have hbx : ((((t.1.take j).map (·.1)).filter fun x => decide (x ∉ seen (p.take i))).map V.str).length ≤ 1000 := by
          rw [List.length_map]
          refine Nat.le_trans (List.length_filter_le _ _) ?_
          rw [List.length_map, List.length_take]
          omega
        refine ⟨rfl, _, rfl, (ix _).2 ⟨_, rfl, fo, _, rfl, .inl (SqL.of (s3 _ _ hfo)), rfl, flat_strs' _, _, rfl, ?_⟩⟩
        have stp : ((t.1.take (j + 1)).map (·.1)).filter (fun x => decide (x ∉ seen (p.take i))) = ((t.1.take j).map (·.1)).filter (fun x => decide (x ∉ seen (p.take i))) ++ if q.1 ∈ seen (p.take i) then [] else [q.1] := by
          rw [List.take_succ, hq, List.map_append, List.filter_append]
          congr 1
          show List.filter _ [q.1] = _
          by_cases z : q.1 ∈ seen (p.take i) <;> simp [z]
        have nin : (!inV (V.str q.1) ((seen (p.take i)).map V.str)) = decide (q.1 ∉ seen (p.take i)) := inV_strs _ _
        show if (!inV (V.str q.1) ((seen (p.take i)).map V.str)) = true then _ else _
        rw [nin]
        by_cases z : q.1 ∈ seen (p.take i)
        · rw [decide_eq_false (by simpa using z)]
          rw [if_pos z, List.append_nil] at stp
          exact iteF ⟨s3, by rw [stp]; exact hD⟩
        · rw [decide_eq_true z]
          rw [if_neg z] at stp
          refine iteT ⟨_, rfl, (ix _).2 ⟨_, hD, small1000 hbx, sm_new s3 nD, ?_⟩⟩
          rw [upd_same, stp, List.map_append]
          rfl
      · rintro H3 ⟨s3, hD⟩
        rw [hbl, List.take_length] at hD
        refine ⟨fo, D, _, _, rfl, rfl, s3 _ _ hfo, hD, ?_, fun p' np => ⟨⟨p', _, _, rfl, ?_⟩, (s2.trans s3).trans (sm_new sm_refl np)⟩⟩
        · rw [← List.length_append, ← List.map_append, ← seen_take okp ht, List.length_map, sizeLine_eq]
          have := hseen (i + 1)
          omega
        · rw [upd_same, seen_take okp ht, List.map_append]
    · rintro σ H2 ⟨⟨fo, u1, u2, rfl, hfo⟩, s2⟩
      rw [hl, List.take_length] at hfo
      have hlen := hseen p.length
      rw [List.take_length] at hlen
      refine ⟨_, rfl, fo, _, seen p, rfl, SqL.of hfo, strs_dp _, seen_nodup p, hlen, fun l' ys H3 nl' s3 hys hd3 => k l' ys H3 ((s0.trans s2).free nl') ((s0.trans s2).trans s3) hys hd3⟩
end
end K5


set_option Elab.async false
set_option linter.all false
set_option maxRecDepth 100000
set_option maxHeartbeats 4000000
namespace K5
open PySem L2 Nd Bk Gd PySem.ExE
theorem S_nn {m : Mono} (h : ∀ x ∈ m, (0 : Int) ≤ x.2) : 0 ≤ S m := by
  rw [S_sum]
  induction m with
  | nil => exact Int.le_refl 0
  | cons x r ih =>
    rw [List.map_cons, List.sum_cons]
    have h1 := h x (List.mem_cons_self ..)
    have h2 := ih fun y hy => h y (List.mem_cons_of_mem _ hy)
    omega
theorem degP_max : ∀ (p : Poly) (b : Int), (∀ t ∈ p, S t.1 ≤ p.foldl (fun b t => if S t.1 > b then S t.1 else b) b) ∧ b ≤ p.foldl (fun b t => if S t.1 > b then S t.1 else b) b ∧ (p.foldl (fun b t => if S t.1 > b then S t.1 else b) b = b ∨ ∃ t ∈ p, S t.1 = p.foldl (fun b t => if S t.1 > b then S t.1 else b) b)
  | [], b => ⟨fun _ h => by simp at h, Int.le_refl _, .inl rfl⟩
  | t :: r, b => by
    rw [List.foldl_cons]
    obtain ⟨h1, h2, h3⟩ := degP_max r (if S t.1 > b then S t.1 else b)
    have g : S t.1 ≤ (if S t.1 > b then S t.1 else b) ∧ b ≤ (if S t.1 > b then S t.1 else b) := by split <;> omega
    refine ⟨fun u hu => ?_, Int.le_trans g.2 h2, ?_⟩
    · rcases List.mem_cons.mp hu with rfl | hu
      · exact Int.le_trans g.1 h2
      · exact h1 u hu
    · rcases h3 with h3 | ⟨u, hu, e⟩
      · rw [h3]
        by_cases q : S t.1 > b
        · rw [if_pos q]
          exact .inr ⟨t, List.mem_cons_self .., rfl⟩
        · rw [if_neg q]
          exact .inl rfl
      · exact .inr ⟨u, List.mem_cons_of_mem _ hu, e⟩
theorem degP_is {p : Poly} (nn : ∀ t ∈ p, 0 ≤ S t.1) {m : Int} (h1 : m ∈ p.map fun t => S t.1) (h2 : ∀ y ∈ p.map (fun t => S t.1), y ≤ m) : degP p = m := by
  obtain ⟨t, ht, rfl⟩ := List.mem_map.mp h1
  obtain ⟨g1, g2, g3⟩ := degP_max p 0
  have a1 := g1 t ht
  unfold degP
  rcases g3 with g3 | ⟨u, hu, e⟩
  · have := nn t ht
    rw [g3] at a1 ⊢
    omega
  · have := h2 _ (List.mem_map.mpr ⟨u, hu, rfl⟩)
    rw [← e] at a1 ⊢
    exact Int.le_antisymm this a1
theorem seq_goE {K : PySem.W.Frag} {tl : TE} {σ : L2.St} {H : Hp} {a : Addr} {xs : List V} {R : It → Hp → Prop} (hv : ∀ Q : VK, Q (.ref a) H → tl σ H Q) (h : SqL K H a xs ∨ SqT K H a xs)
    (k : ∀ (J : It) (G : Hp → Prop), Walk J xs.length G (YAt xs) → (∀ H', (SqL K H a xs → SqL K H' a xs) → (SqT K H a xs → SqT K H' a xs) → G H') → R J H) : iSeq K tl σ H R := by
  rcases h with h | h
  · exact .inl (hv _ ⟨a, rfl, ⟨_, h⟩, k _ _ walk_list fun H' f _ => f h⟩)
  · exact .inr (hv _ ⟨a, rfl, ⟨_, h⟩, k _ _ walk_tup fun H' _ f => f h⟩)
section
variable {P : Program} {w : World} {K : PySem.W.Frag} {mg : Str → Option Value} {base : Heap}
end
end K5


set_option Elab.async false
set_option linter.all false
set_option maxRecDepth 100000
set_option maxHeartbeats 4000000
namespace K5
open PySem L2 Nd Bk Gd
theorem short_all : ∀ {ds : List PyData}, (∀ d ∈ ds, shortD d = true) → shortDs ds = true
  | [], _ => by simp [shortDs]
  | d :: ds, h => by
    rw [shortDs, h d (List.mem_cons_self ..), short_all fun x hx => h x (List.mem_cons_of_mem _ hx)]
    rfl
theorem costs_all {c : Nat} : ∀ {ds : List PyData} {n : Nat}, ds.length ≤ n → (∀ d ∈ ds, cost d ≤ c) → costs ds ≤ n * (c + 2)
  | [], n, _, _ => by simp [costs]
  | d :: ds, 0, hn, _ => by simp at hn
  | d :: ds, n + 1, hn, h => by
    have h1 := h d (List.mem_cons_self ..)
    have h2 := costs_all (n := n) (by rw [List.length_cons] at hn; omega) fun x hx => h x (List.mem_cons_of_mem _ hx)
    rw [costs, Nat.add_mul]
    omega
theorem depth_all {n : Nat} : ∀ {ds : List PyData}, (∀ d ∈ ds, d.depth ≤ n) → PyData.depthAll ds ≤ n
  | [], _ => by simp [PyData.depthAll]
  | d :: ds, h => by
    rw [PyData.depthAll]
    exact Nat.max_le.mpr ⟨h d (List.mem_cons_self ..), depth_all fun x hx => h x (List.mem_cons_of_mem _ hx)⟩
/-- shown at the cost c, at most n deep -/
structure Shw (d : PyData) (c n : Nat) : Prop where
  sh : shortD d = true
  co : cost d ≤ c
  de : d.depth ≤ n
theorem shw_int {i : Int} (h0 : 0 ≤ i) (h1 : i < 10 ^ 105) : Shw (.int i) 110 1 := ⟨by rw [shortD, decide_eq_true h0, decide_eq_true h1]; rfl, by simp [cost], by simp [PyData.depth]⟩
theorem shT_ne {z : Str} (h : shT z = true) : z ≠ Str.ofString "" := fun e => by
  subst e
  exact absurd h (by decide +kernel)
theorem shw_str {z : Str} (h : shT z = true) : Shw (.str z) 110 1 := ⟨by rw [shortD]; exact (Bool.and_eq_true_iff.mp h).2, by simp [cost], by simp [PyData.depth]⟩
theorem shw_tup {ds : List PyData} {l c n : Nat} (hl : ds.length ≤ l) (h : ∀ d ∈ ds, Shw d c n) : Shw (.tuple ds) (l * (c + 2) + 3) (n + 1) := by
  refine ⟨?_, ?_, ?_⟩
  · rw [shortD]
    exact short_all fun d hd => (h d hd).sh
  · rw [cost]
    exact Nat.add_le_add_right (costs_all hl fun d hd => (h d hd).co) 3
  · rw [PyData.depth]
    exact Nat.add_le_add_right (depth_all fun d hd => (h d hd).de) 1
theorem Shw.weak {d : PyData} {c c' n n' : Nat} (h : Shw d c n) (h1 : c ≤ c') (h2 : n ≤ n') : Shw d c' n' := ⟨h.sh, Nat.le_trans h.co h1, Nat.le_trans h.de h2⟩
theorem shw_pair {d : PyData} {i : Int} {c n : Nat} (h : Shw d c n) (hc : 110 ≤ c) (hn : 1 ≤ n) (h0 : 0 ≤ i) (h1 : i < 10 ^ 105) : Shw (.tuple [d, .int i]) (2 * (c + 2) + 3) (n + 1) := shw_tup (Nat.le_refl 2) fun e he => by
  simp only [List.mem_cons, List.not_mem_nil, or_false] at he
  rcases he with rfl | rfl
  · exact h
  · exact (shw_int h0 h1).weak hc hn
/-- a polynomial of l terms of m tokens each, all short, may be shown -/
theorem shw_poly {p : Poly} {l m : Nat} (hl : p.length ≤ l) (hm : ∀ t ∈ p, t.1.length ≤ m) (ht : ∀ t ∈ p, ∀ x ∈ t.1, shT x.1 = true) (hc : ∀ t ∈ p, 0 ≤ t.2 ∧ t.2 < 10 ^ 105) (hx : ∀ t ∈ p, ∀ x ∈ t.1, 0 ≤ x.2 ∧ x.2 < 10 ^ 105) :
    Shw (bD p) (l * (2 * (m * 229 + 3 + 110 + 2) + 3 + 2) + 3) 5 := by
  refine shw_tup (by rw [List.length_map]; exact hl) fun d hd => ?_
  obtain ⟨t, tm, rfl⟩ := List.mem_map.mp hd
  have h1 : Shw (mD t.1) (m * 229 + 3) 3 := by
    refine shw_tup (l := m) (c := 227) (by rw [List.length_map]; exact hm t tm) fun e he => ?_
    obtain ⟨x, xm, rfl⟩ := List.mem_map.mp he
    exact shw_pair (c := 110) (shw_str (ht t tm x xm)) (by decide) (by decide) (hx t tm x xm).1 (hx t tm x xm).2
  exact shw_pair (h1.weak (c' := m * 229 + 3 + 110) (by omega) (Nat.le_refl _)) (by omega) (by decide) (hc t tm).1 (hc t tm).2
theorem S_mem {κ : Type} {l : Bag κ} (h : ∀ t ∈ l, 0 < t.2) : ∀ t ∈ l, t.2 ≤ S l := by
  induction l with
  | nil => exact fun t ht => nomatch ht
  | cons x r ih =>
    have e : S (x :: r) = x.2 * 1 + S r := by unfold S pr; simp
    have h1 := ih fun t ht => h t (List.mem_cons_of_mem _ ht)
    have h0 : 0 ≤ S r := by
      clear ih h1 e
      have hr : ∀ t ∈ r, 0 < t.2 := fun t ht => h t (List.mem_cons_of_mem _ ht)
      clear h
      induction r with
      | nil => exact Int.le_refl 0
      | cons y r2 ih2 =>
        have e : S (y :: r2) = y.2 * 1 + S r2 := by unfold S pr; simp
        have := ih2 fun t ht => hr t (List.mem_cons_of_mem _ ht)
        have := hr y (List.mem_cons_self ..)
        omega
    have hx := h x (List.mem_cons_self ..)
    intro t ht
    rcases List.mem_cons.mp ht with rfl | ht
    · omega
    · have := h1 t ht
      omega
theorem big105 : (8000 : Int) < 10 ^ 105 := by decide +kernel
/-- what was drawn may be shown -/
theorem S_len {κ : Type} {l : Bag κ} (h : ∀ t ∈ l, 0 < t.2) : (l.length : Int) ≤ S l := by
  induction l with
  | nil => exact Int.le_refl 0
  | cons x r ih =>
    have e : S (x :: r) = x.2 * 1 + S r := by unfold S pr; simp
    have h1 := ih fun t ht => h t (List.mem_cons_of_mem _ ht)
    have hx := h x (List.mem_cons_self ..)
    rw [List.length_cons]
    omega
theorem ml_pb {p : Poly} (h : PB p) : ∀ t ∈ p, t.1.length ≤ 48 := fun t ht => by
  have h1 := S_len (h.ok.2.2 t ht).2
  have h2 := h.dg t ht
  omega
theorem sho_pb {p : Poly} (h : PB p) : Sho p := by
  have b := big105
  have hm := ml_pb h
  have hs := h.sz
  have w := shw_poly (l := 8) (m := 48) h.len hm h.tk (fun t ht => ⟨Int.le_of_lt (h.ok.2.1 t ht), by
      have := S_mem h.ok.2.1 t ht
      omega⟩) (fun t ht x hx => ⟨Int.le_of_lt ((h.ok.2.2 t ht).2 x hx), by
      have h1 := S_mem (h.ok.2.2 t ht).2 x hx
      have h2 := h.dg t ht
      omega⟩)
  exact ⟨w.sh, Nat.le_trans w.co (by decide), Nat.le_trans w.de (by decide)⟩
theorem dd_len : ∀ (l acc : List Str), (l.foldl dd acc).length ≤ acc.length + l.length
  | [], _ => Nat.le_refl _
  | t :: l, acc => by
    refine Nat.le_trans (dd_len l (dd acc t)) ?_
    have : (dd acc t).length ≤ acc.length + 1 := by
      unfold dd
      split
      · omega
      · rw [List.length_append]
        exact Nat.le_refl _
    rw [List.length_cons]
    omega
theorem flat_len {m : Nat} : ∀ {p : Poly} {n : Nat}, p.length ≤ n → (∀ t ∈ p, t.1.length ≤ m) → (p.flatMap fun t => t.1.map (·.1)).length ≤ n * m
  | [], n, _, _ => by simp
  | t :: p, 0, hn, _ => by simp at hn
  | t :: p, n + 1, hn, h => by
    have h1 := h t (List.mem_cons_self ..)
    have h2 := flat_len (n := n) (by rw [List.length_cons] at hn; omega) fun x hx => h x (List.mem_cons_of_mem _ hx)
    rw [List.flatMap_cons, List.length_append, List.length_map, Nat.add_mul]
    omega
theorem tks_len {p : Poly} {n m : Nat} (hn : p.length ≤ n) (hm : ∀ t ∈ p, t.1.length ≤ m) : (tokK p).length ≤ n * m := by
  rw [tokK_seen, sortK_len (seen_nodup p)]
  refine Nat.le_trans (dd_len _ _) ?_
  rw [List.length_nil, Nat.zero_add]
  exact flat_len hn hm
theorem tks_pb {p : Poly} (h : PB p) : (tokK p).length ≤ 1000 := Nat.le_trans (tks_len h.len (ml_pb h)) (by decide)
end K5


set_option Elab.async false
set_option linter.all false
set_option maxRecDepth 100000
set_option maxHeartbeats 4000000
namespace K5
open PySem L2 Nd Bk Gd PySem.ExE
section
variable {K : PySem.W.Frag} {st : Stmt} {f : Addr} {fd : FuncData} {x : Str}
theorem kb_kw1 {y : Str} (F : Fun K x x st f fd)
    (h : ∀ (kV doc pm : Value) (an : Option Addr) (cdv ct : Value) (a : Value), bindArgs (PySem.W.fnOf x x (defArgs st) (defBody st) (defScope st) .none kV doc pm an cdv ct) ⟨[], [(y, a)]⟩ = pure [(y, a)]) : KBinds K fd [y] [y] kw1 kw1 := by
  obtain ⟨oc, od, kV, doc, pm, an, cdv, ct, osl, rfl, lk, hcd⟩ := F.ex
  refine ⟨fun s us ws _ hl => ?_, fun {vs us zs ws} r1 r2 => ?_⟩
  · match us, ws, hl with
    | [], [a], _ => exact .of_eq (h kV doc pm an cdv ct a)
    | [], [], hl => simp [kw1] at hl
    | [], _ :: _ :: _, hl => simp [kw1] at hl
    | _ :: _, _, hl => simp [kw1] at hl
  · cases r1 with
    | nil =>
      cases r2 with
      | nil => exact .nil
      | cons a b =>
        cases b with
        | nil => exact .cons a .nil
        | cons c d => exact .nil
    | cons _ _ => exact .nil
theorem kb_sw2 {y z : Str} (F : Fun K x x st f fd)
    (h : ∀ (kV doc pm : Value) (an : Option Addr) (cdv ct : Value) (a b : Value), bindArgs (PySem.W.fnOf x x (defArgs st) (defBody st) (defScope st) .none kV doc pm an cdv ct) ⟨[], [(z, a), (y, b)]⟩ = pure [(y, b), (z, a)]) : KBinds K fd [y, z] [z, y] sw2 sw2 := by
  obtain ⟨oc, od, kV, doc, pm, an, cdv, ct, osl, rfl, lk, hcd⟩ := F.ex
  refine ⟨fun s us ws _ hl => ?_, fun {vs us zs ws} r1 r2 => ?_⟩
  · match us, ws, hl with
    | [], [a, b], _ => exact .of_eq (h kV doc pm an cdv ct a b)
    | [], [], hl => simp [sw2] at hl
    | [], [_], hl => simp [sw2] at hl
    | [], _ :: _ :: _ :: _, hl => simp [sw2] at hl
    | _ :: _, _, hl => simp [sw2] at hl
  · cases r1 with
    | nil =>
      cases r2 with
      | nil => exact .nil
      | cons a b =>
        cases b with
        | nil => exact .nil
        | cons c d =>
          cases d with
          | nil => exact .cons c (.cons a .nil)
          | cons e g => exact .nil
    | cons _ _ => exact .nil
theorem kb_tokens (F : Fun K "tokens_of" "tokens_of" sTokens f fd) : KBinds K fd ["p"] ["p"] kw1 kw1 := kb_kw1 F fun _ _ _ _ _ _ _ => rfl
end
end K5


set_option Elab.async false
set_option linter.all false
set_option maxRecDepth 100000
set_option maxHeartbeats 8000000
namespace K5
open PySem L2 Nd Bk Gd PySem.ExE
/-! tokens_of -/
theorem turns {J : It} {n : Nat} {G : Hp → Prop} {Y : Nat → Hp → V → Hp → Prop} (wk : Walk J n G Y) {H0 : Hp} {Qd : Hp → Prop} {St : (Hp → Prop) → V → Hp → Prop} (Pv : Nat → Hp → Prop) (h0 : Pv 0 H0) (hG : ∀ i H, i ≤ n → Pv i H → G H)
    (hs : ∀ i x H H', i < n → Pv i H → Y i H x H' → St (Pv (i + 1)) x H') (hd : ∀ H, Pv n H → Qd H) :
    ∃ W : Nat → Nat → Hp → Prop, (∃ m, W 0 m H0) ∧ ∀ i m H, W i m H → (J.stop i H ∧ Qd H) ∨ (J.go i H ∧ ∃ Nx : Hp → Prop, (∀ H', Nx H' → ∃ m', m' < m ∧ W (i + 1) m' H') ∧ ∀ x H', J.yld i H x H' → St Nx x H') := by
  refine ⟨fun i m H => m = n - i ∧ i ≤ n ∧ Pv i H, ⟨n, (Nat.sub_zero n).symm, Nat.zero_le _, h0⟩, fun i m H ⟨e, hi, p⟩ => ?_⟩
  have g := hG i H hi p
  rcases Nat.lt_or_eq_of_le hi with lt | rfl
  · exact .inr ⟨wk.goes i H lt g, Pv (i + 1), fun H' p' => ⟨n - (i + 1), by omega, rfl, lt, p'⟩, fun x H' y => hs i x H H' lt p (wk.yields i H x H' lt g y)⟩
  · exact .inl ⟨wk.stops H g, hd H p⟩
theorem ascK_ext {l m : List Str} (h1 : AscK l) (h2 : AscK m) (h : ∀ k, k ∈ l ↔ k ∈ m) : l = m := by
  have e : (l.map fun k => (k, (0 : Int))) = m.map fun k => (k, (0 : Int)) := by
    refine asc_ext (by unfold Asc; rw [List.pairwise_map]; exact h1) (by unfold Asc; rw [List.pairwise_map]; exact h2) fun p => ?_
    simp only [List.mem_map (f := fun k : Str => (k, (0 : Int)))]
    exact ⟨fun ⟨k, hk, q⟩ => ⟨k, (h k).mp hk, q⟩, fun ⟨k, hk, q⟩ => ⟨k, (h k).mpr hk, q⟩⟩
  have inv : ∀ l : List Str, (l.map fun k => (k, (0 : Int))).map (·.1) = l := fun l => by
    induction l with
    | nil => rfl
    | cons x r ih => rw [List.map_cons, List.map_cons, ih]
  have := congrArg (List.map (·.1)) e
  rwa [inv, inv] at this
theorem srtT_sortK {ks : List Str} (nd : ks.Nodup) : Sx.srtT ks = sortK ks := by
  have le : PySem.W.dataLe false PyData.str = fun a b : Str => !lt b a := rfl
  obtain ⟨h1, h2⟩ := sortK_ok ks [] (by simpa using nd) List.Pairwise.nil
  have tr : ∀ a b c : Str, (!lt b a) = true → (!lt c b) = true → (!lt c a) = true := fun a b c x y => by
    rw [Bool.not_eq_true'] at x y ⊢
    cases q : lt c a with
    | false => rfl
    | true =>
      cases z : lt a b with
      | true => rw [lt_trans q z] at y; exact absurd y (by decide)
      | false => rw [lt_total z x] at q; rw [q] at y; exact absurd y (by decide)
  have tot : ∀ a b : Str, ((!lt b a) || (!lt a b)) = true := fun a b => by
    cases q : lt b a with
    | false => rfl
    | true => rw [lt_asymm q]; rfl
  have p : (Sx.srtT ks).Perm ks := List.mergeSort_perm ..
  have s : (Sx.srtT ks).Pairwise fun a b => (!lt b a) = true := by
    unfold Sx.srtT
    rw [le]
    exact List.pairwise_mergeSort tr tot ks
  refine ascK_ext ?_ h1 fun k => by
    rw [p.mem_iff]
    have := h2.mem_iff (a := k)
    rw [List.nil_append] at this
    exact this.symm
  have nd' : (Sx.srtT ks).Nodup := p.nodup_iff.mpr nd
  refine List.Pairwise.imp (fun {a b} ⟨x, y⟩ => ?_) (List.Pairwise.and s nd')
  cases q : lt a b with
  | true => rfl
  | false => exact absurd (lt_total q (by simpa using x)) y
def toksP (p : Poly) : List Str := p.flatMap fun t => t.1.map (·.1)
def so (l : List Str) : List Str := (l.foldl dd []).reverse
theorem dd_up : ∀ (l acc : List Str), acc.length ≤ (l.foldl dd acc).length
  | [], _ => Nat.le_refl _
  | t :: l, acc => by
    refine Nat.le_trans ?_ (dd_up l (dd acc t))
    unfold dd
    split
    · exact Nat.le_refl _
    · rw [List.length_append]
      exact Nat.le_add_right _ _
theorem so_len (l r : List Str) : (so l).length ≤ ((l ++ r).foldl dd []).length := by
  unfold so
  rw [List.length_reverse, List.foldl_append]
  exact dd_up _ _
theorem so_snoc (l : List Str) (x : Str) : Sx.ins x (so l) = so (l ++ [x]) := by
  unfold so Sx.ins
  rw [List.foldl_append]
  show _ = (dd (l.foldl dd []) x).reverse
  generalize l.foldl dd [] = m
  unfold dd
  by_cases q : x ∈ m
  · rw [if_pos q, if_pos (List.mem_reverse.mpr q)]
  · rw [if_neg q, if_neg fun z => q (List.mem_reverse.mp z), List.reverse_append]
    rfl
theorem toksP_take {p : Poly} {i : Nat} {t : Mono × Int} (e : p[i]? = some t) : toksP (p.take (i + 1)) = toksP (p.take i) ++ t.1.map (·.1) := by
  unfold toksP
  rw [List.take_succ, e, List.flatMap_append]
  simp
theorem toksP_part {p : Poly} {i : Nat} {t : Mono × Int} (e : p[i]? = some t) (j : Nat) : ∃ r, toksP p = (toksP (p.take i) ++ (t.1.take j).map (·.1)) ++ r := by
  refine ⟨(t.1.drop j).map (·.1) ++ toksP (p.drop (i + 1)), ?_⟩
  have h1 : toksP p = toksP (p.take (i + 1)) ++ toksP (p.drop (i + 1)) := by
    unfold toksP
    rw [← List.flatMap_append, List.take_append_drop]
  have h2 : t.1.map (·.1) = (t.1.take j).map (·.1) ++ (t.1.drop j).map (·.1) := by rw [← List.map_append, List.take_append_drop]
  rw [h1, toksP_take e, h2]
  simp only [List.append_assoc]
theorem seq_goS {K : PySem.W.Frag} {tl : TE} {σ : L2.St} {H0 H : Hp} {a : Addr} {xs : List V} {R : It → Hp → Prop} (hv : ∀ Q : VK, Q (.ref a) H → tl σ H Q) (s : Same H0 H) (h : SqL K H0 a xs ∨ SqT K H0 a xs)
    (k : ∀ (J : It) (G : Hp → Prop), Walk J xs.length G (YAt xs) → (∀ H', Same H0 H' → G H') → R J H) : iSeq K tl σ H R := by
  rcases h with h | h
  · exact .inl (hv _ ⟨a, rfl, ⟨_, s.seq h⟩, k _ _ walk_list fun H' f => f.seq h⟩)
  · exact .inr (hv _ ⟨a, rfl, ⟨_, sqT_same s h⟩, k _ _ walk_tup fun H' f => sqT_same f h⟩)
section
variable {P : Program} {w : World} {K : PySem.W.Frag} {mg : Str → Option Value} {base : Heap}
theorem scTks : FnScope ["p", "term", "pair"] ["p"] (defScope sTokens) := ⟨rfl, rfl, rfl, by decide +kernel, rfl, by decide +kernel, by decide +kernel⟩
theorem ok_tks {f : Addr} {fd : FuncData} (F : Fun K "tokens_of" "tokens_of" sTokens f fd) (C : Cn K mg) : FnOk P w K mg base CX0 1 f fd ["p"] (spTks K) := by
  refine F.ok scTks (fun vs H Q E h => ?_) (fun cdv A outer s H vs Q E hr h => ?_)
  · obtain ⟨v, p, rfl, _⟩ := h
    rfl
  · obtain ⟨v, p, rfl, hd, okp, hz, hln, k⟩ := h
    refine ⟨_, pss_one (ps_ret (pe_callTy call_tuple_of (by rfl) C.N.tup (by rfl) (pa_cons (pe_callB (Sx.cr_sortS rfl (u64 hr)) (by rfl) C.srt (by rfl) (pa_cons
      (Sx.pe_sc2 (own := [("term", 1), ("pair", 2)]) (vs1 := [2]) (g := gName 1) (g1 := gName 2) rfl scTks.nd (pi_seq (pv 0)) (blkOk_by (N := ["p", "term", "pair"]) (sc := defScope sTokens) (by decide +kernel)) (by decide)
        (fun _ _ _ _ _ => pg_name (i := 1) scTks.nd rfl (Or.inl rfl)) (fun _ _ _ _ _ => show PI _ _ _ (iSeq K (tOp (rIx K) (tVar 1) (tC (.int 0)))) from pi_seq (pe_ix ix_seq (pv 1) pe_int (fun _ _ => rfl)))
        (fun _ _ _ _ _ => pg_name (i := 2) scTks.nd rfl (Or.inl rfl)) (fun _ _ _ _ _ => show PE _ _ (tOp (rIx K) (tVar 2) (tC (.int 0))) from pe_ix ix_seq (pv 2) pe_int (fun _ _ => rfl))) pa_nil)) pa_nil))), ?_⟩
    obtain ⟨a, xs, rfl, hs, hl, hget⟩ := fd_bag hd
    have lim : ∀ {l r : List Str}, toksP p = l ++ r → (so l).length ≤ 1000 := fun {l r} e => by
      refine Nat.le_trans (so_len l r) ?_
      rw [← e, ← sortK_len (dd_nodup _ [] List.nodup_nil)]
      exact hln
    refine seq_go rfl hs fun J G walk hG D nD => ?_
    refine turns walk (fun i H2 => Same H H2 ∧ H2 D = some (Sx.SetSO w D (so (toksP (p.take i))))) ⟨sm_new sm_refl nD, upd_same⟩ (fun i H2 _ ⟨s2, _⟩ => hG H2 s2.seq (sqT_same s2)) ?_ ?_
    · rintro i x _ H2 hi ⟨s2, hD⟩ ⟨rfl, hx⟩
      obtain ⟨t, ht, hxt⟩ := hget i x hx
      obtain ⟨T, kk, rfl, hT, hk⟩ := fd_pair hxt
      obtain ⟨b, zs, rfl, hb, hbl, hbget⟩ := fd_bag (κ := Str) hk
      refine ⟨rfl, ?_⟩
      refine seq_goS (a := b) (xs := zs) (fun Q q => ⟨_, rfl, (fd_ix (sq_same s2 hT) Q).2 q⟩) s2 hb fun J2 G2 walk2 hG2 => ?_
      refine turns walk2 (fun j H3 => Same H H3 ∧ H3 D = some (Sx.SetSO w D (so (toksP (p.take i) ++ (t.1.take j).map (·.1))))) ⟨s2, by simpa using hD⟩ (fun j H3 _ ⟨s3, _⟩ => hG2 H3 s3) ?_ ?_
      · rintro j y _ H3 hj ⟨s3, hD3⟩ ⟨rfl, hy⟩
        obtain ⟨q, hq, hyq⟩ := hbget j y hy
        obtain ⟨U, kk2, rfl, hU, hkk⟩ := fd_pair hyq
        cases fd_str (z := q.1) hkk
        obtain ⟨r, hr2⟩ := toksP_part ht j
        have := lim hr2
        refine ⟨rfl, _, rfl, (fd_ix (sq_same s3 hU) _).2 ⟨q.1, _, rfl, hD3, ?_, sm_new s3 nD, ?_⟩⟩
        · show _ < 4096
          omega
        · rw [upd_same, so_snoc, List.take_succ, hq, List.map_append, List.append_assoc]
          rfl
      · rintro H3 ⟨s3, hD3⟩
        rw [hbl, List.take_length, ← toksP_take ht] at hD3
        exact ⟨s3, hD3⟩
    · rintro H2 ⟨s2, hD⟩
      rw [hl, List.take_length] at hD
      refine ⟨D, _, rfl, hD, Nat.le_trans (lim (List.append_nil _).symm) (by decide), fun ks l pk nl => ?_⟩
      have pks : ks.Perm (seen p) := pk.trans (List.reverse_perm _)
      have e : Sx.srtT ks = tokK p := by
        rw [srtT_sortK (pks.nodup_iff.mpr (seen_nodup p)), tokK_seen]
        obtain ⟨a1, a2⟩ := sortK_ok ks [] (by simpa using pks.nodup_iff.mpr (seen_nodup p)) List.Pairwise.nil
        obtain ⟨b1, b2⟩ := sortK_ok (seen p) [] (by simpa using seen_nodup p) List.Pairwise.nil
        refine ascK_ext a1 b1 fun k => ?_
        have e1 := a2.mem_iff (a := k)
        have e2 := b2.mem_iff (a := k)
        rw [List.nil_append] at e1 e2
        exact e1.trans (pks.mem_iff.trans e2.symm)
      rw [e]
      have s3 : Same H2 (upd H2 l (.lst ((tokK p).map V.str))) := sm_new sm_refl nl
      have hl3 : upd H2 l (.lst ((tokK p).map V.str)) l = some (.lst ((tokK p).map V.str)) := upd_same
      generalize upd H2 l (.lst ((tokK p).map V.str)) = H3 at s3 hl3 ⊢
      refine ⟨l, _, rfl, .inl ⟨SqL.of hl3, fun T nT => ?_⟩⟩
      refine k _ _ (sm_new (s2.trans s3) ((s2.trans s3).free nT)) (.tup (SqT.of upd_same) ?_)
      exact strs_dp _
end
end K5


set_option Elab.async false
set_option linter.all false
set_option maxRecDepth 100000
set_option maxHeartbeats 8000000
namespace K5
open PySem L2 Nd Bk Gd PySem.ExE
theorem pe_never {X : Cx} {e : Expr} : PE X e (fun _ _ _ => False) := ⟨fun _ _ _ _ _ _ h => h.elim⟩
theorem pt_never {X : Cx} {e : Expr} : PT X e (fun _ _ _ => False) := ⟨fun _ _ _ _ _ _ h => h.elim⟩
theorem pw_never {X : Cx} {e : Expr} : PW X e (fun _ _ _ => False) := ⟨fun _ _ _ _ _ _ _ h => h.elim⟩
theorem pss_never {X : Cx} {es : List Stmt} : PSs X es (fun _ _ _ => False) := ⟨fun _ _ _ _ _ _ h => h.elim⟩
/-! a number or none -/
def ov : Option Int → V
  | none => .non
  | some i => .int i
def oD : Option Int → PyData
  | none => .none
  | some i => .int i
def leastO : Option Int → Option Int → Option Int
  | none, b => b
  | some a, none => some a
  | some a, some b => some (if b < a then b else a)
def addO : Option Int → Option Int → Option Int
  | some a, some b => some (a + b)
  | _, _ => none
theorem dp_ov {K : PySem.W.Frag} {H : Hp} : ∀ o : Option Int, Dp K H (ov o) (oD o)
  | none => .non
  | some i => .int i
theorem dp_oD {K : PySem.W.Frag} {H : Hp} {v : V} : ∀ {o : Option Int}, Dp K H v (oD o) → v = ov o
  | none, h => by cases h; rfl
  | some i, h => by cases h; rfl
theorem dn {y z : Str} (n : y ≠ z) : V.bl (decide (V.str y = V.str z)) = V.bl false := by rw [decide_eq_false (fun e => n (V.str.inj e))]
theorem dy {z : Str} : V.bl (decide (V.str z = V.str z)) = V.bl true := by rw [decide_eq_true rfl]
def cost_ : Str := Str.ofString "cost"
def trust_ : Str := Str.ofString "trust"
/-- the names of k06 -/
structure Cv (K : PySem.W.Frag) (w : World) (mg : Str → Option Value) : Prop where
  max : mg "max" = none
  zeros : ∃ a, mg "_ZEROS" = some (.ref a) ∧ KDct K w a cost_ .non ∧ KDct K w a trust_ (.int 0)
  ones : ∃ a, mg "_ONES" = some (.ref a) ∧ KDct K w a cost_ (.int 0) ∧ KDct K w a trust_ (.int 100)
section
variable {P : Program} {w : World} {K : PySem.W.Frag} {mg : Str → Option Value} {base : Heap}
def spLesser : Sp := fun vs H Q _ => ∃ a b : Option Int, vs = [ov a, ov b] ∧ Q (ov (leastO a b)) H
theorem scLesser : FnScope ["a", "b"] ["a", "b"] (defScope sLesser) := ⟨rfl, rfl, rfl, by decide +kernel, rfl, by decide +kernel, by decide +kernel⟩
theorem ok_lesser {f : Addr} {fd : FuncData} (F : Fun K "_lesser_cost" "_lesser_cost" sLesser f fd) (C : Cn K mg) : FnOk P w K mg base CX0 1 f fd ["a", "b"] spLesser := by
  refine F.ok scLesser (fun vs H Q E h => ?_) (fun cdv A outer s H vs Q E hr h => ?_)
  · obtain ⟨a, b, rfl, _⟩ := h
    rfl
  · obtain ⟨a, b, rfl, k⟩ := h
    refine ⟨_, pss_cons (ps_if (pt_cmpR op_isN (pv 0) pe_non (nomark _)) (pss_one (ps_ret (pv 1))) pss_nil)
      (pss_cons (ps_if (pt_cmpR op_isN (pv 1) pe_non (nomark _)) (pss_one (ps_ret (pv 0))) pss_nil)
      (pss_one (ps_ret (pe_callB (call_min2 rfl) (by rfl) C.min (by rfl) (pa_cons (pv 0) (pa_cons (pv 1) pa_nil)))))), ?_⟩
    cases a with
    | none => exact ⟨_, rfl, rfl, _, rfl, iteT ⟨_, rfl, k⟩⟩
    | some a =>
      refine ⟨_, rfl, rfl, _, rfl, iteF ?_⟩
      cases b with
      | none => exact ⟨_, rfl, rfl, _, rfl, iteT ⟨_, rfl, k⟩⟩
      | some b => exact ⟨_, rfl, rfl, _, rfl, iteF ⟨_, rfl, _, rfl, _, _, rfl, k⟩⟩
def spAdded : Sp := fun vs H Q _ => ∃ a b : Option Int, vs = [ov a, ov b] ∧ Q (ov (addO a b)) H
theorem scAdded : FnScope ["a", "b"] ["a", "b"] (defScope sAdded) := ⟨rfl, rfl, rfl, by decide +kernel, rfl, by decide +kernel, by decide +kernel⟩
theorem ok_added {f : Addr} {fd : FuncData} (F : Fun K "_added_cost" "_added_cost" sAdded f fd) : FnOk P w K mg base CX0 1 f fd ["a", "b"] spAdded := by
  refine F.ok scAdded (fun vs H Q E h => ?_) (fun cdv A outer s H vs Q E hr h => ?_)
  · obtain ⟨a, b, rfl, _⟩ := h
    rfl
  · obtain ⟨a, b, rfl, k⟩ := h
    refine ⟨_, pss_cons (ps_if (PW.pt (pw_or (pt_cmpR op_isN (pv 0) pe_non (nomark _)) (pw_or1 (pt_cmpR op_isN (pv 1) pe_non (nomark _))))) (pss_one (ps_ret pe_non)) pss_nil)
      (pss_one (ps_ret (pe_op op_add (pv 0) (pv 1)))), ?_⟩
    cases a with
    | none => exact ⟨_, rfl, rfl, _, rfl, iteT (iteT k)⟩
    | some a =>
      refine ⟨_, rfl, rfl, _, rfl, iteF ?_⟩
      cases b with
      | none => exact ⟨_, rfl, rfl, _, rfl, iteT k⟩
      | some b => exact ⟨_, rfl, rfl, _, rfl, iteF ⟨_, rfl, _, rfl, _, _, rfl, rfl, k⟩⟩
/-- a value, so often -/
def raO (is : Bool) (e : Int) (o : Option Int) : Option Int := if is = true then o.map (· * e) else o
def meas (is : Bool) : Str := if is = true then cost_ else trust_
def spRaised : Sp := fun vs H Q _ => ∃ (is : Bool) (o : Option Int) (e : Int), vs = [.str (meas is), ov o, .int e] ∧ 0 ≤ e ∧ e < 1000 ∧ Q (ov (raO is e o)) H
theorem scRaised : FnScope ["measure", "value", "exponent"] ["measure", "value", "exponent"] (defScope sRaised) := ⟨rfl, rfl, rfl, by decide +kernel, rfl, by decide +kernel, by decide +kernel⟩
theorem ok_raised {f : Addr} {fd : FuncData} (F : Fun K "_raised" "_raised" sRaised f fd) : FnOk P w K mg base CX0 1 f fd ["measure", "value", "exponent"] spRaised := by
  refine F.ok scRaised (fun vs H Q E h => ?_) (fun cdv A outer s H vs Q E hr h => ?_)
  · obtain ⟨is, o, e, rfl, _⟩ := h
    rfl
  · obtain ⟨is, o, e, rfl, h0, h1, k⟩ := h
    refine ⟨_, pss_cons (ps_if (PW.pt (pw_and (pt_cmpR op_eq (pv 0) pe_str (nomark _)) (pw_and1 (pt_cmpR op_notN (pv 1) pe_non (nomark _))))) (pss_one (ps_ret (pe_op op_mul (pv 1) (pv 2)))) pss_nil)
      (pss_one (ps_ret (pv 1))), ?_⟩
    cases is with
    | true =>
      refine ⟨_, rfl, rfl, true, dy, iteT ⟨_, rfl, rfl, _, rfl, ?_⟩⟩
      cases o with
      | none => exact iteF ⟨_, rfl, k⟩
      | some i => exact iteT ⟨_, rfl, _, rfl, _, _, rfl, rfl, .inr ⟨by omega, by omega⟩, k⟩
    | false => exact ⟨_, rfl, rfl, false, dn (by decide +kernel), iteF (iteF ⟨_, rfl, k⟩)⟩
def plO (is : Bool) (a b : Option Int) : Option Int := match is, a, b with
  | true, a, b => leastO a b
  | false, some a, some b => some (if b > a then b else a)
  | false, _, _ => none
def tmO (is : Bool) (a b : Option Int) : Option Int := match is, a, b with
  | true, a, b => addO a b
  | false, some a, some b => some (if b < a then b else a)
  | false, _, _ => none
def zeO (is : Bool) : Option Int := match is with
  | true => none
  | false => some 0
def onO (is : Bool) : Option Int := match is with
  | true => some 0
  | false => some 100
/-- is a number where the measure has numbers alone -/
def Nu (is : Bool) (o : Option Int) : Prop := is = false → o.isSome = true
def spMPlus : Sp := fun vs H Q _ => ∃ (is : Bool) (a b : Option Int), vs = [.str (meas is), ov a, ov b] ∧ Nu is a ∧ Nu is b ∧ Q (ov (plO is a b)) H
def spMTimes : Sp := fun vs H Q _ => ∃ (is : Bool) (a b : Option Int), vs = [.str (meas is), ov a, ov b] ∧ Nu is a ∧ Nu is b ∧ Q (ov (tmO is a b)) H
def spMZero : Sp := fun vs H Q _ => ∃ (is : Bool) (x : V), vs = [.str (meas is), x] ∧ Q (ov (zeO is)) H
def spMOne : Sp := fun vs H Q _ => ∃ (is : Bool) (x : V), vs = [.str (meas is), x] ∧ Q (ov (onO is)) H
theorem scMPlus : FnScope ["measure", "a", "b"] ["measure", "a", "b"] (defScope sMPlus) := ⟨rfl, rfl, rfl, by decide +kernel, rfl, by decide +kernel, by decide +kernel⟩
theorem ok_mplus {f : Addr} {fd : FuncData} (F : Fun K "measured_plus" "measured_plus" sMPlus f fd) (V : Cv K w mg) (Gl : Df P w K mg base 1 "_lesser_cost" ["a", "b"] spLesser) : FnOk P w K mg base CX0 2 f fd ["measure", "a", "b"] spMPlus := by
  obtain ⟨fl, fdl, gL, kL, bL, GL⟩ := Gl.ok
  refine F.ok scMPlus (fun vs H Q E h => ?_) (fun cdv A outer s H vs Q E hr h => ?_)
  · obtain ⟨is, a, b, rfl, _⟩ := h
    rfl
  · obtain ⟨is, a, b, rfl, na, nb, k⟩ := h
    have hr1 : Room 1 _ := hr
    refine ⟨_, pss_cons (ps_if (pt_cmpR op_eq (pv 0) pe_str (nomark _)) pss_never pss_nil)
      (pss_cons (ps_if (pt_cmpR op_eq (pv 0) pe_str (nomark _)) (pss_one (ps_ret (pe_call GL hr1 rfl gL kL bL .nil pass0 (pa_cons (pv 1) (pa_cons (pv 2) pa_nil))))) pss_nil)
      (pss_cons (ps_if (pt_cmpR op_eq (pv 0) pe_str (nomark _)) (pss_one (ps_ret (pe_callB (call_max2 rfl) (by rfl) V.max (by rfl) (pa_cons (pv 1) (pa_cons (pv 2) pa_nil))))) pss_nil) pss_never)), ?_⟩
    cases is with
    | true => exact ⟨_, rfl, rfl, false, dn (by decide +kernel), iteF ⟨_, rfl, rfl, true, dy, iteT ⟨_, rfl, _, rfl, a, b, rfl, k⟩⟩⟩
    | false =>
      obtain ⟨i, rfl⟩ := Option.isSome_iff_exists.mp (na rfl)
      obtain ⟨j, rfl⟩ := Option.isSome_iff_exists.mp (nb rfl)
      exact ⟨_, rfl, rfl, false, dn (by decide +kernel), iteF ⟨_, rfl, rfl, false, dn (by decide +kernel), iteF ⟨_, rfl, rfl, true, dy, iteT ⟨_, rfl, _, rfl, i, j, rfl, k⟩⟩⟩⟩
theorem scMTimes : FnScope ["measure", "a", "b"] ["measure", "a", "b"] (defScope sMTimes) := ⟨rfl, rfl, rfl, by decide +kernel, rfl, by decide +kernel, by decide +kernel⟩
theorem ok_mtimes {f : Addr} {fd : FuncData} (F : Fun K "measured_times" "measured_times" sMTimes f fd) (C : Cn K mg) (Gl : Df P w K mg base 1 "_added_cost" ["a", "b"] spAdded) : FnOk P w K mg base CX0 2 f fd ["measure", "a", "b"] spMTimes := by
  obtain ⟨fl, fdl, gL, kL, bL, GL⟩ := Gl.ok
  refine F.ok scMTimes (fun vs H Q E h => ?_) (fun cdv A outer s H vs Q E hr h => ?_)
  · obtain ⟨is, a, b, rfl, _⟩ := h
    rfl
  · obtain ⟨is, a, b, rfl, na, nb, k⟩ := h
    have hr1 : Room 1 _ := hr
    refine ⟨_, pss_cons (ps_if (pt_cmpR op_eq (pv 0) pe_str (nomark _)) pss_never pss_nil)
      (pss_cons (ps_if (pt_cmpR op_eq (pv 0) pe_str (nomark _)) (pss_one (ps_ret (pe_call GL hr1 rfl gL kL bL .nil pass0 (pa_cons (pv 1) (pa_cons (pv 2) pa_nil))))) pss_nil)
      (pss_cons (ps_if (pt_cmpR op_eq (pv 0) pe_str (nomark _)) (pss_one (ps_ret (pe_callB (call_min2 rfl) (by rfl) C.min (by rfl) (pa_cons (pv 1) (pa_cons (pv 2) pa_nil))))) pss_nil) pss_never)), ?_⟩
    cases is with
    | true => exact ⟨_, rfl, rfl, false, dn (by decide +kernel), iteF ⟨_, rfl, rfl, true, dy, iteT ⟨_, rfl, _, rfl, a, b, rfl, k⟩⟩⟩
    | false =>
      obtain ⟨i, rfl⟩ := Option.isSome_iff_exists.mp (na rfl)
      obtain ⟨j, rfl⟩ := Option.isSome_iff_exists.mp (nb rfl)
      exact ⟨_, rfl, rfl, false, dn (by decide +kernel), iteF ⟨_, rfl, rfl, false, dn (by decide +kernel), iteF ⟨_, rfl, rfl, true, dy, iteT ⟨_, rfl, _, rfl, i, j, rfl, k⟩⟩⟩⟩
theorem scMZero : FnScope ["measure", "persons"] ["measure", "persons"] (defScope sMZero) := ⟨rfl, rfl, rfl, by decide +kernel, rfl, by decide +kernel, by decide +kernel⟩
theorem ok_mzero {f : Addr} {fd : FuncData} (F : Fun K "measured_zero" "measured_zero" sMZero f fd) (V : Cv K w mg) : FnOk P w K mg base CX0 1 f fd ["measure", "persons"] spMZero := by
  refine F.ok scMZero (fun vs H Q E h => ?_) (fun cdv A outer s H vs Q E hr h => ?_)
  · obtain ⟨is, x, rfl, _⟩ := h
    rfl
  · obtain ⟨is, x, rfl, k⟩ := h
    obtain ⟨z, gz, z1, z2⟩ := V.zeros
    refine ⟨_, pss_one (ps_ret (pe_ix (show IxR _ (rIxD K w) from ix_kdict) (pe_glob (v := .ref z) (by rfl) gz rfl) (pv 0) (fun _ _ => rfl))), ?_⟩
    cases is with
    | true => exact ⟨_, rfl, z, cost_, .non, rfl, rfl, z1, k⟩
    | false => exact ⟨_, rfl, z, trust_, .int 0, rfl, rfl, z2, k⟩
theorem scMOne : FnScope ["measure", "persons"] ["measure", "persons"] (defScope sMOne) := ⟨rfl, rfl, rfl, by decide +kernel, rfl, by decide +kernel, by decide +kernel⟩
theorem ok_mone {f : Addr} {fd : FuncData} (F : Fun K "measured_one" "measured_one" sMOne f fd) (V : Cv K w mg) : FnOk P w K mg base CX0 1 f fd ["measure", "persons"] spMOne := by
  refine F.ok scMOne (fun vs H Q E h => ?_) (fun cdv A outer s H vs Q E hr h => ?_)
  · obtain ⟨is, x, rfl, _⟩ := h
    rfl
  · obtain ⟨is, x, rfl, k⟩ := h
    obtain ⟨z, gz, z1, z2⟩ := V.ones
    refine ⟨_, pss_cons (ps_if (pt_cmpR op_eq (pv 0) pe_str (nomark _)) pss_never pss_nil) (pss_one (ps_ret (pe_ix (show IxR _ (rIxD K w) from ix_kdict) (pe_glob (v := .ref z) (by rfl) gz rfl) (pv 0) (fun _ _ => rfl)))), ?_⟩
    cases is with
    | true => exact ⟨_, rfl, rfl, false, dn (by decide +kernel), iteF ⟨_, rfl, z, cost_, _, rfl, rfl, z1, k⟩⟩
    | false => exact ⟨_, rfl, rfl, false, dn (by decide +kernel), iteF ⟨_, rfl, z, trust_, _, rfl, rfl, z2, k⟩⟩
end
end K5


set_option Elab.async false
set_option linter.all false
set_option maxRecDepth 100000
set_option maxHeartbeats 4000000
namespace K5
open PySem L2 Nd Bk PySem.Spec PyProof.Rows
/-! dict(list or tuple of pairs, each a list or a tuple), texts for keys -/
def PairV (K : PySem.W.Frag) (H : Hp) (x : V) (g : Str × V) : Prop := ∃ T, x = .ref T ∧ (SqL K H T [.str g.1, g.2] ∨ SqT K H T [.str g.1, g.2])
def kvG (gs : List (Str × V)) : List (Key × V) := gs.map fun g => (.inr g.1, g.2)
theorem kvG_nodup {gs : List (Str × V)} (h : (gs.map (·.1)).Nodup) : ((kvG gs).map (·.1)).Nodup := by
  unfold kvG
  rw [List.map_map]
  have e : ((fun kv : Key × V => kv.1) ∘ fun g : Str × V => ((Sum.inr g.1 : Key), g.2)) = (fun x : Str => (Sum.inr x : Key)) ∘ fun g : Str × V => g.1 := rfl
  rw [e, ← List.map_map]
  rw [List.Nodup, List.pairwise_map]
  exact h.imp fun {a b} hab e => hab (Sum.inr.inj e)
section
variable {X : Cx}
theorem pairs_ofG {pins : List (Addr × Obj)} {σ : L2.St} {H : Hp} {s : Shared} (I : Inv X pins σ H s) : ∀ {gs : List (Str × V)} {xs : List V} {us : List Value}, Paired (PairV X.K H) xs gs → Vals xs us →
    ∃ (as : List Addr) (ps : List (Value × Value)) (prs : List (Key × Value)), us = as.map Value.ref ∧ KV (kvG gs) prs ∧ as.length = gs.length ∧ ps.length = gs.length ∧
      ∀ (j : Nat) (k v : Value), ps[j]? = some (k, v) → (∃ a, as[j]? = some a ∧ PairAt s.heap a k v) ∧ ∃ key, prs[j]? = some (key, v) ∧ (mixKind X.prog X.w).is key k = true
  | _, _, _, .nil, r => by
    cases r
    exact ⟨[], [], [], rfl, .nil, rfl, rfl, fun j k v e => by simp at e⟩
  | g :: _, _, _, .cons h1 h2, r => by
    cases r with
    | cons r1 r2 =>
      obtain ⟨as, ps, prs, rfl, kv, la, lp, hh⟩ := pairs_ofG I h2 r2
      obtain ⟨T, rfl, hs⟩ := h1
      cases r1
      have key : ∃ u y, PairAt s.heap T u y ∧ RelV (.str g.1) u ∧ RelV g.2 y := by
        rcases hs with hs | hs
        · obtain ⟨its, rv, pl, _⟩ := I.list hs
          obtain ⟨u, y, ei, ru, ry⟩ := vals2 rv
          subst ei
          exact ⟨u, y, .inr pl.isList, ru, ry⟩
        · obtain ⟨its, rv, ht, _⟩ := I.tuple hs
          obtain ⟨u, y, ei, ru, ry⟩ := vals2 rv
          subst ei
          exact ⟨u, y, .inl ht, ru, ry⟩
      obtain ⟨u, y, hp, ru, ry⟩ := key
      refine ⟨T :: as, (u, y) :: ps, (.inr g.1, y) :: prs, rfl, .cons ⟨rfl, ry⟩ kv, by simp [la], by simp [lp], fun j k v e => ?_⟩
      cases j with
      | zero =>
        simp only [List.getElem?_cons_zero, Option.some.injEq, Prod.mk.injEq] at e
        obtain ⟨rfl, rfl⟩ := e
        exact ⟨⟨T, rfl, hp⟩, .inr g.1, rfl, kV_is (P := X.prog) (w := X.w) ru⟩
      | succ j =>
        simp only [List.getElem?_cons_succ] at e ⊢
        exact hh j k v e
def rDictG (K : PySem.W.Frag) : List V → Hp → VK → Prop := fun xs H Q => ∃ (a : Addr) (ys : List V) (gs : List (Str × V)), xs = [.ref a] ∧ (SqL K H a ys ∨ (PlainT H a ∧ SqT K H a ys)) ∧ Paired (PairV K H) ys gs ∧ (gs.map (·.1)).Nodup ∧
    ∀ p, H p = none → Q (.ref p) (upd H p (.dK (kvG gs)))
theorem paired_len {α β : Type} {R : α → β → Prop} : ∀ {xs : List α} {ys : List β}, Paired R xs ys → xs.length = ys.length
  | _, _, .nil => rfl
  | _, _, .cons _ t => by simp [paired_len t]
theorem call_dictG (hcalm : X.calm = true) : CallR X (.type "dict") (rDictG X.K) := by
  intro pins s σ H xs us Q I r q
  obtain ⟨a, ys, gs, ex, hp, hd, hnd, q⟩ := q
  subst ex
  obtain ⟨u, eu, rx⟩ := vals1 r
  subst eu
  cases rx
  have tl : (kvG gs).length = gs.length := List.length_map ..
  have hl := paired_len hd
  rcases hp with hp | ⟨hp, hs⟩
  · obtain ⟨its, rv, pl, hz⟩ := I.list hp
    obtain ⟨as, ps, prs, rfl, kv, la, lp, hh⟩ := pairs_ofG I hd rv
    have pl' : prs.length = gs.length := by rw [← tl, kv.length]
    obtain ⟨o, n, ho, hc, hdd0, hdat⟩ := pl
    refine PySem.call_dict_pairs (knd := mixKind X.prog X.w) (kvs := prs) (PairArg.list a (as.map Value.ref).toArray (fun j => as.getD j 0) ps) (I.ok.hd hcalm) ⟨⟨o, n, ho, hc, hdd0, hdat⟩, by simp [la, lp], fun j k v e => ?_⟩ ⟨by rw [pl', lp], fun i key v e => ?_⟩ (by rw [lp, ← hl]; exact hz) fun h' tk hdd hkk => ?_
    · obtain ⟨⟨b, hb, hpa⟩, _⟩ := hh j k v e
      have e2 : as.getD j 0 = b := by rw [List.getD_eq_getElem?_getD, hb]; rfl
      show (List.map Value.ref as).toArray[j]? = some (Value.ref (as.getD j 0)) ∧ PairAt s.heap (as.getD j 0) k v
      rw [e2]
      exact ⟨by simp [hb], hpa⟩
    · obtain ⟨_, key', h1, h2⟩ := hh i key v e
      exact ⟨key', h1, h2⟩
    · have hm : (s.heap.objs.size == sysModules) = false := beq_eq_false_iff_ne.mpr (Nat.ne_of_gt I.big)
      have em : mergeK [] (kvG gs) = kvG gs := merge_snoc (k := .inl 0) (v := .non) (kvG gs) [] (by rw [List.nil_append]; exact kvG_nodup hnd)
      have mr := KV.merge kv (kvs := []) (vs := []) .nil
      rw [em] at mr
      refine ⟨.ref s.heap.objs.size, upd H s.heap.objs.size (.dK (kvG gs)), I.laid (t' := tk) (fun b o e => hkk b o (by simp) e) (Nat.le_refl _) (show ObjOk X.prog X.w _ _ _ (.dK (kvG gs)) from ⟨?_, hm, merged [] prs, mr, hdd⟩), rfl, q _ (I.hok.fresh (Nat.le_refl _))⟩
      rw [tl, ← hl]
      exact hz
  · obtain ⟨its, rv, ht, hz⟩ := I.tuple hs
    obtain ⟨as, ps, prs, rfl, kv, la, lp, hh⟩ := pairs_ofG I hd rv
    have pl' : prs.length = gs.length := by rw [← tl, kv.length]
    obtain ⟨o, zs, hH, ho⟩ := hp
    have hk : s.heap.get? a = some o := (show ObjOk X.prog X.w H s.heap a (.frz o (.tup zs)) from I.hok a _ hH).1
    obtain ⟨o', ho', hc', n', hd'⟩ := ht
    rw [hk] at ho'
    cases ho'
    refine PySem.call_dict_pairs (knd := mixKind X.prog X.w) (kvs := prs) (PairArg.tuple a (as.map Value.ref).toArray (fun j => as.getD j 0) ps) (I.ok.hd hcalm) ⟨⟨o, n', hk, hc', ho, hd'⟩, by simp [la, lp], fun j k v e => ?_⟩ ⟨by rw [pl', lp], fun i key v e => ?_⟩ (by rw [lp, ← hl]; exact hz) fun h' tk hdd hkk => ?_
    · obtain ⟨⟨b, hb, hpa⟩, _⟩ := hh j k v e
      have e2 : as.getD j 0 = b := by rw [List.getD_eq_getElem?_getD, hb]; rfl
      show (List.map Value.ref as).toArray[j]? = some (Value.ref (as.getD j 0)) ∧ PairAt s.heap (as.getD j 0) k v
      rw [e2]
      exact ⟨by simp [hb], hpa⟩
    · obtain ⟨_, key', h1, h2⟩ := hh i key v e
      exact ⟨key', h1, h2⟩
    · have hm : (s.heap.objs.size == sysModules) = false := beq_eq_false_iff_ne.mpr (Nat.ne_of_gt I.big)
      have em : mergeK [] (kvG gs) = kvG gs := merge_snoc (k := .inl 0) (v := .non) (kvG gs) [] (by rw [List.nil_append]; exact kvG_nodup hnd)
      have mr := KV.merge kv (kvs := []) (vs := []) .nil
      rw [em] at mr
      refine ⟨.ref s.heap.objs.size, upd H s.heap.objs.size (.dK (kvG gs)), I.laid (t' := tk) (fun b o e => hkk b o (by simp) e) (Nat.le_refl _) (show ObjOk X.prog X.w _ _ _ (.dK (kvG gs)) from ⟨?_, hm, merged [] prs, mr, hdd⟩), rfl, q _ (I.hok.fresh (Nat.le_refl _))⟩
      rw [tl, ← hl]
      exact hz
end
end K5


set_option Elab.async false
set_option linter.all false
set_option maxRecDepth 100000
set_option maxHeartbeats 8000000
namespace K5
open PySem L2 Nd Bk Gd
theorem sortK_mem {κ : Type} [DecidableEq κ] [Ky κ] {ks : List κ} (h : ks.Nodup) {z : κ} : z ∈ sortK ks ↔ z ∈ ks := by
  have := (sortK_ok ks [] (by simpa using h) List.Pairwise.nil).2.mem_iff (a := z)
  simpa [sortK] using this
theorem dd_mem : ∀ (l acc : List Str) {z : Str}, z ∈ l.foldl dd acc ↔ z ∈ acc ∨ z ∈ l
  | [], acc, z => by simp
  | t :: l, acc, z => by
    rw [List.foldl_cons, dd_mem l]
    unfold dd
    by_cases h : t ∈ acc
    · rw [if_pos h]
      constructor
      · rintro (a | a)
        · exact .inl a
        · exact .inr (List.mem_cons_of_mem _ a)
      · rintro (a | a)
        · exact .inl a
        · rcases List.mem_cons.mp a with rfl | a
          · exact .inl h
          · exact .inr a
    · rw [if_neg h]
      simp only [List.mem_append, List.mem_cons, List.not_mem_nil, or_false]
      constructor
      · rintro ((a | a) | a)
        · exact .inl a
        · exact .inr (.inl a)
        · exact .inr (.inr a)
      · rintro (a | a | a)
        · exact .inl (.inl a)
        · exact .inl (.inr a)
        · exact .inr a
theorem tokK_mem {p : Poly} {z : Str} (h : z ∈ tokK p) : ∃ t ∈ p, ∃ x ∈ t.1, x.1 = z := by
  rw [tokK_seen] at h
  have h := (sortK_mem (seen_nodup p)).mp h
  rcases (dd_mem _ _).mp h with h | h
  · cases h
  · obtain ⟨t, ht, hz⟩ := List.mem_flatMap.mp h
    obtain ⟨x, hx, e⟩ := List.mem_map.mp hz
    exact ⟨t, ht, x, hx, e⟩
def spNeed (K : PySem.W.Frag) : Sp := fun vs H Q _ => ∃ (T D : Addr) (zs : List Str) (kvs : List (Key × V)), vs = [.ref T, .ref D] ∧ SqT K H T (zs.map V.str) ∧ H D = some (.dK kvs) ∧ (∀ z ∈ zs, ∃ v, valV kvs (.inr z) = some v) ∧ Q .non H
def worthO (is : Bool) (σ : Str → Option Int) (m : Mono) : Option Int := m.foldl (fun a x => tmO is a (raO is x.2 (σ x.1))) (onO is)
def resO (is : Bool) (σ : Str → Option Int) (p : Poly) : Option Int := p.foldl (fun b t => plO is b (worthO is σ t.1)) (zeO is)
theorem nu_tm {is : Bool} {a b : Option Int} (ha : Nu is a) (hb : Nu is b) : Nu is (tmO is a b) := by
  intro e
  subst e
  obtain ⟨i, rfl⟩ := Option.isSome_iff_exists.mp (ha rfl)
  obtain ⟨j, rfl⟩ := Option.isSome_iff_exists.mp (hb rfl)
  rfl
theorem nu_pl {is : Bool} {a b : Option Int} (ha : Nu is a) (hb : Nu is b) : Nu is (plO is a b) := by
  intro e
  subst e
  obtain ⟨i, rfl⟩ := Option.isSome_iff_exists.mp (ha rfl)
  obtain ⟨j, rfl⟩ := Option.isSome_iff_exists.mp (hb rfl)
  rfl
theorem nu_ra {is : Bool} {a : Option Int} {e : Int} (ha : Nu is a) : Nu is (raO is e a) := by
  intro z
  subst z
  exact ha rfl
theorem nu_worth {is : Bool} {σ : Str → Option Int} {m : Mono} (h : ∀ x ∈ m, Nu is (σ x.1)) : Nu is (worthO is σ m) := by
  have key : ∀ (m : Mono) (a : Option Int), (∀ x ∈ m, Nu is (σ x.1)) → Nu is a → Nu is (m.foldl (fun a x => tmO is a (raO is x.2 (σ x.1))) a) := by
    intro m
    induction m with
    | nil => exact fun a _ h => h
    | cons x r ih => exact fun a h ha => ih _ (fun y hy => h y (List.mem_cons_of_mem _ hy)) (nu_tm ha (nu_ra (h x List.mem_cons_self)))
  exact key m _ h (fun e => by subst e; rfl)
theorem nu_res {is : Bool} {σ : Str → Option Int} {p : Poly} (h : ∀ t ∈ p, ∀ x ∈ t.1, Nu is (σ x.1)) : Nu is (resO is σ p) := by
  have key : ∀ (p : Poly) (a : Option Int), (∀ t ∈ p, ∀ x ∈ t.1, Nu is (σ x.1)) → Nu is a → Nu is (p.foldl (fun b t => plO is b (worthO is σ t.1)) a) := by
    intro p
    induction p with
    | nil => exact fun a _ h => h
    | cons t r ih => exact fun a h ha => ih _ (fun y hy => h y (List.mem_cons_of_mem _ hy)) (nu_pl ha (nu_worth (h t List.mem_cons_self)))
  exact key p _ h (fun e => by subst e; rfl)
theorem worth_take {is : Bool} {σ : Str → Option Int} {m : Mono} {j : Nat} {x : Str × Int} (e : m[j]? = some x) : worthO is σ (m.take (j + 1)) = tmO is (worthO is σ (m.take j)) (raO is x.2 (σ x.1)) := by
  unfold worthO
  rw [List.take_succ, e, List.foldl_append]
  rfl
theorem res_take {is : Bool} {σ : Str → Option Int} {p : Poly} {j : Nat} {t : Mono × Int} (e : p[j]? = some t) : resO is σ (p.take (j + 1)) = plO is (resO is σ (p.take j)) (worthO is σ t.1) := by
  unfold resO
  rw [List.take_succ, e, List.foldl_append]
  rfl
theorem dp_strs {K : PySem.W.Frag} {H : Hp} : ∀ {xs : List V} {zs : List Str}, DpAll K H xs (zs.map PyData.str) → xs = zs.map V.str
  | [], [], _ => rfl
  | _ :: _, [], h => by cases h
  | [], _ :: _, h => by cases h
  | x :: xs, z :: zs, h => by
    cases h with
    | cons h1 h2 => rw [dp_str h1, dp_strs h2]; rfl
/-- the pairs that are handed in -/
def GivenAt (K : PySem.W.Frag) (H : Hp) (v : V) (gs : List (Str × V)) : Prop := ∃ a ys, v = .ref a ∧ (SqL K H a ys ∨ (PlainT H a ∧ SqT K H a ys)) ∧ Paired (PairV K H) ys gs
/-- each token of p has a value there -/
def Has (gs : List (Str × V)) (is : Bool) (σ : Str → Option Int) (p : Poly) : Prop := ∀ t ∈ p, ∀ x ∈ t.1, valV (kvG gs) (.inr x.1) = some (ov (σ x.1)) ∧ Nu is (σ x.1)
def spVal (K : PySem.W.Frag) : Sp := fun vs H Q _ => ∃ (v g : V) (p : Poly) (is : Bool) (gs : List (Str × V)) (σ : Str → Option Int), vs = [v, .str (meas is), g] ∧ FD K H v (bD p) ∧ PZ p 8 8000 48 ∧ (tokK p).length ≤ 1000 ∧ GivenAt K H g gs ∧
  (gs.map (·.1)).Nodup ∧ Has gs is σ p ∧ ∀ H', Same H H' → Q (ov (resO is σ p)) H'
section
variable {P : Program} {w : World} {K : PySem.W.Frag} {mg : Str → Option Value} {base : Heap}
theorem scNeed : FnScope ["tokens", "values", "token"] ["tokens", "values"] (defScope sNeed) := ⟨rfl, rfl, rfl, by decide +kernel, rfl, by decide +kernel, by decide +kernel⟩
theorem ok_need {f : Addr} {fd : FuncData} (F : Fun K "need_all" "need_all" sNeed f fd) : FnOk P w K mg base CX0 1 f fd ["tokens", "values"] (spNeed K) := by
  refine F.ok scNeed (fun vs H Q E h => ?_) (fun cdv A outer s H vs Q E hr h => ?_)
  · obtain ⟨T, D, zs, kvs, rfl, _⟩ := h
    rfl
  · obtain ⟨T, D, zs, kvs, rfl, hT, hD, all, k⟩ := h
    refine ⟨_, pss_one (ps_for PassesOwn.never rfl (pi_tup (pv 0)) (pg_name (i := 2) scNeed.nd rfl (Or.inl rfl)) (pss_one (ps_if (pt_cmp (pc_dnotin (u1 hr) (pv 2) (pv 1))) (pss_one ps_never) pss_nil))), ?_⟩
    refine ⟨_, rfl, T, rfl, ⟨_, hT⟩, ?_⟩
    refine for_tup (K := K) (a := T) (xs := zs.map V.str) (fun i σ H2 => (∃ u, σ = [some (.ref T), some (.ref D), u]) ∧ H2 = H) ⟨⟨_, rfl⟩, rfl⟩ (fun i σ H2 _ ⟨_, e⟩ => by rw [e]; exact hT) ?_ ?_
    · rintro i x σ H2 hi ⟨⟨u, rfl⟩, rfl⟩
      rw [List.getElem?_map] at hi
      obtain ⟨z, hz, rfl⟩ := Option.map_eq_some_iff.mp hi
      obtain ⟨v, hv⟩ := all z (List.mem_of_getElem? hz)
      refine ⟨_, rfl, _, rfl, D, _, rfl, DGet.k (k := .inr z) hD, _, rfl, ?_⟩
      rw [hv]
      exact iteF ⟨⟨_, rfl⟩, rfl⟩
    · rintro σ H2 ⟨⟨u, rfl⟩, rfl⟩
      exact k
abbrev valN : List Str := ["p", "measure", "given", "values", "persons", "total", "monomial", "_", "worth", "token", "exponent"]
theorem scValued : FnScope valN ["p", "measure", "given"] (defScope sValued) := ⟨rfl, rfl, rfl, by decide +kernel, rfl, by decide +kernel, by decide +kernel⟩
theorem ok_valued {f : Addr} {fd : FuncData} (F : Fun K "valued" "valued" sValued f fd) (C : Cn K mg) (Gt : Df P w K mg base 1 "tokens_of" ["p"] (spTks K)) (Gn : Df P w K mg base 1 "need_all" ["tokens", "values"] (spNeed K)) (Gz : Df P w K mg base 1 "measured_zero" ["measure", "persons"] spMZero)
    (Go : Df P w K mg base 1 "measured_one" ["measure", "persons"] spMOne) (Gm : Df P w K mg base 2 "measured_times" ["measure", "a", "b"] spMTimes) (Gp : Df P w K mg base 2 "measured_plus" ["measure", "a", "b"] spMPlus)
    (Gr : Df P w K mg base 1 "_raised" ["measure", "value", "exponent"] spRaised) : FnOk P w K mg base CX0 3 f fd ["p", "measure", "given"] (spVal K) := by
  obtain ⟨ft, fdt, gT, kT, bT, GT⟩ := Gt.ok
  obtain ⟨fn, fdn, gN, kN, bN, GN⟩ := Gn.ok
  obtain ⟨fz, fdz, gZ, kZ, bZ, GZ⟩ := Gz.ok
  obtain ⟨fo, fdo, gO, kO, bO, GO⟩ := Go.ok
  obtain ⟨fm, fdm, gM, kM, bM, GM⟩ := Gm.ok
  obtain ⟨fp, fdp, gP, kP, bP, GP⟩ := Gp.ok
  obtain ⟨fr, fdr, gR, kR, bR, GR⟩ := Gr.ok
  refine F.ok scValued (fun vs H Q E h => ?_) (fun cdv A outer s H vs Q E hr h => ?_)
  · obtain ⟨v, g, p, is, gs, σ, rfl, _⟩ := h
    rfl
  · obtain ⟨v, g, p, is, gs, σ, rfl, hd, zp, htl, ⟨ga, gys, rfl, hg, hpg⟩, hnd, has, k⟩ := h
    have hr1 : Room 1 _ := hr.mono (by decide)
    have hr2 : Room 2 _ := hr
    refine ⟨_, pss_cons (ps_set (i := 3) scValued.nd rfl (Or.inl rfl) (pe_callTy (show CallR _ _ (rDictG K) from call_dictG rfl) (by rfl) C.dict (by rfl) (pa_cons (pv 2) pa_nil)))
      (pss_cons (ps_if (PW.pt (pw_and (pt_cmpR op_eq (pv 1) pe_str (nomark _)) pw_never)) (pss_one ps_never) pss_nil)
      (pss_cons (ps_expr (pe_call GN hr1 rfl gN kN bN .nil pass0 (pa_cons (pe_call GT hr1 rfl gT kT bT .nil pass0 (pa_cons (pv 0) pa_nil)) (pa_cons (pv 3) pa_nil))))
      (pss_cons (ps_if (pt_cmpR op_eq (pv 1) pe_str (nomark _)) pss_never pss_nil)
      (pss_cons (ps_set (i := 4) scValued.nd rfl (Or.inl rfl) (pe_dget1 (u1 hr) (pv 3) pe_str ⟨rfl, rfl, rfl, rfl⟩))
      (pss_cons (ps_set (i := 5) scValued.nd rfl (Or.inl rfl) (pe_call GZ hr1 rfl gZ kZ bZ .nil pass0 (pa_cons (pv 1) (pa_cons (pv 4) pa_nil))))
      (pss_cons (ps_for PassesOwn.never rfl (pi_seq (pv 0)) (pg_seq rfl (pgs_cons (pg_name (i := 6) scValued.nd rfl (Or.inl rfl)) (pgs_cons (pg_name (i := 7) scValued.nd rfl (Or.inl rfl)) pgs_nil)))
        (pss_cons (ps_set (i := 8) scValued.nd rfl (Or.inl rfl) (pe_call GO hr1 rfl gO kO bO .nil pass0 (pa_cons (pv 1) (pa_cons (pv 4) pa_nil))))
        (pss_cons (ps_for PassesOwn.never rfl (pi_seq (pv 6)) (pg_seq rfl (pgs_cons (pg_name (i := 9) scValued.nd rfl (Or.inl rfl)) (pgs_cons (pg_name (i := 10) scValued.nd rfl (Or.inl rfl)) pgs_nil)))
          (pss_one (ps_set (i := 8) scValued.nd rfl (Or.inl rfl) (pe_call GM hr2 rfl gM kM bM .nil pass0 (pa_cons (pv 1) (pa_cons (pv 8) (pa_cons (pe_call GR hr1 rfl gR kR bR .nil pass0 (pa_cons (pv 1) (pa_cons (pe_dget (u1 hr) (pv 3) (pv 9) (fun _ _ => rfl)) (pa_cons (pv 10) pa_nil)))) pa_nil)))))))
        (pss_one (ps_set (i := 5) scValued.nd rfl (Or.inl rfl) (pe_call GP hr2 rfl gP kP bP .nil pass0 (pa_cons (pv 1) (pa_cons (pv 5) (pa_cons (pv 8) pa_nil)))))))))
      (pss_one (ps_ret (pv 5))))))))), ?_⟩
    refine ⟨_, rfl, ga, gys, gs, rfl, hg, hpg, hnd, fun D nD => ?_⟩
    have s1 : Same H (upd H D (.dK (kvG gs))) := sm_new sm_refl nD
    have hD : upd H D (.dK (kvG gs)) D = some (.dK (kvG gs)) := upd_same
    generalize upd H D (.dK (kvG gs)) = H1 at s1 hD ⊢
    have mn : ∀ {z : Str}, z = Str.ofString "seen" ∨ z = Str.ofString "count" → meas is ≠ z := fun {z} h => by
      rcases h with rfl | rfl <;> cases is <;> decide +kernel
    refine ⟨_, rfl, rfl, false, dn (mn (.inl rfl)), iteF (iteF ?_)⟩
    refine ⟨_, rfl, v, p, rfl, hd.same s1, zp.ok, szd_of zp.ok (Nat.le_trans zp.len (by decide)) fun t ht => Int.le_trans (zp.dg t ht) (by decide), htl, fun vt H2 s2 ht => ?_⟩
    obtain ⟨T, zs, rfl, hT, hzs⟩ := dp_tup ht
    cases dp_strs hzs
    have hD2 := s2 _ _ hD
    have s02 := s1.trans s2
    refine ⟨_, rfl, T, D, tokK p, kvG gs, rfl, hT, hD2, fun z hz => ?_, ?_⟩
    · obtain ⟨t, ht, x, hx, rfl⟩ := tokK_mem hz
      exact ⟨_, (has t ht x hx).1⟩
    refine ⟨_, rfl, rfl, false, dn (mn (.inr rfl)), iteF ?_⟩
    refine ⟨_, rfl, D, rfl, .inl ⟨_, .inl hD2⟩, _, DGet.k (k := .inr (Str.ofString "")) hD2, ?_⟩
    generalize (valV (kvG gs) (.inr (Str.ofString ""))).getD V.non = pers
    refine ⟨_, rfl, _, rfl, is, pers, rfl, ?_⟩
    obtain ⟨a, xs, rfl, hs, hl, hget⟩ := fd_bag (hd.same s02)
    refine seq_go rfl hs fun J G walk hG => ?_
    refine for_it walk (fun i τ H3 => (∃ u6 u7 u8 u9 u10, τ = [some (.ref a), some (.str (meas is)), some (.ref ga), some (.ref D), some pers, some (ov (resO is σ (p.take i))), u6, u7, u8, u9, u10]) ∧ H3 = H2) ⟨⟨_, _, _, _, _, rfl⟩, rfl⟩ (fun i τ H3 _ ⟨_, e⟩ => by rw [e]; exact hG H2 id id) ?_ ?_
    · rintro i x τ H3 Hx hi ⟨⟨u6, u7, u8, u9, u10, rfl⟩, rfl⟩ ⟨rfl, hx⟩
      obtain ⟨t, hti, hxt⟩ := hget i x hx
      have htm := List.mem_of_getElem? hti
      obtain ⟨T2, kk, rfl, hT2, hk⟩ := fd_pair hxt
      obtain ⟨b, ys, rfl, hb, hbl, hbget⟩ := fd_bag (κ := Str) hk
      refine ⟨T2, _, rfl, hT2, rfl, _, _, rfl, _, _, rfl, rfl, ?_⟩
      refine ⟨_, rfl, _, rfl, is, pers, rfl, ?_⟩
      refine seq_go rfl hb fun J2 G2 walk2 hG2 => ?_
      refine for_it walk2 (fun j τ H4 => (∃ u9 u10, τ = [some (.ref a), some (.str (meas is)), some (.ref ga), some (.ref D), some pers, some (ov (resO is σ (p.take i))), some (.ref b), some (.int t.2), some (ov (worthO is σ (t.1.take j))), u9, u10]) ∧ H4 = Hx) ⟨⟨_, _, rfl⟩, rfl⟩ (fun j τ H4 _ ⟨_, e⟩ => by rw [e]; exact hG2 Hx id id) ?_ ?_
      · rintro j y τ H4 _ hj ⟨⟨u9, u10, rfl⟩, rfl⟩ ⟨rfl, hy⟩
        obtain ⟨q, hq, hyq⟩ := hbget j y hy
        have hqm := List.mem_of_getElem? hq
        obtain ⟨U, kk2, rfl, hU, hkk⟩ := fd_pair hyq
        cases fd_str (z := q.1) hkk
        obtain ⟨hv, hn⟩ := has t htm q hqm
        have e0 := ((zp.ok.2.2 t htm).2 q hqm)
        have e1 : q.2 ≤ S t.1 := S_mem (zp.ok.2.2 t htm).2 q hqm
        have e2 := zp.dg t htm
        refine ⟨U, _, rfl, hU, rfl, _, _, rfl, _, _, rfl, rfl, ?_⟩
        refine ⟨_, rfl, _, rfl, _, rfl, _, rfl, _, rfl, D, _, rfl, hv ▸ DGet.k (k := .inr q.1) hD2, _, rfl, is, σ q.1, q.2, rfl, by omega, by omega, ?_⟩
        refine ⟨is, worthO is σ (t.1.take j), raO is q.2 (σ q.1), rfl, nu_worth fun x hx => (has t htm x (List.mem_of_mem_take hx)).2, nu_ra hn, ?_⟩
        rw [← worth_take hq]
        exact ⟨⟨_, _, rfl⟩, rfl⟩
      · rintro τ H4 ⟨⟨u9, u10, rfl⟩, rfl⟩
        rw [hbl, List.take_length]
        refine ⟨_, rfl, _, rfl, _, rfl, is, resO is σ (p.take i), worthO is σ t.1, rfl, nu_res fun x hx y hy => (has x (List.mem_of_mem_take hx) y hy).2, nu_worth fun x hx => (has t htm x hx).2, ?_⟩
        rw [← res_take hti]
        exact ⟨⟨_, _, _, _, _, rfl⟩, rfl⟩
    · rintro τ H3 ⟨⟨u6, u7, u8, u9, u10, rfl⟩, rfl⟩
      rw [hl, List.take_length]
      exact ⟨_, rfl, k _ s02⟩
end
end K5


set_option Elab.async false
set_option linter.all false
set_option maxRecDepth 100000
set_option maxHeartbeats 8000000
namespace K5
open PySem L2 Nd Bk Gd
/-- a drawn value -/
def Dv (is : Bool) (o : Option Int) : Prop := Nu is o ∧ ∀ i, o = some i → 0 ≤ i ∧ i ≤ 1000000
def spDV : Sp := fun vs H Q _ => ∃ (b c : Addr) (ns : List Int) (is : Bool), vs = [.ref b, .bl is] ∧ BoxAt H b c ns ∧ ∀ (o : Option Int) (H' : Hp), Dv is o → BoxAt H' b c ns → But b H H' → Q (ov o) H'
theorem pick_ov {os : List (Option Int)} {j : Nat} (h : j < os.length) : ∃ o, (os.map ov)[j]? = some (ov o) ∧ o ∈ os := by
  refine ⟨os[j], ?_, List.getElem_mem h⟩
  rw [List.getElem?_map, List.getElem?_eq_getElem h]
  rfl
section
variable {P : Program} {w : World} {K : PySem.W.Frag} {mg : Str → Option Value} {base : Heap}
def spLeastO : Sp := fun vs H Q _ => ∃ a b : Option Int, vs = [ov a, ov b] ∧ Q (ov (leastO a b)) H
end
end K5


set_option Elab.async false
set_option linter.all false
set_option maxRecDepth 100000
set_option maxHeartbeats 8000000
namespace K5
open PySem L2 Nd Bk Gd
def spLRes (K : PySem.W.Frag) (is : Bool) : Sp := fun vs H Q _ => ∃ (v : V) (D : Addr) (p : Poly) (gs : List (Str × V)) (σ : Str → Option Int), vs = [v, .ref D] ∧ Dp K H v (bD p) ∧ PZ p 8 8000 48 ∧ H D = some (.dK (kvG gs)) ∧ Has gs is σ p ∧ Q (ov (resO is σ p)) H
section
variable {P : Program} {w : World} {K : PySem.W.Frag} {mg : Str → Option Value} {base : Heap}
end
end K5


set_option Elab.async false
set_option linter.all false
set_option maxRecDepth 100000
set_option maxHeartbeats 8000000
namespace K5
open PySem L2 Nd Bk Gd
theorem valG_none {l : List (Str × V)} {z : Str} (h : z ∉ l.map (·.1)) : valV (kvG l) (.inr z) = none := by
  unfold valV kvG
  rw [Option.map_eq_none_iff, List.find?_eq_none]
  intro q hq
  obtain ⟨g, hg, rfl⟩ := List.mem_map.mp hq
  intro e
  exact h (List.mem_map.mpr ⟨g, hg, Sum.inr.inj (of_decide_eq_true e)⟩)
theorem valG_mem : ∀ {l : List (Str × V)} {z : Str} {v : V}, (l.map (·.1)).Nodup → (z, v) ∈ l → valV (kvG l) (.inr z) = some v
  | [], z, v, _, h => by cases h
  | g :: l, z, v, nd, h => by
    rw [List.map_cons, List.nodup_cons] at nd
    unfold valV kvG
    rw [List.map_cons, List.find?_cons]
    by_cases e : g.1 = z
    · have e' : decide ((Sum.inr g.1 : Key) = .inr z) = true := by rw [e]; exact decide_eq_true rfl
      rw [e']
      rcases List.mem_cons.mp h with h | h
      · rw [← h]
        rfl
      · exact absurd (List.mem_map.mpr ⟨_, h, rfl⟩ : z ∈ l.map (·.1)) (by rw [← e]; exact nd.1)
    · have e' : decide ((Sum.inr g.1 : Key) = .inr z) = false := decide_eq_false fun q => e (Sum.inr.inj q)
      rw [e']
      rcases List.mem_cons.mp h with h | h
      · exact absurd (by rw [← h]) e
      · exact valG_mem nd.2 h
theorem kvG_step {l : List (Str × V)} {i : Nat} {g : Str × V} (nd : (l.map (·.1)).Nodup) (h : l[i]? = some g) : putK (kvG (l.take i)) (.inr g.1) g.2 = kvG (l.take (i + 1)) := by
  have hn : g.1 ∉ (l.take i).map (·.1) := fun q => by
    obtain ⟨x, hx, e⟩ := List.mem_map.mp q
    obtain ⟨j, hj, ex⟩ := List.getElem_of_mem hx
    rw [List.length_take] at hj
    have h1 : (l.map (·.1))[j]? = some g.1 := by
      rw [List.getElem?_map, ← e, ← ex, List.getElem_take, List.getElem?_eq_getElem (by omega)]
      rfl
    have h2 : (l.map (·.1))[i]? = some g.1 := by rw [List.getElem?_map, h]; rfl
    have := (List.getElem?_inj (by rw [List.length_map]; omega) nd).mp (h1.trans h2.symm)
    omega
  rw [putK_new _ (valG_none hn)]
  unfold kvG
  rw [List.take_succ, h, List.map_append]
  rfl
theorem paired_get {α β : Type} {R : α → β → Prop} : ∀ {xs : List α} {ys : List β}, Paired R xs ys → ∀ {i : Nat} {x : α}, xs[i]? = some x → ∃ y, ys[i]? = some y ∧ R x y
  | _, _, .cons h t, 0, x, e => by
    simp only [List.getElem?_cons_zero, Option.some.injEq] at e
    exact ⟨_, rfl, e ▸ h⟩
  | _, _, .cons h t, i + 1, x, e => by
    simp only [List.getElem?_cons_succ] at e ⊢
    exact paired_get t e
theorem PairV.same {K : PySem.W.Frag} {H H' : Hp} {x : V} {g : Str × V} (s : Same H H') (h : PairV K H x g) : PairV K H' x g := let ⟨T, e, q⟩ := h; ⟨T, e, sq_same s q⟩
def spDue (K : PySem.W.Frag) : Sp := fun vs H Q _ => ∃ (v : V) (l : Addr) (ys : List V) (p : Poly) (is : Bool) (gs : List (Str × V)) (σ : Str → Option Int), vs = [v, .ref l, .bl is] ∧ Dp K H v (bD p) ∧ PZ p 8 8000 48 ∧ (SqL K H l ys ∨ SqT K H l ys) ∧ Paired (PairV K H) ys gs ∧
  (gs.map (·.1)).Nodup ∧ gs.length ≤ 1000 ∧ Has gs is σ p ∧ ∀ H', Same H H' → Q (ov (resO is σ p)) H'
section
variable {P : Program} {w : World} {K : PySem.W.Frag} {mg : Str → Option Value} {base : Heap}
end
end K5


set_option Elab.async false
set_option linter.all false
set_option maxRecDepth 100000
set_option maxHeartbeats 8000000
namespace K5
open PySem L2 Nd Bk Gd
def encG (g : Str × PyData) : PyData := .tuple [.str g.1, g.2]
def perD : PyData := .tuple [.str (Str.ofString "ann"), .str (Str.ofString "bob")]
/-- a value that may be handed in -/
def GV (d : PyData) : Prop := (∃ o, d = oD o ∧ ∀ i, o = some i → 0 ≤ i ∧ i ≤ 1000001) ∨ d = perD
structure GOk (is : Bool) (p : Poly) (ds : List (Str × PyData)) : Prop where
  nd : (ds.map (·.1)).Nodup
  len : ds.length ≤ 1000
  val : ∃ σ : Str → Option Int, ∀ t ∈ p, ∀ x ∈ t.1, (x.1, oD (σ x.1)) ∈ ds ∧ Nu is (σ x.1)
  shw : ∀ g ∈ ds, (shT g.1 = true ∨ g.1 = Str.ofString "") ∧ GV g.2
theorem tu_oD : ∀ o : Option Int, tupOnly (oD o) = true
  | none => rfl
  | some _ => rfl
theorem tu_perD : tupOnly perD = true := rfl
theorem GV.tu {d : PyData} (h : GV d) : tupOnly d = true := by
  rcases h with ⟨o, rfl, _⟩ | rfl
  · exact tu_oD o
  · rfl
theorem tu_encG {g : Str × PyData} (h : GV g.2) : tupOnly (encG g) = true := by
  show tupOnlyAll [.str g.1, g.2] = true
  simp [tupOnlyAll, tupOnly, h.tu]
def spGiven (K : PySem.W.Frag) : Sp := fun vs H Q _ => ∃ (b c : Addr) (ns : List Int) (v : V) (p : Poly) (is : Bool), vs = [.ref b, v, .bl is] ∧ BoxAt H b c ns ∧ Dp K H v (bD p) ∧ PB p ∧
  ∀ (l : Addr) (ys : List V) (ds : List (Str × PyData)) (H' : Hp), l ≠ b → BoxAt H' b c ns → But b H H' → H' l = some (.lst ys) → DpAll K H' ys (ds.map encG) → GOk is p ds → Q (.ref l) H'
/-- a function from pairs -/
def atD (l : List (Str × Option Int)) (z : Str) : Option Int := ((l.find? fun g => decide (g.1 = z)).map (·.2)).getD (some 0)
theorem atD_mem : ∀ {l : List (Str × Option Int)} {z : Str}, z ∈ l.map (·.1) → (z, atD l z) ∈ l
  | [], z, h => by cases h
  | g :: l, z, h => by
    unfold atD
    rw [List.find?_cons]
    by_cases e : g.1 = z
    · rw [decide_eq_true e]
      rw [← e]
      exact List.mem_cons_self
    · rw [decide_eq_false e]
      rw [List.map_cons] at h
      rcases List.mem_cons.mp h with q | q
      · exact absurd q.symm e
      · exact List.mem_cons_of_mem _ (atD_mem q)
/-- what is drawn for the names, in any sequence, and the persons -/
theorem gok_of {is : Bool} {p : Poly} {os : List (Str × Option Int)} {ds : List (Str × PyData)} (hp : ds.Perm (os.map fun g => (g.1, oD g.2)) ∨ ds.Perm ((Str.ofString "", perD) :: os.map fun g => (g.1, oD g.2))) (nd : (os.map (·.1)).Nodup) (hl : os.length ≤ 990)
    (all : ∀ t ∈ p, ∀ x ∈ t.1, x.1 ∈ os.map (·.1)) (dv : ∀ g ∈ os, shT g.1 = true ∧ Nu is g.2 ∧ ∀ i, g.2 = some i → 0 ≤ i ∧ i ≤ 1000001) : GOk is p ds := by
  have key : (os.map fun g => (g.1, oD g.2)).map (·.1) = os.map (·.1) := by rw [List.map_map]; rfl
  have nd0 : ((os.map fun g => (g.1, oD g.2)).map (·.1)).Nodup := by rw [key]; exact nd
  have sub : ∀ g ∈ (os.map fun g => (g.1, oD g.2)), g ∈ ds := fun g hg => hp.elim (fun q => q.mem_iff.mpr hg) fun q => q.mem_iff.mpr (List.mem_cons_of_mem _ hg)
  have ne : Str.ofString "" ∉ (os.map fun g => (g.1, oD g.2)).map (·.1) := fun q => by
    rw [key] at q
    obtain ⟨g, hg, e⟩ := List.mem_map.mp q
    exact shT_ne (dv g hg).1 e
  refine ⟨?_, ?_, ⟨atD os, fun t ht x hx => ?_⟩, fun g hg => ?_⟩
  · rcases hp with q | q
    · exact (q.map (·.1)).nodup_iff.mpr nd0
    · exact (q.map (·.1)).nodup_iff.mpr (List.nodup_cons.mpr ⟨ne, nd0⟩)
  · rcases hp with q | q
    · rw [q.length_eq, List.length_map]; omega
    · rw [q.length_eq, List.length_cons, List.length_map]; omega
  · have h := atD_mem (all t ht x hx)
    exact ⟨sub _ (List.mem_map.mpr ⟨_, h, rfl⟩), (dv _ h).2.1⟩
  · have h : g = (Str.ofString "", perD) ∨ g ∈ (os.map fun g => (g.1, oD g.2)) := hp.elim (fun q => .inr (q.mem_iff.mp hg)) fun q => List.mem_cons.mp (q.mem_iff.mp hg)
    rcases h with rfl | h
    · exact ⟨.inr rfl, .inr rfl⟩
    · obtain ⟨o, ho, rfl⟩ := List.mem_map.mp h
      exact ⟨.inl (dv o ho).1, .inl ⟨o.2, rfl, (dv o ho).2.2⟩⟩
theorem tokK_all {p : Poly} {t : Mono × Int} {x : Str × Int} (ht : t ∈ p) (hx : x ∈ t.1) : x.1 ∈ tokK p := by
  rw [tokK_seen]
  refine (sortK_mem (seen_nodup p)).mpr ((dd_mem _ _).mpr (.inr (List.mem_flatMap.mpr ⟨t, ht, List.mem_map.mpr ⟨x, hx, rfl⟩⟩)))
theorem tokK_nodup (p : Poly) : (tokK p).Nodup := by
  rw [tokK_seen]
  have h := (sortK_ok (seen p) [] (by simpa using seen_nodup p) List.Pairwise.nil).2
  exact h.nodup_iff.mpr (by simpa using seen_nodup p)
theorem tokK_sh {p : Poly} (h : PB p) : ∀ z ∈ tokK p, shT z = true := fun z hz => by
  obtain ⟨t, ht, x, hx, rfl⟩ := tokK_mem hz
  exact h.tk t ht x hx
end K5


set_option Elab.async false
set_option linter.all false
set_option maxRecDepth 100000
set_option maxHeartbeats 8000000
namespace K5
open PySem L2 Nd Bk Gd
def encO (g : Str × Option Int) : PyData := encG (g.1, oD g.2)
theorem encO_map (os : List (Str × Option Int)) : os.map encO = (os.map fun g => (g.1, oD g.2)).map encG := by rw [List.map_map]; rfl
theorem tu_encO (g : Str × Option Int) : tupOnly (encO g) = true := by
  show tupOnlyAll [.str g.1, oD g.2] = true
  simp [tupOnlyAll, tupOnly, tu_oD]
theorem tu_encOs (os : List (Str × Option Int)) : tupOnlyAll (os.map encO) = true := tupOnlyAll_of fun d hd => by
  obtain ⟨g, _, rfl⟩ := List.mem_map.mp hd
  exact tu_encO g
theorem dpAll_erase {K : PySem.W.Frag} {H : Hp} : ∀ {xs : List V} {ds : List PyData} (k : Nat), DpAll K H xs ds → DpAll K H (xs.eraseIdx k) (ds.eraseIdx k)
  | _, _, _, .nil => .nil
  | _, _, 0, .cons h t => t
  | _, _, k + 1, .cons h t => .cons h (dpAll_erase k t)
theorem dp_encO {K : PySem.W.Frag} {H : Hp} {T : Addr} {g : Str × Option Int} (h : SqT K H T [.str g.1, ov g.2]) : Dp K H (.ref T) (encO g) := .tup h (.cons (.str _) (.cons (dp_ov _) .nil))
def rLenS (K : PySem.W.Frag) : List V → Hp → VK → Prop := fun xs H Q => ∃ p ys, xs = [V.ref p] ∧ (SqL K H p ys ∨ SqT K H p ys) ∧ Q (.int ys.length) H
/-- the parts of what is drawn for the names nm -/
structure Nam (p : Poly) (nm : List Str) (n : Nat) : Prop where
  nd : nm.Nodup
  all : ∀ z ∈ tokK p, z ∈ nm
  sh : ∀ z ∈ nm, shT z = true
  len : nm.length ≤ n
theorem erase_one {α : Type} : ∀ (l : List α) (i : Nat) (y : α), l[i]? = some y → (y :: l.eraseIdx i).Perm l
  | [], i, y, h => by simp at h
  | x :: l, 0, y, h => by
    simp only [List.getElem?_cons_zero, Option.some.injEq] at h
    subst h
    exact List.Perm.refl _
  | x :: l, i + 1, y, h => by
    simp only [List.getElem?_cons_succ] at h
    exact (List.Perm.swap x y _).trans ((erase_one l i y h).cons x)
theorem erase_perm {α : Type} {fo lo : List α} {k : Nat} {y : α} (h : lo[k]? = some y) : (fo ++ [y] ++ lo.eraseIdx k).Perm (fo ++ lo) := by
  rw [List.append_assoc, List.singleton_append]
  exact List.Perm.append_left fo (erase_one lo k y h)
theorem erase_map {α β : Type} (f : α → β) : ∀ (l : List α) (k : Nat), (l.map f).eraseIdx k = (l.eraseIdx k).map f
  | [], _ => by simp
  | _ :: _, 0 => rfl
  | a :: l, k + 1 => by
    show f a :: (l.map f).eraseIdx k = f a :: (l.eraseIdx k).map f
    rw [erase_map f l k]
theorem but_free {b L : Addr} {H H4 : Hp} (k : But b H H4) (n : H4 L = none) (ne : L ≠ b) : H L = none := by
  cases e : H L with
  | none => rfl
  | some o =>
    rw [k L o e ne] at n
    cases n
theorem dpO_get {K : PySem.W.Frag} {H : Hp} {xs : List V} {os : List (Str × Option Int)} (h : DpAll K H xs (os.map encO)) {i : Nat} {x : V} (e : xs[i]? = some x) : ∃ g, os[i]? = some g ∧ Dp K H x (encO g) := by
  obtain ⟨d, h1, h2⟩ := dpAll_get h e
  rw [List.getElem?_map] at h1
  obtain ⟨g, hg, rfl⟩ := Option.map_eq_some_iff.mp h1
  exact ⟨g, hg, h2⟩
theorem ins_perm {α : Type} (l : List α) (i : Nat) (x : α) : (l.take i ++ [x] ++ l.drop i).Perm (x :: l) := by
  rw [List.append_assoc, List.singleton_append]
  refine List.perm_middle.trans ?_
  rw [List.take_append_drop]
section
variable {P : Program} {w : World} {K : PySem.W.Frag} {mg : Str → Option Value} {base : Heap}
abbrev givN : List Str := ["box", "p", "values", "names", "k", "token", "left", "found"]
end
end K5


set_option Elab.async false
set_option linter.all false
set_option maxRecDepth 100000
set_option maxHeartbeats 8000000
namespace K5
open PySem L2 Nd Bk Gd PySem.ExE
theorem PB.zz {p : Poly} (h : PB p) : PZ p 8 8000 48 := ⟨h.ok, h.len, h.sz, h.dg⟩
theorem PB.szd {p : Poly} (h : PB p) : Szd p := szd_of h.ok (Nat.le_trans h.len (by decide)) fun t ht => Int.le_trans (h.dg t ht) (by decide)
theorem fd_oD {K : PySem.W.Frag} {H : Hp} {v : V} {o : Option Int} (h : FD K H v (oD o)) : v = ov o := by
  obtain ⟨d', h, e⟩ := h
  cases o with
  | none =>
    cases d' <;> simp [flat, oD] at e
    cases h
    rfl
  | some i => exact fd_int ⟨d', h, e⟩
/-- the pairs as names and values -/
theorem pairs_mk {K : PySem.W.Frag} {H : Hp} : ∀ {ys : List V} {ds : List (Str × PyData)}, ys.length = ds.length → (∀ (i : Nat) (x : V), ys[i]? = some x → ∃ g, ds[i]? = some g ∧ FD K H x (encG g)) →
    ∃ gs : List (Str × V), Paired (PairV K H) ys gs ∧ Paired (fun (g : Str × V) (d : Str × PyData) => g.1 = d.1 ∧ FD K H g.2 d.2) gs ds
  | [], [], _, _ => ⟨[], .nil, .nil⟩
  | _ :: _, [], h, _ => by simp at h
  | [], _ :: _, h, _ => by simp at h
  | x :: ys, d :: ds, h, get => by
    obtain ⟨gs, h1, h2⟩ := pairs_mk (by simpa using h) (fun i x hx => get (i + 1) x hx)
    obtain ⟨g, hg, hx⟩ := get 0 x rfl
    simp only [List.getElem?_cons_zero, Option.some.injEq] at hg
    subst hg
    obtain ⟨T, zs, rfl, sq, len, zget⟩ := fd_seq hx
    match zs, len with
    | [u, y], _ =>
      obtain ⟨e, he, q1⟩ := zget 0 u rfl
      obtain ⟨e2, he2, q2⟩ := zget 1 y rfl
      simp only [List.getElem?_cons_zero, Option.some.injEq] at he
      simp only [List.getElem?_cons_succ, List.getElem?_cons_zero, Option.some.injEq] at he2
      subst he he2
      cases fd_str q1
      exact ⟨(d.1, y) :: gs, .cons ⟨T, rfl, sq⟩ h1, .cons ⟨rfl, q2⟩ h2⟩
theorem paired_keys {K : PySem.W.Frag} {H : Hp} : ∀ {gs : List (Str × V)} {ds : List (Str × PyData)}, Paired (fun (g : Str × V) (d : Str × PyData) => g.1 = d.1 ∧ FD K H g.2 d.2) gs ds → gs.map (·.1) = ds.map (·.1)
  | _, _, .nil => rfl
  | _, _, .cons h t => by rw [List.map_cons, List.map_cons, h.1, paired_keys t]
theorem paired_val {K : PySem.W.Frag} {H : Hp} {z : Str} {o : Option Int} : ∀ {gs : List (Str × V)} {ds : List (Str × PyData)}, Paired (fun (g : Str × V) (d : Str × PyData) => g.1 = d.1 ∧ FD K H g.2 d.2) gs ds → (z, oD o) ∈ ds → (z, ov o) ∈ gs
  | _, _, .nil, m => by cases m
  | _, _, .cons (a := g) h t, m => by
    rcases List.mem_cons.mp m with e | m
    · rw [← e] at h
      obtain ⟨e1, e2⟩ := h
      have e3 := fd_oD e2
      have : g = (z, ov o) := Prod.ext e1 e3
      rw [this]
      exact List.mem_cons_self
    · exact List.mem_cons_of_mem _ (paired_val t m)
/-- what is handed in tells what is asked -/
theorem given_has {K : PySem.W.Frag} {H : Hp} {is : Bool} {p : Poly} {ys : List V} {ds : List (Str × PyData)} {σ : Str → Option Int} (nd : (ds.map (·.1)).Nodup) (val : ∀ t ∈ p, ∀ x ∈ t.1, (x.1, oD (σ x.1)) ∈ ds ∧ Nu is (σ x.1)) (hl : ys.length = ds.length)
    (get : ∀ (i : Nat) (x : V), ys[i]? = some x → ∃ g, ds[i]? = some g ∧ FD K H x (encG g)) : ∃ gs : List (Str × V), Paired (PairV K H) ys gs ∧ (gs.map (·.1)).Nodup ∧ gs.length = ds.length ∧ Has gs is σ p := by
  obtain ⟨gs, h1, h2⟩ := pairs_mk hl get
  have hk := paired_keys h2
  refine ⟨gs, h1, by rw [hk]; exact nd, paired_len h2, fun t ht x hx => ⟨?_, (val t ht x hx).2⟩⟩
  exact valG_mem (by rw [hk]; exact nd) (paired_val h2 (val t ht x hx).1)
theorem dps_get {K : PySem.W.Frag} {H : Hp} {ys : List V} {ds : List (Str × PyData)} (h : DpAll K H ys (ds.map encG)) (gv : ∀ g ∈ ds, GV g.2) : ys.length = ds.length ∧ ∀ (i : Nat) (x : V), ys[i]? = some x → ∃ g, ds[i]? = some g ∧ FD K H x (encG g) := by
  refine ⟨by rw [dpAll_len h, List.length_map], fun i x hx => ?_⟩
  obtain ⟨d, h1, h2⟩ := dpAll_get h hx
  rw [List.getElem?_map] at h1
  obtain ⟨g, hg, rfl⟩ := Option.map_eq_some_iff.mp h1
  exact ⟨g, hg, FD.of h2 (tu_encG (gv g (List.mem_of_getElem? hg)))⟩
theorem fds_get {K : PySem.W.Frag} {H : Hp} {a : Addr} {ds : List (Str × PyData)} (h : FD K H (.ref a) (.tuple (ds.map encG))) : ∃ ys, (SqL K H a ys ∨ SqT K H a ys) ∧ ys.length = ds.length ∧ ∀ (i : Nat) (x : V), ys[i]? = some x → ∃ g, ds[i]? = some g ∧ FD K H x (encG g) := by
  obtain ⟨a', ys, e, sq, len, get⟩ := fd_seq h
  cases e
  refine ⟨ys, sq, by rw [len, List.length_map], fun i x hx => ?_⟩
  obtain ⟨d, h1, h2⟩ := get i x hx
  rw [List.getElem?_map] at h1
  obtain ⟨g, hg, rfl⟩ := Option.map_eq_some_iff.mp h1
  exact ⟨g, hg, h2⟩
theorem ak_ov {K : PySem.W.Frag} {H : Hp} {n : Nat} : ∀ {o : Option Int}, Alike K H n (ov o) (ov o)
  | none => by cases n with
    | zero => exact ⟨rfl, trivial⟩
    | succ n => exact .inl ⟨rfl, trivial⟩
  | some i => by cases n with
    | zero => exact ⟨rfl, trivial⟩
    | succ n => exact .inl ⟨rfl, trivial⟩
theorem Shw.flat {d d' : PyData} {c n : Nat} (e : K5.flat d' = d) (h : Shw d c n) : Shw d' c n := by
  obtain ⟨h1, h2, h3⟩ := flat_short d'
  exact ⟨by rw [h1, e]; exact h.sh, by rw [h2, e]; exact h.co, by rw [h3, e]; exact h.de⟩
theorem shw_GV {d : PyData} (h : GV d) : Shw d 227 2 := by
  rcases h with ⟨o, rfl, ho⟩ | rfl
  · cases o with
    | none => exact ⟨by simp [oD, shortD], by simp [oD, cost], by simp [oD, PyData.depth]⟩
    | some i =>
      have b := (by decide +kernel : (1000002 : Int) < 10 ^ 105)
      have := ho i rfl
      exact (shw_int this.1 (by omega)).weak (by decide) (by decide)
  · refine (shw_tup (l := 2) (c := 110) (n := 1) (by decide) fun d hd => ?_).weak (by decide) (by decide)
    simp only [List.mem_cons, List.not_mem_nil, or_false] at hd
    rcases hd with rfl | rfl
    · exact shw_str (by decide +kernel)
    · exact shw_str (by decide +kernel)
theorem shw_encG {g : Str × PyData} (h1 : shT g.1 = true ∨ g.1 = Str.ofString "") (h2 : GV g.2) : Shw (encG g) 461 3 := by
  refine (shw_tup (l := 2) (c := 227) (n := 2) (by show 2 ≤ 2; decide) fun d hd => ?_).weak (by decide) (by decide)
  simp only [List.mem_cons, List.not_mem_nil, or_false] at hd
  rcases hd with rfl | rfl
  · rcases h1 with h1 | h1
    · exact (shw_str h1).weak (by decide) (by decide)
    · rw [h1]
      exact ⟨by decide +kernel, by simp [cost], by simp [PyData.depth]⟩
  · exact shw_GV h2
theorem shw_pairs {ds : List (Str × PyData)} (hl : ds.length ≤ 1000) (h : ∀ g ∈ ds, (shT g.1 = true ∨ g.1 = Str.ofString "") ∧ GV g.2) : Shw (.tuple (ds.map encG)) 1000000 20 := by
  refine (shw_tup (l := 1000) (c := 461) (n := 3) (by rw [List.length_map]; exact hl) fun d hd => ?_).weak (by decide) (by decide)
  obtain ⟨g, hg, rfl⟩ := List.mem_map.mp hd
  exact shw_encG (h g hg).1 (h g hg).2
theorem okd_oD (o : Option Int) : Sc (oD o) := by
  cases o with
  | none => exact .non
  | some i => exact .int i
theorem okd_pairs {ds : List (Str × PyData)} (hl : ds.length ≤ 1000) (h : ∀ g ∈ ds, GV g.2) : Okd 4 (.tuple (ds.map encG)) := by
  refine okd_more (.inr (.inr ⟨_, rfl, by rw [List.length_map]; exact hl, fun e he => ?_⟩))
  obtain ⟨g, hg, rfl⟩ := List.mem_map.mp he
  refine .inr (.inr ⟨_, rfl, by show 2 ≤ 1000; decide, fun e he => ?_⟩)
  simp only [List.mem_cons, List.not_mem_nil, or_false] at he
  rcases he with rfl | rfl
  · exact .inr (.inl ⟨_, rfl⟩)
  · rcases h g hg with ⟨o, e, _⟩ | e
    · rw [e]
      exact .inl (okd_oD o)
    · rw [e]
      refine .inr (.inr ⟨_, rfl, by show 2 ≤ 1000; decide, fun e he => ?_⟩)
      simp only [List.mem_cons, List.not_mem_nil, or_false] at he
      rcases he with rfl | rfl <;> exact .inr ⟨_, rfl⟩
theorem dpAll_rev {K : PySem.W.Frag} {H : Hp} : ∀ {xs : List V} {ds : List PyData}, DpAll K H xs ds → DpAll K H xs.reverse ds.reverse
  | _, _, .nil => .nil
  | _, _, .cons h t => by
    rw [List.reverse_cons, List.reverse_cons]
    exact dpAll_append (dpAll_rev t) (.cons h .nil)
/-- keywords of three, told the other way round -/
def rv3 {α : Type} (us : List α) (l : List α) : List α := match us, l with
  | [], [a, b, c] => [c, b, a]
  | _, _ => []
theorem kb_rv3 {K : PySem.W.Frag} {st : Stmt} {f : Addr} {fd : FuncData} {x y1 y2 y3 : Str} (F : Fun K x x st f fd)
    (h : ∀ (kV doc pm : Value) (an : Option Addr) (cdv ct : Value) (a b c : Value), bindArgs (PySem.W.fnOf x x (defArgs st) (defBody st) (defScope st) .none kV doc pm an cdv ct) ⟨[], [(y3, a), (y2, b), (y1, c)]⟩ = pure [(y1, c), (y2, b), (y3, a)]) : KBinds K fd [y1, y2, y3] [y3, y2, y1] rv3 rv3 := by
  obtain ⟨oc, od, kV, doc, pm, an, cdv, ct, osl, rfl, lk, hcd⟩ := F.ex
  refine ⟨fun s us ws _ hl => ?_, fun {vs us zs ws} r1 r2 => ?_⟩
  · match us, ws, hl with
    | [], [a, b, c], _ => exact .of_eq (h kV doc pm an cdv ct a b c)
    | [], [], hl => simp [rv3] at hl
    | [], [_], hl => simp [rv3] at hl
    | [], [_, _], hl => simp [rv3] at hl
    | [], _ :: _ :: _ :: _ :: _, hl => simp [rv3] at hl
    | _ :: _, _, hl => simp [rv3] at hl
  · cases r1 with
    | nil =>
      cases r2 with
      | nil => exact .nil
      | cons a b =>
        cases b with
        | nil => exact .nil
        | cons c d =>
          cases d with
          | nil => exact .nil
          | cons e g =>
            cases g with
            | nil => exact .cons e (.cons c (.cons a .nil))
            | cons _ _ => exact .nil
    | cons _ _ => exact .nil
end K5


set_option Elab.async false
set_option linter.all false
set_option maxRecDepth 100000
set_option maxHeartbeats 8000000
namespace K5
open PySem L2 Nd Bk Gd PySem.ExE
def spVR (K : PySem.W.Frag) : Sp := fun vs H Q _ => ∃ (b c : Addr) (ns : List Int) (v : V) (p : Poly) (l : Addr) (ys : List V) (ds : List (Str × PyData)) (is : Bool), vs = [.ref b, v, .ref l, .bl is] ∧ BoxAt H b c ns ∧ Dp K H v (bD p) ∧ PB p ∧ l ≠ b ∧ H l = some (.lst ys) ∧
  DpAll K H ys (ds.map encG) ∧ GOk is p ds ∧ ∀ H', BoxAt H' b c ns → But b H H' → Q (.bl true) H'
theorem tu_encGs {ds : List (Str × PyData)} (h : ∀ g ∈ ds, GV g.2) : tupOnlyAll (ds.map encG) = true := tupOnlyAll_of fun d hd => by
  obtain ⟨g, hg, rfl⟩ := List.mem_map.mp hd
  exact tu_encG (h g hg)
theorem fp_pairs {K : PySem.W.Frag} {H : Hp} {av : List Addr} {a : Addr} {d' : PyData} {ds : List (Str × PyData)} (h : Fp K H av (.ref a) d') (e : flat d' = .tuple (ds.map encG)) (top : Top H (.ref a) d') :
    ∃ zs, (SqL K H a zs ∨ (PlainT H a ∧ SqT K H a zs)) ∧ zs.length = ds.length ∧ ∀ (i : Nat) (x : V), zs[i]? = some x → ∃ g, ds[i]? = some g ∧ FD K H x (encG g) := by
  have key : ∀ {xs : List V} {es : List PyData}, DpAll K H xs es → flats es = ds.map encG → xs.length = ds.length ∧ ∀ (i : Nat) (x : V), xs[i]? = some x → ∃ g, ds[i]? = some g ∧ FD K H x (encG g) := by
    intro xs es ha hes
    rw [flats_map] at hes
    refine ⟨by rw [dpAll_len ha, ← List.length_map (f := flat), hes, List.length_map], fun i x hx => ?_⟩
    obtain ⟨d, h1, h2⟩ := dpAll_get ha hx
    have q : (ds.map encG)[i]? = some (flat d) := by rw [← hes, List.getElem?_map, h1]; rfl
    rw [List.getElem?_map] at q
    obtain ⟨g, hg, eg⟩ := Option.map_eq_some_iff.mp q
    exact ⟨g, hg, d, h2, eg.symm⟩
  cases h with
  | lst h1 h2 h3 =>
    simp only [flat, PyData.tuple.injEq] at e
    obtain ⟨k1, k2⟩ := key h3.dp e
    exact ⟨_, .inl (SqL.of h1), k1, k2⟩
  | tup h1 h2 =>
    simp only [flat, PyData.tuple.injEq] at e
    obtain ⟨k1, k2⟩ := key h2.dp e
    obtain ⟨T, eT, pT⟩ := top _ rfl
    cases eT
    exact ⟨_, .inr ⟨pT, h1⟩, k1, k2⟩
section
variable {P : Program} {w : World} {K : PySem.W.Frag} {mg : Str → Option Value} {base : Heap}
end
end K5


set_option Elab.async false
set_option linter.all false
set_option maxRecDepth 100000
set_option maxHeartbeats 8000000
namespace K5
open PySem L2 Nd Bk Gd PySem.ExE
def CPowW (i j : Int) : Prop := 0 ≤ j ∧ (Builtin.Int.intBits i : Int) * j ≤ 2 ^ 27
theorem op_powW {X : Cx} : OpR X (binaryOp .Pow) (rI CPowW fun i j => .int (i ^ j.toNat)) := opI fun _ _ _ _ _ _ _ hc q => PyProof.Rows.pow_int hc.1 hc.2 q
/-- base ** exponent, but cap where it is not below it -/
def capI (b e c : Int) : Int := if c ≤ b ^ e.toNat then c else b ^ e.toNat
def spCap : Sp := fun vs H Q _ => ∃ (b e : Nat) (c : Int), vs = [.int b, .int e, .int c] ∧ 1 ≤ e ∧ e < 2 ^ 60 ∧ 2 ≤ c ∧ c.natAbs.log2 < 200000 ∧ b.log2 < 200000 ∧ Q (.int (capI b e c)) H
theorem bits_lt {e : Nat} (h : 1 ≤ e) : Builtin.Int.intBits (e : Int) = e.log2 + 1 ∧ e < 2 ^ (e.log2 + 1) := by
  refine ⟨?_, Nat.lt_log2_self⟩
  unfold Builtin.Int.intBits
  rw [Int.natAbs_natCast]
  split
  · rename_i q
    exact absurd q (by simp; omega)
  · rfl
theorem half_step (e L i : Nat) (h : i < L) : e / 2 ^ (L - (i + 1)) = 2 * (e / 2 ^ (L - i)) + e / 2 ^ (L - (i + 1)) % 2 := by
  have e1 : L - i = (L - (i + 1)) + 1 := by omega
  rw [e1, Nat.pow_succ, ← Nat.div_div_eq_div_mul]
  omega
theorem log_mono {x y : Nat} (h : x ≤ y) : x.log2 ≤ y.log2 := by
  by_cases hx : x = 0
  · subst hx
    exact Nat.zero_le _
  · have hy : y ≠ 0 := by omega
    exact (Nat.le_log2 hy).mpr (Nat.le_trans (Nat.log2_self_le hx) h)
theorem log_mul (x y : Nat) : (x * y).log2 ≤ x.log2 + y.log2 + 1 := by
  by_cases h : x * y = 0
  · rw [h]
    exact Nat.zero_le _
  · have h1 : x < 2 ^ (x.log2 + 1) := Nat.lt_log2_self
    have h2 : y < 2 ^ (y.log2 + 1) := Nat.lt_log2_self
    have h3 : x * y < 2 ^ (x.log2 + y.log2 + 2) := by
      rw [show x.log2 + y.log2 + 2 = (x.log2 + 1) + (y.log2 + 1) by omega, Nat.pow_add]
      exact Nat.mul_lt_mul'' h1 h2
    have := (Nat.log2_lt h).mpr h3
    omega
theorem cap_small {b e : Nat} {c : Int} (hb : b < 2) (he : 1 ≤ e) (hc : 2 ≤ c) : capI b e c = b := by
  have h : ((b : Nat) : Int) ^ e = b := by
    have : b = 0 ∨ b = 1 := by omega
    rcases this with rfl | rfl
    · exact Int.zero_pow (by omega)
    · exact Int.one_pow
  unfold capI
  rw [Int.toNat_natCast, h, if_neg (by omega)]
section
variable {P : Program} {w : World} {K : PySem.W.Frag} {mg : Str → Option Value} {base : Heap}
theorem scCapped : FnScope ["base", "exponent", "cap", "power", "place"] ["base", "exponent", "cap"] (defScope sCapped) := ⟨rfl, rfl, rfl, by decide +kernel, rfl, by decide +kernel, by decide +kernel⟩
theorem ok_capped {f : Addr} {fd : FuncData} (F : Fun K "capped_power" "capped_power" sCapped f fd) (C : Cn K mg) (rv : mg "reversed" = none) : FnOk P w K mg base CX0 1 f fd ["base", "exponent", "cap"] spCap := by
  refine F.ok scCapped (fun vs H Q E h => ?_) (fun cdv A outer s H vs Q E hr h => ?_)
  · obtain ⟨b, e, c, rfl, _⟩ := h
    rfl
  · obtain ⟨b, e, c, rfl, he, hem, hc, hcl, hbl, k⟩ := h
    refine ⟨_, pss_cons (ps_if (pt_cmpR op_lt (pv 0) pe_int (nomark _)) (pss_one (ps_ret (pv 0))) pss_nil)
      (pss_cons (ps_set (i := 3) scCapped.nd rfl (Or.inl rfl) pe_int)
      (pss_cons (ps_for PassesOwn.never rfl (pi_revR (by rfl) rv (prg_1 (by rfl) C.N.rng (pe_bits (pv 1)))) (pg_name (i := 4) scCapped.nd rfl (Or.inl rfl))
        (pss_cons (ps_set (i := 3) scCapped.nd rfl (Or.inl rfl) (pe_op op_mulW (pv 3) (pv 3)))
        (pss_cons (ps_if (pt_truth (pe_op op_odd (pe_op op_shrN (pv 1) (pv 4)) pe_int) (fun _ => rfl)) (pss_one (ps_set (i := 3) scCapped.nd rfl (Or.inl rfl) (pe_op op_mulW (pv 3) (pv 0)))) pss_nil)
        (pss_one (ps_if (pt_cmpR op_ge (pv 3) (pv 2) (nomark _)) (pss_one (ps_ret (pv 2))) pss_nil)))))
      (pss_one (ps_ret (pv 3))))), ?_⟩
    refine ⟨_, rfl, _, _, rfl, rfl, _, rfl, ?_⟩
    by_cases hb : (b : Int) < 2
    · rw [decide_eq_true hb]
      rw [cap_small (by omega) he hc] at k
      exact iteT ⟨_, rfl, k⟩
    rw [decide_eq_false hb]
    refine iteF ?_
    obtain ⟨hL1, hL2⟩ := bits_lt he
    have hLs : e.log2 + 1 ≤ 60 := by
      have := (Nat.log2_lt (n := e) (k := 60) (by omega)).mpr hem
      omega
    refine ⟨_, rfl, _, rfl, _, rfl, by decide, by decide, by rw [hL1]; omega, by rw [hL1]; omega, ?_⟩
    rw [hL1]
    generalize e.log2 + 1 = L at hL1 hL2 hLs ⊢
    rw [show (((L : Nat) : Int) - 0).toNat = L by omega]
    have hpos : (0 : Int) < (b : Int) := by omega
    refine for_rangeC (n := L) (fun i τ H' => (∃ u, τ = [some (.int b), some (.int e), some (.int c), some (.int ((b : Int) ^ (e / 2 ^ (L - i)))), u]) ∧ H' = H ∧ (b : Int) ^ (e / 2 ^ (L - i)) < c) ⟨⟨none, ?_⟩, rfl, ?_⟩ ?_ ?_
    · rw [Nat.sub_zero, Nat.div_eq_of_lt hL2, Int.pow_zero]
      rfl
    · rw [Nat.sub_zero, Nat.div_eq_of_lt hL2, Int.pow_zero]
      omega
    · rintro i τ H' hi ⟨⟨u, rfl⟩, rfl, hlt⟩
      have hs := half_step e L i hi
      have nn : (0 : Int) ≤ (b : Int) ^ (e / 2 ^ (L - i)) := Int.pow_nonneg (by omega)
      have lgP : ((b : Int) ^ (e / 2 ^ (L - i))).natAbs.log2 ≤ c.natAbs.log2 := log_mono (by omega)
      have sq : (b : Int) ^ (e / 2 ^ (L - i)) * (b : Int) ^ (e / 2 ^ (L - i)) = (b : Int) ^ (2 * (e / 2 ^ (L - i))) := by rw [Nat.two_mul, Int.pow_add]
      have hle : e / 2 ^ (L - (i + 1)) ≤ e := Nat.div_le_self _ _
      have hr : e / 2 ^ (L - (i + 1)) % 2 = 0 ∨ e / 2 ^ (L - (i + 1)) % 2 = 1 := by omega
      refine ⟨_, rfl, _, rfl, _, _, rfl, rfl, (by unfold CMulW; omega), ?_⟩
      rw [show ((fun i j : Int => V.int (i * j)) ((b : Int) ^ (e / 2 ^ (L - i))) ((b : Int) ^ (e / 2 ^ (L - i)))) = V.int ((b : Int) ^ (2 * (e / 2 ^ (L - i)))) from congrArg V.int sq]
      have lgS : ((b : Int) ^ (2 * (e / 2 ^ (L - i)))).natAbs.log2 ≤ 400001 := by
        rw [← sq, Int.natAbs_mul]
        have := log_mul ((b : Int) ^ (e / 2 ^ (L - i))).natAbs ((b : Int) ^ (e / 2 ^ (L - i))).natAbs
        omega
      refine ⟨_, rfl, _, rfl, _, L - (i + 1), rfl, congrArg V.int (by omega), e / 2 ^ (L - (i + 1)), congrArg V.int (by rw [Int.natCast_ediv, Int.natCast_pow]; rfl), rfl, _, rfl, ?_⟩
      have fin : ∀ u, (b : Int) ^ (e / 2 ^ (L - (i + 1))) = u → (if c ≤ u then Q (.int c) H' else (∃ u5, [some (V.int b), some (V.int e), some (V.int c), some (V.int u), some (V.int (0 + (L : Int) - 1 + (i : Int) * -1))] = [some (V.int b), some (V.int e), some (V.int c), some (V.int ((b : Int) ^ (e / 2 ^ (L - (i + 1))))), u5]) ∧ H' = H' ∧ (b : Int) ^ (e / 2 ^ (L - (i + 1))) < c) := by
        rintro u rfl
        by_cases hc2 : c ≤ (b : Int) ^ (e / 2 ^ (L - (i + 1)))
        · rw [if_pos hc2]
          have mono : (b : Int) ^ (e / 2 ^ (L - (i + 1))) ≤ (b : Int) ^ e := by
            rw [← Int.natCast_pow, ← Int.natCast_pow]
            exact Int.ofNat_le.mpr (Nat.pow_le_pow_right (by omega) hle)
          unfold capI at k
          rw [Int.toNat_natCast, if_pos (by omega)] at k
          exact k
        · rw [if_neg hc2]
          exact ⟨⟨_, rfl⟩, rfl, by omega⟩
      rcases hr with hr | hr
      · rw [hr]
        refine iteF ?_
        have f := fin ((b : Int) ^ (2 * (e / 2 ^ (L - i)))) (by rw [hs, hr, Nat.add_zero])
        refine ⟨_, rfl, _, rfl, _, _, rfl, rfl, _, rfl, ?_⟩
        by_cases h : c ≤ (b : Int) ^ (2 * (e / 2 ^ (L - i)))
        · rw [if_pos h] at f
          rw [decide_eq_true h]
          exact iteT ⟨_, rfl, f⟩
        · rw [if_neg h] at f
          rw [decide_eq_false h]
          exact iteF f
      · rw [hr]
        refine iteT ?_
        refine ⟨_, rfl, _, rfl, _, _, rfl, rfl, (by unfold CMulW; rw [Int.natAbs_natCast]; omega), ?_⟩
        have pb : (b : Int) ^ (2 * (e / 2 ^ (L - i))) * b = (b : Int) ^ (2 * (e / 2 ^ (L - i)) + 1) := (Int.pow_succ _ _).symm
        rw [show ((fun i j : Int => V.int (i * j)) ((b : Int) ^ (2 * (e / 2 ^ (L - i)))) (b : Int)) = V.int ((b : Int) ^ (2 * (e / 2 ^ (L - i)) + 1)) from congrArg V.int pb]
        have f := fin ((b : Int) ^ (2 * (e / 2 ^ (L - i)) + 1)) (by rw [hs, hr])
        refine ⟨_, rfl, _, rfl, _, _, rfl, rfl, _, rfl, ?_⟩
        by_cases h : c ≤ (b : Int) ^ (2 * (e / 2 ^ (L - i)) + 1)
        · rw [if_pos h] at f
          rw [decide_eq_true h]
          exact iteT ⟨_, rfl, f⟩
        · rw [if_neg h] at f
          rw [decide_eq_false h]
          exact iteF f
    · rintro τ H' ⟨⟨u, rfl⟩, rfl, hlt⟩
      rw [Nat.sub_self, Nat.pow_zero, Nat.div_one] at hlt ⊢
      refine ⟨_, rfl, ?_⟩
      unfold capI at k
      rw [Int.toNat_natCast, if_neg (by omega)] at k
      exact k
end
end K5


set_option Elab.async false
set_option linter.all false
set_option maxRecDepth 100000
set_option maxHeartbeats 8000000
namespace K5
open PySem L2 Nd Bk Gd PySem.ExE
def B4 : Int := BEY ^ 40
theorem B4_pos : 2 ≤ B4 := by decide +kernel
theorem B4_log : B4.natAbs.log2 < 20000 := by decide +kernel
theorem B4_bits : CPowW BEY 40 := ⟨by decide, by decide +kernel⟩
theorem BEY_B4 : BEY < B4 := by decide +kernel
def cpB (x : Int) : Int := if B4 < x then B4 else x
theorem cpB_small {x : Int} (h : x ≤ B4) : cpB x = x := if_neg (by omega)
theorem cpB_big {x : Int} (h : B4 ≤ x) : cpB x = B4 := by
  unfold cpB
  split <;> omega
theorem cpB_le (x : Int) : cpB x ≤ B4 := by
  unfold cpB
  split <;> omega
theorem cpB_nn {x : Int} (h : 0 ≤ x) : 0 ≤ cpB x := by
  have := B4_pos
  unfold cpB
  split <;> omega
theorem cap_cpB (b e : Nat) : capI b e B4 = cpB ((b : Int) ^ e) := by
  unfold capI cpB
  rw [Int.toNat_natCast]
  split <;> split <;> omega
theorem mul_big {x y : Int} (hx : B4 ≤ x) (hy : 1 ≤ y) : B4 ≤ x * y := by
  have := B4_pos
  have h : x * 1 ≤ x * y := Int.mul_le_mul_of_nonneg_left hy (by omega)
  omega
theorem cpB_mul {x y : Int} (hx : 0 ≤ x) (hy : 0 ≤ y) : cpB (cpB x * cpB y) = cpB (x * y) := by
  have hp := B4_pos
  by_cases h1 : x = 0
  · subst h1
    rw [cpB_small (show (0 : Int) ≤ B4 by omega), Int.zero_mul, Int.zero_mul]
  by_cases h2 : y = 0
  · subst h2
    rw [cpB_small (show (0 : Int) ≤ B4 by omega), Int.mul_zero, Int.mul_zero]
  by_cases h3 : B4 ≤ x
  · rw [cpB_big h3, cpB_big (mul_big h3 (by omega))]
    refine cpB_big (mul_big (Int.le_refl _) ?_)
    by_cases h4 : B4 ≤ y
    · rw [cpB_big h4]; omega
    · rw [cpB_small (by omega)]; omega
  · rw [cpB_small (show x ≤ B4 by omega)]
    by_cases h4 : B4 ≤ y
    · rw [cpB_big h4, Int.mul_comm x B4, Int.mul_comm x y, cpB_big (mul_big h4 (by omega)), cpB_big (mul_big (Int.le_refl _) (by omega))]
    · rw [cpB_small (show y ≤ B4 by omega)]
theorem log_le {x : Int} (h0 : 0 ≤ x) (h : x ≤ B4) : x.natAbs.log2 < 20000 := Nat.lt_of_le_of_lt (log_mono (by omega)) B4_log
/-- the product of the values, each so often; the sum over the terms -/
def powC (τ : Str → Nat) (m : Mono) : Int := m.foldl (fun a x => a * (τ x.1 : Int) ^ x.2.toNat) 1
def cntP (τ : Str → Nat) (p : Poly) : Int := p.foldl (fun s t => s + t.2 * powC τ t.1) 0
theorem powC_take {τ : Str → Nat} {m : Mono} {j : Nat} {x : Str × Int} (e : m[j]? = some x) : powC τ (m.take (j + 1)) = powC τ (m.take j) * (τ x.1 : Int) ^ x.2.toNat := by
  unfold powC
  rw [List.take_succ, e, List.foldl_append]
  rfl
theorem cntP_take {τ : Str → Nat} {p : Poly} {j : Nat} {t : Mono × Int} (e : p[j]? = some t) : cntP τ (p.take (j + 1)) = cntP τ (p.take j) + t.2 * powC τ t.1 := by
  unfold cntP
  rw [List.take_succ, e, List.foldl_append]
  rfl
theorem powC_nn (τ : Str → Nat) (m : Mono) : 0 ≤ powC τ m := by
  have key : ∀ (m : Mono) (a : Int), 0 ≤ a → 0 ≤ m.foldl (fun a x => a * (τ x.1 : Int) ^ x.2.toNat) a := by
    intro m
    induction m with
    | nil => exact fun a h => h
    | cons x r ih => exact fun a h => ih _ (Int.mul_nonneg h (Int.pow_nonneg (Int.natCast_nonneg _)))
  exact key m 1 (by decide)
theorem cntP_mono {τ : Str → Nat} {p : Poly} (h : ∀ t ∈ p, 0 ≤ t.2) (i : Nat) : cntP τ (p.take i) ≤ cntP τ p := by
  have key : ∀ (q : Poly) (a : Int), (∀ t ∈ q, 0 ≤ t.2) → a ≤ q.foldl (fun s t => s + t.2 * powC τ t.1) a := by
    intro q
    induction q with
    | nil => exact fun a _ => Int.le_refl _
    | cons t r ih =>
      intro a hq
      have h1 : 0 ≤ t.2 * powC τ t.1 := Int.mul_nonneg (hq t List.mem_cons_self) (powC_nn _ _)
      have := ih (a + t.2 * powC τ t.1) fun u hu => hq u (List.mem_cons_of_mem _ hu)
      rw [List.foldl_cons]
      omega
  have := key (p.drop i) (cntP τ (p.take i)) fun t ht => h t (List.mem_of_mem_drop ht)
  unfold cntP at this ⊢
  rw [← List.foldl_append, List.take_append_drop] at this
  exact this
/-- what may be counted -/
structure CntOk (p : Poly) : Prop where
  co : ∀ t ∈ p, 0 ≤ t.2 ∧ t.2 ≤ BEY
  ex : ∀ t ∈ p, ∀ x ∈ t.1, 1 ≤ x.2 ∧ x.2 < 2 ^ 60
/-- each token of p has a number -/
def HasC (gs : List (Str × V)) (τ : Str → Nat) (p : Poly) : Prop := ∀ t ∈ p, ∀ x ∈ t.1, valV (kvG gs) (.inr x.1) = some (.int (τ x.1)) ∧ (τ x.1).log2 < 200000
structure Cnt (τ : Str → Nat) (C : Addr) (p : Poly) (H : Hp) (Q : VK) (E : XK) : Prop where
  figs : B4 ≤ cntP τ p → ∀ x H', Same H H' → H' x = some (.xd [("word", .str "figures")]) → E (.ref C) (some x) H'
  num : cntP τ p < B4 → ∀ H', Same H H' → Q (.int (cntP τ p)) H'
def spCnt (K : PySem.W.Frag) (C : Addr) : Sp := fun vs H Q E => ∃ (v : V) (D : Addr) (p : Poly) (gs : List (Str × V)) (τ : Str → Nat), vs = [v, .ref D] ∧ FD K H v (bD p) ∧ CntOk p ∧ H D = some (.dK (kvG gs)) ∧ HasC gs τ p ∧ Cnt τ C p H Q E
section
variable {P : Program} {w : World} {K : PySem.W.Frag} {mg : Str → Option Value} {base : Heap} {T C fI : Addr}
abbrev cntN : List Str := ["p", "values", "beyond", "total", "monomial", "coefficient", "many", "token", "exponent"]
theorem scCounted : FnScope cntN ["p", "values"] (defScope sCounted) := ⟨rfl, rfl, rfl, by decide +kernel, rfl, by decide +kernel, by decide +kernel⟩
theorem ok_counted {f : Addr} {fd : FuncData} (F : Fun K "_counted" "_counted" sCounted f fd) (N : Cn K mg) (X : Tm K mg T C fI) (Gc : Df P w K mg base 1 "capped_power" ["base", "exponent", "cap"] spCap) : FnOk P w K mg base (L2.CX P w) 2 f fd ["p", "values"] (spCnt K C) := by
  obtain ⟨fc, fdc, gC, kC, bC, GC⟩ := Gc.ok
  refine F.okX scCounted (fun vs H Q E h => ?_) (fun cdv A outer s H vs Q E hr h => ?_)
  · obtain ⟨v, D, p, gs, τ, rfl, _⟩ := h
    rfl
  · obtain ⟨v, D, p, gs, τ, rfl, hd, ok, hD, has, out⟩ := h
    have hr1 : Room 1 _ := hr.mono (by decide)
    obtain ⟨t0, ht0⟩ := N.bey
    have tk := takes_of (X := cxOf (L2.CX P w) P w K mg base cntN "_counted" (defScope sCounted) f cdv A outer s H E) (E := E) rfl rfl rfl rfl
    refine ⟨_, pss_cons (ps_set (i := 2) scCounted.nd rfl (Or.inl rfl) (pe_op op_powW (pe_glob (v := .int BEY) (by rfl) ht0 ⟨_, rfl⟩) pe_int))
      (pss_cons (ps_set (i := 3) scCounted.nd rfl (Or.inl rfl) pe_int)
      (pss_cons (ps_for (passes_of rfl) rfl (pi_seq (pv 0)) (pg_seq rfl (pgs_cons (pg_name (i := 4) scCounted.nd rfl (Or.inl rfl)) (pgs_cons (pg_name (i := 5) scCounted.nd rfl (Or.inl rfl)) pgs_nil)))
        (pss_cons (ps_set (i := 6) scCounted.nd rfl (Or.inl rfl) (pv 5))
        (pss_cons (ps_for (passes_of rfl) rfl (pi_seq (pv 4)) (pg_seq rfl (pgs_cons (pg_name (i := 7) scCounted.nd rfl (Or.inl rfl)) (pgs_cons (pg_name (i := 8) scCounted.nd rfl (Or.inl rfl)) pgs_nil)))
          (pss_one (ps_set (i := 6) scCounted.nd rfl (Or.inl rfl) (pe_callB (call_min2 rfl) (by rfl) N.min (by rfl) (pa_cons (pe_op op_mulW (pv 6) (pe_call GC hr1 rfl gC kC bC .nil pass0 (pa_cons (pe_dget (u1 hr) (pv 1) (pv 7) (fun _ _ => rfl)) (pa_cons (pv 8) (pa_cons (pv 2) pa_nil))))) (pa_cons (pv 2) pa_nil))))))
        (pss_cons (ps_set (i := 3) scCounted.nd rfl (Or.inl rfl) (pe_op op_add (pv 3) (pv 6)))
        (pss_one (ps_if (pt_cmpR op_ge (pv 3) (pv 2) (nomark _)) (pss_one (ps_raise rfl tk (pmk_mk X.E X.mks X.g hr (pa_cons pe_str pa_nil) rfl))) pss_nil))))))
      (pss_one (ps_ret (pv 3))))), ?_⟩
    refine ⟨_, _, rfl, rfl, B4_bits, ?_⟩
    rw [show ((fun i j : Int => V.int (i ^ j.toNat)) BEY 40) = V.int B4 from rfl]
    obtain ⟨a, xs, rfl, hs, hl, hget⟩ := fd_bag hd
    refine seq_go rfl hs fun J G walk hG => ?_
    refine for_it walk (fun i σ H3 => (∃ u4 u5 u6 u7 u8, σ = [some (.ref a), some (.ref D), some (.int B4), some (.int (cntP τ (p.take i))), u4, u5, u6, u7, u8]) ∧ H3 = H ∧ cntP τ (p.take i) < B4) ⟨⟨_, _, _, _, _, rfl⟩, rfl, (by show (0 : Int) < B4; have := B4_pos; omega)⟩ (fun i σ H3 _ ⟨_, e, _⟩ => by rw [e]; exact hG H id id) ?_ ?_
    · rintro i x σ H3 Hx hi ⟨⟨u4, u5, u6, u7, u8, rfl⟩, rfl, hlt⟩ ⟨rfl, hx⟩
      obtain ⟨t, hti, hxt⟩ := hget i x hx
      have htm := List.mem_of_getElem? hti
      obtain ⟨T2, kk, rfl, hT2, hk⟩ := fd_pair hxt
      obtain ⟨b, ys, rfl, hb, hbl, hbget⟩ := fd_bag (κ := Str) hk
      obtain ⟨c0, c1⟩ := ok.co t htm
      have cB := BEY_B4
      refine ⟨T2, _, rfl, hT2, rfl, _, _, rfl, _, _, rfl, rfl, ?_⟩
      refine ⟨_, rfl, ?_⟩
      refine seq_go rfl hb fun J2 G2 walk2 hG2 => ?_
      refine for_it walk2 (fun j σ H4 => (∃ u7 u8, σ = [some (.ref a), some (.ref D), some (.int B4), some (.int (cntP τ (p.take i))), some (.ref b), some (.int t.2), some (.int (cpB (t.2 * powC τ (t.1.take j)))), u7, u8]) ∧ H4 = Hx) ⟨⟨u7, u8, ?_⟩, rfl⟩ (fun j σ H4 _ ⟨_, e⟩ => by rw [e]; exact hG2 Hx id id) ?_ ?_
      · rw [show powC τ (t.1.take 0) = 1 from rfl, Int.mul_one, cpB_small (by omega)]
        rfl
      · rintro j y σ H4 Hy hj ⟨⟨u7, u8, rfl⟩, rfl⟩ ⟨rfl, hy⟩
        obtain ⟨q, hq, hyq⟩ := hbget j y hy
        have hqm := List.mem_of_getElem? hq
        obtain ⟨U, kk2, rfl, hU, hkk⟩ := fd_pair hyq
        cases fd_str (z := q.1) hkk
        obtain ⟨hv, hlog⟩ := has t htm q hqm
        obtain ⟨x1, x2⟩ := ok.ex t htm q hqm
        have eq2 : q.2 = ((q.2.toNat : Nat) : Int) := by omega
        have hg : DGet Hy D (.str q.1) (some (.int (τ q.1))) := hv ▸ DGet.k (k := .inr q.1) hD
        have n1 : 0 ≤ t.2 * powC τ (t.1.take j) := Int.mul_nonneg c0 (powC_nn _ _)
        have n2 : (0 : Int) ≤ (τ q.1 : Int) ^ q.2.toNat := Int.pow_nonneg (Int.natCast_nonneg _)
        refine ⟨U, _, rfl, hU, rfl, _, _, rfl, _, _, rfl, rfl, ?_⟩
        refine ⟨_, rfl, _, rfl, _, rfl, D, _, rfl, hg, _, rfl, _, rfl, τ q.1, q.2.toNat, B4, by rw [← eq2]; rfl, by omega, by omega, B4_pos, Nat.lt_trans B4_log (by decide), hlog, ?_⟩
        rw [cap_cpB]
        refine ⟨_, _, rfl, rfl, ?_, _, rfl, _, _, rfl, ?_⟩
        · unfold CMulW
          have l1 := log_le (cpB_nn n1) (cpB_le (t.2 * powC τ (t.1.take j)))
          have l2 := log_le (cpB_nn n2) (cpB_le ((τ q.1 : Int) ^ q.2.toNat))
          omega
        · have e1 : (if B4 < cpB (t.2 * powC τ (t.1.take j)) * cpB ((τ q.1 : Int) ^ q.2.toNat) then B4 else cpB (t.2 * powC τ (t.1.take j)) * cpB ((τ q.1 : Int) ^ q.2.toNat)) = cpB (t.2 * powC τ (t.1.take (j + 1))) := by
            show cpB _ = _
            rw [cpB_mul n1 n2, powC_take hq, Int.mul_assoc]
          rw [e1]
          exact ⟨⟨_, _, rfl⟩, rfl⟩
      · rintro σ H4 ⟨⟨u7, u8, rfl⟩, rfl⟩
        rw [hbl, List.take_length]
        have stp := cntP_take (τ := τ) hti
        have n1 : 0 ≤ t.2 * powC τ t.1 := Int.mul_nonneg c0 (powC_nn _ _)
        have n0 : 0 ≤ cntP τ (p.take i) := by
          have := cntP_mono (τ := τ) (p := p.take i) (fun u hu => (ok.co u (List.mem_of_mem_take hu)).1) 0
          exact this
        refine ⟨_, rfl, _, rfl, _, _, rfl, rfl, ?_⟩
        refine ⟨_, rfl, _, rfl, _, _, rfl, rfl, _, rfl, ?_⟩
        by_cases h : B4 ≤ cntP τ (p.take i) + cpB (t.2 * powC τ t.1)
        · rw [decide_eq_true h]
          have hle : cpB (t.2 * powC τ t.1) ≤ t.2 * powC τ t.1 := by
            unfold cpB
            split <;> omega
          have hm := cntP_mono (τ := τ) (p := p) (fun u hu => (ok.co u hu).1) (i + 1)
          rw [stp] at hm
          exact iteT ⟨_, rfl, fun x nx => out.figs (by omega) x _ (sm_new sm_refl nx) upd_same⟩
        · rw [decide_eq_false h]
          have hc : cpB (t.2 * powC τ t.1) = t.2 * powC τ t.1 := by
            by_cases q : B4 ≤ t.2 * powC τ t.1
            · rw [cpB_big q] at h
              omega
            · exact cpB_small (by omega)
          rw [hc] at h ⊢
          exact iteF ⟨⟨some (.ref b), some (.int t.2), some (.int (t.2 * powC τ t.1)), u7, u8, by rw [stp]; rfl⟩, rfl, by rw [stp]; omega⟩
    · rintro σ H3 ⟨⟨u4, u5, u6, u7, u8, rfl⟩, rfl, hlt⟩
      rw [hl, List.take_length] at hlt ⊢
      exact ⟨_, rfl, out.num hlt _ sm_refl⟩
end
end K5


set_option Elab.async false
set_option linter.all false
set_option maxRecDepth 100000
set_option maxHeartbeats 8000000
namespace K5
open PySem L2 Nd Bk Gd PySem.ExE PySem.Spec PyProof.Rows
/-- a tuple display, known to be without a dict -/
def tTupF (t : TA) : TE := fun σ H Q => t σ H fun xs H1 => xs.length ≤ sizeLine ∧ ∀ (p : Addr) (o : Obj), H1 p = none → o.dict = none → Q (.ref p) (upd H1 p (.frz o (.tup xs)))
theorem pe_tupF {X : Cx} {es : List Expr} {t : TA} {x1} {pos : Pos} (h : PA X es t) : PE X (.Tuple es x1 pos) (tTupF t) := by
  refine ⟨fun pins s σ H Q I hq => ?_⟩
  refine wpAny_Tuple_spliced (thn (h.run pos pins s σ H _ I hq) fun us s1 ⟨xs, H1, I1, r, z, q⟩ => ⟨by rw [← r.length]; exact z, ?_⟩)
  have hf : H1 s1.heap.objs.size = none := I1.hok.fresh (Nat.le_refl _)
  refine ⟨.ref s1.heap.objs.size, upd H1 s1.heap.objs.size (.frz { cls := .type "tuple", data := .seq us.toArray } (.tup xs)), I1.laid (t' := s1.toks) (fun b u e => Heap.get?_push_of_some _ e) (Nat.le_refl _) ?_, rfl, q _ _ hf rfl⟩
  exact ⟨Heap.get?_push_size _ rfl, z, us, r, IsTup.new _ _⟩
def count_ : Str := Str.ofString "count"
def spValC (K : PySem.W.Frag) (C : Addr) : Sp := fun vs H Q E => ∃ (v g : V) (p : Poly) (gs : List (Str × V)) (τ : Str → Nat), vs = [v, .str count_, g] ∧ FD K H v (bD p) ∧ POk p ∧ Szd p ∧ (tokK p).length ≤ 1000 ∧ CntOk p ∧ GivenAt K H g gs ∧ (gs.map (·.1)).Nodup ∧ HasC gs τ p ∧ Cnt τ C p H Q E
theorem Cnt.after {τ : Str → Nat} {C : Addr} {p : Poly} {H H' : Hp} {Q : VK} {E : XK} (s : Same H H') (c : Cnt τ C p H Q E) : Cnt τ C p H' Q E := ⟨fun h x H2 s2 hx => c.figs h x H2 (s.trans s2) hx, fun h H2 s2 => c.num h H2 (s.trans s2)⟩
section
variable {P : Program} {w : World} {K : PySem.W.Frag} {mg : Str → Option Value} {base : Heap} {T C fI : Addr}
theorem ok_valuedC {f : Addr} {fd : FuncData} (F : Fun K "valued" "valued" sValued f fd) (N : Cn K mg) (Gt : Df P w K mg base 1 "tokens_of" ["p"] (spTks K)) (Gn : Df P w K mg base 1 "need_all" ["tokens", "values"] (spNeed K))
    {fc : Addr} {fdc : FuncData} (gC : mg "_counted" = some (.ref fc)) (kC : PySem.W.keepIn K (.ref fc) = true) (bC : Binds K fdc ["p", "values"] []) (GC : FnOk P w K mg base (L2.CX P w) 2 fc fdc ["p", "values"] (spCnt K C)) :
    FnOk P w K mg base (L2.CX P w) 3 f fd ["p", "measure", "given"] (spValC K C) := by
  obtain ⟨ft, fdt, gT, kT, bT, GT⟩ := Gt.ok
  obtain ⟨fn, fdn, gN, kN, bN, GN⟩ := Gn.ok
  refine F.okX scValued (fun vs H Q E h => ?_) (fun cdv A outer s H vs Q E hr h => ?_)
  · obtain ⟨v, g, p, gs, τ, rfl, _⟩ := h
    rfl
  · obtain ⟨v, g, p, gs, τ, rfl, hd, okp, szp, htl, cok, ⟨ga, gys, rfl, hg, hpg⟩, hnd, has, out⟩ := h
    have hr1 : Room 1 _ := hr.mono (by decide)
    have hr2 : Room 2 _ := hr
    have tk := takes_of (X := cxOf (L2.CX P w) P w K mg base valN "valued" (defScope sValued) f cdv A outer s H E) (E := E) rfl rfl rfl rfl
    refine ⟨_, pss_cons (ps_set (i := 3) scValued.nd rfl (Or.inl rfl) (pe_callTy (show CallR _ _ (rDictG K) from call_dictG rfl) (by rfl) N.dict (by rfl) (pa_cons (pv 2) pa_nil)))
      (pss_cons (ps_if (PW.pt (pw_and (pt_cmpR op_eq (pv 1) pe_str (nomark _)) pw_never)) (pss_one ps_never) pss_nil)
      (pss_cons (ps_expr (pe_call GN hr1 rfl gN kN bN .nil pass0 (pa_cons (pe_call GT hr1 rfl gT kT bT .nil pass0 (pa_cons (pv 0) pa_nil)) (pa_cons (pv 3) pa_nil))))
      (pss_cons (ps_if (pt_cmpR op_eq (pv 1) pe_str (nomark _)) (pss_one (ps_ret (pe_callS GC hr2 rfl gC kC bC (fun σ => passAt tk σ) (pa_cons (pv 0) (pa_cons (pv 3) pa_nil))))) pss_nil)
      pss_never))), ?_⟩
    refine ⟨_, rfl, ga, gys, gs, rfl, hg, hpg, hnd, fun D nD => ?_⟩
    have s1 : Same H (upd H D (.dK (kvG gs))) := sm_new sm_refl nD
    have hD : upd H D (.dK (kvG gs)) D = some (.dK (kvG gs)) := upd_same
    generalize upd H D (.dK (kvG gs)) = H1 at s1 hD ⊢
    refine ⟨_, rfl, rfl, false, dn (by decide +kernel), iteF (iteF ?_)⟩
    refine ⟨_, rfl, v, p, rfl, hd.same s1, okp, szp, htl, fun vt H2 s2 ht => ?_⟩
    obtain ⟨T1, zs, rfl, hT, hzs⟩ := dp_tup ht
    cases dp_strs hzs
    have hD2 := s2 _ _ hD
    have s02 := s1.trans s2
    refine ⟨_, rfl, T1, D, tokK p, kvG gs, rfl, hT, hD2, fun z hz => ?_, ?_⟩
    · obtain ⟨t, ht, x, hx, rfl⟩ := tokK_mem hz
      exact ⟨_, (has t ht x hx).1⟩
    refine ⟨_, rfl, rfl, true, dy, iteT ?_⟩
    exact ⟨_, rfl, _, rfl, v, D, p, gs, τ, rfl, hd.same s02, cok, hD2, has, out.after s02⟩
end
end K5


set_option Elab.async false
set_option linter.all false
set_option maxRecDepth 100000
set_option maxHeartbeats 8000000
namespace K5
open PySem L2 Nd Bk Gd PySem.ExE
/-- the names of k05 -/
structure Cw (K : PySem.W.Frag) (w : World) (mg : Str → Option Value) : Prop where
  sum : mg "sum" = none
  zeros : ∃ a, mg "_ZEROS" = some (.ref a) ∧ KDct K w a count_ (.int 0)
  ones : ∃ a, mg "_ONES" = some (.ref a) ∧ KDct K w a count_ (.int 1)
def spPlC : Sp := fun vs H Q _ => ∃ a b : Int, vs = [.str count_, .int a, .int b] ∧ Q (.int (a + b)) H
def spTmC : Sp := fun vs H Q _ => ∃ a b : Int, vs = [.str count_, .int a, .int b] ∧ 0 ≤ a ∧ a ≤ 1000000 ∧ Q (.int (a * b)) H
def spZeC : Sp := fun vs H Q _ => ∃ x : V, vs = [.str count_, x] ∧ Q (.int 0) H
def spOnC : Sp := fun vs H Q _ => ∃ x : V, vs = [.str count_, x] ∧ Q (.int 1) H
section
variable {P : Program} {w : World} {K : PySem.W.Frag} {mg : Str → Option Value} {base : Heap}
theorem ok_plC {f : Addr} {fd : FuncData} (F : Fun K "measured_plus" "measured_plus" sMPlus f fd) : FnOk P w K mg base CX0 1 f fd ["measure", "a", "b"] spPlC := by
  refine F.ok scMPlus (fun vs H Q E h => ?_) (fun cdv A outer s H vs Q E hr h => ?_)
  · obtain ⟨a, b, rfl, _⟩ := h
    rfl
  · obtain ⟨a, b, rfl, k⟩ := h
    refine ⟨_, pss_cons (ps_if (pt_cmpR op_eq (pv 0) pe_str (nomark _)) (pss_one (ps_ret (pe_op op_add (pv 1) (pv 2)))) pss_nil) pss_never, ?_⟩
    exact ⟨_, rfl, rfl, true, dy, iteT ⟨_, rfl, _, rfl, _, _, rfl, rfl, k⟩⟩
theorem ok_tmC {f : Addr} {fd : FuncData} (F : Fun K "measured_times" "measured_times" sMTimes f fd) : FnOk P w K mg base CX0 1 f fd ["measure", "a", "b"] spTmC := by
  refine F.ok scMTimes (fun vs H Q E h => ?_) (fun cdv A outer s H vs Q E hr h => ?_)
  · obtain ⟨a, b, rfl, _⟩ := h
    rfl
  · obtain ⟨a, b, rfl, h0, h1, k⟩ := h
    refine ⟨_, pss_cons (ps_if (pt_cmpR op_eq (pv 0) pe_str (nomark _)) (pss_one (ps_ret (pe_op op_mul (pv 1) (pv 2)))) pss_nil) pss_never, ?_⟩
    exact ⟨_, rfl, rfl, true, dy, iteT ⟨_, rfl, _, rfl, _, _, rfl, rfl, .inl ⟨by omega, by omega⟩, k⟩⟩
theorem ok_zeC {f : Addr} {fd : FuncData} (F : Fun K "measured_zero" "measured_zero" sMZero f fd) (V : Cw K w mg) : FnOk P w K mg base CX0 1 f fd ["measure", "persons"] spZeC := by
  refine F.ok scMZero (fun vs H Q E h => ?_) (fun cdv A outer s H vs Q E hr h => ?_)
  · obtain ⟨x, rfl, _⟩ := h
    rfl
  · obtain ⟨x, rfl, k⟩ := h
    obtain ⟨z, gz, z1⟩ := V.zeros
    refine ⟨_, pss_one (ps_ret (pe_ix (show IxR _ (rIxD K w) from ix_kdict) (pe_glob (v := .ref z) (by rfl) gz rfl) (pv 0) (fun _ _ => rfl))), ?_⟩
    exact ⟨_, rfl, z, count_, _, rfl, rfl, z1, k⟩
theorem ok_onC {f : Addr} {fd : FuncData} (F : Fun K "measured_one" "measured_one" sMOne f fd) (V : Cw K w mg) : FnOk P w K mg base CX0 1 f fd ["measure", "persons"] spOnC := by
  refine F.ok scMOne (fun vs H Q E h => ?_) (fun cdv A outer s H vs Q E hr h => ?_)
  · obtain ⟨x, rfl, _⟩ := h
    rfl
  · obtain ⟨x, rfl, k⟩ := h
    obtain ⟨z, gz, z1⟩ := V.ones
    refine ⟨_, pss_cons (ps_if (pt_cmpR op_eq (pv 0) pe_str (nomark _)) pss_never pss_nil) (pss_one (ps_ret (pe_ix (show IxR _ (rIxD K w) from ix_kdict) (pe_glob (v := .ref z) (by rfl) gz rfl) (pv 0) (fun _ _ => rfl)))), ?_⟩
    exact ⟨_, rfl, rfl, false, dn (by decide +kernel), iteF ⟨_, rfl, z, count_, _, rfl, rfl, z1, k⟩⟩
def spDVC : Sp := fun vs H Q _ => ∃ (b c : Addr) (ns : List Int) (mo : Int), vs = [.ref b, .int mo] ∧ 0 < mo ∧ mo ≤ 1000 ∧ BoxAt H b c ns ∧ ∀ (o : Option Int) (H' : Hp), Dv false o → BoxAt H' b c ns → But b H H' → Q (ov o) H'
theorem scDValC : FnScope ["box", "most"] ["box", "most"] (defScope sDValC) := ⟨rfl, rfl, rfl, by decide +kernel, rfl, by decide +kernel, by decide +kernel⟩
theorem ok_dvalC {f : Addr} {fd : FuncData} (F : Fun K "_law_drawn_value" "_law_drawn_value" sDValC f fd) (Gd : Df P w K mg base 2 "_law_draw" ["box", "many"] spDraw) : FnOk P w K mg base CX0 3 f fd ["box", "most"] spDVC := by
  obtain ⟨fd', fdd, gD, kD, bD', GD⟩ := Gd.ok
  refine F.ok scDValC (fun vs H Q E h => ?_) (fun cdv A outer s H vs Q E hr h => ?_)
  · obtain ⟨b, c, ns, mo, rfl, _⟩ := h
    rfl
  · obtain ⟨b, c, ns, mo, rfl, m0, m1, hB, k⟩ := h
    have hr2 : Room 2 _ := hr
    refine ⟨_, pss_one (ps_ret (pe_ix ix_list (pe_lst (pa_cons pe_int (pa_cons pe_int
        (pa_cons (pe_call GD hr2 rfl gD kD bD' .nil pass0 (pa_cons (pv 0) (pa_cons (pv 1) pa_nil)))
        (pa_cons (pe_call GD hr2 rfl gD kD bD' .nil pass0 (pa_cons (pv 0) (pa_cons (pe_op op_pow pe_int pe_int) pa_nil))) pa_nil)))))
        (pe_call GD hr2 rfl gD kD bD' .nil pass0 (pa_cons (pv 0) (pa_cons pe_int pa_nil))) (fun _ _ => rfl))), ?_⟩
    refine ⟨_, rfl, _, rfl, b, c, ns, _, rfl, m0, by omega, hB, fun r1 H1 a1 a2 B1 k1 => ?_⟩
    refine ⟨_, rfl, _, _, rfl, rfl, ⟨by decide, by decide, by decide⟩, b, c, ns, _, rfl, by decide, by decide, B1, fun r2 H3 a3 a4 B3 k2 => ?_⟩
    have a4' : r2 < 1000000 := a4
    refine ⟨by show 4 ≤ sizeLine; decide, fun p np => ?_⟩
    have s4 : Same H3 (upd H3 p (.lst (([some 0, some 1, some r1, some r2] : List (Option Int)).map ov))) := sm_new sm_refl np
    have pb := B3.off np
    refine ⟨_, rfl, b, c, ns, _, rfl, by decide, by decide, B3.same s4, fun r4 H4 a7 a8 B4 k4 => ?_⟩
    obtain ⟨j, rfl⟩ := Int.eq_ofNat_of_zero_le a7
    obtain ⟨z, hz, hzm⟩ := pick_ov (os := [some 0, some 1, some r1, some r2]) (j := j) (by show j < 4; omega)
    refine ⟨p, _, _, _, rfl, rfl, SqL.of (k4 _ _ upd_same pb), atI_nat hz, k z H4 ⟨fun e => ?_, fun i e => ?_⟩ B4 (((k1.trans k2).same s4).trans k4)⟩
    · simp only [List.mem_cons, List.not_mem_nil, or_false] at hzm
      rcases hzm with rfl | rfl | rfl | rfl <;> rfl
    · subst e
      simp only [List.mem_cons, List.not_mem_nil, or_false, Option.some.injEq] at hzm
      omega
end
end K5


set_option Elab.async false
set_option linter.all false
set_option maxRecDepth 100000
set_option maxHeartbeats 8000000
namespace K5
open PySem L2 Nd Bk Gd
def spGivenC (K : PySem.W.Frag) : Sp := fun vs H Q _ => ∃ (b c : Addr) (ns : List Int) (v : V) (p : Poly) (mo : Int), vs = [.ref b, v, .int mo] ∧ 0 < mo ∧ mo ≤ 1000 ∧ BoxAt H b c ns ∧ Dp K H v (bD p) ∧ PB p ∧
  ∀ (l : Addr) (ys : List V) (ds : List (Str × PyData)) (H' : Hp), l ≠ b → BoxAt H' b c ns → But b H H' → H' l = some (.lst ys) → DpAll K H' ys (ds.map encG) → GOk false p ds → Q (.ref l) H'
section
variable {P : Program} {w : World} {K : PySem.W.Frag} {mg : Str → Option Value} {base : Heap}
abbrev givNC : List Str := ["box", "p", "values", "names", "k", "token", "left", "found"]
theorem scGivenC : FnScope givNC ["box", "p", "values"] (defScope sGivenC) := ⟨rfl, rfl, rfl, by decide +kernel, rfl, by decide +kernel, by decide +kernel⟩
theorem ok_givenC {f : Addr} {fd : FuncData} (F : Fun K "_law_given" "_law_given" sGivenC f fd) (C : Cn K mg) (Gd : Df P w K mg base 2 "_law_draw" ["box", "many"] spDraw) (Gt : Df P w K mg base 3 "_law_tokens" ["p"] (spLTks K)) (Gk : Df P w K mg base 3 "_law_token" ["box"] spTok)
    (Gv : Df P w K mg base 3 "_law_drawn_value" ["box", "most"] spDVC) : FnOk P w K mg base CX0 4 f fd ["box", "p", "values"] (spGivenC K) := by
  obtain ⟨fd', fdd, gD, kD, bD', GD⟩ := Gd.ok
  obtain ⟨ft, fdt, gT, kT, bT, GT⟩ := Gt.ok
  obtain ⟨fk, fdk, gK, kK, bK, GK⟩ := Gk.ok
  obtain ⟨fv, fdv, gV, kV', bV, GV'⟩ := Gv.ok
  refine F.ok scGivenC (fun vs H Q E h => ?_) (fun cdv A outer s H vs Q E hr h => ?_)
  · obtain ⟨b, c, ns, v, p, mo, rfl, _⟩ := h
    rfl
  · obtain ⟨b, c, ns, v, p, mo, rfl, m0, m1, hB, hd, pb, k⟩ := h
    have hr2 : Room 2 _ := hr.mono (by decide)
    have hr3 : Room 3 _ := hr
    refine ⟨_, pss_cons (ps_set (i := 3) scGivenC.nd rfl (Or.inl rfl) (pe_call GT hr3 rfl gT kT bT .nil pass0 (pa_cons (pv 1) pa_nil)))
      (pss_cons (ps_for PassesOwn.never rfl (pi_range1 rfl C.N.rng (pa_cons (pe_call GD hr2 rfl gD kD bD' .nil pass0 (pa_cons (pv 0) (pa_cons pe_int pa_nil))) pa_nil)) (pg_name (i := 4) scGivenC.nd rfl (Or.inl rfl))
        (pss_cons (ps_set (i := 5) scGivenC.nd rfl (Or.inl rfl) (pe_call GK hr3 rfl gK kK bK .nil pass0 (pa_cons (pv 0) pa_nil)))
        (pss_one (ps_if (pt_cmpR (show OpR _ _ (rIn K true) from op_notIn_seq) (pv 5) (pv 3) (by rfl)) (pss_one (ps_expr (pe_bm PySem.F.plainAttrs_list PySem.F.slot_list_append PySem.F.type_list_append mt_append (pv 3) (pa_cons (pv 5) pa_nil)))) pss_nil))))
      (pss_cons (ps_set (i := 6) scGivenC.nd rfl (Or.inr rfl) (pe_lc (own := [("token", 5)]) (g := gName 5) (tt := tYes) rfl scGivenC.nd (pi_list (pv 3)) (blkOk_by (N := givNC) (sc := defScope sGivenC) (by decide +kernel))
        (fun _ _ _ _ _ => pg_name (i := 5) scGivenC.nd rfl (Or.inl rfl)) (fun _ _ _ _ _ => pts_nil) (fun _ _ _ _ _ => pe_tup (pa_cons (pv 5) (pa_cons (pe_call GV' hr3 rfl gV kV' bV .nil pass0 (pa_cons (pv 0) (pa_cons (pv 2) pa_nil))) pa_nil)))))
      (pss_cons (ps_setLc (i := 7) (own := [("k", 4)]) (g := gName 4) (tt := tYes) (by rfl) scGivenC.nd rfl rfl (sw_true rfl rfl rfl (by decide +kernel)) (pi_range1 rfl C.N.rng (pa_cons (pe_callB call_len_seq (by rfl) C.N.len PySem.boot_len (pa_cons (pv 3) pa_nil)) pa_nil)) (blkOk_by (N := givNC) (sc := defScope sGivenC) (by decide +kernel))
        (fun _ _ _ _ _ => pg_name (i := 4) scGivenC.nd rfl (Or.inl rfl)) (fun _ _ _ _ _ => pts_nil)
        (fun _ _ _ _ _ => show PE _ _ (tBM K "list" rPopAt (tVar 6) (tCons (tCall spDraw [] E0 (tCons (tVar 0) (tCons (tCB (rLenS K) (tCons (tVar 6) tNil)) tNil))) tNil)) from
          pe_bm PySem.F.plainAttrs_list PySem.F.slot_list_pop PySem.F.type_list_pop mt_popAt (pv 6) (pa_cons (pe_call GD hr2 rfl gD kD bD' .nil pass0 (pa_cons (pv 0) (pa_cons (pe_callB (show CallR _ _ (rLenS K) from call_len_seq) (by rfl) C.N.len PySem.boot_len (pa_cons (pv 6) pa_nil)) pa_nil))) pa_nil)))
      (pss_cons (ps_if (pt_cmpR op_eq (pe_call GD hr2 rfl gD kD bD' .nil pass0 (pa_cons (pv 0) (pa_cons pe_int pa_nil))) pe_int (nomark _))
        (pss_one (ps_expr (pe_bm PySem.F.plainAttrs_list PySem.F.slot_list_insert PySem.F.type_list_insert mt_insert (pv 7) (pa_cons (pe_call GD hr2 rfl gD kD bD' .nil pass0 (pa_cons (pv 0) (pa_cons (pe_op op_add (pe_callB call_len_seq (by rfl) C.N.len PySem.boot_len (pa_cons (pv 7) pa_nil)) pe_int) pa_nil)))
          (pa_cons (pe_tup (pa_cons pe_str (pa_cons (pe_tup (pa_cons pe_str (pa_cons pe_str pa_nil))) pa_nil))) pa_nil))))) pss_nil)
      (pss_one (ps_ret (pv 7))))))), ?_⟩
    have tkl : (tokK p).length ≤ 384 := tks_len pb.len (ml_pb pb)
    refine ⟨_, rfl, v, p, rfl, hd, pb.ok, szd_of pb.ok (Nat.le_trans pb.len (by decide)) fun t ht => Int.le_trans (pb.dg t ht) (by decide), Nat.le_trans tkl (by decide), fun nl ys H1 nnl s1 hnl hys => ?_⟩
    cases dp_strs hys
    have B1 := hB.same s1
    have k1 : But b H H1 := But.refl.same s1
    have nlb : nl ≠ b := hB.off nnl
    have nlc : c ≠ nl := ne_of_none hB.cells nnl
    refine ⟨_, rfl, b, c, ns, _, rfl, by decide, by decide, B1, fun r H2 r0 r1 B2 k2 => ⟨_, rfl, by omega, by omega, ?_⟩⟩
    refine for_range (n := r.toNat) (fun i τ H4 => (∃ u4 u5, τ = [some (.ref b), some v, some (.int mo), some (.ref nl), u4, u5, none, none]) ∧ BoxAt H4 b c ns ∧ But b H H4 ∧ ∃ nm : List Str, H4 nl = some (.lst (nm.map V.str)) ∧ Nam p nm (384 + i))
      ⟨⟨_, _, rfl⟩, B2, k1.trans k2, tokK p, k2 _ _ hnl nlb, tokK_nodup p, fun z h => h, tokK_sh pb, tkl⟩ ?_ ?_
    · rintro i τ H4 hi ⟨⟨u4, u5, rfl⟩, B4, k4, nm, hnm, N⟩
      refine ⟨_, rfl, b, c, ns, rfl, B4, fun z H5 hz B5 k5 => ?_⟩
      have h5 := k5 _ _ hnm nlb
      refine ⟨_, rfl, _, rfl, nl, _, rfl, .inl (SqL.of h5), rfl, flat_strs' _, _, rfl, ?_⟩
      show if (!inV (V.str z) (nm.map V.str)) = true then _ else _
      rw [inV_strs]
      by_cases hm : z ∈ nm
      · rw [decide_eq_false (by simpa using hm)]
        exact iteF ⟨⟨_, _, rfl⟩, B5, k4.trans k5, nm, h5, N.nd, N.all, N.sh, by have := N.len; omega⟩
      · rw [decide_eq_true hm]
        refine iteT ⟨_, rfl, .inl ⟨rfl, _, SqL.of h5⟩, _, rfl, nl, _, _, rfl, rfl, h5, ?_, ⟨_, _, rfl⟩, B5.mine (Ne.symm nlb) nlc, but_mine (k4.trans k5) nnl, nm ++ [z], ?_, ?_, ?_, ?_, ?_⟩
        · rw [List.length_map, sizeLine_eq]
          have := N.len
          omega
        · rw [upd_same, List.map_append]; rfl
        · rw [List.nodup_append]
          exact ⟨N.nd, List.nodup_cons.mpr ⟨by simp, List.nodup_nil⟩, fun a ha y hy => by
            rw [List.mem_singleton.mp hy]
            exact fun e => hm (e ▸ ha)⟩
        · exact fun y hy => List.mem_append_left _ (N.all y hy)
        · intro y hy
          rcases List.mem_append.mp hy with q | q
          · exact N.sh y q
          · rw [List.mem_singleton.mp q]
            exact hz
        · rw [List.length_append]
          have := N.len
          show _ + 1 ≤ _
          omega
    · rintro τ H4 ⟨⟨u4, u5, rfl⟩, B4, k4, nm, hnm, N⟩
      have nml : nm.length ≤ 390 := by
        have := N.len
        omega
      refine ⟨_, rfl, nl, rfl, ⟨_, SqL.of hnm⟩, fun L nL => ?_⟩
      have Lb := B4.off nL
      have Lc : c ≠ L := ne_of_none B4.cells nL
      have nLH : H L = none := but_free k4 nL Lb
      refine lc_list (K := K) (a := nl) (xs := nm.map V.str) (fun i H2 => BoxAt H2 b c ns ∧ But b H4 H2 ∧ ∃ ys os, H2 L = some (.lst ys) ∧ DpAll K H2 ys (os.map encO) ∧ os.map (·.1) = nm.take i ∧ ∀ g ∈ os, Dv false g.2) ⟨B4.mine (Ne.symm Lb) Lc, but_mine But.refl nL, [], [], upd_same, .nil, rfl, fun g hg => nomatch hg⟩
        (fun i H2 _ ⟨_, k5, _⟩ => SqL.of (k5 _ _ hnm nlb)) ?_ ?_
      · rintro i x H2 hi ⟨B5, k5, ys, os, hL, hys, hos, hdv⟩
        rw [List.getElem?_map] at hi
        obtain ⟨z, hz, rfl⟩ := Option.map_eq_some_iff.mp hi
        have yl : ys.length ≤ 390 := by
          have e1 := dpAll_len hys
          have e2 := congrArg List.length hos
          rw [List.length_map] at e1 e2
          rw [List.length_take] at e2
          omega
        refine ⟨rfl, _, rfl, _, rfl, _, rfl, b, c, ns, mo, rfl, m0, m1, B5, fun o H3 dv B6 k6 => ⟨by show 2 ≤ sizeLine; decide, fun T nT => ?_⟩⟩
        have hL3 := k6 _ _ hL Lb
        have hys3 : DpAll K H3 ys (os.map encO) := dpAll_kt0 (KeepT.but B5.notT k6) hys (tu_encOs os)
        have sT : Same H3 (upd H3 T (.tup [.str z, ov o])) := sm_new sm_refl nT
        have dT : Dp K (upd H3 T (.tup [.str z, ov o])) (.ref T) (encO (z, o)) := dp_encO (SqT.of upd_same)
        generalize upd H3 T (.tup [.str z, ov o]) = H5 at sT dT ⊢
        have hL5 := sT _ _ hL3
        have nt : NotT (H5 L) := by rw [hL5]; exact notT_lst
        refine ⟨ys, hL5, small1000 (Nat.le_trans yl (by decide)), (B6.same sT).mine (Ne.symm Lb) Lc, but_mine ((k5.trans k6).same sT) nL, ys ++ [.ref T], os ++ [(z, o)], upd_same, ?_, ?_, ?_⟩
        · rw [List.map_append]
          exact dpAll_append (dpAll_put nt (tu_encOs os) (dpAll_same sT hys3)) (.cons (dp_put nt (tu_encO (z, o)) dT) .nil)
        · rw [List.map_append, hos, List.take_succ, hz]
          rfl
        · intro g hg
          rcases List.mem_append.mp hg with q | q
          · exact hdv g q
          · rw [List.mem_singleton.mp q]
            exact dv
      · rintro H5 ⟨B5, k5, ys, os, hL, hys, hos, hdv⟩
        rw [List.length_map, List.take_length] at hos
        have osl : os.length = nm.length := by rw [← hos, List.length_map]
        have h5 := k5 _ _ hnm nlb
        refine ⟨_, rfl, nl, _, rfl, .inl (SqL.of h5), _, rfl, by omega, by rw [List.length_map]; omega, fun D nD => ?_⟩
        have DL : D ≠ L := fun e => by rw [e, hL] at nD; cases nD
        have Db := B5.off nD
        have Dc : c ≠ D := ne_of_none B5.cells nD
        have nD4 : H4 D = none := but_free k5 nD Db
        refine lc_range (n := (nm.map V.str).length) (fun i H6 => BoxAt H6 b c ns ∧ But b H4 H6 ∧ ∃ fs ls fo lo, H6 D = some (.lst fs) ∧ H6 L = some (.lst ls) ∧ DpAll K H6 fs (fo.map encO) ∧ DpAll K H6 ls (lo.map encO) ∧ (fo ++ lo).Perm os ∧ fo.length = i)
          ⟨B5.mine (Ne.symm Db) Dc, but_mine k5 nD4, [], ys, [], os, upd_same, by rw [upd_ne (Ne.symm DL)]; exact hL, .nil, dpAll_same (sm_new sm_refl nD) hys, List.Perm.refl _, rfl⟩ ?_ ?_
        · rintro i H6 hi ⟨B6, k6, fs, ls, fo, lo, hD, hL6, hfs, hls, hperm, hfo⟩
          rw [List.length_map] at hi
          have tot : fo.length + lo.length = nm.length := by rw [← List.length_append, hperm.length_eq, osl]
          have lsl : ls.length = lo.length := by rw [dpAll_len hls, List.length_map]
          refine ⟨rfl, _, rfl, .inl ⟨rfl, _, SqL.of hL6⟩, _, rfl, _, rfl, L, ls, rfl, .inl (SqL.of hL6), b, c, ns, _, rfl, by omega, by omega, B6, fun r H7 r0 r1 B7 k7 => ?_⟩
          have hL7 := k7 _ _ hL6 Lb
          have hD7 := k7 _ _ hD Db
          have fs7 : DpAll K H7 fs (fo.map encO) := dpAll_kt0 (KeepT.but B6.notT k7) hfs (tu_encOs fo)
          have ls7 : DpAll K H7 ls (lo.map encO) := dpAll_kt0 (KeepT.but B6.notT k7) hls (tu_encOs lo)
          have rl : r.toNat < ls.length := by omega
          obtain ⟨y, hy⟩ : ∃ y, ls[r.toNat]? = some y := ⟨_, List.getElem?_eq_getElem rl⟩
          obtain ⟨g, hg, dy⟩ := dpO_get ls7 hy
          refine ⟨L, ls, r, r.toNat, y, rfl, rfl, hL7, by omega, by omega, PySem.seqIndex_of r0 r1, hy, ?_⟩
          have ntL : NotT (H7 L) := by rw [hL7]; exact notT_lst
          have hD8 : upd H7 L (.lst (ls.eraseIdx r.toNat)) D = some (.lst fs) := by rw [upd_ne DL]; exact hD7
          have ntD : NotT (upd H7 L (.lst (ls.eraseIdx r.toNat)) D) := by rw [hD8]; exact notT_lst
          have fsl : fs.length ≤ 390 := by
            have := dpAll_len hfs
            rw [List.length_map] at this
            omega
          refine ⟨fs, hD8, small1000 (Nat.le_trans fsl (by decide)), (B7.mine (Ne.symm Lb) Lc).mine (Ne.symm Db) Dc, but_mine (but_mine (k6.trans k7) nL) nD4, fs ++ [y], ls.eraseIdx r.toNat, fo ++ [g], lo.eraseIdx r.toNat, upd_same, by rw [upd_ne (Ne.symm DL), upd_same], ?_, ?_, (erase_perm hg).trans hperm, ?_⟩
          · rw [List.map_append]
            exact dpAll_append (dpAll_put ntD (tu_encOs fo) (dpAll_put ntL (tu_encOs fo) fs7)) (.cons (dp_put ntD (tu_encO g) (dp_put ntL (tu_encO g) dy)) .nil)
          · rw [← erase_map]
            refine dpAll_erase _ (dpAll_put ntD (tu_encOs lo) (dpAll_put ntL (tu_encOs lo) ls7))
          · rw [List.length_append, hfo]
            rfl
        · rintro H6 ⟨B6, k6, fs, ls, fo, lo, hD, hL6, hfs, hls, hperm, hfo⟩
          rw [List.length_map] at hfo
          have tot : fo.length + lo.length = nm.length := by rw [← List.length_append, hperm.length_eq, osl]
          have lo0 : lo = [] := List.eq_nil_of_length_eq_zero (by omega)
          subst lo0
          rw [List.append_nil] at hperm
          have fsl : fs.length = nm.length := by rw [dpAll_len hfs, List.length_map, hfo]
          have mk : ∀ ds, ds.Perm (os.map fun g => (g.1, oD g.2)) ∨ ds.Perm ((Str.ofString "", perD) :: os.map fun g => (g.1, oD g.2)) → GOk false p ds := fun ds hp => gok_of hp (by rw [hos]; exact N.nd) (by omega) (fun t ht x hx => by rw [hos]; exact N.all _ (tokK_all ht hx)) fun g hg => ⟨N.sh g.1 (by rw [← hos]; exact List.mem_map.mpr ⟨g, hg, rfl⟩), (hdv g hg).1, fun i e => by have := (hdv g hg).2 i e; omega⟩
          have k46 : But b H H6 := k4.trans k6
          refine ⟨_, rfl, b, c, ns, _, rfl, by decide, by decide, B6, fun r2 H7 r20 r21 B7 k7 => ⟨rfl, _, rfl, ?_⟩⟩
          have hD7 := k7 _ _ hD Db
          have fs7 : DpAll K H7 fs (fo.map encO) := dpAll_kt0 (KeepT.but B6.notT k7) hfs (tu_encOs fo)
          show if decide (V.int r2 = V.int 0) = true then _ else _
          by_cases e0 : r2 = 0
          · rw [show decide (V.int r2 = V.int 0) = true from decide_eq_true (by rw [e0])]
            refine iteT ⟨_, rfl, .inl ⟨rfl, _, SqL.of hD7⟩, _, rfl, _, rfl, D, fs, rfl, .inl (SqL.of hD7), _, _, rfl, rfl, b, c, ns, _, rfl, by omega, by omega, B7, fun r3 H8 r30 r31 B8 k8 => ?_⟩
            refine ⟨by show 2 ≤ sizeLine; decide, fun A nA => ⟨by show 2 ≤ sizeLine; decide, fun T nT => ?_⟩⟩
            have hD8 := k8 _ _ hD7 Db
            have fs8 : DpAll K H8 fs (fo.map encO) := dpAll_kt0 (KeepT.but B7.notT k8) fs7 (tu_encOs fo)
            have sA : Same H8 (upd H8 A (.tup [.str (Str.ofString "ann"), .str (Str.ofString "bob")])) := sm_new sm_refl nA
            have dA : Dp K (upd H8 A (.tup [.str (Str.ofString "ann"), .str (Str.ofString "bob")])) (.ref A) perD := .tup (SqT.of upd_same) (.cons (.str _) (.cons (.str _) .nil))
            generalize upd H8 A (.tup [.str (Str.ofString "ann"), .str (Str.ofString "bob")]) = H9 at sA dA nT ⊢
            have sT : Same H9 (upd H9 T (.tup [.str (Str.ofString ""), .ref A])) := sm_new sm_refl nT
            have dT : Dp K (upd H9 T (.tup [.str (Str.ofString ""), .ref A])) (.ref T) (encG (Str.ofString "", perD)) := .tup (SqT.of upd_same) (.cons (.str _) (.cons (dp_same sT dA) .nil))
            generalize upd H9 T (.tup [.str (Str.ofString ""), .ref A]) = HA at sT dT ⊢
            have sAT := sA.trans sT
            have hDA := sAT _ _ hD8
            have ntA : NotT (HA D) := by rw [hDA]; exact notT_lst
            have tuF := tu_encOs fo
            have BA := B8.same sAT
            refine ⟨D, fs, r3, _, rfl, rfl, hDA, small1000 (by omega), r30, by omega, ⟨_, rfl, ?_⟩⟩
            refine k D _ ((fo.take r3.toNat).map (fun g => (g.1, oD g.2)) ++ [(Str.ofString "", perD)] ++ (fo.drop r3.toNat).map fun g => (g.1, oD g.2)) _ Db (BA.mine (Ne.symm Db) Dc) (but_mine (((k46.trans k7).trans k8).same sAT) (but_free k4 nD4 Db)) upd_same ?_ (mk _ (.inr ?_))
            · have fA := dpAll_put (o := .lst (fs.take r3.toNat ++ [V.ref T] ++ fs.drop r3.toNat)) ntA tuF (dpAll_same sAT fs8)
              rw [List.map_append, List.map_append, ← encO_map, ← encO_map, List.map_take, List.map_drop]
              exact dpAll_append (dpAll_append (dpAll_take _ fA) (.cons (dp_put ntA rfl dT) .nil)) (dpAll_drop _ fA)
            · rw [List.map_take, List.map_drop]
              exact (ins_perm _ _ _).trans ((hperm.map _).cons _)
          · rw [show decide (V.int r2 = V.int 0) = false from decide_eq_false (fun q => e0 (V.int.inj q))]
            refine iteF ⟨_, rfl, k D fs (fo.map fun g => (g.1, oD g.2)) H7 Db B7 (k46.trans k7) hD7 (by rw [← encO_map]; exact fs7) (mk _ (.inl (hperm.map _)))⟩
end
end K5


set_option Elab.async false
set_option linter.all false
set_option maxRecDepth 100000
set_option maxHeartbeats 8000000
namespace K5
open PySem L2 Nd Bk Gd PySem.ExE
theorem log_pow (v : Nat) : ∀ k : Nat, (v ^ k).log2 ≤ k * (v.log2 + 1)
  | 0 => by rw [Nat.pow_zero]; exact Nat.le_of_eq (by rw [Nat.zero_mul]; decide)
  | k + 1 => by
    have h1 := log_pow v k
    have h2 := log_mul (v ^ k) v
    rw [Nat.pow_succ, Nat.add_mul]
    omega
def sumE (m : Mono) : Nat := (m.map fun x => x.2.toNat).sum
theorem sumE_snoc (m : Mono) (x : Str × Int) : sumE (m ++ [x]) = sumE m + x.2.toNat := by
  unfold sumE
  rw [List.map_append, List.sum_append]
  simp
theorem sumE_take {m : Mono} {j : Nat} {x : Str × Int} (e : m[j]? = some x) : sumE (m.take (j + 1)) = sumE (m.take j) + x.2.toNat := by
  rw [List.take_succ, e]
  exact sumE_snoc _ _
theorem sumE_le (m : Mono) (j : Nat) : sumE (m.take j) ≤ sumE m := by
  have h : sumE m = sumE (m.take j) + sumE (m.drop j) := by
    unfold sumE
    rw [← List.sum_append, ← List.map_append, List.take_append_drop]
  omega
theorem sumE_mem : ∀ {m : Mono} {x : Str × Int}, x ∈ m → x.2.toNat ≤ sumE m
  | [], _, h => by cases h
  | y :: m, x, h => by
    have e : sumE (y :: m) = y.2.toNat + sumE m := by unfold sumE; simp
    rcases List.mem_cons.mp h with rfl | h
    · omega
    · have := sumE_mem h
      omega
/-- small enough to be counted by the law's own way -/
structure CntSm (τ : Str → Nat) (p : Poly) : Prop where
  su : ∀ t ∈ p, sumE t.1 ≤ 100
  lo : ∀ t ∈ p, ∀ x ∈ t.1, (τ x.1).log2 ≤ 400
theorem powC_log {τ : Str → Nat} : ∀ (m : Mono), (∀ x ∈ m, (τ x.1).log2 ≤ 400 ∧ 1 ≤ x.2) → ∀ j, (powC τ (m.take j)).natAbs.log2 ≤ 402 * sumE (m.take j) := by
  intro m h j
  induction j with
  | zero => exact Nat.zero_le _
  | succ j ih =>
    cases e : m[j]? with
    | none =>
      have : m.take (j + 1) = m.take j := by rw [List.take_succ, e]; simp
      rw [this]
      exact ih
    | some x =>
      obtain ⟨h1, h2⟩ := h x (List.mem_of_getElem? e)
      rw [powC_take e, sumE_take e, Int.natAbs_mul, Int.natAbs_pow, Int.natAbs_natCast]
      have a := log_mul (powC τ (m.take j)).natAbs ((τ x.1) ^ x.2.toNat)
      have b := log_pow (τ x.1) x.2.toNat
      have c : x.2.toNat * ((τ x.1).log2 + 1) ≤ x.2.toNat * 401 := Nat.mul_le_mul_left _ (by omega)
      omega
def spLPow : Sp := fun vs H Q _ => ∃ v e : Nat, vs = [.int v, .int e] ∧ v.log2 ≤ 400 ∧ e ≤ 100 ∧ Q (.int ((v : Int) ^ e)) H
def spLCnt (K : PySem.W.Frag) : Sp := fun vs H Q _ => ∃ (v : V) (l : Addr) (ys : List V) (p : Poly) (gs : List (Str × V)) (τ : Str → Nat), vs = [v, .ref l] ∧ Dp K H v (bD p) ∧ CntOk p ∧ CntSm τ p ∧ (SqL K H l ys ∨ SqT K H l ys) ∧ Paired (PairV K H) ys gs ∧
  (gs.map (·.1)).Nodup ∧ gs.length ≤ 1000 ∧ HasC gs τ p ∧ ∀ H', Same H H' → Q (.int (cntP τ p)) H'
section
variable {P : Program} {w : World} {K : PySem.W.Frag} {mg : Str → Option Value} {base : Heap}
theorem scLPow : FnScope ["value", "exponent", "total", "k"] ["value", "exponent"] (defScope sLPow) := ⟨rfl, rfl, rfl, by decide +kernel, rfl, by decide +kernel, by decide +kernel⟩
theorem ok_lpow {f : Addr} {fd : FuncData} (F : Fun K "_law_power" "_law_power" sLPow f fd) (C : Cn K mg) : FnOk P w K mg base CX0 1 f fd ["value", "exponent"] spLPow := by
  refine F.ok scLPow (fun vs H Q E h => ?_) (fun cdv A outer s H vs Q E hr h => ?_)
  · obtain ⟨v, e, rfl, _⟩ := h
    rfl
  · obtain ⟨v, e, rfl, hv, he, k⟩ := h
    refine ⟨_, pss_cons (ps_set (i := 2) scLPow.nd rfl (Or.inl rfl) pe_int)
      (pss_cons (ps_for PassesOwn.never rfl (pi_range1 rfl C.N.rng (pa_cons (pv 1) pa_nil)) (pg_name (i := 3) scLPow.nd rfl (Or.inl rfl)) (pss_one (ps_set (i := 2) scLPow.nd rfl (Or.inl rfl) (pe_op op_mulW (pv 2) (pv 0)))))
      (pss_one (ps_ret (pv 2)))), ?_⟩
    refine ⟨_, rfl, _, rfl, by omega, by omega, ?_⟩
    refine for_range (n := e) (fun i σ H' => (∃ u, σ = [some (.int v), some (.int e), some (.int ((v : Int) ^ i)), u]) ∧ H' = H) ⟨⟨none, rfl⟩, rfl⟩ ?_ ?_
    · rintro i σ H' hi ⟨⟨u, rfl⟩, rfl⟩
      refine ⟨_, rfl, _, rfl, _, _, rfl, rfl, ?_, ?_⟩
      · unfold CMulW
        have b := log_pow v i
        have c : i * (v.log2 + 1) ≤ 100 * 401 := Nat.mul_le_mul (by omega) (by omega)
        rw [Int.natAbs_pow, Int.natAbs_natCast]
        omega
      · exact ⟨⟨_, by rw [Int.pow_succ]; rfl⟩, rfl⟩
    · rintro σ H' ⟨⟨u, rfl⟩, rfl⟩
      exact ⟨_, rfl, k⟩
abbrev lcnN : List Str := ["p", "given", "book", "token", "value", "total", "monomial", "coefficient", "part", "exponent"]
theorem scLCnt : FnScope lcnN ["p", "given"] (defScope sLCnt) := ⟨rfl, rfl, rfl, by decide +kernel, rfl, by decide +kernel, by decide +kernel⟩
theorem ok_lcnt {f : Addr} {fd : FuncData} (F : Fun K "_law_count" "_law_count" sLCnt f fd) (Gp : Df P w K mg base 1 "_law_power" ["value", "exponent"] spLPow) : FnOk P w K mg base CX0 2 f fd ["p", "given"] (spLCnt K) := by
  obtain ⟨fp, fdp, gP, kP, bP, GP⟩ := Gp.ok
  refine F.ok scLCnt (fun vs H Q E h => ?_) (fun cdv A outer s H vs Q E hr h => ?_)
  · obtain ⟨v, l, ys, p, gs, τ, rfl, _⟩ := h
    rfl
  · obtain ⟨v, l, ys, p, gs, τ, rfl, hd, ok, sm, hs, hp, hnd, hlen, has, k⟩ := h
    have hr1 : Room 1 _ := hr
    refine ⟨_, pss_cons (ps_set (i := 2) scLCnt.nd rfl (Or.inl rfl) pe_dnewK)
      (pss_cons (ps_for PassesOwn.never rfl (pi_seq (pv 1)) (pg_seq rfl (pgs_cons (pg_name (i := 3) scLCnt.nd rfl (Or.inl rfl)) (pgs_cons (pg_name (i := 4) scLCnt.nd rfl (Or.inl rfl)) pgs_nil)))
        (pss_one (ps_dput (u1 hr) (pv 2) (pv 3) (pv 4) rfl)))
      (pss_cons (ps_set (i := 5) scLCnt.nd rfl (Or.inl rfl) pe_int)
      (pss_cons (ps_for PassesOwn.never rfl (pi_tup (pv 0)) (pg_tup rfl (pgs_cons (pg_name (i := 6) scLCnt.nd rfl (Or.inl rfl)) (pgs_cons (pg_name (i := 7) scLCnt.nd rfl (Or.inl rfl)) pgs_nil)))
        (pss_cons (ps_set (i := 8) scLCnt.nd rfl (Or.inl rfl) (pv 7))
        (pss_cons (ps_for PassesOwn.never rfl (pi_tup (pv 6)) (pg_tup rfl (pgs_cons (pg_name (i := 3) scLCnt.nd rfl (Or.inl rfl)) (pgs_cons (pg_name (i := 9) scLCnt.nd rfl (Or.inl rfl)) pgs_nil)))
          (pss_one (ps_set (i := 8) scLCnt.nd rfl (Or.inl rfl) (pe_op op_mulW (pv 8) (pe_call GP hr1 rfl gP kP bP .nil pass0 (pa_cons (pe_dget (u1 hr) (pv 2) (pv 3) (fun _ _ => rfl)) (pa_cons (pv 9) pa_nil)))))))
        (pss_one (ps_set (i := 5) scLCnt.nd rfl (Or.inl rfl) (pe_op op_add (pv 5) (pv 8)))))))
      (pss_one (ps_ret (pv 5)))))), ?_⟩
    intro D nD
    have hl : ys.length = gs.length := paired_len hp
    refine seq_goS (a := l) (xs := ys) (H0 := H) (fun Q q => ⟨_, rfl, q⟩) (sm_new sm_refl nD) hs fun J G walk hG => ?_
    refine for_it walk (fun i τ' H2 => (∃ u3 u4, τ' = [some v, some (.ref l), some (.ref D), u3, u4, none, none, none, none, none]) ∧ Same H H2 ∧ H2 D = some (.dK (kvG (gs.take i)))) ⟨⟨_, _, rfl⟩, sm_new sm_refl nD, upd_same⟩ (fun i τ' H2 _ ⟨_, s2, _⟩ => hG H2 s2) ?_ ?_
    · rintro i x τ' H2 Hx hi ⟨⟨u3, u4, rfl⟩, s2, h2⟩ ⟨rfl, hx⟩
      obtain ⟨g, hg, T, rfl, hT⟩ := paired_get hp hx
      refine ⟨T, _, rfl, sq_same s2 hT, rfl, _, _, rfl, _, _, rfl, rfl, ?_⟩
      refine ⟨_, rfl, _, rfl, _, rfl, D, _, rfl, DPut.k (k := .inr g.1) h2 (small1000 (by unfold kvG; rw [List.length_map, List.length_take]; omega)), ⟨_, _, rfl⟩, sm_new s2 nD, ?_⟩
      rw [upd_same, kvG_step hnd hg]
    · rintro τ' H2 ⟨⟨u3, u4, rfl⟩, s2, h2⟩
      rw [hl, List.take_length] at h2
      obtain ⟨a, xs, rfl, hsq, hlx, hall⟩ := dp_bag (dp_same s2 hd)
      refine ⟨_, rfl, a, rfl, ⟨_, hsq⟩, ?_⟩
      refine for_tup (K := K) (a := a) (xs := xs) (fun i τ' H3 => (∃ u3 u4 u6 u7 u8 u9, τ' = [some (.ref a), some (.ref l), some (.ref D), u3, u4, some (.int (cntP τ (p.take i))), u6, u7, u8, u9]) ∧ H3 = H2) ⟨⟨_, _, _, _, _, _, rfl⟩, rfl⟩ (fun i τ' H3 _ ⟨_, e⟩ => by rw [e]; exact hsq) ?_ ?_
      · rintro i x τ' H3 hi ⟨⟨u3, u4, u6, u7, u8, u9, rfl⟩, rfl⟩
        obtain ⟨t, hti, hxt⟩ := bag_get hall hi
        have htm := List.mem_of_getElem? hti
        obtain ⟨T, kk, rfl, hT, hk⟩ := dp_pair hxt
        obtain ⟨b, zs, rfl, hb, hbl, hball⟩ := dp_bag (κ := Str) hk
        obtain ⟨c0, c1⟩ := ok.co t htm
        have hsu := sm.su t htm
        have lgc : t.2.natAbs.log2 ≤ 400 := by
          have h1 : t.2.natAbs.log2 ≤ BEY.natAbs.log2 := log_mono (by omega)
          have h2 : BEY.natAbs.log2 ≤ 400 := by decide +kernel
          omega
        refine ⟨T, _, rfl, hT, rfl, _, _, rfl, _, _, rfl, rfl, ?_⟩
        refine ⟨_, rfl, ?_⟩
        refine ⟨_, rfl, b, rfl, ⟨_, hb⟩, ?_⟩
        refine for_tup (K := K) (a := b) (xs := zs) (fun j τ' H4 => (∃ u3 u9, τ' = [some (.ref a), some (.ref l), some (.ref D), u3, u4, some (.int (cntP τ (p.take i))), some (.ref b), some (.int t.2), some (.int (t.2 * powC τ (t.1.take j))), u9]) ∧ H4 = H3) ⟨⟨u3, u9, ?_⟩, rfl⟩ (fun j τ' H4 _ ⟨_, e⟩ => by rw [e]; exact hb) ?_ ?_
        · rw [show powC τ (t.1.take 0) = 1 from rfl, Int.mul_one]
          rfl
        · rintro j y τ' H4 hj ⟨⟨u3, u9, rfl⟩, rfl⟩
          obtain ⟨q, hq, hyq⟩ := bag_get hball hj
          have hqm := List.mem_of_getElem? hq
          obtain ⟨U, kk2, rfl, hU, hkk⟩ := dp_pair hyq
          cases dp_str (i := q.1) hkk
          obtain ⟨hv, _⟩ := has t htm q hqm
          have lg := sm.lo t htm q hqm
          obtain ⟨x1, x2⟩ := ok.ex t htm q hqm
          have eq2 : q.2 = ((q.2.toNat : Nat) : Int) := by omega
          have qs := sumE_mem hqm
          have hg : DGet H4 D (.str q.1) (some (.int (τ q.1))) := hv ▸ DGet.k (k := .inr q.1) h2
          refine ⟨U, _, rfl, hU, rfl, _, _, rfl, _, _, rfl, rfl, ?_⟩
          refine ⟨_, rfl, _, rfl, _, rfl, D, _, rfl, hg, _, rfl, τ q.1, q.2.toNat, by rw [← eq2]; rfl, lg, by omega, _, _, rfl, rfl, ?_, ?_⟩
          · unfold CMulW
            have a1 := powC_log (τ := τ) t.1 (fun x hx => ⟨sm.lo t htm x hx, (ok.ex t htm x hx).1⟩) j
            have a2 := sumE_le t.1 j
            have a3 := log_mul t.2.natAbs (powC τ (t.1.take j)).natAbs
            have a4 := log_pow (τ q.1) q.2.toNat
            have a5 : q.2.toNat * ((τ q.1).log2 + 1) ≤ 100 * 401 := Nat.mul_le_mul (by omega) (by omega)
            rw [Int.natAbs_mul, Int.natAbs_pow, Int.natAbs_natCast]
            omega
          · refine ⟨⟨some (.str q.1), some (.int q.2), ?_⟩, rfl⟩
            rw [powC_take hq, ← Int.mul_assoc]
            rfl
        · rintro τ' H4 ⟨⟨u3, u9, rfl⟩, rfl⟩
          rw [hbl, List.take_length]
          refine ⟨_, rfl, _, rfl, _, _, rfl, rfl, ?_⟩
          refine ⟨⟨u3, u4, some (.ref b), some (.int t.2), some (.int (t.2 * powC τ t.1)), u9, ?_⟩, rfl⟩
          rw [cntP_take hti]
          rfl
      · rintro τ' H3 ⟨⟨u3, u4, u6, u7, u8, u9, rfl⟩, rfl⟩
        rw [hlx, List.take_length]
        exact ⟨_, rfl, k _ s2⟩
end
end K5


set_option Elab.async false
set_option linter.all false
set_option maxRecDepth 100000
set_option maxHeartbeats 8000000
namespace K5
open PySem L2 Nd Bk Gd PySem.ExE
theorem S_cons' {κ : Type} [DecidableEq κ] [Ky κ] (x : κ × Int) (l : Bag κ) : S (x :: l) = x.2 + S l := by
  unfold S
  rw [pr_cons]
  omega
theorem S_nil' {κ : Type} [DecidableEq κ] [Ky κ] : S ([] : Bag κ) = 0 := rfl
theorem sumE_S : ∀ {m : Mono}, (∀ x ∈ m, 0 < x.2) → (sumE m : Int) = S m
  | [], _ => by rw [S_nil']; rfl
  | x :: m, h => by
    have e : sumE (x :: m) = x.2.toNat + sumE m := by unfold sumE; simp
    have h1 := sumE_S fun y hy => h y (List.mem_cons_of_mem _ hy)
    have h2 := h x List.mem_cons_self
    rw [S_cons', e]
    omega
def M6 : Nat := 1000001
theorem powC_le {τ : Str → Nat} {m : Mono} (h : ∀ x ∈ m, τ x.1 ≤ M6) : ∀ j, powC τ (m.take j) ≤ ((M6 ^ sumE (m.take j) : Nat) : Int) := by
  intro j
  induction j with
  | zero => exact Int.le_refl _
  | succ j ih =>
    cases e : m[j]? with
    | none =>
      have : m.take (j + 1) = m.take j := by rw [List.take_succ, e]; simp
      rw [this]
      exact ih
    | some x =>
      rw [powC_take e, sumE_take e, Nat.pow_add, Int.natCast_mul]
      refine Int.mul_le_mul ih ?_ (Int.pow_nonneg (Int.natCast_nonneg _)) (Int.natCast_nonneg _)
      rw [← Int.natCast_pow]
      exact Int.ofNat_le.mpr (Nat.pow_le_pow_left (h x (List.mem_of_getElem? e)) _)
theorem cnt_small {τ : Str → Nat} {p : Poly} (pb : PB p) (h : ∀ t ∈ p, ∀ x ∈ t.1, τ x.1 ≤ M6) : cntP τ p < B4 := by
  have key : ∀ j, cntP τ (p.take j) ≤ ((p.take j).length : Int) * (8000 * ((M6 ^ 48 : Nat) : Int)) := by
    intro j
    induction j with
    | zero => exact Int.le_of_eq (by rw [List.take_zero]; rfl)
    | succ j ih =>
      cases e : p[j]? with
      | none =>
        have : p.take (j + 1) = p.take j := by rw [List.take_succ, e]; simp
        rw [this]
        exact ih
      | some t =>
        have htm := List.mem_of_getElem? e
        have c1 : t.2 ≤ 8000 := Int.le_trans (S_mem pb.ok.2.1 t htm) pb.sz
        have c0 : 0 < t.2 := pb.ok.2.1 t htm
        have pw : powC τ t.1 ≤ ((M6 ^ 48 : Nat) : Int) := by
          have a := powC_le (h t htm) t.1.length
          rw [List.take_length] at a
          refine Int.le_trans a (Int.ofNat_le.mpr (Nat.pow_le_pow_right (by decide) ?_))
          have b := sumE_S (pb.ok.2.2 t htm).2
          have d := pb.dg t htm
          omega
        have n0 := powC_nn τ t.1
        have g : t.2 * powC τ t.1 ≤ 8000 * ((M6 ^ 48 : Nat) : Int) := Int.mul_le_mul c1 pw n0 (by decide)
        have len : (p.take (j + 1)).length = (p.take j).length + 1 := by
          have := (List.getElem?_eq_some_iff.mp e).1
          rw [List.length_take, List.length_take]
          omega
        rw [cntP_take e, len, Int.natCast_add, Int.add_mul]
        omega
  have := key p.length
  rw [List.take_length] at this
  have l8 := pb.len
  have fin : (8 : Int) * (8000 * ((M6 ^ 48 : Nat) : Int)) < B4 := by decide +kernel
  have nn : (0 : Int) ≤ 8000 * ((M6 ^ 48 : Nat) : Int) := Int.mul_nonneg (by decide) (Int.natCast_nonneg _)
  have up : (p.length : Int) * (8000 * ((M6 ^ 48 : Nat) : Int)) ≤ 8 * (8000 * ((M6 ^ 48 : Nat) : Int)) := Int.mul_le_mul_of_nonneg_right (by omega) nn
  omega
theorem cok_pb {p : Poly} (pb : PB p) : CntOk p := by
  refine ⟨fun t ht => ?_, fun t ht x hx => ?_⟩
  · have c1 : t.2 ≤ 8000 := Int.le_trans (S_mem pb.ok.2.1 t ht) pb.sz
    have c0 : 0 < t.2 := pb.ok.2.1 t ht
    have b : (8000 : Int) ≤ BEY := by decide +kernel
    exact ⟨by omega, by omega⟩
  · have a := (pb.ok.2.2 t ht).2 x hx
    have b := S_mem (pb.ok.2.2 t ht).2 x hx
    have d := pb.dg t ht
    exact ⟨by omega, by omega⟩
theorem csm_pb {τ : Str → Nat} {p : Poly} (pb : PB p) (h : ∀ t ∈ p, ∀ x ∈ t.1, τ x.1 ≤ M6) : CntSm τ p := by
  refine ⟨fun t ht => ?_, fun t ht x hx => ?_⟩
  · have b := sumE_S (pb.ok.2.2 t ht).2
    have d := pb.dg t ht
    omega
  · exact Nat.le_trans (log_mono (h t ht x hx)) (by decide +kernel)
def spValN (K : PySem.W.Frag) : Sp := fun vs H Q _ => ∃ (v g : V) (p : Poly) (gs : List (Str × V)) (τ : Str → Nat), vs = [v, .str count_, g] ∧ FD K H v (bD p) ∧ POk p ∧ Szd p ∧ (tokK p).length ≤ 1000 ∧ CntOk p ∧ GivenAt K H g gs ∧ (gs.map (·.1)).Nodup ∧ HasC gs τ p ∧ cntP τ p < B4 ∧
  ∀ H', Same H H' → Q (.int (cntP τ p)) H'
theorem oD_inj : ∀ {a b : Option Int}, oD a = oD b → a = b
  | none, none, _ => rfl
  | some _, some _, h => by cases h; rfl
  | none, some _, h => by cases h
  | some _, none, h => by cases h
theorem oD_per {o : Option Int} (h : oD o = perD) : False := by
  cases o <;> cases h
def spVRC (K : PySem.W.Frag) : Sp := fun vs H Q _ => ∃ (b c : Addr) (ns : List Int) (v : V) (p : Poly) (l : Addr) (ys : List V) (ds : List (Str × PyData)), vs = [.ref b, v, .ref l] ∧ BoxAt H b c ns ∧ Dp K H v (bD p) ∧ PB p ∧ l ≠ b ∧ H l = some (.lst ys) ∧
  DpAll K H ys (ds.map encG) ∧ GOk false p ds ∧ ∀ H', BoxAt H' b c ns → But b H H' → Q (.bl true) H'
section
variable {P : Program} {w : World} {K : PySem.W.Frag} {mg : Str → Option Value} {base : Heap} {C : Addr}
theorem valN_of {k : Nat} {f : Addr} {fd : FuncData} (F : FnOk P w K mg base (L2.CX P w) k f fd ["p", "measure", "given"] (spValC K C)) : FnOk P w K mg base CX0 k f fd ["p", "measure", "given"] (spValN K) := by
  refine (calm0 F).imp ?_
  rintro vs H Q E ⟨v, g, p, gs, τ, rfl, h1, h2, h3, h4, h5, h6, h7, h8, h9, k⟩
  exact ⟨v, g, p, gs, τ, rfl, h1, h2, h3, h4, h5, h6, h7, h8, ⟨fun h => by omega, fun _ => k⟩⟩
theorem scRightC : FnScope ["box", "p", "given", "due", "one", "pairs", "kept"] ["box", "p", "given"] (defScope sRightC) := ⟨rfl, rfl, rfl, by decide +kernel, rfl, by decide +kernel, by decide +kernel⟩
theorem ok_rightC {f : Addr} {fd : FuncData} (F : Fun K "_law_right" "_law_right" sRightC f fd) (C : Cn K mg) (rp : mg "repr" = none) (rv : mg "reversed" = none) (Gu : Df P w K mg base 2 "_law_count" ["p", "given"] (spLCnt K))
    (Gv : Dk P w K mg base 3 "valued" ["p", "measure", "given"] ["given", "measure", "p"] rv3 rv3 (spValN K)) (Gs : Df P w K mg base 7 "_law_lists" ["box", "value"] (sps K 5)) (Ga : Df P w K mg base 6 "_law_alike" ["told", "due"] (spA K 6)) :
    FnG P w K mg base 8 f fd ["box", "p", "given"] (spVRC K) := by
  obtain ⟨fu, fdu, gU, kU, bU, GU⟩ := Gu.ok
  obtain ⟨fv, fdv, gV, kV', bV, bVk, GV'⟩ := Gv.ok
  obtain ⟨fs, fds, gS, kS, bS, GS⟩ := Gs.ok
  obtain ⟨fa, fda, gA, kA, bA, GA⟩ := Ga.ok
  refine ok_still F scRightC (fun vs H Q h => ?_) (fun cdv A outer s H vs Q still hr h => ?_)
  · obtain ⟨b, c, ns, v, p, l, ys, ds, rfl, _⟩ := h
    rfl
  · obtain ⟨b, c, ns, v, p, l, ys, ds, rfl, hB, hd, pb, lb, hl, hys, gok, k⟩ := h
    have hr2 : Room 2 _ := hr.mono (by decide)
    have hr3 : Room 3 _ := hr.mono (by decide)
    have hr6 : Room 6 _ := hr.mono (by decide)
    have hr7 : Room 7 _ := hr
    have st : Still (cxOf CX0 P w K mg base ["box", "p", "given", "due", "one", "pairs", "kept"] "_law_right" (defScope sRightC) f cdv A outer s H E0).nox.A := still
    refine ⟨_, pss_cons (ps_set (i := 3) scRightC.nd rfl (Or.inl rfl) (pe_call GU hr2 rfl gU kU bU .nil pass0 (pa_cons (pv 1) (pa_cons (pv 2) pa_nil))))
      (pss_cons (ps_if (pt_not (pt_val (pe_call GA hr6 rfl gA kA bA .nil pass0 (pa_cons (pe_call GV' hr3 rfl gV kV' bV .nil pass0 (pa_cons (pv 1) (pa_cons pe_str (pa_cons (pe_callTy (show CallR _ _ (rTupF K) from call_tupleF) (by rfl) C.N.tup (by rfl) (pa_cons (pv 2) pa_nil)) pa_nil)))) (pa_cons (pv 3) pa_nil))))) (pss_one (ps_ret pe_bl)) pss_nil)
      (pss_cons (ps_set (i := 4) scRightC.nd rfl (Or.inl rfl) (pe_call GS hr7 rfl gS kS bS .nil pass0 (pa_cons (pv 0) (pa_cons (pv 1) pa_nil))))
      (pss_cons (ps_set (i := 5) scRightC.nd rfl (Or.inl rfl) (pe_call GS hr7 rfl gS kS bS .nil pass0 (pa_cons (pv 0) (pa_cons (RT.pe_tupRev rfl (by rfl) C.N.tup (by rfl) rv (pe_callTy call_list_of (by rfl) C.N.lst (by rfl) (pa_cons (pv 2) pa_nil))) pa_nil))))
      (pss_cons (ps_set (i := 6) scRightC.nd rfl (Or.inl rfl) (pe_lst (pa_cons (pe_callB (cr_repr st (u64 hr)) (by rfl) rp (by rfl) (pa_cons (pv 4) pa_nil)) (pa_cons (pe_callB (cr_repr st (u64 hr)) (by rfl) rp (by rfl) (pa_cons (pv 5) pa_nil)) pa_nil))))
      (pss_one (ps_ret (pe_and (pe_call GA hr6 rfl gA kA bA .nil pass0 (pa_cons (pe_kws (FnG.of GV') st hr3 rfl gV kV' bVk (pk_cons (pv 5) (pk_cons pe_str (pk_cons (pv 4) pk_nil)))) (pa_cons (pv 3) pa_nil)))
        (pe_one (pe_cmpR (op_eqV (u64 hr)) (pe_lst (pa_cons (pe_callB (cr_repr st (u64 hr)) (by rfl) rp (by rfl) (pa_cons (pv 4) pa_nil)) (pa_cons (pe_callB (cr_repr st (u64 hr)) (by rfl) rp (by rfl) (pa_cons (pv 5) pa_nil)) pa_nil))) (pv 6) (nomark _)))))))))), ?_⟩
    obtain ⟨σ, hval⟩ := gok.val
    have gv : ∀ g ∈ ds, GV g.2 := fun g hg => (gok.shw g hg).2
    have tuG := tu_encGs gv
    -- the numbers
    have num : ∀ t ∈ p, ∀ x ∈ t.1, ∃ i : Int, σ x.1 = some i ∧ 0 ≤ i ∧ i ≤ 1000001 := fun t ht x hx => by
      obtain ⟨hm, hn⟩ := hval t ht x hx
      obtain ⟨i, hi⟩ := Option.isSome_iff_exists.mp (hn rfl)
      rcases gv _ hm with ⟨o, e, ho⟩ | e
      · have e2 := oD_inj e
        exact ⟨i, hi, ho i (by rw [← e2]; exact hi)⟩
      · exact (oD_per e).elim
    obtain ⟨τ, hτ⟩ : ∃ τ : Str → Nat, ∀ z i, σ z = some i → τ z = i.toNat := ⟨fun z => ((σ z).getD 0).toNat, fun z i e => by show ((σ z).getD 0).toNat = _; rw [e]; rfl⟩
    have tle : ∀ t ∈ p, ∀ x ∈ t.1, τ x.1 ≤ M6 := fun t ht x hx => by
      obtain ⟨i, e, i0, i1⟩ := num t ht x hx
      rw [hτ _ _ e]
      show i.toNat ≤ 1000001
      omega
    have mkC : ∀ gs : List (Str × V), Has gs false σ p → HasC gs τ p := fun gs h t ht x hx => by
      obtain ⟨i, e, i0, i1⟩ := num t ht x hx
      refine ⟨?_, Nat.lt_of_le_of_lt (log_mono (tle t ht x hx)) (by decide +kernel)⟩
      rw [(h t ht x hx).1, e, hτ _ _ e]
      show some (V.int i) = some (V.int ((i.toNat : Nat) : Int))
      rw [Int.toNat_of_nonneg i0]
    have small := cnt_small pb tle
    have cok := cok_pb pb
    obtain ⟨yl, yget⟩ := dps_get hys gv
    obtain ⟨gs, pg, gnd, gl, has0⟩ := given_has gok.nd hval yl yget
    have has := mkC gs has0
    refine ⟨_, rfl, _, rfl, v, l, ys, p, gs, τ, rfl, hd, cok, csm_pb pb tle, .inl (SqL.of hl), pg, gnd, by rw [gl]; exact gok.len, has, fun H1 s1 => ?_⟩
    have hl1 := s1 _ _ hl
    have tkl := tks_pb pb
    have s02 := s1
    have hl2 := s02 _ _ hl
    refine ⟨_, rfl, _, rfl, l, ys, rfl, SqL.of hl2, fun T oT nT hoT => ?_⟩
    have sT : Same H1 (upd H1 T (.frz oT (.tup ys))) := sm_new sm_refl nT
    have hT : SqT K (upd H1 T (.frz oT (.tup ys))) T ys := .inl (.inr ⟨oT, upd_same⟩)
    have pT : PlainT (upd H1 T (.frz oT (.tup ys))) T := ⟨oT, ys, upd_same, hoT⟩
    generalize upd H1 T (.frz oT (.tup ys)) = H3 at sT hT pT ⊢
    have s03 := s02.trans sT
    refine ⟨v, .ref T, p, gs, τ, rfl, FD.of (dp_same s03 hd) (tu_bD _), pb.ok, pb.szd, tkl, cok, ⟨T, ys, rfl, .inr ⟨pT, hT⟩, Paired.mapP pg fun _ _ q => q.same s03⟩, gnd, has, small, fun H4 s4 => ?_⟩
    refine ⟨_, rfl, _, _, rfl, ak_ov (o := some (cntP τ p)), fun H5 s5 => ⟨_, rfl, iteF ?_⟩⟩
    have s05 := (s03.trans s4).trans s5
    have B5 := hB.same s05
    have d5 := dp_same s05 hd
    have hl5 := s05 _ _ hl
    have ys5 := dpAll_same s05 hys
    have nonb : ∀ {H' : Hp}, BoxAt H' b c ns → ∀ z ∈ [b], H' z ≠ none := fun {H'} B z hz => by
      rw [List.mem_singleton.mp hz]
      obtain ⟨_, _, _, _, _, _, hb⟩ := B.lst
      rw [hb]
      exact fun q => nomatch q
    refine ⟨_, rfl, _, rfl, b, c, ns, [b], v, bD p, rfl, B5, d5, okd_poly pb.szd, List.mem_singleton.mpr rfl, nonb B5, fun v6 d6 H6 f6 B6 k6 h6 _ => ?_⟩
    have hl6 := k6 _ _ hl5 lb
    have ys6 : DpAll K H6 ys (ds.map encG) := dpAll_kt0 (KeepT.but B5.notT k6) ys5 tuG
    refine ⟨_, rfl, _, rfl, l, ys, rfl, .inl (SqL.of hl6), fun L nL => ?_⟩
    have sL : Same H6 (upd H6 L (.lst ys)) := sm_new sm_refl nL
    have hL : upd H6 L (.lst ys) L = some (.lst ys) := upd_same
    generalize upd H6 L (.lst ys) = H7 at sL hL ⊢
    refine ⟨L, ys, rfl, SqL.of hL, fun R nR => ?_⟩
    have sR : Same H7 (upd H7 R (.tup ys.reverse)) := sm_new sm_refl nR
    have hR : SqT K (upd H7 R (.tup ys.reverse)) R ys.reverse := SqT.of upd_same
    generalize upd H7 R (.tup ys.reverse) = H8 at sR hR ⊢
    have s68 := sL.trans sR
    have B8 := B6.same s68
    have dR : Dp K H8 (.ref R) (.tuple (ds.reverse.map encG)) := .tup hR (by rw [List.map_reverse]; exact dpAll_rev (dpAll_same s68 ys6))
    have gvr : ∀ g ∈ ds.reverse, GV g.2 := fun g hg => gv g (List.mem_reverse.mp hg)
    have lr : ds.reverse.length ≤ 1000 := by rw [List.length_reverse]; exact gok.len
    refine ⟨b, c, ns, [b], .ref R, .tuple (ds.reverse.map encG), rfl, B8, dR, okd_pairs lr gvr, List.mem_singleton.mpr rfl, nonb B8, fun v9 d9 H9 f9 B9 k9 h9 top9 => ?_⟩
    have h69 : Fp K H9 [b] v6 d6 := (h6.same s68).but (List.mem_singleton.mpr rfl) B8.notT k9
    obtain ⟨a6, rfl⟩ := fp_ref h69 f6
    have ref9 : ∃ a9, v9 = .ref a9 ∧ (SqL K H9 a9 = SqL K H9 a9) := by
      cases h9 with
      | lst h1 h2 h3 => exact ⟨_, rfl, rfl⟩
      | tup h1 h2 => exact ⟨_, rfl, rfl⟩
      | non => simp [flat] at f9
      | bl => simp [flat] at f9
      | int => simp [flat] at f9
      | str => simp [flat] at f9
    obtain ⟨a9, rfl, _⟩ := ref9
    have w6 := Shw.flat f6 (⟨(sho_pb pb).sh, (sho_pb pb).co, (sho_pb pb).de⟩ : Shw (bD p) 1000000 20)
    have w9 := Shw.flat f9 (shw_pairs lr fun g hg => gok.shw g (List.mem_reverse.mp hg))
    refine ⟨_, rfl, a6, d6, rfl, h69.dp, w6.sh, w6.co, w6.de, _, rfl, a9, d9, rfl, h9.dp, w9.sh, w9.co, w9.de, (by show 2 ≤ sizeLine; decide), fun Kp nK => ?_⟩
    have sK : Same H9 (upd H9 Kp (.lst [.str d6.shown, .str d9.shown])) := sm_new sm_refl nK
    have hK : upd H9 Kp (.lst [.str d6.shown, .str d9.shown]) Kp = some (.lst [.str d6.shown, .str d9.shown]) := upd_same
    generalize upd H9 Kp (.lst [.str d6.shown, .str d9.shown]) = HA at sK hK ⊢
    have F6 : FD K HA (.ref a6) (bD p) := (h69.fd f6).same sK
    obtain ⟨zs, gat9, zl, zget9⟩ := fp_pairs h9 f9 top9
    have zget : ∀ (i : Nat) (x : V), zs[i]? = some x → ∃ g, ds.reverse[i]? = some g ∧ FD K HA x (encG g) := fun i x hx => let ⟨g, q1, q2⟩ := zget9 i x hx; ⟨g, q1, q2.same sK⟩
    have ndr : (ds.reverse.map (·.1)).Nodup := by rw [List.map_reverse]; exact (List.reverse_perm _).nodup_iff.mpr gok.nd
    obtain ⟨gz, pz, znd, zgl, zhas0⟩ := given_has (σ := σ) ndr (fun t ht x hx => ⟨List.mem_reverse.mpr (hval t ht x hx).1, (hval t ht x hx).2⟩) zl zget
    have zhas := mkC gz zhas0
    have gat : SqL K HA a9 zs ∨ (PlainT HA a9 ∧ SqT K HA a9 zs) := gat9.imp sK.seq fun q => ⟨q.1.same sK, sqT_same sK q.2⟩
    refine ⟨_, rfl, _, rfl, .ref a6, .ref a9, p, gz, τ, rfl, F6, pb.ok, pb.szd, tkl, cok, ⟨a9, zs, rfl, gat, pz⟩, znd, zhas, small, fun HB sB => ?_⟩
    refine ⟨_, rfl, _, _, rfl, ak_ov (o := some (cntP τ p)), fun HC sC => ?_⟩
    refine ⟨_, rfl, iteT ?_⟩
    have s9C := (sK.trans sB).trans sC
    refine ⟨_, rfl, a6, d6, rfl, dp_same s9C h69.dp, w6.sh, w6.co, w6.de, _, rfl, a9, d9, rfl, dp_same s9C h9.dp, w9.sh, w9.co, w9.de, (by show 2 ≤ sizeLine; decide), fun E1 nE => ⟨_, rfl, ?_⟩⟩
    have sE : Same HC (upd HC E1 (.lst [.str d6.shown, .str d9.shown])) := sm_new sm_refl nE
    refine ⟨1, by decide, .inl ⟨E1, Kp, _, _, rfl, rfl, SqL.of upd_same, SqL.of (((sB.trans sC).trans sE) _ _ hK), .cons (.inl ⟨rfl, rfl⟩) (.cons (.inl ⟨rfl, rfl⟩) .nil)⟩, ?_⟩
    exact k _ (B9.same (s9C.trans sE)) (((((But.refl.same s05).trans k6).same s68).trans k9).same (s9C.trans sE))
end
end K5


set_option Elab.async false
set_option linter.all false
set_option maxRecDepth 100000
set_option maxHeartbeats 8000000
namespace K5
open PySem L2 Nd Bk Gd PySem.ExE
theorem sl_any {K : PySem.W.Frag} {a : Addr} {xs : List V} {lo hi : Option Int} {H : Hp} {Q : VK} (h : SqT K H a xs) (k : ∀ a1 H7, Same H H7 → Q (.ref a1) H7) : rSlA K (.ref a) lo hi H Q := ⟨a, xs, rfl, h, fun _ => k a H sm_refl, fun _ p np => k p _ (sm_new sm_refl np)⟩
def spBox1 : Sp := fun vs H Q _ => ∃ (b c : Addr) (ns : List Int), vs = [.ref b] ∧ BoxAt H b c ns ∧ ∀ H', BoxAt H' b c ns → But b H H' → Q (.bl true) H'
theorem okd_os {os : List (Option Int)} : ∀ d ∈ os.map oD, Okd 4 d := fun d hd => by
  obtain ⟨o, _, rfl⟩ := List.mem_map.mp hd
  exact .inl (okd_oD o)
theorem dp_os {K : PySem.W.Frag} {H : Hp} : ∀ os : List (Option Int), DpAll K H (os.map ov) (os.map oD)
  | [] => .nil
  | o :: os => .cons (dp_ov o) (dp_os os)
theorem ak_os {K : PySem.W.Frag} {H : Hp} {A B : Addr} (os : List (Option Int)) (h1 : H A = some (.lst (os.map ov))) (h2 : H B = some (.lst (os.map ov))) (hl : os.length ≤ 10) : Alike K H 5 (.ref A) (.ref B) :=
  ak_l h1 h2 (dp_os os) (dp_os os) (by rw [List.length_map]; exact hl) okd_os
/-- what is told, or the word -/
def askD (τ : Str → Nat) (p : Poly) : PyData := if B4 ≤ cntP τ p then .tuple [.str (Str.ofString "many"), .str (Str.ofString "figures")] else .tuple [.str (Str.ofString "told"), .int (cntP τ p)]
def spAskC (K : PySem.W.Frag) : Sp := fun vs H Q _ => ∃ (v g : V) (p : Poly) (gs : List (Str × V)) (τ : Str → Nat), vs = [v, g] ∧ FD K H v (bD p) ∧ POk p ∧ Szd p ∧ (tokK p).length ≤ 1000 ∧ CntOk p ∧ GivenAt K H g gs ∧ (gs.map (·.1)).Nodup ∧ HasC gs τ p ∧
  ∀ (v' : V) (H' : Hp), Same H H' → Dp K H' v' (askD τ p) → Q v' H'
section
variable {P : Program} {w : World} {K : PySem.W.Frag} {mg : Str → Option Value} {base : Heap} {T C fI : Addr}
theorem scAskC : FnScope ["p", "given", "e"] ["p", "given"] (defScope sAskC) := ⟨rfl, rfl, rfl, by decide +kernel, rfl, by decide +kernel, by decide +kernel⟩
theorem ok_askC {f : Addr} {fd : FuncData} (F : Fun K "_law_asked" "_law_asked" sAskC f fd) (X : Tm K mg T C fI)
    {fv : Addr} {fdv : FuncData} (gV : mg "valued" = some (.ref fv)) (kV : PySem.W.keepIn K (.ref fv) = true) (bV : Binds K fdv ["p", "measure", "given"] []) (GV' : FnOk P w K mg base (L2.CX P w) 3 fv fdv ["p", "measure", "given"] (spValC K C)) :
    FnOk P w K mg base CX0 4 f fd ["p", "given"] (spAskC K) := by
  refine F.ok scAskC (fun vs H Q E h => ?_) (fun cdv A outer s H vs Q E hr h => ?_)
  · obtain ⟨v, g, p, gs, τ, rfl, _⟩ := h
    rfl
  · obtain ⟨v, g, p, gs, τ, rfl, h1, h2, h3, h4, h5, h6, h7, h8, k⟩ := h
    refine ⟨_, pss_one (ps_try_named (tb := fun W => tRet (tTup (tCons (tC (.str "told")) (tCons (tCallS (spValC K C) (WE W) (tCons (tVar 0) (tCons (tC (.str "count")) (tCons (tVar 1) tNil)))) tNil)))) rfl rfl scAskC.nd takes0
        (fun W pn xe tk _ => pss_one (ps_ret (pe_tup (pa_cons pe_str (pa_cons (pe_callS GV' hr rfl gV kV bV (fun σ => passAt tk σ) (pa_cons (pv 0) (pa_cons pe_str (pa_cons (pv 1) pa_nil)))) pa_nil)))))
        (.cons (i := 2) ⟨rfl, by decide, .inl X.g⟩ rfl rfl (fun b oe cls d pn hz hf => pss_one (ps_ret (pe_tup (pa_cons pe_str (pa_cons (pe_xf (xf_of X.E) X.E.no hz hf (pv 2)) pa_nil))))) .nil)), ?_⟩
    have exm : PySem.W.exmOne K (.ref C) (.ref C) = some true := PySem.W.exm_ref X.E.exC X.E.hd X.E.tyC X.E.self
    refine ⟨_, rfl, _, rfl, v, g, p, gs, τ, rfl, h1, h2, h3, h4, h5, h6, h7, h8, ⟨fun h d H' s' hd => ⟨true, exm, fun _ e ne => ?_, fun z => nomatch z⟩, fun h H' s' => ⟨(by show 2 ≤ sizeLine; decide), fun A nA => ?_⟩⟩⟩
    · refine ⟨_, rfl, rfl, rfl, d, _, _, rfl, hd, rfl, (by show 2 ≤ sizeLine; decide), fun A nA => ?_⟩
      refine k (.ref A) _ (sm_new s' (s'.free nA)) ?_
      unfold askD
      rw [if_pos h]
      exact .tup (SqT.of upd_same) (.cons (.str _) (.cons (.str _) .nil))
    · refine k (.ref A) _ (sm_new s' (s'.free nA)) ?_
      unfold askD
      rw [if_neg (by omega)]
      exact .tup (SqT.of upd_same) (.cons (.str _) (.cons (.int _) .nil))
abbrev mcN : List Str := ["box", "a", "b", "told", "persons"]
theorem scMeasC : FnScope mcN ["box"] (defScope sMeasC) := ⟨rfl, rfl, rfl, by decide +kernel, rfl, by decide +kernel, by decide +kernel⟩
theorem ok_measC {f : Addr} {fd : FuncData} (F : Fun K "_law_measured" "_law_measured" sMeasC f fd) (C : Cn K mg) (Gd : Df P w K mg base 2 "_law_draw" ["box", "many"] spDraw) (Gv : Df P w K mg base 3 "_law_drawn_value" ["box", "most"] spDVC)
    (Gp : Dk P w K mg base 1 "measured_plus" ["measure", "a", "b"] ["b", "a", "measure"] rv3 rv3 spPlC) (Gm : Dk P w K mg base 1 "measured_times" ["measure", "a", "b"] ["b", "a", "measure"] rv3 rv3 spTmC)
    (Gz : Dk P w K mg base 1 "measured_zero" ["measure", "persons"] ["persons", "measure"] sw2 sw2 spZeC) (Go : Df P w K mg base 1 "measured_one" ["measure", "persons"] spOnC) (Ga : Df P w K mg base 6 "_law_alike" ["told", "due"] (spA K 6)) :
    FnG P w K mg base 7 f fd ["box"] spBox1 := by
  obtain ⟨fd', fdd, gD, kD, bD', GD⟩ := Gd.ok
  obtain ⟨fv, fdv, gV, kV', bV, GV'⟩ := Gv.ok
  obtain ⟨fp, fdp, gP, kP, bP, bPk, GP⟩ := Gp.ok
  obtain ⟨fm, fdm, gM, kM, bM, bMk, GM⟩ := Gm.ok
  obtain ⟨fz, fdz, gZ, kZ, bZ, bZk, GZ⟩ := Gz.ok
  obtain ⟨fo, fdo, gO, kO, bO, GO⟩ := Go.ok
  obtain ⟨fa, fda, gA, kA, bA, GA⟩ := Ga.ok
  refine ok_still F scMeasC (fun vs H Q h => ?_) (fun cdv A outer s H vs Q still hr h => ?_)
  · obtain ⟨b, c, ns, rfl, _⟩ := h
    rfl
  · obtain ⟨b, c, ns, rfl, hB, k⟩ := h
    have hr1 : Room 1 _ := hr.mono (by decide)
    have hr2 : Room 2 _ := hr.mono (by decide)
    have hr3 : Room 3 _ := hr.mono (by decide)
    have hr6 : Room 6 _ := hr
    have st : Still (cxOf CX0 P w K mg base mcN "_law_measured" (defScope sMeasC) f cdv A outer s H E0).nox.A := still
    refine ⟨_, pss_cons (ps_set (i := 1) scMeasC.nd rfl (Or.inl rfl) (pe_call GV' hr3 rfl gV kV' bV .nil pass0 (pa_cons (pv 0) (pa_cons pe_int pa_nil))))
      (pss_cons (ps_set (i := 2) scMeasC.nd rfl (Or.inl rfl) (pe_call GV' hr3 rfl gV kV' bV .nil pass0 (pa_cons (pv 0) (pa_cons pe_int pa_nil))))
      (pss_cons (ps_set (i := 3) scMeasC.nd rfl (Or.inl rfl) (pe_lst (pa_cons (pe_call GP hr1 rfl gP kP bP .nil pass0 (pa_cons pe_str (pa_cons (pv 1) (pa_cons (pv 2) pa_nil)))) (pa_cons (pe_call GM hr1 rfl gM kM bM .nil pass0 (pa_cons pe_str (pa_cons (pv 1) (pa_cons (pv 2) pa_nil))))
        (pa_cons (pe_kws (FnG.of GP) st hr1 rfl gP kP bPk (pk_cons (pv 1) (pk_cons (pv 2) (pk_cons pe_str pk_nil)))) pa_nil)))))
      (pss_cons (ps_if (PW.pt (pw_or (pt_not (pt_val (pe_call GA hr6 rfl gA kA bA .nil pass0 (pa_cons (pv 3) (pa_cons (pe_lst (pa_cons (pe_op op_add (pv 1) (pv 2)) (pa_cons (pe_op op_mul (pv 1) (pv 2)) (pa_cons (pe_op op_add (pv 1) (pv 2)) pa_nil)))) pa_nil)))))
          (pw_or1 (pt_not (pt_val (pe_call GA hr6 rfl gA kA bA .nil pass0 (pa_cons (pe_kws (FnG.of GM) st hr1 rfl gM kM bMk (pk_cons (pv 1) (pk_cons (pv 2) (pk_cons pe_str pk_nil)))) (pa_cons (pe_op op_mul (pv 1) (pv 2)) pa_nil)))))))) (pss_one (ps_ret pe_bl)) pss_nil)
      (pss_cons (ps_set (i := 4) scMeasC.nd rfl (Or.inl rfl) (pe_slice (show SlR _ (rSlA K) from sl_tupA) (pe_tup (pa_cons pe_str (pa_cons pe_str pa_nil))) po_none (po_some (pe_call GD hr2 rfl gD kD bD' .nil pass0 (pa_cons (pv 0) (pa_cons pe_int pa_nil))))))
      (pss_cons (ps_set (i := 3) scMeasC.nd rfl (Or.inl rfl) (pe_lst (pa_cons (pe_call GZ hr1 rfl gZ kZ bZ .nil pass0 (pa_cons pe_str (pa_cons (pv 4) pa_nil))) (pa_cons (pe_call GO hr1 rfl gO kO bO .nil pass0 (pa_cons pe_str (pa_cons (pv 4) pa_nil))) pa_nil))))
      (pss_one (ps_ret (pe_call GA hr6 rfl gA kA bA .nil pass0 (pa_cons (pe_op op_cat (pv 3) (pe_lst (pa_cons (pe_kws (FnG.of GZ) st hr1 rfl gZ kZ bZk (pk_cons (pe_tup pa_nil) (pk_cons pe_str pk_nil))) pa_nil))) (pa_cons (pe_lst (pa_cons pe_int (pa_cons pe_int (pa_cons pe_int pa_nil)))) pa_nil)))))))))), ?_⟩
    refine ⟨_, rfl, b, c, ns, _, rfl, by decide, by decide, hB, fun oa H1 da B1 k1 => ?_⟩
    refine ⟨_, rfl, b, c, ns, _, rfl, by decide, by decide, B1, fun ob H2 db B2 k2 => ?_⟩
    obtain ⟨i, rfl⟩ := Option.isSome_iff_exists.mp (da.1 rfl)
    obtain ⟨j, rfl⟩ := Option.isSome_iff_exists.mp (db.1 rfl)
    have bi := da.2 i rfl
    have bj := db.2 j rfl
    have mi : CMul i j := .inl ⟨by omega, by omega⟩
    refine ⟨_, rfl, _, rfl, i, j, rfl, _, rfl, _, rfl, i, j, rfl, bi.1, bi.2, _, rfl, _, rfl, j, i, rfl, (by show 3 ≤ sizeLine; decide), fun L nL => ?_⟩
    have sL : Same H2 (upd H2 L (.lst [.int (i + j), .int (i * j), .int (j + i)])) := sm_new sm_refl nL
    have hL : upd H2 L (.lst [.int (i + j), .int (i * j), .int (j + i)]) L = some (.lst ([some (i + j), some (i * j), some (i + j)].map ov)) := by
      rw [upd_same, Int.add_comm j i]
      rfl
    generalize upd H2 L (.lst [.int (i + j), .int (i * j), .int (j + i)]) = H3 at sL hL ⊢
    refine ⟨_, rfl, _, rfl, _, rfl, _, _, rfl, rfl, _, rfl, _, rfl, _, _, rfl, rfl, mi, _, rfl, _, rfl, _, _, rfl, rfl, (by show 3 ≤ sizeLine; decide), fun M nM => ?_⟩
    have sM : Same H3 (upd H3 M (.lst [.int (i + j), .int (i * j), .int (i + j)])) := sm_new sm_refl nM
    refine ⟨_, _, rfl, ak_os [some (i + j), some (i * j), some (i + j)] (sM _ _ hL) upd_same (by show 3 ≤ 10; decide), fun H4 s4 => ⟨_, rfl, iteF ?_⟩⟩
    refine ⟨_, rfl, _, rfl, j, i, rfl, bj.1, bj.2, _, rfl, _, rfl, _, _, rfl, rfl, mi, ?_⟩
    refine ⟨_, _, rfl, ?_, fun H5 s5 => ⟨_, rfl, iteF ?_⟩⟩
    · rw [Int.mul_comm j i]
      exact ak_ov (o := some (i * j))
    have s25 := ((sL.trans sM).trans s4).trans s5
    have B5 := B2.same s25
    refine ⟨(by show 2 ≤ sizeLine; decide), fun T nT => ?_⟩
    have sT : Same H5 (upd H5 T (.tup [.str (Str.ofString "ann"), .str (Str.ofString "bob")])) := sm_new sm_refl nT
    have hT : SqT K (upd H5 T (.tup [.str (Str.ofString "ann"), .str (Str.ofString "bob")])) T [.str (Str.ofString "ann"), .str (Str.ofString "bob")] := SqT.of upd_same
    generalize upd H5 T (.tup [.str (Str.ofString "ann"), .str (Str.ofString "bob")]) = H9 at sT hT ⊢
    refine ⟨_, rfl, b, c, ns, _, rfl, by decide, by decide, B5.same sT, fun r HA r0 r1 BA kA' => ⟨r, rfl, ?_⟩⟩
    have hTA : SqT K HA T [.str (Str.ofString "ann"), .str (Str.ofString "bob")] := sqT_kt (KeepT.but (B5.same sT).notT kA') hT
    refine sl_any hTA fun a1 HB sB => ?_
    refine ⟨_, rfl, .ref a1, rfl, _, rfl, .ref a1, rfl, (by show 2 ≤ sizeLine; decide), fun L3 nL3 => ?_⟩
    have sL3 : Same HB (upd HB L3 (.lst [.int 0, .int 1])) := sm_new sm_refl nL3
    have hL3 : upd HB L3 (.lst [.int 0, .int 1]) L3 = some (.lst [.int 0, .int 1]) := upd_same
    generalize upd HB L3 (.lst [.int 0, .int 1]) = HC at sL3 hL3 ⊢
    refine ⟨_, rfl, (by show 0 ≤ sizeLine; decide), fun E1 nE1 => ?_⟩
    have sE1 : Same HC (upd HC E1 (.tup [])) := sm_new sm_refl nE1
    generalize upd HC E1 (.tup []) = HC' at sE1 ⊢
    refine ⟨.ref E1, rfl, (by show 1 ≤ sizeLine; decide), fun L4 nL4 => ?_⟩
    have sL4 : Same HC' (upd HC' L4 (.lst [.int 0])) := sm_new sm_refl nL4
    have hL4 : upd HC' L4 (.lst [.int 0]) L4 = some (.lst [.int 0]) := upd_same
    generalize upd HC' L4 (.lst [.int 0]) = HD at sL4 hL4 ⊢
    refine ⟨L3, L4, _, _, rfl, rfl, sL4 _ _ (sE1 _ _ hL3), hL4, (by show 3 ≤ sizeLine; decide), fun L5 nL5 => ?_⟩
    have sL5 : Same HD (upd HD L5 (.lst [.int 0, .int 1, .int 0])) := sm_new sm_refl nL5
    have hL5 : upd HD L5 (.lst [.int 0, .int 1, .int 0]) L5 = some (.lst [.int 0, .int 1, .int 0]) := upd_same
    rw [show upd HD L5 (.lst ([.int 0, .int 1] ++ [.int 0])) = upd HD L5 (.lst [.int 0, .int 1, .int 0]) from rfl]
    generalize upd HD L5 (.lst [.int 0, .int 1, .int 0]) = HE at sL5 hL5 ⊢
    refine ⟨(by show 3 ≤ sizeLine; decide), fun L6 nL6 => ?_⟩
    have sL6 : Same HE (upd HE L6 (.lst [.int 0, .int 1, .int 0])) := sm_new sm_refl nL6
    refine ⟨_, _, rfl, ak_os [some 0, some 1, some 0] (sL6 _ _ hL5) upd_same (by show 3 ≤ 10; decide), fun HF sF => ?_⟩
    have sAF := ((((((sB.trans sL3).trans sE1).trans sL4).trans sL5).trans sL6).trans sF)
    exact k HF (BA.same sAF) (((((k1.trans k2).same s25).same sT).trans kA').same sAF)
end
end K5


set_option Elab.async false
set_option linter.all false
set_option maxRecDepth 100000
set_option maxHeartbeats 8000000
namespace K5
open PySem L2 Nd Bk Gd PySem.ExE
def a1_ : Str := Str.ofString "a1"
def a2_ : Str := Str.ofString "a2"
def a3_ : Str := Str.ofString "a3"
def b1_ : Str := Str.ofString "b1"
def fgP (e c : Int) : Poly := [([(a1_, e)], c), ([(a2_, e)], 1), ([(a3_, 40), (b1_, 2)], BEY - 1)]
theorem fg_lt : ∀ e : Fin 3, lt ([(a1_, 38 + (e.val : Int))] : Mono) [(a2_, 38 + (e.val : Int))] = true ∧ lt ([(a1_, 38 + (e.val : Int))] : Mono) [(a3_, 40), (b1_, 2)] = true ∧ lt ([(a2_, 38 + (e.val : Int))] : Mono) [(a3_, 40), (b1_, 2)] = true := by decide +kernel
theorem fg_m3 : Asc ([(a3_, (40 : Int)), (b1_, 2)] : Mono) := by
  unfold Asc
  decide +kernel
theorem asc_single {κ : Type} [DecidableEq κ] [Ky κ] (x : κ × Int) : Asc [x] := by
  unfold Asc
  exact List.Pairwise.cons (fun _ h => nomatch h) .nil
theorem fg_asc (e : Fin 3) (c : Int) : Asc (fgP (38 + (e.val : Int)) c) := by
  obtain ⟨h1, h2, h3⟩ := fg_lt e
  unfold Asc fgP
  refine List.Pairwise.cons (fun x hx => ?_) (List.Pairwise.cons (fun x hx => ?_) (List.Pairwise.cons (fun _ h => nomatch h) .nil))
  · simp only [List.mem_cons, List.not_mem_nil, or_false] at hx
    rcases hx with rfl | rfl
    · exact h1
    · exact h2
  · rw [List.mem_singleton.mp hx]
    exact h3
theorem fg_mem {e : Fin 3} {c : Int} : ∀ t ∈ fgP (38 + (e.val : Int)) c, MOk t.1 ∧ (t.2 = c ∨ t.2 = 1 ∨ t.2 = BEY - 1) ∧ (∀ x ∈ t.1, (x.1 = a1_ ∨ x.1 = a2_ ∨ x.1 = a3_ ∨ x.1 = b1_) ∧ 1 ≤ x.2 ∧ x.2 < 2 ^ 60) ∧ sumE t.1 ≤ 100 ∧ t.1.length ≤ 2 := fun t ht => by
  simp only [fgP, List.mem_cons, List.not_mem_nil, or_false] at ht
  rcases ht with rfl | rfl | rfl
  · refine ⟨⟨asc_single _, fun x hx => ?_⟩, .inl rfl, fun x hx => ?_, ?_, by show 1 ≤ 2; decide⟩
    · rw [List.mem_singleton.mp hx]; show (0 : Int) < 38 + (e.val : Int); omega
    · rw [List.mem_singleton.mp hx]; exact ⟨.inl rfl, by show (1 : Int) ≤ 38 + (e.val : Int); omega, by show (38 + (e.val : Int)) < 2 ^ 60; omega⟩
    · show ([(38 + (e.val : Int)).toNat].sum) ≤ 100
      simp only [List.sum_cons, List.sum_nil]
      omega
  · refine ⟨⟨asc_single _, fun x hx => ?_⟩, .inr (.inl rfl), fun x hx => ?_, ?_, by show 1 ≤ 2; decide⟩
    · rw [List.mem_singleton.mp hx]; show (0 : Int) < 38 + (e.val : Int); omega
    · rw [List.mem_singleton.mp hx]; exact ⟨.inr (.inl rfl), by show (1 : Int) ≤ 38 + (e.val : Int); omega, by show (38 + (e.val : Int)) < 2 ^ 60; omega⟩
    · show ([(38 + (e.val : Int)).toNat].sum) ≤ 100
      simp only [List.sum_cons, List.sum_nil]
      omega
  · refine ⟨⟨fg_m3, fun x hx => ?_⟩, .inr (.inr rfl), fun x hx => ?_, by decide +kernel, by show 2 ≤ 2; decide⟩
    · simp only [List.mem_cons, List.not_mem_nil, or_false] at hx
      rcases hx with rfl | rfl
      · show (0 : Int) < 40; decide
      · show (0 : Int) < 2; decide
    · simp only [List.mem_cons, List.not_mem_nil, or_false] at hx
      rcases hx with rfl | rfl
      · exact ⟨.inr (.inr (.inl rfl)), by show (1 : Int) ≤ 40; decide, by show (40 : Int) < 2 ^ 60; decide⟩
      · exact ⟨.inr (.inr (.inr rfl)), by show (1 : Int) ≤ 2; decide, by show (2 : Int) < 2 ^ 60; decide⟩
/-- the first n terms -/
structure FgOk (q : Poly) : Prop where
  ok : POk q
  sz : Szd q
  tk : (tokK q).length ≤ 1000
  cok : CntOk q
  su : ∀ t ∈ q, sumE t.1 ≤ 100
  nm : ∀ t ∈ q, ∀ x ∈ t.1, x.1 = a1_ ∨ x.1 = a2_ ∨ x.1 = a3_ ∨ x.1 = b1_
theorem fg_ok (e : Fin 3) {c : Int} (c0 : 0 < c) (c1 : c ≤ BEY) (n : Nat) : FgOk ((fgP (38 + (e.val : Int)) c).take n) := by
  have sub : ∀ t ∈ (fgP (38 + (e.val : Int)) c).take n, t ∈ fgP (38 + (e.val : Int)) c := fun t ht => List.mem_of_mem_take ht
  have b1 : (1 : Int) < BEY := by decide +kernel
  have co : ∀ t ∈ (fgP (38 + (e.val : Int)) c).take n, 0 < t.2 ∧ t.2 ≤ BEY := fun t ht => by
    rcases (fg_mem t (sub t ht)).2.1 with q | q | q <;> rw [q] <;> omega
  have ln : ((fgP (38 + (e.val : Int)) c).take n).length ≤ 3 := by
    rw [List.length_take]
    show min n 3 ≤ 3
    omega
  refine ⟨⟨?_, fun t ht => (co t ht).1, fun t ht => (fg_mem t (sub t ht)).1⟩, ⟨by omega, fun t ht => Nat.le_trans (fg_mem t (sub t ht)).2.2.2.2 (by decide)⟩, Nat.le_trans (tks_len ln fun t ht => (fg_mem t (sub t ht)).2.2.2.2) (by decide), ⟨fun t ht => ⟨Int.le_of_lt (co t ht).1, (co t ht).2⟩, fun t ht x hx => ((fg_mem t (sub t ht)).2.2.1 x hx).2⟩, fun t ht => (fg_mem t (sub t ht)).2.2.2.1, fun t ht x hx => ((fg_mem t (sub t ht)).2.2.1 x hx).1⟩
  have a := fg_asc e c
  unfold Asc at a ⊢
  exact List.Pairwise.sublist (List.take_sublist _ _) a
/-- the numbers that are handed in -/
def fgT (l v y : Nat) (z : Str) : Nat := if z = a1_ then v else if z = a2_ then y else if z = b1_ then l else BEY.toNat - 1
def fgG (l v y : Nat) : List (Str × V) := [(b1_, .int l), (a1_, .int v), (a2_, .int y), (a3_, .int (BEY - 1))]
theorem fg_nd (l v y : Nat) : ((fgG l v y).map (·.1)).Nodup := (by decide +kernel : ([b1_, a1_, a2_, a3_] : List Str).Nodup)
theorem fg_has {l v y : Nat} {q : Poly} (h : FgOk q) (hl : l.log2 ≤ 400) (hv : v.log2 ≤ 400) (hy : y.log2 ≤ 400) : HasC (fgG l v y) (fgT l v y) q ∧ CntSm (fgT l v y) q := by
  have n12 : a2_ ≠ a1_ := by decide +kernel
  have n31 : a3_ ≠ a1_ := by decide +kernel
  have n32 : a3_ ≠ a2_ := by decide +kernel
  have n3b : a3_ ≠ b1_ := by decide +kernel
  have nb1 : b1_ ≠ a1_ := by decide +kernel
  have nb2 : b1_ ≠ a2_ := by decide +kernel
  have lB : (BEY.toNat - 1).log2 ≤ 400 := by decide +kernel
  have key : ∀ z, z = a1_ ∨ z = a2_ ∨ z = a3_ ∨ z = b1_ → (z, V.int ((fgT l v y z : Nat) : Int)) ∈ fgG l v y ∧ (fgT l v y z).log2 ≤ 400 := fun z hz => by
    rcases hz with rfl | rfl | rfl | rfl
    · have e : fgT l v y a1_ = v := if_pos rfl
      rw [e]
      exact ⟨by unfold fgG; exact List.mem_cons_of_mem _ List.mem_cons_self, hv⟩
    · have e : fgT l v y a2_ = y := by unfold fgT; rw [if_neg n12, if_pos rfl]
      rw [e]
      exact ⟨by unfold fgG; exact List.mem_cons_of_mem _ (List.mem_cons_of_mem _ List.mem_cons_self), hy⟩
    · have e : fgT l v y a3_ = BEY.toNat - 1 := by unfold fgT; rw [if_neg n31, if_neg n32, if_neg n3b]
      have e2 : ((BEY.toNat - 1 : Nat) : Int) = BEY - 1 := by decide +kernel
      rw [e, e2]
      exact ⟨by unfold fgG; exact List.mem_cons_of_mem _ (List.mem_cons_of_mem _ (List.mem_cons_of_mem _ List.mem_cons_self)), lB⟩
    · have e : fgT l v y b1_ = l := by unfold fgT; rw [if_neg nb1, if_neg nb2, if_pos rfl]
      rw [e]
      exact ⟨by unfold fgG; exact List.mem_cons_self, hl⟩
  exact ⟨fun t ht x hx => ⟨valG_mem (fg_nd l v y) (key _ (h.nm t ht x hx)).1, Nat.lt_of_le_of_lt (key _ (h.nm t ht x hx)).2 (by decide)⟩, h.su, fun t ht x hx => (key _ (h.nm t ht x hx)).2⟩
end K5


set_option Elab.async false
set_option linter.all false
set_option maxRecDepth 100000
set_option maxHeartbeats 8000000
namespace K5
open PySem L2 Nd Bk Gd PySem.ExE
theorem B4_nat : ((BEY.toNat : Nat) : Int) ^ 40 = B4 := by
  rw [Int.toNat_of_nonneg (by decide +kernel)]
  rfl
theorem BEY_log : BEY.toNat.log2 ≤ 400 := by decide +kernel
theorem if_due2 {c : Prop} [Decidable c] {x y : Str} {D : Ends} {σ : L2.St} {H : Hp} (R : L2.St → Hp → Prop) (ht : c → ∀ A, H A = none → R (σ.set 12 (some (.ref A))) (upd H A (.tup [.str x, .str y]))) (hf : ¬ c → R σ H) (k : ∀ σ' H', R σ' H' → D.nx σ' H') :
    if c then tAsg (tTup (tCons (tC (.str x)) (tCons (tC (.str y)) tNil))) (gName 12) D σ H else tNext D σ H := by
  by_cases h : c
  · rw [if_pos h]
    exact ⟨(by show 2 ≤ sizeLine; decide), fun A nA => k _ _ (ht h A nA)⟩
  · rw [if_neg h]
    exact k σ H (hf h)
theorem t1_made {K : PySem.W.Frag} {H : Hp} {A B C : Addr} {z : Str} {i a : Int} (n1 : H A = none) (n2 : upd H A (.tup [.str z, .int i]) B = none) (n3 : upd (upd H A (.tup [.str z, .int i])) B (.tup [.ref A]) C = none) :
    Same H (upd (upd (upd H A (.tup [.str z, .int i])) B (.tup [.ref A])) C (.tup [.ref B, .int a])) ∧ Dp K (upd (upd (upd H A (.tup [.str z, .int i])) B (.tup [.ref A])) C (.tup [.ref B, .int a])) (.ref C) (encP (([(z, i)] : Mono), a)) := by
  have s1 : Same H (upd H A (.tup [.str z, .int i])) := sm_new sm_refl n1
  have d1 : Dp K (upd H A (.tup [.str z, .int i])) (.ref A) (encP (z, i)) := dp_mk (κ := Str) (SqT.of upd_same) (.str _)
  generalize upd H A (.tup [.str z, .int i]) = H1 at s1 d1 n2 n3 ⊢
  have s2 : Same H1 (upd H1 B (.tup [.ref A])) := sm_new sm_refl n2
  have d2 : Dp K (upd H1 B (.tup [.ref A])) (.ref B) (bD ([(z, i)] : Mono)) := .tup (SqT.of upd_same) (.cons (dp_same s2 d1) .nil)
  generalize upd H1 B (.tup [.ref A]) = H2 at s2 d2 n3 ⊢
  have s3 : Same H2 (upd H2 C (.tup [.ref B, .int a])) := sm_new sm_refl n3
  exact ⟨(s1.trans s2).trans s3, dp_mk (κ := Mono) (SqT.of upd_same) (dp_same s3 d2)⟩
theorem t2_made {K : PySem.W.Frag} {H : Hp} {A A2 B C : Addr} {z y : Str} {i j a : Int} (n1 : H A = none) (n1' : upd H A (.tup [.str z, .int i]) A2 = none) (n2 : upd (upd H A (.tup [.str z, .int i])) A2 (.tup [.str y, .int j]) B = none) (n3 : upd (upd (upd H A (.tup [.str z, .int i])) A2 (.tup [.str y, .int j])) B (.tup [.ref A, .ref A2]) C = none) :
    Same H (upd (upd (upd (upd H A (.tup [.str z, .int i])) A2 (.tup [.str y, .int j])) B (.tup [.ref A, .ref A2])) C (.tup [.ref B, .int a])) ∧ Dp K (upd (upd (upd (upd H A (.tup [.str z, .int i])) A2 (.tup [.str y, .int j])) B (.tup [.ref A, .ref A2])) C (.tup [.ref B, .int a])) (.ref C) (encP (([(z, i), (y, j)] : Mono), a)) := by
  have s1 : Same H (upd H A (.tup [.str z, .int i])) := sm_new sm_refl n1
  have d1 : Dp K (upd H A (.tup [.str z, .int i])) (.ref A) (encP (z, i)) := dp_mk (κ := Str) (SqT.of upd_same) (.str _)
  generalize upd H A (.tup [.str z, .int i]) = H1 at s1 d1 n1' n2 n3 ⊢
  have s1' : Same H1 (upd H1 A2 (.tup [.str y, .int j])) := sm_new sm_refl n1'
  have d1' : Dp K (upd H1 A2 (.tup [.str y, .int j])) (.ref A2) (encP (y, j)) := dp_mk (κ := Str) (SqT.of upd_same) (.str _)
  generalize upd H1 A2 (.tup [.str y, .int j]) = H1' at s1' d1' n2 n3 ⊢
  have s2 : Same H1' (upd H1' B (.tup [.ref A, .ref A2])) := sm_new sm_refl n2
  have d2 : Dp K (upd H1' B (.tup [.ref A, .ref A2])) (.ref B) (bD ([(z, i), (y, j)] : Mono)) := .tup (SqT.of upd_same) (.cons (dp_same (s1'.trans s2) d1) (.cons (dp_same s2 d1') .nil))
  generalize upd H1' B (.tup [.ref A, .ref A2]) = H2 at s2 d2 n3 ⊢
  have s3 : Same H2 (upd H2 C (.tup [.ref B, .int a])) := sm_new sm_refl n3
  exact ⟨((s1.trans s1').trans s2).trans s3, dp_mk (κ := Mono) (SqT.of upd_same) (dp_same s3 d2)⟩
theorem sl_take {K : PySem.W.Frag} {a : Addr} {xs : List V} {n : Nat} {H : Hp} {Q : VK} (h : SqT K H a xs) (k : ∀ a1 H7, Same H H7 → SqT K H7 a1 (xs.take n) → Q (.ref a1) H7) : rSlA K (.ref a) none (some (n : Int)) H Q := by
  have hm : HT.sIx xs.length xs.length (some (n : Int)) = min n xs.length := HT.sIx_nat _ _ n
  refine ⟨a, xs, rfl, h, fun hw => k a H sm_refl ?_, fun hw p np => k p _ (sm_new sm_refl np) ?_⟩
  · have := hw.2
    rw [hm] at this
    rw [List.take_of_length_le (by omega)]
    exact h
  · have e : cutV xs none (some (n : Int)) = xs.take n := by
      show (xs.drop 0).take (HT.sIx xs.length xs.length (some (n : Int)) - 0) = xs.take n
      rw [hm, List.drop_zero]
      exact List.take_eq_take_iff.mpr (by omega)
    rw [e]
    exact SqT.of upd_same
theorem okd_ask {τ : Str → Nat} {p : Poly} : Okd 5 (askD τ p) := by
  unfold askD
  split
  · refine .inr (.inr ⟨_, rfl, by show 2 ≤ 1000; decide, fun e he => ?_⟩)
    simp only [List.mem_cons, List.not_mem_nil, or_false] at he
    rcases he with rfl | rfl <;> exact .inr (.inl ⟨_, rfl⟩)
  · refine .inr (.inr ⟨_, rfl, by show 2 ≤ 1000; decide, fun e he => ?_⟩)
    simp only [List.mem_cons, List.not_mem_nil, or_false] at he
    rcases he with rfl | rfl
    · exact .inr (.inl ⟨_, rfl⟩)
    · exact .inl (.int _)
/-- the values that are drawn -/
theorem pick_big {zs : List Int} {j : Nat} (h : j < zs.length) : ∃ z, (zs.map V.int)[j]? = some (V.int z) ∧ z ∈ zs := pick_int h
section
variable {P : Program} {w : World} {K : PySem.W.Frag} {mg : Str → Option Value} {base : Heap}
abbrev fgN : List Str := ["box", "great", "limit", "turn", "value", "exponent", "coefficient", "p", "last", "given", "many", "total", "due"]
theorem scFigC : FnScope fgN ["box"] (defScope sFigC) := ⟨rfl, rfl, rfl, by decide +kernel, rfl, by decide +kernel, by decide +kernel⟩
theorem ok_figC {f : Addr} {fd : FuncData} (F : Fun K "_law_figures" "_law_figures" sFigC f fd) (C : Cn K mg) (Gd : Df P w K mg base 2 "_law_draw" ["box", "many"] spDraw) (Gp : Df P w K mg base 1 "_law_power" ["value", "exponent"] spLPow) (Gl : Df P w K mg base 2 "_law_count" ["p", "given"] (spLCnt K))
    (Gk : Df P w K mg base 4 "_law_asked" ["p", "given"] (spAskC K)) (Ga : Df P w K mg base 6 "_law_alike" ["told", "due"] (spA K 6)) : FnOk P w K mg base CX0 7 f fd ["box"] spBox1 := by
  obtain ⟨fd', fdd, gD, kD, bD', GD⟩ := Gd.ok
  obtain ⟨fp, fdp, gP, kP, bP, GP⟩ := Gp.ok
  obtain ⟨fl, fdl, gL, kL, bL, GL⟩ := Gl.ok
  obtain ⟨fk, fdk, gK, kK, bK, GK⟩ := Gk.ok
  obtain ⟨fa, fda, gA, kA, bA, GA⟩ := Ga.ok
  refine F.ok scFigC (fun vs H Q E h => ?_) (fun cdv A outer s H vs Q E hr h => ?_)
  · obtain ⟨b, c, ns, rfl, _⟩ := h
    rfl
  · obtain ⟨b, c, ns, rfl, hB, k⟩ := h
    have hr1 : Room 1 _ := hr.mono (by decide)
    have hr2 : Room 2 _ := hr.mono (by decide)
    have hr4 : Room 4 _ := hr.mono (by decide)
    have hr6 : Room 6 _ := hr
    refine ⟨_, pss_cons (ps_set (i := 1) scFigC.nd rfl (Or.inl rfl) (pe_op op_mulW (pe_op op_pow pe_int pe_int) (pe_op op_pow pe_int pe_int)))
      (pss_cons (ps_set (i := 2) scFigC.nd rfl (Or.inl rfl) (pe_call GP hr1 rfl gP kP bP .nil pass0 (pa_cons (pv 1) (pa_cons pe_int pa_nil))))
      (pss_cons (ps_for PassesOwn.never rfl (pi_range1 rfl C.N.rng (pa_cons pe_int pa_nil)) (pg_name (i := 3) scFigC.nd rfl (Or.inl rfl))
        (pss_cons (ps_set (i := 4) scFigC.nd rfl (Or.inl rfl) (pe_ix ix_list (pe_lst (pa_cons (pv 1) (pa_cons (pe_op op_sub (pv 1) pe_int) (pa_cons (pe_op op_fdivW (pv 1) pe_int) pa_nil)))) (pe_call GD hr2 rfl gD kD bD' .nil pass0 (pa_cons (pv 0) (pa_cons pe_int pa_nil))) (fun _ _ => rfl)))
        (pss_cons (ps_set (i := 5) scFigC.nd rfl (Or.inl rfl) (pe_op op_add pe_int (pe_call GD hr2 rfl gD kD bD' .nil pass0 (pa_cons (pv 0) (pa_cons pe_int pa_nil)))))
        (pss_cons (ps_set (i := 6) scFigC.nd rfl (Or.inl rfl) (pe_ix ix_list (pe_lst (pa_cons pe_int (pa_cons (pe_op op_add pe_int (pe_call GD hr2 rfl gD kD bD' .nil pass0 (pa_cons (pv 0) (pa_cons pe_int pa_nil)))) (pa_cons (pe_op op_sub (pv 1) pe_int) (pa_cons (pe_op op_fdivW (pv 1) pe_int) pa_nil))))) (pe_call GD hr2 rfl gD kD bD' .nil pass0 (pa_cons (pv 0) (pa_cons pe_int pa_nil))) (fun _ _ => rfl)))
        (pss_cons (ps_set (i := 7) scFigC.nd rfl (Or.inl rfl) (pe_tup
          (pa_cons (pe_tup (pa_cons (pe_tup (pa_cons (pe_tup (pa_cons pe_str (pa_cons (pv 5) pa_nil))) pa_nil)) (pa_cons (pv 6) pa_nil)))
          (pa_cons (pe_tup (pa_cons (pe_tup (pa_cons (pe_tup (pa_cons pe_str (pa_cons (pv 5) pa_nil))) pa_nil)) (pa_cons pe_int pa_nil)))
          (pa_cons (pe_tup (pa_cons (pe_tup (pa_cons (pe_tup (pa_cons pe_str (pa_cons pe_int pa_nil))) (pa_cons (pe_tup (pa_cons pe_str (pa_cons pe_int pa_nil))) pa_nil))) (pa_cons (pe_op op_sub (pv 1) pe_int) pa_nil))) pa_nil)))))
        (pss_cons (ps_set (i := 8) scFigC.nd rfl (Or.inl rfl) (pe_ix ix_list (pe_lst (pa_cons pe_int (pa_cons pe_int (pa_cons pe_int pa_nil)))) (pe_call GD hr2 rfl gD kD bD' .nil pass0 (pa_cons (pv 0) (pa_cons pe_int pa_nil))) (fun _ _ => rfl)))
        (pss_cons (ps_set (i := 9) scFigC.nd rfl (Or.inl rfl) (pe_tupF
          (pa_cons (pe_tup (pa_cons pe_str (pa_cons (pv 8) pa_nil))) (pa_cons (pe_tup (pa_cons pe_str (pa_cons (pv 4) pa_nil)))
          (pa_cons (pe_tup (pa_cons pe_str (pa_cons (pe_ix ix_list (pe_lst (pa_cons pe_int (pa_cons pe_int (pa_cons (pv 4) pa_nil)))) (pe_call GD hr2 rfl gD kD bD' .nil pass0 (pa_cons (pv 0) (pa_cons pe_int pa_nil))) (fun _ _ => rfl)) pa_nil)))
          (pa_cons (pe_tup (pa_cons pe_str (pa_cons (pe_op op_sub (pv 1) pe_int) pa_nil))) pa_nil))))))
        (pss_one (ps_for PassesOwn.never rfl (pi_list (pe_lst (pa_cons pe_int (pa_cons pe_int (pa_cons pe_int pa_nil))))) (pg_name (i := 10) scFigC.nd rfl (Or.inl rfl))
          (pss_cons (ps_set (i := 11) scFigC.nd rfl (Or.inl rfl) (pe_call GL hr2 rfl gL kL bL .nil pass0 (pa_cons (pe_slice (show SlR _ (rSlA K) from sl_tupA) (pv 7) po_none (po_some (pv 10))) (pa_cons (pv 9) pa_nil))))
          (pss_cons (ps_set (i := 12) scFigC.nd rfl (Or.inl rfl) (pe_tup (pa_cons pe_str (pa_cons (pv 11) pa_nil))))
          (pss_cons (ps_if (pt_cmpR op_ge (pv 11) (pv 2) (nomark _)) (pss_one (ps_set (i := 12) scFigC.nd rfl (Or.inl rfl) (pe_tup (pa_cons pe_str (pa_cons pe_str pa_nil))))) pss_nil)
          (pss_one (ps_if (pt_not (pt_val (pe_call GA hr6 rfl gA kA bA .nil pass0 (pa_cons (pe_call GK hr4 rfl gK kK bK .nil pass0 (pa_cons (pe_slice (show SlR _ (rSlA K) from sl_tupA) (pv 7) po_none (po_some (pv 10))) (pa_cons (pv 9) pa_nil))) (pa_cons (pv 12) pa_nil))))) (pss_one (ps_ret pe_bl)) pss_nil))))))))))))))
      (pss_one (ps_ret pe_bl)))), ?_⟩
    refine ⟨_, _, rfl, rfl, ⟨by decide, by decide, by decide⟩, _, _, rfl, rfl, ⟨by decide, by decide, by decide⟩, _, _, rfl, rfl, (by unfold CMulW; decide +kernel), ?_⟩
    rw [show ((fun i j : Int => V.int (i * j)) (10 ^ Int.toNat 50) (10 ^ Int.toNat 50)) = V.int BEY from congrArg V.int (by decide +kernel)]
    refine ⟨_, rfl, BEY.toNat, 40, by show [V.int BEY, V.int 40] ++ [] = _; rw [Int.toNat_of_nonneg (by decide +kernel)]; rfl, BEY_log, by decide, ?_⟩
    rw [B4_nat]
    refine ⟨_, rfl, by decide, by decide, ?_⟩
    have bpos : (1000 : Int) < BEY := by decide +kernel
    have bdiv : BEY / 10 < BEY ∧ 0 < BEY / 10 := ⟨by decide +kernel, by decide +kernel⟩
    refine for_range (n := 3) (fun i τ' H4 => (∃ u3 u4 u5 u6 u7 u8 u9 uA uB uC, τ' = [some (.ref b), some (.int BEY), some (.int B4), u3, u4, u5, u6, u7, u8, u9, uA, uB, uC]) ∧ BoxAt H4 b c ns ∧ But b H H4) ⟨⟨_, _, _, _, _, _, _, _, _, _, rfl⟩, hB, But.refl⟩ ?_ ?_
    · rintro i τ' H4 hi ⟨⟨u3, u4, u5, u6, u7, u8, u9, uA, uB, uC, rfl⟩, B4', k4⟩
      -- the value
      refine ⟨_, rfl, _, rfl, _, _, rfl, rfl, _, rfl, _, _, rfl, rfl, (by unfold CDivW; decide +kernel), (by show 3 ≤ sizeLine; decide), fun L1 nL1 => ?_⟩
      have sL1 : Same H4 (upd H4 L1 (.lst (([BEY, BEY - 1, BEY / 10] : List Int).map V.int))) := sm_new sm_refl nL1
      have L1b := B4'.off nL1
      refine ⟨_, rfl, b, c, ns, _, rfl, by decide, by decide, B4'.same sL1, fun r1 H5 a0 a1 B5 k5 => ?_⟩
      obtain ⟨j1, rfl⟩ := Int.eq_ofNat_of_zero_le a0
      obtain ⟨v, hv, hvm⟩ := pick_int (zs := [BEY, BEY - 1, BEY / 10]) (j := j1) (by show j1 < 3; omega)
      have hv9 : 0 ≤ v ∧ v ≤ BEY := by
        generalize BEY / 10 = T at hvm bdiv
        generalize BEY = B at hvm bdiv bpos ⊢
        simp only [List.mem_cons, List.not_mem_nil, or_false] at hvm
        omega
      refine ⟨L1, _, _, _, rfl, rfl, SqL.of (k5 _ _ upd_same L1b), atI_nat hv, ?_⟩
      have kb5 := (k4.same sL1).trans k5
      clear hv hvm sL1 L1b nL1
      -- the exponent
      refine ⟨_, rfl, b, c, ns, _, rfl, by decide, by decide, B5, fun r2 H6 a2 a3 B6 k6 => ⟨_, _, rfl, rfl, ?_⟩⟩
      obtain ⟨e, rfl⟩ : ∃ e : Fin 3, r2 = (e.val : Int) := ⟨⟨r2.toNat, by omega⟩, by show r2 = (r2.toNat : Int); omega⟩
      rw [show ((fun i j : Int => V.int (i + j)) 38 (e.val : Int)) = V.int (38 + (e.val : Int)) from rfl]
      -- the coefficient
      refine ⟨_, rfl, b, c, ns, _, rfl, by decide, by decide, B6, fun r3 H7 a4 a5 B7 k7 => ⟨_, _, rfl, rfl, ?_⟩⟩
      refine ⟨_, rfl, _, _, rfl, rfl, _, rfl, _, _, rfl, rfl, (by unfold CDivW; decide +kernel), (by show 4 ≤ sizeLine; decide), fun L2 nL2 => ?_⟩
      have sL2 : Same H7 (upd H7 L2 (.lst (([1, 1 + r3, BEY - 1, BEY / 10] : List Int).map V.int))) := sm_new sm_refl nL2
      have L2b := B7.off nL2
      refine ⟨_, rfl, b, c, ns, _, rfl, by decide, by decide, B7.same sL2, fun r4 H8 a6 a7 B8 k8 => ?_⟩
      obtain ⟨j2, rfl⟩ := Int.eq_ofNat_of_zero_le a6
      obtain ⟨co, hc, hcm⟩ := pick_int (zs := [1, 1 + r3, BEY - 1, BEY / 10]) (j := j2) (by show j2 < 4; omega)
      have hc9 : 0 < co ∧ co ≤ BEY := by
        generalize BEY / 10 = T at hcm bdiv
        generalize BEY = B at hcm bdiv bpos ⊢
        simp only [List.mem_cons, List.not_mem_nil, or_false] at hcm
        omega
      refine ⟨L2, _, _, _, rfl, rfl, SqL.of (k8 _ _ upd_same L2b), atI_nat hc, ?_⟩
      have kb8 := (((kb5.trans k6).trans k7).same sL2).trans k8
      clear hc hcm sL2 L2b nL2
      -- p
      refine ⟨_, rfl, (by show 2 ≤ sizeLine; decide), fun A1 n1 => ⟨(by show 1 ≤ sizeLine; decide), fun A2 n2 => ⟨_, rfl, (by show 2 ≤ sizeLine; decide), fun A3 n3 => ?_⟩⟩⟩
      obtain ⟨s1, d1⟩ := t1_made (K := K) (a := co) n1 n2 n3
      generalize upd (upd (upd H8 A1 (.tup [.str (Str.ofString "a1"), .int (38 + (e.val : Int))])) A2 (.tup [.ref A1])) A3 (.tup [.ref A2, .int co]) = J1 at s1 d1 ⊢
      refine ⟨_, rfl, (by show 2 ≤ sizeLine; decide), fun A4 n4 => ⟨(by show 1 ≤ sizeLine; decide), fun A5 n5 => ⟨(by show 2 ≤ sizeLine; decide), fun A6 n6 => ?_⟩⟩⟩
      obtain ⟨s2, d2⟩ := t1_made (K := K) (a := 1) n4 n5 n6
      generalize upd (upd (upd J1 A4 (.tup [.str (Str.ofString "a2"), .int (38 + (e.val : Int))])) A5 (.tup [.ref A4])) A6 (.tup [.ref A5, .int 1]) = J2 at s2 d2 ⊢
      refine ⟨(by show 2 ≤ sizeLine; decide), fun A7 n7 => ⟨(by show 2 ≤ sizeLine; decide), fun A8 n8 => ⟨(by show 2 ≤ sizeLine; decide), fun A9 n9 => ⟨_, rfl, _, _, rfl, rfl, (by show 2 ≤ sizeLine; decide), fun AA nA => ?_⟩⟩⟩⟩
      obtain ⟨s3, d3⟩ := t2_made (K := K) (a := BEY - 1) n7 n8 n9 nA
      rw [show ((fun i j : Int => V.int (i - j)) BEY 1) = V.int (BEY - 1) from rfl]
      generalize upd (upd (upd (upd J2 A7 (.tup [.str (Str.ofString "a3"), .int 40])) A8 (.tup [.str (Str.ofString "b1"), .int 2])) A9 (.tup [.ref A7, .ref A8])) AA (.tup [.ref A9, .int (BEY - 1)]) = J3 at s3 d3 ⊢
      refine ⟨(by show 3 ≤ sizeLine; decide), fun PP nP => ?_⟩
      have s4 : Same J3 (upd J3 PP (.tup [.ref A3, .ref A6, .ref AA])) := sm_new sm_refl nP
      have hP : SqT K (upd J3 PP (.tup [.ref A3, .ref A6, .ref AA])) PP [.ref A3, .ref A6, .ref AA] := SqT.of upd_same
      generalize upd J3 PP (.tup [.ref A3, .ref A6, .ref AA]) = J4 at s4 hP ⊢
      have dPs : DpAll K J4 [.ref A3, .ref A6, .ref AA] ((fgP (38 + (e.val : Int)) co).map encP) := .cons (dp_same ((s2.trans s3).trans s4) d1) (.cons (dp_same (s3.trans s4) d2) (.cons (dp_same s4 d3) .nil))
      have BJ4 := B8.same (((s1.trans s2).trans s3).trans s4)
      have kJ4 := kb8.same (((s1.trans s2).trans s3).trans s4)
      clear s1 s2 s3 s4 d1 d2 d3 n1 n2 n3 n4 n5 n6 n7 n8 n9 nA nP
      -- the last
      refine ⟨(by show 3 ≤ sizeLine; decide), fun L3 nL3 => ?_⟩
      have sL3 : Same J4 (upd J4 L3 (.lst (([0, 0, 1] : List Int).map V.int))) := sm_new sm_refl nL3
      have L3b := BJ4.off nL3
      refine ⟨_, rfl, b, c, ns, _, rfl, by decide, by decide, BJ4.same sL3, fun r5 J5 b0 b1 BJ5 kJ5 => ?_⟩
      obtain ⟨j3, rfl⟩ := Int.eq_ofNat_of_zero_le b0
      obtain ⟨la, hla, hlm⟩ := pick_int (zs := [0, 0, 1]) (j := j3) (by show j3 < 3; omega)
      have hl9 : 0 ≤ la ∧ la ≤ 1 := by
        simp only [List.mem_cons, List.not_mem_nil, or_false] at hlm
        omega
      refine ⟨L3, _, _, _, rfl, rfl, SqL.of (kJ5 _ _ upd_same L3b), atI_nat hla, ?_⟩
      have kb9 := (kJ4.same sL3).trans kJ5
      have hP5 := sqT_kt (KeepT.but (BJ4.same sL3).notT kJ5) (sqT_same sL3 hP)
      have dP5 : DpAll K J5 [.ref A3, .ref A6, .ref AA] ((fgP (38 + (e.val : Int)) co).map encP) := bA_kt (KeepT.but (BJ4.same sL3).notT kJ5) (dpAll_same sL3 dPs)
      clear hla hlm sL3 L3b nL3
      -- what is handed in
      refine ⟨_, rfl, (by show 2 ≤ sizeLine; decide), fun G1 m1 => ?_⟩
      have t1 : Same J5 (upd J5 G1 (.tup [.str (Str.ofString "b1"), .int la])) := sm_new sm_refl m1
      have q1 : SqT K (upd J5 G1 (.tup [.str (Str.ofString "b1"), .int la])) G1 [.str (Str.ofString "b1"), .int la] := SqT.of upd_same
      generalize upd J5 G1 (.tup [.str (Str.ofString "b1"), .int la]) = J6 at t1 q1 ⊢
      refine ⟨_, rfl, (by show 2 ≤ sizeLine; decide), fun G2 m2 => ?_⟩
      have t2 : Same J6 (upd J6 G2 (.tup [.str (Str.ofString "a1"), .int v])) := sm_new sm_refl m2
      have q2 : SqT K (upd J6 G2 (.tup [.str (Str.ofString "a1"), .int v])) G2 [.str (Str.ofString "a1"), .int v] := SqT.of upd_same
      generalize upd J6 G2 (.tup [.str (Str.ofString "a1"), .int v]) = J7 at t2 q2 ⊢
      have BJ7 := (BJ5.same t1).same t2
      refine ⟨_, rfl, (by show 3 ≤ sizeLine; decide), fun L4 nL4 => ?_⟩
      have sL4 : Same J7 (upd J7 L4 (.lst (([0, 1, v] : List Int).map V.int))) := sm_new sm_refl nL4
      have L4b := BJ7.off nL4
      refine ⟨_, rfl, b, c, ns, _, rfl, by decide, by decide, BJ7.same sL4, fun r6 J8 c0 c1 BJ8 kJ8 => ?_⟩
      obtain ⟨j4, rfl⟩ := Int.eq_ofNat_of_zero_le c0
      obtain ⟨y, hy, hym⟩ := pick_int (zs := [0, 1, v]) (j := j4) (by show j4 < 3; omega)
      have hy9 : 0 ≤ y ∧ y ≤ BEY := by
        generalize BEY = B at hv9 bpos ⊢
        simp only [List.mem_cons, List.not_mem_nil, or_false] at hym
        omega
      refine ⟨L4, _, _, _, rfl, rfl, SqL.of (kJ8 _ _ upd_same L4b), atI_nat hy, (by show 2 ≤ sizeLine; decide), fun G3 m3 => ?_⟩
      have kt78 : KeepT J7 J8 := (KeepT.same sL4).trans (KeepT.but (BJ7.same sL4).notT kJ8)
      have t3 : Same J8 (upd J8 G3 (.tup [.str (Str.ofString "a2"), .int y])) := sm_new sm_refl m3
      have q3 : SqT K (upd J8 G3 (.tup [.str (Str.ofString "a2"), .int y])) G3 [.str (Str.ofString "a2"), .int y] := SqT.of upd_same
      generalize upd J8 G3 (.tup [.str (Str.ofString "a2"), .int y]) = J9 at t3 q3 ⊢
      refine ⟨_, rfl, _, _, rfl, rfl, (by show 2 ≤ sizeLine; decide), fun G4 m4 => ?_⟩
      rw [show ((fun i j : Int => V.int (i - j)) BEY 1) = V.int (BEY - 1) from rfl]
      have t4 : Same J9 (upd J9 G4 (.tup [.str (Str.ofString "a3"), .int (BEY - 1)])) := sm_new sm_refl m4
      have q4 : SqT K (upd J9 G4 (.tup [.str (Str.ofString "a3"), .int (BEY - 1)])) G4 [.str (Str.ofString "a3"), .int (BEY - 1)] := SqT.of upd_same
      generalize upd J9 G4 (.tup [.str (Str.ofString "a3"), .int (BEY - 1)]) = JA at t4 q4 ⊢
      refine ⟨(by show 4 ≤ sizeLine; decide), fun G oG nG hoG => ?_⟩
      have t5 : Same JA (upd JA G (.frz oG (.tup [.ref G1, .ref G2, .ref G3, .ref G4]))) := sm_new sm_refl nG
      have q5 : SqT K (upd JA G (.frz oG (.tup [.ref G1, .ref G2, .ref G3, .ref G4]))) G [.ref G1, .ref G2, .ref G3, .ref G4] := .inl (.inr ⟨oG, upd_same⟩)
      have p5 : PlainT (upd JA G (.frz oG (.tup [.ref G1, .ref G2, .ref G3, .ref G4]))) G := ⟨oG, _, upd_same, hoG⟩
      generalize upd JA G (.frz oG (.tup [.ref G1, .ref G2, .ref G3, .ref G4])) = JB at t5 q5 p5 ⊢
      obtain ⟨ln, rfl⟩ := Int.eq_ofNat_of_zero_le hl9.1
      obtain ⟨vn, rfl⟩ := Int.eq_ofNat_of_zero_le hv9.1
      obtain ⟨yn, rfl⟩ := Int.eq_ofNat_of_zero_le hy9.1
      have u8B := (t3.trans t4).trans t5
      have kt7B : KeepT J7 JB := kt78.trans (.same u8B)
      have kt5B : KeepT J5 JB := (KeepT.same (t1.trans t2)).trans kt7B
      have hPB := sqT_kt kt5B hP5
      have dPB : DpAll K JB [.ref A3, .ref A6, .ref AA] ((fgP (38 + (e.val : Int)) co).map encP) := bA_kt kt5B dP5
      have giv : GivenAt K JB (.ref G) (fgG ln vn yn) := ⟨G, [.ref G1, .ref G2, .ref G3, .ref G4], rfl, .inr ⟨p5, q5⟩, .cons ⟨G1, rfl, .inr (sqT_kt kt7B (sqT_same t2 q1))⟩ (.cons ⟨G2, rfl, .inr (sqT_kt kt7B q2)⟩ (.cons ⟨G3, rfl, .inr (sqT_same (t4.trans t5) q3)⟩ (.cons ⟨G4, rfl, .inr (sqT_same t5 q4)⟩ .nil)))⟩
      have BB := ((BJ8.same t3).same t4).same t5
      have kbB := (((((((kb9.same t1).same t2).same sL4).trans kJ8).same t3).same t4).same t5)
      have lgl : ln.log2 ≤ 400 := by
        have h1 : ln.log2 ≤ (1 : Nat).log2 := log_mono (by omega)
        have h2 : (1 : Nat).log2 ≤ 400 := by decide +kernel
        omega
      have lgB : ∀ n : Nat, (n : Int) ≤ BEY → n.log2 ≤ 400 := fun n hn => Nat.le_trans (log_mono (y := BEY.toNat) (by omega)) BEY_log
      have lgv := lgB vn hv9.2
      have lgy := lgB yn hy9.2
      clear q1 q2 q3 q4 t1 t2 t3 t4 t5 m1 m2 m3 m4 nL4 L4b hym hy kt78 u8B nG hP5 dP5 hP dPs
      refine ⟨(by show 3 ≤ sizeLine; decide), fun LL nLL => ?_⟩
      have sLL : Same JB (upd JB LL (.lst [.int 1, .int 2, .int 3])) := sm_new sm_refl nLL
      have hLL : upd JB LL (.lst [.int 1, .int 2, .int 3]) LL = some (.lst [.int 1, .int 2, .int 3]) := upd_same
      generalize upd JB LL (.lst [.int 1, .int 2, .int 3]) = JC at sLL hLL ⊢
      refine ⟨LL, rfl, ⟨_, SqL.of hLL⟩, ?_⟩
      refine for_list (K := K) (a := LL) (xs := [.int 1, .int 2, .int 3]) (fun j τ' H9 => (∃ uA uB uC, τ' = [some (.ref b), some (.int BEY), some (.int B4), some (.int (0 + (i : Int))), some (.int (vn : Int)), some (.int (38 + (e.val : Int))), some (.int co), some (.ref PP), some (.int (ln : Int)), some (.ref G), uA, uB, uC]) ∧ Same JC H9) ⟨⟨_, _, _, rfl⟩, sm_refl⟩ (fun j τ' H9 _ ⟨_, s9⟩ => s9.seq (SqL.of hLL)) ?_ ?_
      · rintro j z τ' H9 hj ⟨⟨uA, uB, uC, rfl⟩, s9⟩
        obtain ⟨n, rfl⟩ : ∃ n : Nat, z = V.int (n : Int) := by
          have := List.mem_of_getElem? hj
          simp only [List.mem_cons, List.not_mem_nil, or_false] at this
          rcases this with rfl | rfl | rfl
          · exact ⟨1, rfl⟩
          · exact ⟨2, rfl⟩
          · exact ⟨3, rfl⟩
        have sB9 := sLL.trans s9
        have fok := fg_ok e hc9.1 hc9.2 n
        obtain ⟨hasC, sm⟩ := fg_has fok lgl lgv lgy
        have dq : ∀ {a1 : Addr} {H' : Hp}, Same JB H' → SqT K H' a1 ([V.ref A3, .ref A6, .ref AA].take n) → Dp K H' (.ref a1) (bD ((fgP (38 + (e.val : Int)) co).take n)) := fun {a1 H'} s h => .tup h (by rw [List.map_take]; exact dpAll_take n (dpAll_same s dPB))
        refine ⟨_, rfl, _, rfl, _, rfl, sl_take (sqT_same sB9 hPB) fun a1 HA sA hA => ?_⟩
        have sBA := sB9.trans sA
        obtain ⟨G', gys, eG, gsq, gpr⟩ := giv
        cases eG
        have gsq' : SqL K JB G gys ∨ SqT K JB G gys := gsq.imp id fun q => q.2
        refine ⟨_, rfl, .ref a1, G, gys, (fgP (38 + (e.val : Int)) co).take n, fgG ln vn yn, fgT ln vn yn, rfl, dq sBA hA, fok.cok, sm, sq_same sBA gsq', Paired.mapP gpr fun _ _ q => q.same sBA, fg_nd _ _ _, by show 4 ≤ 1000; decide, hasC, fun HB sB => ?_⟩
        have sBB := sBA.trans sB
        refine ⟨_, rfl, (by show 2 ≤ sizeLine; decide), fun D1 nD1 => ?_⟩
        have sD : Same HB (upd HB D1 (.tup [.str (Str.ofString "told"), .int (cntP (fgT ln vn yn) ((fgP (38 + (e.val : Int)) co).take n))])) := sm_new sm_refl nD1
        have dD : Dp K (upd HB D1 (.tup [.str (Str.ofString "told"), .int (cntP (fgT ln vn yn) ((fgP (38 + (e.val : Int)) co).take n))])) (.ref D1) (.tuple [.str (Str.ofString "told"), .int (cntP (fgT ln vn yn) ((fgP (38 + (e.val : Int)) co).take n))]) := .tup (SqT.of upd_same) (.cons (.str _) (.cons (.int _) .nil))
        generalize upd HB D1 (.tup [.str (Str.ofString "told"), .int (cntP (fgT ln vn yn) ((fgP (38 + (e.val : Int)) co).take n))]) = HC at sD dD ⊢
        refine ⟨_, rfl, _, rfl, _, _, rfl, rfl, _, rfl, ?_⟩
        refine if_due2 (c := decide (B4 ≤ cntP (fgT ln vn yn) ((fgP (38 + (e.val : Int)) co).take n)) = true) (fun σ' HD => ∃ vd, σ' = [some (.ref b), some (.int BEY), some (.int B4), some (.int (0 + (i : Int))), some (.int (vn : Int)), some (.int (38 + (e.val : Int))), some (.int co), some (.ref PP), some (.int (ln : Int)), some (.ref G), some (.int (n : Int)), some (.int (cntP (fgT ln vn yn) ((fgP (38 + (e.val : Int)) co).take n))), some vd] ∧ Same HC HD ∧
          Dp K HD vd (askD (fgT ln vn yn) ((fgP (38 + (e.val : Int)) co).take n))) (fun h A nA => ⟨.ref A, rfl, sm_new sm_refl nA, ?_⟩) (fun h => ⟨.ref D1, rfl, sm_refl, ?_⟩) ?_
        · unfold askD
          rw [if_pos (of_decide_eq_true h)]
          exact .tup (SqT.of upd_same) (.cons (.str _) (.cons (.str _) .nil))
        · unfold askD
          rw [if_neg (fun q => h (decide_eq_true q))]
          exact dD
        rintro σ' HD ⟨vd, rfl, sCD, hvd⟩
        have sBD := (sBB.trans sD).trans sCD
        refine ⟨_, rfl, _, rfl, _, rfl, sl_take (sqT_same sBD hPB) fun a2 HE sE hE => ?_⟩
        have sBE := sBD.trans sE
        refine ⟨_, rfl, .ref a2, .ref G, (fgP (38 + (e.val : Int)) co).take n, fgG ln vn yn, fgT ln vn yn, rfl, FD.of (dq sBE hE) (tu_bD _), fok.ok, fok.sz, fok.tk, fok.cok, ⟨G, gys, rfl, gsq.imp sBE.seq fun q => ⟨q.1.same sBE, sqT_same sBE q.2⟩, Paired.mapP gpr fun _ _ q => q.same sBE⟩, fg_nd _ _ _, hasC, fun vt HF sF hF => ?_⟩
        refine ⟨_, rfl, _, _, rfl, ak_dp okd_ask hF (dp_same (sE.trans sF) hvd), fun HG sG => ⟨_, rfl, iteF ?_⟩⟩
        exact ⟨⟨_, _, _, rfl⟩, (((((((s9.trans sA).trans sB).trans sD).trans sCD).trans sE).trans sF).trans sG)⟩
      · rintro τ' H9 ⟨⟨uA, uB, uC, rfl⟩, s9⟩
        exact ⟨⟨_, _, _, _, _, _, _, _, _, _, rfl⟩, BB.same (sLL.trans s9), kbB.same (sLL.trans s9)⟩
    · rintro τ' H4 ⟨⟨u3, u4, u5, u6, u7, u8, u9, uA, uB, uC, rfl⟩, B5, k5⟩
      exact k _ B5 k5
end
end K5


set_option Elab.async false
set_option linter.all false
set_option maxRecDepth 100000
set_option maxHeartbeats 8000000
namespace K5
open PySem L2 Nd Bk Gd PySem.ExE
def spCLaw (K : PySem.W.Frag) : Sp := fun vs H Q _ => ∃ (a : Addr) (ns : List Int), vs = [.ref a] ∧ SqL K H a (ns.map V.int) ∧ ns.length ≤ 63 ∧ ∀ H', Q (.bl true) H'
theorem pb_zero : PB [] := ⟨pok_zero, by decide, by decide, (fun _ h => nomatch h), fun _ h => nomatch h⟩
theorem pb_one : PB oneP := ⟨pok_one, by decide, by decide, fun t h => by rw [List.mem_singleton.mp h]; decide, fun t h x hx => by rw [List.mem_singleton.mp h] at hx; exact nomatch hx⟩
theorem BoxAt.other {H H' : Hp} {b c b' : Addr} {ns : List Int} (x : BoxAt H b c ns) (k : But b' H H') (h1 : b ≠ b') (h2 : c ≠ b') : BoxAt H' b c ns := by
  obtain ⟨d0, d1, at_, s, m, h0, h⟩ := x.lst
  exact ⟨⟨d0, d1, at_, s, m, h0, k _ _ h h1⟩, k _ _ x.cells h2, x.len⟩
theorem tok_gok {is : Bool} {p : Poly} {os : List (Str × Option Int)} (pb : PB p) (e : os.map (·.1) = tokK p) (dv : ∀ g ∈ os, Nu is g.2 ∧ ∀ i, g.2 = some i → 0 ≤ i ∧ i ≤ 1000001) : GOk is p (os.map fun g => (g.1, oD g.2)) := by
  have tkl : (tokK p).length ≤ 384 := tks_len pb.len (ml_pb pb)
  refine gok_of (.inl (List.Perm.refl _)) (by rw [e]; exact tokK_nodup p) ?_ (fun t ht x hx => by rw [e]; exact tokK_all ht hx) fun g hg => ⟨tokK_sh pb g.1 (by rw [← e]; exact List.mem_map.mpr ⟨g, hg, rfl⟩), dv g hg⟩
  have := congrArg List.length e
  rw [List.length_map] at this
  omega
theorem ends_gok {is : Bool} {p : Poly} {os : List (Str × Option Int)} (hp : ∀ t ∈ p, t.1 = []) (nd : (os.map (·.1)).Nodup) (hl : os.length ≤ 990) (dv : ∀ g ∈ os, shT g.1 = true ∧ Nu is g.2 ∧ ∀ i, g.2 = some i → 0 ≤ i ∧ i ≤ 1000001) : GOk is p (os.map fun g => (g.1, oD g.2)) :=
  gok_of (.inl (List.Perm.refl _)) nd hl (fun t ht x hx => by rw [hp t ht] at hx; cases hx) dv
def measD : PyData := .tuple [.str (Str.ofString "count"), .str (Str.ofString "cost"), .str (Str.ofString "trust"), .str (Str.ofString "there"), .str (Str.ofString "seen")]
theorem okd_meas : Okd 5 measD := .inr (.inr ⟨_, rfl, by show 5 ≤ 1000; decide, fun e he => by
  simp only [List.mem_cons, List.not_mem_nil, or_false] at he
  rcases he with rfl | rfl | rfl | rfl | rfl <;> exact .inr (.inl ⟨_, rfl⟩)⟩)
/-- all ones: the sum of the coefficients -/
theorem ones_cnt : ∀ p : Poly, cntP (fun _ => 1) p = (p.map (·.2)).sum := by
  have pw : ∀ m : Mono, powC (fun _ => 1) m = 1 := by
    intro m
    have key : ∀ (m : Mono) (a : Int), m.foldl (fun a x => a * (((fun _ => 1 : Str → Nat) x.1 : Nat) : Int) ^ x.2.toNat) a = a := by
      intro m
      induction m with
      | nil => exact fun a => rfl
      | cons x r ih =>
        intro a
        rw [List.foldl_cons, ih]
        show a * (1 : Int) ^ x.2.toNat = a
        rw [Int.one_pow, Int.mul_one]
    exact key m 1
  intro p
  have key : ∀ (p : Poly) (a : Int), p.foldl (fun s t => s + t.2 * powC (fun _ => 1) t.1) a = a + (p.map (·.2)).sum := by
    intro p
    induction p with
    | nil => exact fun a => (Int.add_zero a).symm
    | cons t r ih =>
      intro a
      rw [List.foldl_cons, ih, pw, Int.mul_one, List.map_cons, List.sum_cons, Int.add_assoc]
  have := key p 0
  rw [Int.zero_add] at this
  exact this
theorem one_pb {t : Str} {e c : Int} (h : shT t = true) (e0 : 1 ≤ e) (e1 : e ≤ 40) (c0 : 1 ≤ c) (c1 : c ≤ 9) : PB [([(t, e)], c)] := by
  refine ⟨⟨asc_single _, fun x hx => ?_, fun x hx => ?_⟩, by show 1 ≤ 8; decide, ?_, fun x hx => ?_, fun x hx y hy => ?_⟩
  · rw [List.mem_singleton.mp hx]; show 0 < c; omega
  · rw [List.mem_singleton.mp hx]; exact ⟨asc_single _, fun y hy => by rw [List.mem_singleton.mp hy]; show 0 < e; omega⟩
  · rw [S_cons', S_nil']; show c + 0 ≤ 8000; omega
  · rw [List.mem_singleton.mp hx]; show S [(t, e)] ≤ 48; rw [S_cons', S_nil']; show e + 0 ≤ 48; omega
  · rw [List.mem_singleton.mp hx] at hy
    have hy : y ∈ [(t, e)] := hy
    rw [List.mem_singleton.mp hy]
    exact h
section
variable {P : Program} {w : World} {K : PySem.W.Frag} {mg : Str → Option Value} {base : Heap}
abbrev clN : List Str := ["script", "box", "far", "turn", "p", "token", "ones", "exponent", "value", "term"]
theorem scCLaw : FnScope clN ["script"] (defScope sCLaw) := ⟨rfl, rfl, rfl, by decide +kernel, rfl, by decide +kernel, by decide +kernel⟩
theorem ok_claw {f : Addr} {fd : FuncData} (F : Fun K "law" "law" sCLaw f fd) (C : Cn K mg) (sm : mg "sum" = none) (ms : ∃ a, mg "MEASURES" = some (.ref a) ∧ ∀ H, Dp K H (.ref a) measD)
    (Gb : Df P w K mg base 1 "_law_box" ["script", "at"] (spBox K)) (Gd : Df P w K mg base 2 "_law_draw" ["box", "many"] spDraw) (Gp : Df P w K mg base 5 "_law_poly" ["box", "terms", "most"] (spLPoly K)) (Gg : Df P w K mg base 4 "_law_given" ["box", "p", "values"] (spGivenC K))
    (Gt : Df P w K mg base 3 "_law_tokens" ["p"] (spLTks K)) (Gk : Df P w K mg base 3 "_law_token" ["box"] spTok) (Gw : Df P w K mg base 3 "_law_drawn_value" ["box", "most"] spDVC) (Gv : Df P w K mg base 3 "valued" ["p", "measure", "given"] (spValN K))
    (Ga : Df P w K mg base 6 "_law_alike" ["told", "due"] (spA K 6)) (Gf : Df P w K mg base 7 "_law_figures" ["box"] spBox1)
    {fm : Addr} {fdm : FuncData} (gM : mg "_law_measured" = some (.ref fm)) (kM : PySem.W.keepIn K (.ref fm) = true) (bM : Binds K fdm ["box"] []) (GM : FnG P w K mg base 7 fm fdm ["box"] spBox1)
    {fr : Addr} {fdr : FuncData} (gR : mg "_law_right" = some (.ref fr)) (kR : PySem.W.keepIn K (.ref fr) = true) (bR : Binds K fdr ["box", "p", "given"] []) (GR : FnG P w K mg base 8 fr fdr ["box", "p", "given"] (spVRC K)) :
    FnG P w K mg base 9 f fd ["script"] (spCLaw K) := by
  obtain ⟨fb, fdb, gB, kB, bB, GB⟩ := Gb.ok
  obtain ⟨fd', fdd, gD, kD, bD', GD⟩ := Gd.ok
  obtain ⟨fp, fdp, gP, kP, bP, GP⟩ := Gp.ok
  obtain ⟨fg, fdg, gG, kG, bG, GG⟩ := Gg.ok
  obtain ⟨ft, fdt, gT, kT, bT, GT⟩ := Gt.ok
  obtain ⟨fk, fdk, gK, kK, bK, GK⟩ := Gk.ok
  obtain ⟨fw, fdw, gW, kW, bW, GW⟩ := Gw.ok
  obtain ⟨fv, fdv, gV, kV', bV, GV'⟩ := Gv.ok
  obtain ⟨fa, fda, gA, kA, bA, GA⟩ := Ga.ok
  obtain ⟨ff, fdf, gF, kF, bF, GF⟩ := Gf.ok
  obtain ⟨mA, gMS, dMS⟩ := ms
  refine ok_still F scCLaw (fun vs H Q h => ?_) (fun cdv A outer s H vs Q still hr h => ?_)
  · obtain ⟨a, ns, rfl, _⟩ := h
    rfl
  · obtain ⟨a, ns, rfl, hS, hl, k⟩ := h
    have hr1 : Room 1 _ := hr.mono (by decide)
    have hr2 : Room 2 _ := hr.mono (by decide)
    have hr3 : Room 3 _ := hr.mono (by decide)
    have hr4 : Room 4 _ := hr.mono (by decide)
    have hr5 : Room 5 _ := hr.mono (by decide)
    have hr6 : Room 6 _ := hr.mono (by decide)
    have hr7 : Room 7 _ := hr.mono (by decide)
    have hr8 : Room 8 _ := hr
    have st : Still (cxOf CX0 P w K mg base clN "law" (defScope sCLaw) f cdv A outer s H E0).nox.A := still
    obtain ⟨zr, hzr, hzd⟩ := C.zero
    obtain ⟨on, hon, hod⟩ := C.one
    refine ⟨_, pss_cons (ps_set (i := 1) scCLaw.nd rfl (Or.inl rfl) (pe_call GB hr1 rfl gB kB bB .nil pass0 (pa_cons (pv 0) (pa_cons pe_int pa_nil))))
      (pss_cons (ps_set (i := 2) scCLaw.nd rfl (Or.inl rfl) (pe_call GB hr1 rfl gB kB bB .nil pass0 (pa_cons (pv 0) (pa_cons pe_int pa_nil))))
      (pss_cons (ps_if (PW.pt (pw_or (pt_not (pt_val (pe_call GA hr6 rfl gA kA bA .nil pass0 (pa_cons (pe_glob (v := .ref mA) (by rfl) gMS rfl) (pa_cons (pe_tup (pa_cons pe_str (pa_cons pe_str (pa_cons pe_str (pa_cons pe_str (pa_cons pe_str pa_nil)))))) pa_nil)))))
          (pw_or1 (pt_not (pt_val (pe_still GM st hr7 rfl gM kM bM (pa_cons (pv 2) pa_nil))))))) (pss_one (ps_ret pe_bl)) pss_nil)
      (pss_cons (ps_for PassesOwn.never rfl (pi_range1 rfl C.N.rng (pa_cons pe_int pa_nil)) (pg_name (i := 3) scCLaw.nd rfl (Or.inl rfl))
        (pss_cons (ps_set (i := 4) scCLaw.nd rfl (Or.inl rfl) (pe_call GP hr5 rfl gP kP bP .nil pass0 (pa_cons (pv 1) (pa_cons pe_int (pa_cons pe_int pa_nil)))))
        (pss_cons (ps_if (pt_not (pt_val (pe_still GR st hr8 rfl gR kR bR (pa_cons (pv 2) (pa_cons (pv 4) (pa_cons (pe_call GG hr4 rfl gG kG bG .nil pass0 (pa_cons (pv 2) (pa_cons (pv 4) (pa_cons pe_int pa_nil)))) pa_nil)))))) (pss_one (ps_ret pe_bl)) pss_nil)
        (pss_cons (ps_setLc (i := 6) (own := [("token", 5)]) (g := gName 5) (tt := tYes) (by rfl) scCLaw.nd rfl rfl (sw_true rfl rfl rfl (by decide +kernel)) (pi_list (pe_call GT hr3 rfl gT kT bT .nil pass0 (pa_cons (pv 4) pa_nil))) (blkOk_by (N := clN) (sc := defScope sCLaw) (by decide +kernel))
          (fun _ _ _ _ _ => pg_name (i := 5) scCLaw.nd rfl (Or.inl rfl)) (fun _ _ _ _ _ => pts_nil) (fun _ _ _ _ _ => pe_tup (pa_cons (pv 5) (pa_cons pe_int pa_nil))))
        (pss_one (ps_if (PW.pt (pw_or (pt_not (pt_val (pe_still GR st hr8 rfl gR kR bR (pa_cons (pv 2) (pa_cons (pv 4) (pa_cons (pv 6) pa_nil))))))
          (pw_or1 (pt_not (pt_val (pe_call GA hr6 rfl gA kA bA .nil pass0 (pa_cons (pe_call GV' hr3 rfl gV kV' bV .nil pass0 (pa_cons (pv 4) (pa_cons pe_str (pa_cons (pv 6) pa_nil)))) (pa_cons
            (pe_callB (cr_sum rfl) (by rfl) sm (by rfl) (pa_cons (pe_lc (own := [("term", 9)]) (g := gName 9) (tt := tYes) rfl scCLaw.nd (pi_tup (pv 4)) (blkOk_by (N := clN) (sc := defScope sCLaw) (by decide +kernel))
              (fun _ _ _ _ _ => pg_name (i := 9) scCLaw.nd rfl (Or.inl rfl)) (fun _ _ _ _ _ => pts_nil) (fun _ _ _ _ _ => pe_ix (show IxR _ (rIx K) from ix_seq) (pv 9) pe_int (fun _ _ => rfl))) pa_nil)) pa_nil)))))))) (pss_one (ps_ret pe_bl)) pss_nil))))))
      (pss_cons (ps_if (PW.pt (pw_or (pt_not (pt_val (pe_still GR st hr8 rfl gR kR bR (pa_cons (pv 2) (pa_cons (pe_glob (v := .ref zr) (by rfl) hzr rfl) (pa_cons (pe_lst pa_nil) pa_nil))))))
          (pw_or1 (pt_not (pt_val (pe_still GR st hr8 rfl gR kR bR (pa_cons (pv 2) (pa_cons (pe_glob (v := .ref on) (by rfl) hon rfl) (pa_cons (pe_lst (pa_cons (pe_tup (pa_cons pe_str (pa_cons pe_int pa_nil))) pa_nil)) pa_nil))))))))) (pss_one (ps_ret pe_bl)) pss_nil)
      (pss_cons (ps_if (pt_not (pt_val (pe_call GF hr7 rfl gF kF bF .nil pass0 (pa_cons (pv 2) pa_nil)))) (pss_one (ps_ret pe_bl)) pss_nil)
      (pss_cons (ps_set (i := 5) scCLaw.nd rfl (Or.inl rfl) (pe_call GK hr3 rfl gK kK bK .nil pass0 (pa_cons (pv 2) pa_nil)))
      (pss_cons (ps_set (i := 7) scCLaw.nd rfl (Or.inl rfl) (pe_op op_add pe_int (pe_call GD hr2 rfl gD kD bD' .nil pass0 (pa_cons (pv 2) (pa_cons pe_int pa_nil)))))
      (pss_cons (ps_set (i := 8) scCLaw.nd rfl (Or.inl rfl) (pe_call GW hr3 rfl gW kW bW .nil pass0 (pa_cons (pv 2) (pa_cons pe_int pa_nil))))
      (pss_one (ps_ret (pe_still GR st hr8 rfl gR kR bR (pa_cons (pv 2) (pa_cons
        (pe_tup (pa_cons (pe_tup (pa_cons (pe_tup (pa_cons (pe_tup (pa_cons (pv 5) (pa_cons (pv 7) pa_nil))) pa_nil)) (pa_cons (pe_op op_add pe_int (pe_call GD hr2 rfl gD kD bD' .nil pass0 (pa_cons (pv 2) (pa_cons pe_int pa_nil)))) pa_nil))) pa_nil))
        (pa_cons (pe_lst (pa_cons (pe_tup (pa_cons (pv 5) (pa_cons (pv 8) pa_nil))) pa_nil)) pa_nil)))))))))))))), ?_⟩
    refine ⟨_, rfl, a, ns, 0, rfl, hS, by omega, by decide, fun b c H1 nb nc s1 B1 => ?_⟩
    refine ⟨_, rfl, a, ns, 1, rfl, s1.seq hS, by omega, by decide, fun b2 c2 H2 nb2 nc2 s2 Bf => ?_⟩
    have b2b : b2 ≠ b := B1.off nb2
    have c2b : c2 ≠ b := B1.off nc2
    have cb2 : c ≠ b2 := ne_of_none B1.cells nb2
    have Bb := B1.same s2
    refine ⟨(by show 5 ≤ sizeLine; decide), fun T0 nT0 => ?_⟩
    have sT0 : Same H2 (upd H2 T0 (.tup [.str (Str.ofString "count"), .str (Str.ofString "cost"), .str (Str.ofString "trust"), .str (Str.ofString "there"), .str (Str.ofString "seen")])) := sm_new sm_refl nT0
    refine ⟨_, _, rfl, ak_dp okd_meas (dMS _) (.tup (SqT.of upd_same) (.cons (.str _) (.cons (.str _) (.cons (.str _) (.cons (.str _) (.cons (.str _) .nil)))))), fun H3 s3 => ⟨_, rfl, iteF ?_⟩⟩
    have s23 := sT0.trans s3
    refine ⟨_, rfl, b2, c2, ns, rfl, Bf.same s23, fun H4 B4' k4 => ⟨_, rfl, iteF ?_⟩⟩
    have Bb4 := (Bb.same s23).other k4 (Ne.symm b2b) cb2
    refine ⟨_, rfl, by decide, by decide, ?_⟩
    refine for_range (n := 3) (fun i τ H5 => (∃ u3 u4 u5 u6, τ = [some (.ref a), some (.ref b), some (.ref b2), u3, u4, u5, u6, none, none, none]) ∧ BoxAt H5 b c ns ∧ BoxAt H5 b2 c2 ns) ⟨⟨_, _, _, _, rfl⟩, Bb4, B4'⟩ ?_ ?_
    · rintro i τ H5 hi ⟨⟨u3, u4, u5, u6, rfl⟩, Bb5, Bf5⟩
      refine ⟨_, rfl, b, c, ns, rfl, Bb5, fun v p H6 pb Bb6 k6 hv => ?_⟩
      have Bf6 := Bf5.other k6 b2b c2b
      refine ⟨_, rfl, _, rfl, _, rfl, _, rfl, b2, c2, ns, v, p, 10, rfl, by decide, by decide, Bf6, hv, pb, fun l ys ds H7 lb Bf7 k7 hl hys gok => ?_⟩
      have dv7 : Dp K H7 v (bD p) := bD_kt (KeepT.but Bf6.notT k7) hv
      refine ⟨b2, c2, ns, v, p, l, ys, ds, rfl, Bf7, dv7, pb, lb, hl, hys, gok, fun H8 Bf8 k8 => ⟨_, rfl, iteF ?_⟩⟩
      have Bb8 := Bb6.other (k7.trans k8) (Ne.symm b2b) cb2
      have dv8 : Dp K H8 v (bD p) := bD_kt (KeepT.but Bf7.notT k8) dv7
      have tkl : (tokK p).length ≤ 384 := tks_len pb.len (ml_pb pb)
      refine ⟨_, rfl, v, p, rfl, dv8, pb.ok, pb.szd, Nat.le_trans tkl (by decide), fun nl ys2 H9 nnl s9 hnl hys2 => ?_⟩
      cases dp_strs hys2
      have Bb9 := Bb8.same s9
      have Bf9 := Bf8.same s9
      have dv9 := dp_same s9 dv8
      refine ⟨nl, rfl, ⟨_, SqL.of hnl⟩, fun D nD => ?_⟩
      have Db : D ≠ b2 := Bf9.off nD
      refine lc_list (K := K) (a := nl) (xs := (tokK p).map V.str) (fun j HA => Same H9 HA ∧ ∃ zs, HA D = some (.lst zs) ∧ DpAll K HA zs ((((tokK p).map fun z => (z, some (1 : Int))).take j).map encO)) ⟨sm_new sm_refl nD, [], upd_same, .nil⟩ (fun j HA _ ⟨sA, _⟩ => sA.seq (SqL.of hnl)) ?_ ?_
      · rintro j x HA hj ⟨sA, zs, hD, hzs⟩
        rw [List.getElem?_map] at hj
        obtain ⟨z, hz, rfl⟩ := Option.map_eq_some_iff.mp hj
        have zl : zs.length ≤ 384 := by
          rw [dpAll_len hzs, List.length_map, List.length_take, List.length_map]
          omega
        refine ⟨rfl, _, rfl, (by show 2 ≤ sizeLine; decide), fun T nT => ?_⟩
        have sT : Same HA (upd HA T (.tup [.str z, .int 1])) := sm_new sm_refl nT
        have dT : Dp K (upd HA T (.tup [.str z, .int 1])) (.ref T) (encO (z, some 1)) := dp_encO (g := (z, some 1)) (SqT.of upd_same)
        generalize upd HA T (.tup [.str z, .int 1]) = HB at sT dT ⊢
        have hDB := sT _ _ hD
        have ntD : NotT (HB D) := by rw [hDB]; exact notT_lst
        refine ⟨zs, hDB, small1000 (Nat.le_trans zl (by decide)), sm_new (sA.trans sT) nD, zs ++ [.ref T], upd_same, ?_⟩
        rw [List.take_succ, List.getElem?_map, hz, List.map_append]
        exact dpAll_append (dpAll_put ntD (tu_encOs _) (dpAll_same sT hzs)) (.cons (dp_put ntD (tu_encO _) dT) .nil)
      · rintro HA ⟨sA, zs, hD, hzs⟩
        rw [List.take_of_length_le (by rw [List.length_map, List.length_map]; exact Nat.le_refl _), encO_map] at hzs
        have BfA := Bf9.same sA
        have BbA := Bb9.same sA
        have dvA := dp_same sA dv9
        have gok1 : GOk false p (((tokK p).map fun z => (z, some (1 : Int))).map fun g => (g.1, oD g.2)) := tok_gok pb (by rw [List.map_map]; exact List.map_id _) (fun g hg => by
          obtain ⟨z, _, rfl⟩ := List.mem_map.mp hg
          exact ⟨fun _ => rfl, fun i e => by cases e; decide⟩)
        have gv : ∀ g ∈ ((tokK p).map fun z => (z, some (1 : Int))).map fun g => (g.1, oD g.2), GV g.2 := fun g hg => (gok1.shw g hg).2
        refine ⟨_, rfl, _, rfl, _, rfl, b2, c2, ns, v, p, D, zs, _, rfl, BfA, dvA, pb, Db, hD, hzs, gok1, fun HB BfB kB' => ⟨_, rfl, iteF ?_⟩⟩
        have BbB := BbA.other kB' (Ne.symm b2b) cb2
        have hDB := kB' _ _ hD Db
        have hzsB := dpAll_kt0 (KeepT.but BfA.notT kB') hzs (tu_encGs gv)
        have dvB : Dp K HB v (bD p) := bD_kt (KeepT.but BfA.notT kB') dvA
        obtain ⟨zl, zget⟩ := dps_get hzsB gv
        obtain ⟨gs, pg, gnd, gl, has⟩ := given_has (is := false) (p := p) (σ := fun _ => some 1) gok1.nd (fun t ht x hx => ⟨List.mem_map.mpr ⟨(x.1, some 1), List.mem_map.mpr ⟨x.1, tokK_all ht hx, rfl⟩, rfl⟩, fun _ => rfl⟩) zl zget
        have hasC : HasC gs (fun _ => 1) p := fun t ht x hx => ⟨(has t ht x hx).1, show (1 : Nat).log2 < 200000 by decide +kernel⟩
        refine ⟨_, rfl, _, rfl, v, .ref D, p, gs, (fun _ => 1), rfl, FD.of dvB (tu_bD _), pb.ok, pb.szd, Nat.le_trans tkl (by decide), cok_pb pb, ⟨D, zs, rfl, .inl (SqL.of hDB), pg⟩, gnd, hasC, cnt_small pb (fun _ _ _ _ => by decide), fun HC sC => ?_⟩
        obtain ⟨pa, xs, rfl, sq, len, all⟩ := dp_bag (κ := Mono) (dp_same sC dvB)
        refine ⟨_, rfl, pa, rfl, ⟨_, sq⟩, fun D2 nD2 => ?_⟩
        refine lc_tup (K := K) (a := pa) (xs := xs) (fun j HD => Same HC HD ∧ HD D2 = some (.lst (((p.take j).map (·.2)).map V.int))) ⟨sm_new sm_refl nD2, upd_same⟩ (fun j HD _ ⟨sD, _⟩ => sqT_same sD sq) ?_ ?_
        · rintro j x HD hj ⟨sD, hD2⟩
          obtain ⟨t, ht, hx⟩ := bag_get all hj
          obtain ⟨T, kk, rfl, hT, hk⟩ := dp_pair (dp_same sD hx)
          have pl := pb.len
          refine ⟨rfl, _, rfl, (fd_ix (.inr hT) _).1 ⟨_, hD2, small1000 (by rw [List.length_map, List.length_map, List.length_take]; omega), sm_new sD nD2, ?_⟩⟩
          rw [upd_same, List.take_succ, ht, List.map_append, List.map_append]
          rfl
        · rintro HD ⟨sD, hD2⟩
          rw [len, List.take_length] at hD2
          refine ⟨D2, _, rfl, SqL.of hD2, _, _, rfl, ?_, fun HE sE => ⟨_, rfl, iteF ?_⟩⟩
          · rw [← ones_cnt]
            exact ak_ov (o := some (cntP (fun _ => 1) p))
          have sBE := (sC.trans sD).trans sE
          exact ⟨⟨_, _, _, _, rfl⟩, BbB.same sBE, BfB.same sBE⟩
    · rintro τ H5 ⟨⟨u3, u4, u5, u6, rfl⟩, Bb5, Bf5⟩
      refine ⟨_, rfl, (by show 0 ≤ sizeLine; decide), fun L1 nL1 => ?_⟩
      have sL1 : Same H5 (upd H5 L1 (.lst [])) := sm_new sm_refl nL1
      refine ⟨b2, c2, ns, .ref zr, [], L1, [], ([] : List (Str × Option Int)).map (fun g => (g.1, oD g.2)), rfl, Bf5.same sL1, hzd _, pb_zero, Bf5.off nL1, upd_same, .nil, ends_gok (os := []) (fun t h => (nomatch h)) List.nodup_nil (by show 0 ≤ 990; decide) (fun g hg => (nomatch hg)), fun H6 Bf6 k6 => ⟨_, rfl, iteF ?_⟩⟩
      refine ⟨_, rfl, (by show 2 ≤ sizeLine; decide), fun T nT => ⟨(by show 1 ≤ sizeLine; decide), fun L nL => ?_⟩⟩
      have sT : Same H6 (upd H6 T (.tup [.str (Str.ofString "a1"), .int 7])) := sm_new sm_refl nT
      have dT : Dp K (upd H6 T (.tup [.str (Str.ofString "a1"), .int 7])) (.ref T) (encG (Str.ofString "a1", oD (some 7))) := .tup (SqT.of upd_same) (.cons (.str _) (.cons (.int 7) .nil))
      generalize upd H6 T (.tup [.str (Str.ofString "a1"), .int 7]) = H7 at sT dT nL ⊢
      have sL : Same H7 (upd H7 L (.lst [.ref T])) := sm_new sm_refl nL
      have Lb := (Bf6.same sT).off nL
      refine ⟨b2, c2, ns, .ref on, oneP, L, [.ref T], ([(Str.ofString "a1", some (7 : Int))]).map (fun g => (g.1, oD g.2)), rfl, (Bf6.same sT).same sL, hod _, pb_one, Lb, upd_same, .cons (dp_same sL dT) .nil,
        ends_gok (os := [(Str.ofString "a1", some (7 : Int))]) (fun t h => by rw [List.mem_singleton.mp h]) (by show [Str.ofString "a1"].Nodup; exact List.nodup_cons.mpr ⟨fun q => (nomatch q), List.nodup_nil⟩) (by show 1 ≤ 990; decide) (fun g hg => by
          rw [List.mem_singleton.mp hg]
          exact ⟨by decide +kernel, fun _ => rfl, fun i e => by cases e; decide⟩), fun H8 Bf8 k8 => ⟨_, rfl, iteF ?_⟩⟩
      refine ⟨_, rfl, b2, c2, ns, rfl, Bf8, fun H9 Bf9 k9 => ⟨_, rfl, iteF ?_⟩⟩
      refine ⟨_, rfl, b2, c2, ns, rfl, Bf9, fun z HA hz BfA kA => ?_⟩
      refine ⟨_, rfl, b2, c2, ns, _, rfl, by decide, by decide, BfA, fun r HB r0 r1 BfB kB' => ⟨_, _, rfl, rfl, ?_⟩⟩
      rw [show ((fun i j : Int => V.int (i + j)) 1 r) = V.int (1 + r) from rfl]
      refine ⟨_, rfl, b2, c2, ns, 20, rfl, by decide, by decide, BfB, fun o HC dvo BfC kC => ?_⟩
      obtain ⟨vi, rfl⟩ := Option.isSome_iff_exists.mp (dvo.1 rfl)
      have bvi := dvo.2 vi rfl
      refine ⟨_, rfl, _, rfl, _, rfl, (by show 2 ≤ sizeLine; decide), fun U1 n1 => ⟨(by show 1 ≤ sizeLine; decide), fun U2 n2 => ?_⟩⟩
      have t1 : Same HC (upd HC U1 (.tup [.str z, .int (1 + r)])) := sm_new sm_refl n1
      have d1 : Dp K (upd HC U1 (.tup [.str z, .int (1 + r)])) (.ref U1) (encP (z, 1 + r)) := dp_mk (κ := Str) (SqT.of upd_same) (.str _)
      generalize upd HC U1 (.tup [.str z, .int (1 + r)]) = HD at t1 d1 n2 ⊢
      have t2 : Same HD (upd HD U2 (.tup [.ref U1])) := sm_new sm_refl n2
      have d2 : Dp K (upd HD U2 (.tup [.ref U1])) (.ref U2) (bD ([(z, 1 + r)] : Mono)) := .tup (SqT.of upd_same) (.cons (dp_same t2 d1) .nil)
      generalize upd HD U2 (.tup [.ref U1]) = HE at t2 d2 ⊢
      have BfE := (BfC.same t1).same t2
      refine ⟨_, rfl, b2, c2, ns, _, rfl, by decide, by decide, BfE, fun r' HF r0' r1' BfF kF' => ⟨_, _, rfl, rfl, (by show 2 ≤ sizeLine; decide), fun U3 n3 => ⟨(by show 1 ≤ sizeLine; decide), fun U4 n4 => ?_⟩⟩⟩
      rw [show ((fun i j : Int => V.int (i + j)) 1 r') = V.int (1 + r') from rfl] at n4 ⊢
      have d3 : Dp K HF (.ref U2) (bD ([(z, 1 + r)] : Mono)) := bD_kt (KeepT.but BfE.notT kF') d2
      have t3 : Same HF (upd HF U3 (.tup [.ref U2, .int (1 + r')])) := sm_new sm_refl n3
      have d4 : Dp K (upd HF U3 (.tup [.ref U2, .int (1 + r')])) (.ref U3) (encP (([(z, 1 + r)] : Mono), 1 + r')) := dp_mk (κ := Mono) (SqT.of upd_same) (dp_same t3 d3)
      generalize upd HF U3 (.tup [.ref U2, .int (1 + r')]) = HG at t3 d4 n4 ⊢
      have t4 : Same HG (upd HG U4 (.tup [.ref U3])) := sm_new sm_refl n4
      have d5 : Dp K (upd HG U4 (.tup [.ref U3])) (.ref U4) (bD ([([(z, 1 + r)], 1 + r')] : Poly)) := .tup (SqT.of upd_same) (.cons (dp_same t4 d4) .nil)
      generalize upd HG U4 (.tup [.ref U3]) = HH at t4 d5 ⊢
      refine ⟨_, rfl, _, rfl, (by show 2 ≤ sizeLine; decide), fun T9 nT9 => ⟨(by show 1 ≤ sizeLine; decide), fun L9 nL9 => ?_⟩⟩
      have t5 : Same HH (upd HH T9 (.tup [.str z, ov (some vi)])) := sm_new sm_refl nT9
      have d6 : Dp K (upd HH T9 (.tup [.str z, ov (some vi)])) (.ref T9) (encG (z, oD (some vi))) := .tup (SqT.of upd_same) (.cons (.str _) (.cons (dp_ov _) .nil))
      generalize upd HH T9 (.tup [.str z, ov (some vi)]) = HI at t5 d6 nL9 ⊢
      have t6 : Same HI (upd HI L9 (.lst [.ref T9])) := sm_new sm_refl nL9
      have BfI := ((BfF.same t3).same t4).same t5
      have L9b := BfI.off nL9
      refine ⟨b2, c2, ns, .ref U4, [([(z, 1 + r)], 1 + r')], L9, [.ref T9], ([(z, some vi)]).map (fun g => (g.1, oD g.2)), rfl, BfI.same t6, dp_same (t5.trans t6) d5, one_pb hz (by omega) (by omega) (by omega) (by omega), L9b, upd_same, .cons (dp_same t6 d6) .nil, ?_, fun HJ BfJ kJ => k HJ⟩
      refine gok_of (os := [(z, some vi)]) (.inl (List.Perm.refl _)) (by show [z].Nodup; exact List.nodup_cons.mpr ⟨fun q => (nomatch q), List.nodup_nil⟩) (by show 1 ≤ 990; decide) (fun t ht x hx => ?_) fun g hg => ?_
      · rw [List.mem_singleton.mp ht] at hx
        have hx : x ∈ [(z, 1 + r)] := hx
        rw [List.mem_singleton.mp hx]
        exact List.mem_cons_self
      · rw [List.mem_singleton.mp hg]
        exact ⟨hz, fun _ => rfl, fun i e => by cases e; omega⟩
end
end K5


set_option Elab.async false
set_option linter.all false
set_option maxRecDepth 100000
set_option maxHeartbeats 4000000
namespace K5
open PySem L2 Nd Bk Gd PySem.ExE
theorem sq_k {K : PySem.W.Frag} {a : Addr} {its : List Value} {n : Nat} {dd : Option Addr} {sl : Array (Option Value)} {xs : List V} (h : K.lookup a = some ⟨.type "tuple", dd, .seq its.toArray n, sl⟩) (hz : its.length ≤ 10) (r : Vals xs its) (H : Hp) : SqT K H a xs :=
  .inr ⟨_, its.toArray, n, h, rfl, rfl, by rw [sizeLine_eq, List.size_toArray]; omega, r⟩
theorem all_mk {l : PySem.W.OpenLaw} {w : World} {K : PySem.W.Frag} {h : Heap} {mg : Str → Option Value} {fa : Addr} (X : K.In h) (G : h.Ns mainGlobals mg) (hfa : mg "law" = some (.ref fa))
    {zA oA oB oC : Addr} {zn on1 on2 on3 : Nat} {zd od1 od2 od3 : Option Addr} {zs os1 os2 os3 : Array (Option Value)} {tb t1 t2 t3 m1 m2 m3 m4 m5 : Tok} {mA T : Addr} {mn : Nat} {md : Option Addr} {ms : Array (Option Value)} {yA uA : Addr} {yes ues : Array DictEntry} {yn un : Nat}
    {cx0 ex0 Nx0 : Addr} {bsx0 subx0 : List Value} {nmx0 qnx0 : Str} {snx0 : List Str} {abx0 : Bool} {colx0 : Option Bool} {ddx0 odx0 anx0 : Option Addr} {rx00 rx01 rx02 rx03 rx05 : Option Value} {slx0 : Array (Option Value)} {ocx0 dcx0 pmx0 cdx0 ctx0 : Value}
    {f0 : Addr} {fod0 fan0 : Option Addr} {fsl0 : Array (Option Value)} {foc0 fkV0 fdc0 fpm0 fcd0 fct0 : Value}
    {f1 : Addr} {fod1 fan1 : Option Addr} {fsl1 : Array (Option Value)} {foc1 fkV1 fdc1 fpm1 fcd1 fct1 : Value}
    {f2 : Addr} {fod2 fan2 : Option Addr} {fsl2 : Array (Option Value)} {foc2 fkV2 fdc2 fpm2 fcd2 fct2 : Value}
    {f3 : Addr} {fod3 fan3 : Option Addr} {fsl3 : Array (Option Value)} {foc3 fkV3 fdc3 fpm3 fcd3 fct3 : Value}
    {f4 : Addr} {fod4 fan4 : Option Addr} {fsl4 : Array (Option Value)} {foc4 fkV4 fdc4 fpm4 fcd4 fct4 : Value}
    {f5 : Addr} {fod5 fan5 : Option Addr} {fsl5 : Array (Option Value)} {foc5 fkV5 fdc5 fpm5 fcd5 fct5 : Value}
    {f6 : Addr} {fod6 fan6 : Option Addr} {fsl6 : Array (Option Value)} {foc6 fkV6 fdc6 fpm6 fcd6 fct6 : Value}
    {f7 : Addr} {fod7 fan7 : Option Addr} {fsl7 : Array (Option Value)} {foc7 fkV7 fdc7 fpm7 fcd7 fct7 : Value}
    {f8 : Addr} {fod8 fan8 : Option Addr} {fsl8 : Array (Option Value)} {foc8 fkV8 fdc8 fpm8 fcd8 fct8 : Value}
    {f9 : Addr} {fod9 fan9 : Option Addr} {fsl9 : Array (Option Value)} {foc9 fkV9 fdc9 fpm9 fcd9 fct9 : Value}
    {f10 : Addr} {fod10 fan10 : Option Addr} {fsl10 : Array (Option Value)} {foc10 fkV10 fdc10 fpm10 fcd10 fct10 : Value}
    {f11 : Addr} {fod11 fan11 : Option Addr} {fsl11 : Array (Option Value)} {foc11 fkV11 fdc11 fpm11 fcd11 fct11 : Value}
    {f12 : Addr} {fod12 fan12 : Option Addr} {fsl12 : Array (Option Value)} {foc12 fkV12 fdc12 fpm12 fcd12 fct12 : Value}
    {f13 : Addr} {fod13 fan13 : Option Addr} {fsl13 : Array (Option Value)} {foc13 fkV13 fdc13 fpm13 fcd13 fct13 : Value}
    {f14 : Addr} {fod14 fan14 : Option Addr} {fsl14 : Array (Option Value)} {foc14 fkV14 fdc14 fpm14 fcd14 fct14 : Value}
    {f15 : Addr} {fod15 fan15 : Option Addr} {fsl15 : Array (Option Value)} {foc15 fkV15 fdc15 fpm15 fcd15 fct15 : Value}
    {f16 : Addr} {fod16 fan16 : Option Addr} {fsl16 : Array (Option Value)} {foc16 fkV16 fdc16 fpm16 fcd16 fct16 : Value}
    {f17 : Addr} {fod17 fan17 : Option Addr} {fsl17 : Array (Option Value)} {foc17 fkV17 fdc17 fpm17 fcd17 fct17 : Value}
    {f18 : Addr} {fod18 fan18 : Option Addr} {fsl18 : Array (Option Value)} {foc18 fkV18 fdc18 fpm18 fcd18 fct18 : Value}
    {f19 : Addr} {fod19 fan19 : Option Addr} {fsl19 : Array (Option Value)} {foc19 fkV19 fdc19 fpm19 fcd19 fct19 : Value}
    {f20 : Addr} {fod20 fan20 : Option Addr} {fsl20 : Array (Option Value)} {foc20 fkV20 fdc20 fpm20 fcd20 fct20 : Value}
    {f21 : Addr} {fod21 fan21 : Option Addr} {fsl21 : Array (Option Value)} {foc21 fkV21 fdc21 fpm21 fcd21 fct21 : Value}
    {f22 : Addr} {fod22 fan22 : Option Addr} {fsl22 : Array (Option Value)} {foc22 fkV22 fdc22 fpm22 fcd22 fct22 : Value}
    {f23 : Addr} {fod23 fan23 : Option Addr} {fsl23 : Array (Option Value)} {foc23 fkV23 fdc23 fpm23 fcd23 fct23 : Value}
    {f24 : Addr} {fod24 fan24 : Option Addr} {fsl24 : Array (Option Value)} {foc24 fkV24 fdc24 fpm24 fcd24 fct24 : Value}
    {f25 : Addr} {fod25 fan25 : Option Addr} {fsl25 : Array (Option Value)} {foc25 fkV25 fdc25 fpm25 fcd25 fct25 : Value}
    {f26 : Addr} {fod26 fan26 : Option Addr} {fsl26 : Array (Option Value)} {foc26 fkV26 fdc26 fpm26 fcd26 fct26 : Value}
    {f27 : Addr} {fod27 fan27 : Option Addr} {fsl27 : Array (Option Value)} {foc27 fkV27 fdc27 fpm27 fcd27 fct27 : Value}
    {f28 : Addr} {fod28 fan28 : Option Addr} {fsl28 : Array (Option Value)} {foc28 fkV28 fdc28 fpm28 fcd28 fct28 : Value}
    (bey : PySem.W.nsIn K mainGlobals "BEYOND_FIGURES" = some (some (.int BEY tb)))
    (zer : PySem.W.nsIn K mainGlobals "ZERO" = some (some (.ref zA)))
    (zl : K.lookup zA = some ⟨.type "tuple", zd, .seq #[] zn, zs⟩)
    (one : PySem.W.nsIn K mainGlobals "ONE" = some (some (.ref oA)))
    (o1 : K.lookup oA = some ⟨.type "tuple", od1, .seq #[.ref oB] on1, os1⟩)
    (o2 : K.lookup oB = some ⟨.type "tuple", od2, .seq #[.ref oC, .int 1 t1] on2, os2⟩)
    (o3 : K.lookup oC = some ⟨.type "tuple", od3, .seq #[] on3, os3⟩)
    (yg : PySem.W.nsIn K mainGlobals "_ZEROS" = some (some (.ref yA)))
    (yl : K.lookup yA = some ⟨.type "dict", none, .dict yes yn, #[]⟩)
    (yk : PySem.W.KeysLit w.params yes.toList)
    (ug : PySem.W.nsIn K mainGlobals "_ONES" = some (some (.ref uA)))
    (ul : K.lookup uA = some ⟨.type "dict", none, .dict ues un, #[]⟩)
    (uk : PySem.W.KeysLit w.params ues.toList)
    (y1 : PySem.W.nsIn K yA "count" = some (some (.int 0 t2)))
    (u1 : PySem.W.nsIn K uA "count" = some (some (.int 1 t3)))
    (mg1 : PySem.W.nsIn K mainGlobals "MEASURES" = some (some (.ref mA)))
    (ml1 : K.lookup mA = some ⟨.type "tuple", md, .seq #[.str "count" m1, .str "cost" m2, .str "trust" m3, .str "there" m4, .str "seen" m5] mn, ms⟩)
    (ax0 : PySem.W.nsIn K mainGlobals "TooMany" = some (some (.ref cx0)))
    (xx0 : K.lookup cx0 = some (excClassObj nmx0 qnx0 cx0 Nx0 bsx0 [.ref T, .type "Exception", .type "BaseException", .type "object"] true snx0 subx0 abx0 colx0 ddx0 rx00 rx01 rx02 rx03 rx05 "Exception.__new__"))
    (sax0 : PySem.W.findIn K (.ref cx0) "__setattr__" = some (some (.builtin "object.__setattr__")))
    (gax0 : PySem.W.findIn K (.ref cx0) "__getattribute__" = some (some (.builtin "BaseException.__getattribute__")))
    (ggx0 : PySem.W.findIn K (.ref cx0) "__getattr__" = some none)
    (cax0 : PySem.W.findIn K (.ref cx0) "__class__" = some (some (.builtin "object.__class__")))
    (nox0 : PySem.W.findIn K (.ref cx0) "word" = some none)
    (iix0 : PySem.W.findIn K (.ref cx0) "__init__" = some (some (.ref ex0)))
    (tix0 : PySem.W.typeIn K (.ref ex0) = some (.type "function"))
    (lix0 : K.lookup ex0 = some ⟨ocx0, odx0, .func (PySem.W.fnOf "__init__" "TooMany.__init__" (defArgs (inClass (topS 3) 0)) (defBody (inClass (topS 3) 0)) (defScope (inClass (topS 3) 0)) .none .none dcx0 pmx0 anx0 cdx0 ctx0), slx0⟩)
    (cix0 : PySem.W.codeIn K cdx0 "TooMany.__init__" = true)
    (kcx0 : PySem.W.keepIn K (.ref cx0) = true)
    (tyx0 : PySem.W.typeIn K (.ref cx0) = some (.type "type"))
    (fa0 : PySem.W.nsIn K mainGlobals "capped_power" = some (some (.ref f0)))
    (fl0 : K.lookup f0 = some ⟨foc0, fod0, .func (PySem.W.fnOf "capped_power" "capped_power" (defArgs sCapped) (defBody sCapped) (defScope sCapped) .none fkV0 fdc0 fpm0 fan0 fcd0 fct0), fsl0⟩)
    (fc0 : PySem.W.codeIn K fcd0 "capped_power" = true)
    (fk0 : PySem.W.keepIn K (.ref f0) = true)
    (fa1 : PySem.W.nsIn K mainGlobals "need_all" = some (some (.ref f1)))
    (fl1 : K.lookup f1 = some ⟨foc1, fod1, .func (PySem.W.fnOf "need_all" "need_all" (defArgs sNeed) (defBody sNeed) (defScope sNeed) .none fkV1 fdc1 fpm1 fan1 fcd1 fct1), fsl1⟩)
    (fc1 : PySem.W.codeIn K fcd1 "need_all" = true)
    (fk1 : PySem.W.keepIn K (.ref f1) = true)
    (fa2 : PySem.W.nsIn K mainGlobals "tokens_of" = some (some (.ref f2)))
    (fl2 : K.lookup f2 = some ⟨foc2, fod2, .func (PySem.W.fnOf "tokens_of" "tokens_of" (defArgs sTokens) (defBody sTokens) (defScope sTokens) .none fkV2 fdc2 fpm2 fan2 fcd2 fct2), fsl2⟩)
    (fc2 : PySem.W.codeIn K fcd2 "tokens_of" = true)
    (fk2 : PySem.W.keepIn K (.ref f2) = true)
    (fa3 : PySem.W.nsIn K mainGlobals "valued" = some (some (.ref f3)))
    (fl3 : K.lookup f3 = some ⟨foc3, fod3, .func (PySem.W.fnOf "valued" "valued" (defArgs sValued) (defBody sValued) (defScope sValued) .none fkV3 fdc3 fpm3 fan3 fcd3 fct3), fsl3⟩)
    (fc3 : PySem.W.codeIn K fcd3 "valued" = true)
    (fk3 : PySem.W.keepIn K (.ref f3) = true)
    (fa4 : PySem.W.nsIn K mainGlobals "measured_plus" = some (some (.ref f4)))
    (fl4 : K.lookup f4 = some ⟨foc4, fod4, .func (PySem.W.fnOf "measured_plus" "measured_plus" (defArgs sMPlus) (defBody sMPlus) (defScope sMPlus) .none fkV4 fdc4 fpm4 fan4 fcd4 fct4), fsl4⟩)
    (fc4 : PySem.W.codeIn K fcd4 "measured_plus" = true)
    (fk4 : PySem.W.keepIn K (.ref f4) = true)
    (fa5 : PySem.W.nsIn K mainGlobals "measured_times" = some (some (.ref f5)))
    (fl5 : K.lookup f5 = some ⟨foc5, fod5, .func (PySem.W.fnOf "measured_times" "measured_times" (defArgs sMTimes) (defBody sMTimes) (defScope sMTimes) .none fkV5 fdc5 fpm5 fan5 fcd5 fct5), fsl5⟩)
    (fc5 : PySem.W.codeIn K fcd5 "measured_times" = true)
    (fk5 : PySem.W.keepIn K (.ref f5) = true)
    (fa6 : PySem.W.nsIn K mainGlobals "measured_zero" = some (some (.ref f6)))
    (fl6 : K.lookup f6 = some ⟨foc6, fod6, .func (PySem.W.fnOf "measured_zero" "measured_zero" (defArgs sMZero) (defBody sMZero) (defScope sMZero) .none fkV6 fdc6 fpm6 fan6 fcd6 fct6), fsl6⟩)
    (fc6 : PySem.W.codeIn K fcd6 "measured_zero" = true)
    (fk6 : PySem.W.keepIn K (.ref f6) = true)
    (fa7 : PySem.W.nsIn K mainGlobals "measured_one" = some (some (.ref f7)))
    (fl7 : K.lookup f7 = some ⟨foc7, fod7, .func (PySem.W.fnOf "measured_one" "measured_one" (defArgs sMOne) (defBody sMOne) (defScope sMOne) .none fkV7 fdc7 fpm7 fan7 fcd7 fct7), fsl7⟩)
    (fc7 : PySem.W.codeIn K fcd7 "measured_one" = true)
    (fk7 : PySem.W.keepIn K (.ref f7) = true)
    (fa8 : PySem.W.nsIn K mainGlobals "_counted" = some (some (.ref f8)))
    (fl8 : K.lookup f8 = some ⟨foc8, fod8, .func (PySem.W.fnOf "_counted" "_counted" (defArgs sCounted) (defBody sCounted) (defScope sCounted) .none fkV8 fdc8 fpm8 fan8 fcd8 fct8), fsl8⟩)
    (fc8 : PySem.W.codeIn K fcd8 "_counted" = true)
    (fk8 : PySem.W.keepIn K (.ref f8) = true)
    (fa9 : PySem.W.nsIn K mainGlobals "_law_mix" = some (some (.ref f9)))
    (fl9 : K.lookup f9 = some ⟨foc9, fod9, .func (PySem.W.fnOf "_law_mix" "_law_mix" (defArgs sMix) (defBody sMix) (defScope sMix) .none fkV9 fdc9 fpm9 fan9 fcd9 fct9), fsl9⟩)
    (fc9 : PySem.W.codeIn K fcd9 "_law_mix" = true)
    (fk9 : PySem.W.keepIn K (.ref f9) = true)
    (fa10 : PySem.W.nsIn K mainGlobals "_law_box" = some (some (.ref f10)))
    (fl10 : K.lookup f10 = some ⟨foc10, fod10, .func (PySem.W.fnOf "_law_box" "_law_box" (defArgs sBox) (defBody sBox) (defScope sBox) .none fkV10 fdc10 fpm10 fan10 fcd10 fct10), fsl10⟩)
    (fc10 : PySem.W.codeIn K fcd10 "_law_box" = true)
    (fk10 : PySem.W.keepIn K (.ref f10) = true)
    (fa11 : PySem.W.nsIn K mainGlobals "_law_draw" = some (some (.ref f11)))
    (fl11 : K.lookup f11 = some ⟨foc11, fod11, .func (PySem.W.fnOf "_law_draw" "_law_draw" (defArgs sDraw) (defBody sDraw) (defScope sDraw) .none fkV11 fdc11 fpm11 fan11 fcd11 fct11), fsl11⟩)
    (fc11 : PySem.W.codeIn K fcd11 "_law_draw" = true)
    (fk11 : PySem.W.keepIn K (.ref f11) = true)
    (fa12 : PySem.W.nsIn K mainGlobals "_law_alike" = some (some (.ref f12)))
    (fl12 : K.lookup f12 = some ⟨foc12, fod12, .func (PySem.W.fnOf "_law_alike" "_law_alike" (defArgs sAlike) (defBody sAlike) (defScope sAlike) .none fkV12 fdc12 fpm12 fan12 fcd12 fct12), fsl12⟩)
    (fc12 : PySem.W.codeIn K fcd12 "_law_alike" = true)
    (fk12 : PySem.W.keepIn K (.ref f12) = true)
    (fa13 : PySem.W.nsIn K mainGlobals "_law_token" = some (some (.ref f13)))
    (fl13 : K.lookup f13 = some ⟨foc13, fod13, .func (PySem.W.fnOf "_law_token" "_law_token" (defArgs sTok) (defBody sTok) (defScope sTok) .none fkV13 fdc13 fpm13 fan13 fcd13 fct13), fsl13⟩)
    (fc13 : PySem.W.codeIn K fcd13 "_law_token" = true)
    (fk13 : PySem.W.keepIn K (.ref f13) = true)
    (fa14 : PySem.W.nsIn K mainGlobals "_law_sorted" = some (some (.ref f14)))
    (fl14 : K.lookup f14 = some ⟨foc14, fod14, .func (PySem.W.fnOf "_law_sorted" "_law_sorted" (defArgs sSort) (defBody sSort) (defScope sSort) .none fkV14 fdc14 fpm14 fan14 fcd14 fct14), fsl14⟩)
    (fc14 : PySem.W.codeIn K fcd14 "_law_sorted" = true)
    (fk14 : PySem.W.keepIn K (.ref f14) = true)
    (fa15 : PySem.W.nsIn K mainGlobals "_law_normal" = some (some (.ref f15)))
    (fl15 : K.lookup f15 = some ⟨foc15, fod15, .func (PySem.W.fnOf "_law_normal" "_law_normal" (defArgs sNorm) (defBody sNorm) (defScope sNorm) .none fkV15 fdc15 fpm15 fan15 fcd15 fct15), fsl15⟩)
    (fc15 : PySem.W.codeIn K fcd15 "_law_normal" = true)
    (fk15 : PySem.W.keepIn K (.ref f15) = true)
    (fa16 : PySem.W.nsIn K mainGlobals "_law_monomial" = some (some (.ref f16)))
    (fl16 : K.lookup f16 = some ⟨foc16, fod16, .func (PySem.W.fnOf "_law_monomial" "_law_monomial" (defArgs sLMono) (defBody sLMono) (defScope sLMono) .none fkV16 fdc16 fpm16 fan16 fcd16 fct16), fsl16⟩)
    (fc16 : PySem.W.codeIn K fcd16 "_law_monomial" = true)
    (fk16 : PySem.W.keepIn K (.ref f16) = true)
    (fa17 : PySem.W.nsIn K mainGlobals "_law_poly" = some (some (.ref f17)))
    (fl17 : K.lookup f17 = some ⟨foc17, fod17, .func (PySem.W.fnOf "_law_poly" "_law_poly" (defArgs sLPoly) (defBody sLPoly) (defScope sLPoly) .none fkV17 fdc17 fpm17 fan17 fcd17 fct17), fsl17⟩)
    (fc17 : PySem.W.codeIn K fcd17 "_law_poly" = true)
    (fk17 : PySem.W.keepIn K (.ref f17) = true)
    (fa18 : PySem.W.nsIn K mainGlobals "_law_lists" = some (some (.ref f18)))
    (fl18 : K.lookup f18 = some ⟨foc18, fod18, .func (PySem.W.fnOf "_law_lists" "_law_lists" (defArgs sLLists) (defBody sLLists) (defScope sLLists) .none fkV18 fdc18 fpm18 fan18 fcd18 fct18), fsl18⟩)
    (fc18 : PySem.W.codeIn K fcd18 "_law_lists" = true)
    (fk18 : PySem.W.keepIn K (.ref f18) = true)
    (fa19 : PySem.W.nsIn K mainGlobals "_law_tokens" = some (some (.ref f19)))
    (fl19 : K.lookup f19 = some ⟨foc19, fod19, .func (PySem.W.fnOf "_law_tokens" "_law_tokens" (defArgs sLTokens) (defBody sLTokens) (defScope sLTokens) .none fkV19 fdc19 fpm19 fan19 fcd19 fct19), fsl19⟩)
    (fc19 : PySem.W.codeIn K fcd19 "_law_tokens" = true)
    (fk19 : PySem.W.keepIn K (.ref f19) = true)
    (fa20 : PySem.W.nsIn K mainGlobals "_law_drawn_value" = some (some (.ref f20)))
    (fl20 : K.lookup f20 = some ⟨foc20, fod20, .func (PySem.W.fnOf "_law_drawn_value" "_law_drawn_value" (defArgs sDValC) (defBody sDValC) (defScope sDValC) .none fkV20 fdc20 fpm20 fan20 fcd20 fct20), fsl20⟩)
    (fc20 : PySem.W.codeIn K fcd20 "_law_drawn_value" = true)
    (fk20 : PySem.W.keepIn K (.ref f20) = true)
    (fa21 : PySem.W.nsIn K mainGlobals "_law_given" = some (some (.ref f21)))
    (fl21 : K.lookup f21 = some ⟨foc21, fod21, .func (PySem.W.fnOf "_law_given" "_law_given" (defArgs sGivenC) (defBody sGivenC) (defScope sGivenC) .none fkV21 fdc21 fpm21 fan21 fcd21 fct21), fsl21⟩)
    (fc21 : PySem.W.codeIn K fcd21 "_law_given" = true)
    (fk21 : PySem.W.keepIn K (.ref f21) = true)
    (fa22 : PySem.W.nsIn K mainGlobals "_law_power" = some (some (.ref f22)))
    (fl22 : K.lookup f22 = some ⟨foc22, fod22, .func (PySem.W.fnOf "_law_power" "_law_power" (defArgs sLPow) (defBody sLPow) (defScope sLPow) .none fkV22 fdc22 fpm22 fan22 fcd22 fct22), fsl22⟩)
    (fc22 : PySem.W.codeIn K fcd22 "_law_power" = true)
    (fk22 : PySem.W.keepIn K (.ref f22) = true)
    (fa23 : PySem.W.nsIn K mainGlobals "_law_count" = some (some (.ref f23)))
    (fl23 : K.lookup f23 = some ⟨foc23, fod23, .func (PySem.W.fnOf "_law_count" "_law_count" (defArgs sLCnt) (defBody sLCnt) (defScope sLCnt) .none fkV23 fdc23 fpm23 fan23 fcd23 fct23), fsl23⟩)
    (fc23 : PySem.W.codeIn K fcd23 "_law_count" = true)
    (fk23 : PySem.W.keepIn K (.ref f23) = true)
    (fa24 : PySem.W.nsIn K mainGlobals "_law_right" = some (some (.ref f24)))
    (fl24 : K.lookup f24 = some ⟨foc24, fod24, .func (PySem.W.fnOf "_law_right" "_law_right" (defArgs sRightC) (defBody sRightC) (defScope sRightC) .none fkV24 fdc24 fpm24 fan24 fcd24 fct24), fsl24⟩)
    (fc24 : PySem.W.codeIn K fcd24 "_law_right" = true)
    (fk24 : PySem.W.keepIn K (.ref f24) = true)
    (fa25 : PySem.W.nsIn K mainGlobals "_law_measured" = some (some (.ref f25)))
    (fl25 : K.lookup f25 = some ⟨foc25, fod25, .func (PySem.W.fnOf "_law_measured" "_law_measured" (defArgs sMeasC) (defBody sMeasC) (defScope sMeasC) .none fkV25 fdc25 fpm25 fan25 fcd25 fct25), fsl25⟩)
    (fc25 : PySem.W.codeIn K fcd25 "_law_measured" = true)
    (fk25 : PySem.W.keepIn K (.ref f25) = true)
    (fa26 : PySem.W.nsIn K mainGlobals "_law_asked" = some (some (.ref f26)))
    (fl26 : K.lookup f26 = some ⟨foc26, fod26, .func (PySem.W.fnOf "_law_asked" "_law_asked" (defArgs sAskC) (defBody sAskC) (defScope sAskC) .none fkV26 fdc26 fpm26 fan26 fcd26 fct26), fsl26⟩)
    (fc26 : PySem.W.codeIn K fcd26 "_law_asked" = true)
    (fk26 : PySem.W.keepIn K (.ref f26) = true)
    (fa27 : PySem.W.nsIn K mainGlobals "_law_figures" = some (some (.ref f27)))
    (fl27 : K.lookup f27 = some ⟨foc27, fod27, .func (PySem.W.fnOf "_law_figures" "_law_figures" (defArgs sFigC) (defBody sFigC) (defScope sFigC) .none fkV27 fdc27 fpm27 fan27 fcd27 fct27), fsl27⟩)
    (fc27 : PySem.W.codeIn K fcd27 "_law_figures" = true)
    (fk27 : PySem.W.keepIn K (.ref f27) = true)
    (fa28 : PySem.W.nsIn K mainGlobals "law" = some (some (.ref f28)))
    (fl28 : K.lookup f28 = some ⟨foc28, fod28, .func (PySem.W.fnOf "law" "law" (defArgs sCLaw) (defBody sCLaw) (defScope sCLaw) .none fkV28 fdc28 fpm28 fan28 fcd28 fct28), fsl28⟩)
    (fc28 : PySem.W.codeIn K fcd28 "law" = true)
    (fk28 : PySem.W.keepIn K (.ref f28) = true)
    (z_isinstance : PySem.W.nsIn K mainGlobals "isinstance" = some none)
    (z_tuple : PySem.W.nsIn K mainGlobals "tuple" = some none)
    (z_list : PySem.W.nsIn K mainGlobals "list" = some none)
    (z_len : PySem.W.nsIn K mainGlobals "len" = some none)
    (z_range : PySem.W.nsIn K mainGlobals "range" = some none)
    (z_bool : PySem.W.nsIn K mainGlobals "bool" = some none)
    (z_str : PySem.W.nsIn K mainGlobals "str" = some none)
    (z_int : PySem.W.nsIn K mainGlobals "int" = some none)
    (z_min : PySem.W.nsIn K mainGlobals "min" = some none)
    (z_any : PySem.W.nsIn K mainGlobals "any" = some none)
    (z_dict : PySem.W.nsIn K mainGlobals "dict" = some none)
    (z_sorted : PySem.W.nsIn K mainGlobals "sorted" = some none)
    (z_sum : PySem.W.nsIn K mainGlobals "sum" = some none)
    (z_repr : PySem.W.nsIn K mainGlobals "repr" = some none)
    (z_reversed : PySem.W.nsIn K mainGlobals "reversed" = some none)
    : ∃ fd : FuncData, (∀ (s : Shared) (v : Value), BindsTo s fd ⟨[v], []⟩ [("script", v)]) ∧ ∀ base : Heap, K.In base → base.Ns mainGlobals mg → FnG l.prog w K mg base 9 fa fd ["script"] (spCLaw K) := by
  have e := hfa.symm.trans (PySem.W.mg_of X G fa28)
  cases e
  have C : Cn K mg := {
    N := ⟨PySem.W.mg_none_of X G z_isinstance, PySem.W.mg_none_of X G z_tuple, PySem.W.mg_none_of X G z_list, PySem.W.mg_none_of X G z_len, PySem.W.mg_none_of X G z_range, PySem.W.mg_none_of X G z_bool, PySem.W.mg_none_of X G z_str, PySem.W.mg_none_of X G z_int⟩
    min := PySem.W.mg_none_of X G z_min, any := PySem.W.mg_none_of X G z_any, dict := PySem.W.mg_none_of X G z_dict, srt := PySem.W.mg_none_of X G z_sorted
    bey := ⟨_, PySem.W.mg_of X G bey⟩
    zero := ⟨zA, PySem.W.mg_of X G zer, fun H => .tup (sq_k (its := []) (xs := []) zl (by decide) .nil H) .nil⟩
    one := ⟨oA, PySem.W.mg_of X G one, fun H => .tup (sq_k (its := [.ref oB]) (xs := [.ref oB]) o1 (by show 1 ≤ 10; decide) (.cons (show RelV (.ref oB) _ from rfl) .nil) H) (.cons (.tup (sq_k (its := [.ref oC, .int 1 t1]) (xs := [.ref oC, .int 1]) o2 (by show 2 ≤ 10; decide) (.cons (show RelV (.ref oC) _ from rfl) (.cons (show RelV (.int 1) _ from ⟨_, rfl⟩) .nil)) H) (.cons (.tup (sq_k (its := []) (xs := []) o3 (by decide) .nil H) .nil) (.cons (.int 1) .nil))) .nil)⟩ }
  have Ex0 : EC K cx0 T "word" ex0 := ⟨⟨_, _, _, _, _, _, _, _, _, _, _, _, _, _, xx0⟩, sax0, gax0, ggx0, cax0, nox0, iix0, tix0, kcx0, tyx0⟩
  have Mx0 : Makes K cx0 "word" := Iword.makes Ex0 (qn := "TooMany.__init__") ⟨_, _, _, _, _, _, _, _, _, _, _, _, _, _, lix0, cix0⟩
  have X0 : Tm K mg T cx0 ex0 := ⟨Ex0, Mx0, PySem.W.mg_of X G ax0⟩
  have V : Cw K w mg := { sum := PySem.W.mg_none_of X G z_sum, zeros := ⟨yA, PySem.W.mg_of X G yg, ⟨yes, yn, _, yl, yk, y1, ⟨_, rfl⟩⟩⟩, ones := ⟨uA, PySem.W.mg_of X G ug, ⟨ues, un, _, ul, uk, u1, ⟨_, rfl⟩⟩⟩ }
  have MS : ∃ a, mg "MEASURES" = some (.ref a) ∧ ∀ H, Dp K H (.ref a) measD := ⟨mA, PySem.W.mg_of X G mg1, fun H => .tup (sq_k (its := [.str "count" m1, .str "cost" m2, .str "trust" m3, .str "there" m4, .str "seen" m5]) (xs := [.str "count", .str "cost", .str "trust", .str "there", .str "seen"]) ml1 (by show 5 ≤ 10; decide) (.cons (show RelV (.str _) _ from ⟨_, rfl⟩) (.cons (show RelV (.str _) _ from ⟨_, rfl⟩) (.cons (show RelV (.str _) _ from ⟨_, rfl⟩) (.cons (show RelV (.str _) _ from ⟨_, rfl⟩) (.cons (show RelV (.str _) _ from ⟨_, rfl⟩) .nil))))) H) (.cons (.str _) (.cons (.str _) (.cons (.str _) (.cons (.str _) (.cons (.str _) .nil)))))⟩
  have F0 := fun_mk (st := sCapped) fl0 fc0 fk0
  have b0 := F0.binds (ps := ["base", "exponent", "cap"]) fun _ _ _ _ _ _ us hl => match us, hl with | [_, _, _], _ => rfl
  have F1 := fun_mk (st := sNeed) fl1 fc1 fk1
  have b1 := F1.binds (ps := ["tokens", "values"]) fun _ _ _ _ _ _ us hl => match us, hl with | [_, _], _ => rfl
  have F2 := fun_mk (st := sTokens) fl2 fc2 fk2
  have b2 := F2.binds (ps := ["p"]) fun _ _ _ _ _ _ us hl => match us, hl with | [_], _ => rfl
  have F3 := fun_mk (st := sValued) fl3 fc3 fk3
  have b3 := F3.binds (ps := ["p", "measure", "given"]) fun _ _ _ _ _ _ us hl => match us, hl with | [_, _, _], _ => rfl
  have F4 := fun_mk (st := sMPlus) fl4 fc4 fk4
  have b4 := F4.binds (ps := ["measure", "a", "b"]) fun _ _ _ _ _ _ us hl => match us, hl with | [_, _, _], _ => rfl
  have F5 := fun_mk (st := sMTimes) fl5 fc5 fk5
  have b5 := F5.binds (ps := ["measure", "a", "b"]) fun _ _ _ _ _ _ us hl => match us, hl with | [_, _, _], _ => rfl
  have F6 := fun_mk (st := sMZero) fl6 fc6 fk6
  have b6 := F6.binds (ps := ["measure", "persons"]) fun _ _ _ _ _ _ us hl => match us, hl with | [_, _], _ => rfl
  have F7 := fun_mk (st := sMOne) fl7 fc7 fk7
  have b7 := F7.binds (ps := ["measure", "persons"]) fun _ _ _ _ _ _ us hl => match us, hl with | [_, _], _ => rfl
  have F8 := fun_mk (st := sCounted) fl8 fc8 fk8
  have b8 := F8.binds (ps := ["p", "values"]) fun _ _ _ _ _ _ us hl => match us, hl with | [_, _], _ => rfl
  have F9 := fun_mk (st := sMix) fl9 fc9 fk9
  have b9 := F9.binds (ps := ["cell", "salt"]) fun _ _ _ _ _ _ us hl => match us, hl with | [_, _], _ => rfl
  have F10 := fun_mk (st := sBox) fl10 fc10 fk10
  have b10 := F10.binds (ps := ["script", "at"]) fun _ _ _ _ _ _ us hl => match us, hl with | [_, _], _ => rfl
  have F11 := fun_mk (st := sDraw) fl11 fc11 fk11
  have b11 := F11.binds (ps := ["box", "many"]) fun _ _ _ _ _ _ us hl => match us, hl with | [_, _], _ => rfl
  have F12 := fun_mk (st := sAlike) fl12 fc12 fk12
  have b12 := F12.binds (ps := ["told", "due"]) fun _ _ _ _ _ _ us hl => match us, hl with | [_, _], _ => rfl
  have F13 := fun_mk (st := sTok) fl13 fc13 fk13
  have b13 := F13.binds (ps := ["box"]) fun _ _ _ _ _ _ us hl => match us, hl with | [_], _ => rfl
  have F14 := fun_mk (st := sSort) fl14 fc14 fk14
  have b14 := F14.binds (ps := ["row"]) fun _ _ _ _ _ _ us hl => match us, hl with | [_], _ => rfl
  have F15 := fun_mk (st := sNorm) fl15 fc15 fk15
  have b15 := F15.binds (ps := ["book"]) fun _ _ _ _ _ _ us hl => match us, hl with | [_], _ => rfl
  have F16 := fun_mk (st := sLMono) fl16 fc16 fk16
  have b16 := F16.binds (ps := ["box", "most"]) fun _ _ _ _ _ _ us hl => match us, hl with | [_, _], _ => rfl
  have F17 := fun_mk (st := sLPoly) fl17 fc17 fk17
  have b17 := F17.binds (ps := ["box", "terms", "most"]) fun _ _ _ _ _ _ us hl => match us, hl with | [_, _, _], _ => rfl
  have F18 := fun_mk (st := sLLists) fl18 fc18 fk18
  have b18 := F18.binds (ps := ["box", "value"]) fun _ _ _ _ _ _ us hl => match us, hl with | [_, _], _ => rfl
  have F19 := fun_mk (st := sLTokens) fl19 fc19 fk19
  have b19 := F19.binds (ps := ["p"]) fun _ _ _ _ _ _ us hl => match us, hl with | [_], _ => rfl
  have F20 := fun_mk (st := sDValC) fl20 fc20 fk20
  have b20 := F20.binds (ps := ["box", "most"]) fun _ _ _ _ _ _ us hl => match us, hl with | [_, _], _ => rfl
  have F21 := fun_mk (st := sGivenC) fl21 fc21 fk21
  have b21 := F21.binds (ps := ["box", "p", "values"]) fun _ _ _ _ _ _ us hl => match us, hl with | [_, _, _], _ => rfl
  have F22 := fun_mk (st := sLPow) fl22 fc22 fk22
  have b22 := F22.binds (ps := ["value", "exponent"]) fun _ _ _ _ _ _ us hl => match us, hl with | [_, _], _ => rfl
  have F23 := fun_mk (st := sLCnt) fl23 fc23 fk23
  have b23 := F23.binds (ps := ["p", "given"]) fun _ _ _ _ _ _ us hl => match us, hl with | [_, _], _ => rfl
  have F24 := fun_mk (st := sRightC) fl24 fc24 fk24
  have b24 := F24.binds (ps := ["box", "p", "given"]) fun _ _ _ _ _ _ us hl => match us, hl with | [_, _, _], _ => rfl
  have F25 := fun_mk (st := sMeasC) fl25 fc25 fk25
  have b25 := F25.binds (ps := ["box"]) fun _ _ _ _ _ _ us hl => match us, hl with | [_], _ => rfl
  have F26 := fun_mk (st := sAskC) fl26 fc26 fk26
  have b26 := F26.binds (ps := ["p", "given"]) fun _ _ _ _ _ _ us hl => match us, hl with | [_, _], _ => rfl
  have F27 := fun_mk (st := sFigC) fl27 fc27 fk27
  have b27 := F27.binds (ps := ["box"]) fun _ _ _ _ _ _ us hl => match us, hl with | [_], _ => rfl
  have F28 := fun_mk (st := sCLaw) fl28 fc28 fk28
  refine ⟨PySem.W.fnOf "law" "law" (defArgs sCLaw) (defBody sCLaw) (defScope sCLaw) .none fkV28 fdc28 fpm28 fan28 fcd28 fct28, fun s v => .of_eq rfl, fun base _ _ => ?_⟩
  · have N := C.N
    have rp := PySem.W.mg_none_of X G z_repr
    have rv := PySem.W.mg_none_of X G z_reversed
    have sm := PySem.W.mg_none_of X G z_sum
    have D0 : Df l.prog w K mg base 1 "capped_power" ["base", "exponent", "cap"] spCap := ⟨f0, _, PySem.W.mg_of X G fa0, fk0, b0, ok_capped F0 C rv⟩
    have D2 : Df l.prog w K mg base 1 "tokens_of" ["p"] (spTks K) := ⟨f2, _, PySem.W.mg_of X G fa2, fk2, b2, ok_tks F2 C⟩
    have D1 : Df l.prog w K mg base 1 "need_all" ["tokens", "values"] (spNeed K) := ⟨f1, _, PySem.W.mg_of X G fa1, fk1, b1, ok_need F1⟩
    have GC := ok_counted (P := l.prog) (w := w) (base := base) F8 C X0 D0
    have GV := ok_valuedC (P := l.prog) (w := w) (base := base) F3 C D2 D1 (PySem.W.mg_of X G fa8) fk8 b8 GC
    have D3 : Df l.prog w K mg base 3 "valued" ["p", "measure", "given"] (spValN K) := ⟨f3, _, PySem.W.mg_of X G fa3, fk3, b3, valN_of GV⟩
    have DK3 : Dk l.prog w K mg base 3 "valued" ["p", "measure", "given"] ["given", "measure", "p"] rv3 rv3 (spValN K) := ⟨f3, _, PySem.W.mg_of X G fa3, fk3, b3, kb_rv3 F3 fun _ _ _ _ _ _ _ _ _ => rfl, valN_of GV⟩
    have DK4 : Dk l.prog w K mg base 1 "measured_plus" ["measure", "a", "b"] ["b", "a", "measure"] rv3 rv3 spPlC := ⟨f4, _, PySem.W.mg_of X G fa4, fk4, b4, kb_rv3 F4 fun _ _ _ _ _ _ _ _ _ => rfl, ok_plC F4⟩
    have DK5 : Dk l.prog w K mg base 1 "measured_times" ["measure", "a", "b"] ["b", "a", "measure"] rv3 rv3 spTmC := ⟨f5, _, PySem.W.mg_of X G fa5, fk5, b5, kb_rv3 F5 fun _ _ _ _ _ _ _ _ _ => rfl, ok_tmC F5⟩
    have DK6 : Dk l.prog w K mg base 1 "measured_zero" ["measure", "persons"] ["persons", "measure"] sw2 sw2 spZeC := ⟨f6, _, PySem.W.mg_of X G fa6, fk6, b6, kb_sw2 F6 fun _ _ _ _ _ _ _ _ => rfl, ok_zeC F6 V⟩
    have D7 : Df l.prog w K mg base 1 "measured_one" ["measure", "persons"] spOnC := ⟨f7, _, PySem.W.mg_of X G fa7, fk7, b7, ok_onC F7 V⟩
    have D10 : Df l.prog w K mg base 1 "_law_box" ["script", "at"] (spBox K) := ⟨f10, _, PySem.W.mg_of X G fa10, fk10, b10, ok_box F10 N.int⟩
    have D11 : Df l.prog w K mg base 2 "_law_draw" ["box", "many"] spDraw := ⟨f11, _, PySem.W.mg_of X G fa11, fk11, b11, ok_draw F11 F9 b9 (PySem.W.mg_of X G fa9) fk9 N.int N.len⟩
    have D12 : Df l.prog w K mg base 6 "_law_alike" ["told", "due"] (spA K 6) := ⟨f12, _, PySem.W.mg_of X G fa12, fk12, b12, ok_alike F12 b12 (PySem.W.mg_of X G fa12) fk12 N 6⟩
    have D13 : Df l.prog w K mg base 3 "_law_token" ["box"] spTok := ⟨f13, _, PySem.W.mg_of X G fa13, fk13, b13, ok_tok F13 C D11⟩
    have D14m : Df l.prog w K mg base 1 "_law_sorted" ["row"] (spSort K Mono) := ⟨f14, _, PySem.W.mg_of X G fa14, fk14, b14, ok_sort Mono F14 C⟩
    have D14s : Df l.prog w K mg base 1 "_law_sorted" ["row"] (spSort K Str) := ⟨f14, _, PySem.W.mg_of X G fa14, fk14, b14, ok_sort Str F14 C⟩
    have D15 : Df l.prog w K mg base 2 "_law_normal" ["book"] (spNorm K l.prog w) := ⟨f15, _, PySem.W.mg_of X G fa15, fk15, b15, ok_norm F15 C D14m⟩
    have D16 : Df l.prog w K mg base 4 "_law_monomial" ["box", "most"] (spLMono K) := ⟨f16, _, PySem.W.mg_of X G fa16, fk16, b16, ok_lmono F16 C D11 D13 D14s⟩
    have D17 : Df l.prog w K mg base 5 "_law_poly" ["box", "terms", "most"] (spLPoly K) := ⟨f17, _, PySem.W.mg_of X G fa17, fk17, b17, ok_lpoly F17 C D11 D16 D15⟩
    have D19 : Df l.prog w K mg base 3 "_law_tokens" ["p"] (spLTks K) := ⟨f19, _, PySem.W.mg_of X G fa19, fk19, b19, FnOk.mono (ok_ltks F19 D14s) (show 2 ≤ 3 by decide)⟩
    have D18 : Df l.prog w K mg base 7 "_law_lists" ["box", "value"] (sps K 5) := ⟨f18, _, PySem.W.mg_of X G fa18, fk18, b18, ok_llists F18 b18 (PySem.W.mg_of X G fa18) fk18 N D11 5⟩
    have D20 : Df l.prog w K mg base 3 "_law_drawn_value" ["box", "most"] spDVC := ⟨f20, _, PySem.W.mg_of X G fa20, fk20, b20, ok_dvalC F20 D11⟩
    have D21 : Df l.prog w K mg base 4 "_law_given" ["box", "p", "values"] (spGivenC K) := ⟨f21, _, PySem.W.mg_of X G fa21, fk21, b21, ok_givenC F21 C D11 D19 D13 D20⟩
    have D22 : Df l.prog w K mg base 1 "_law_power" ["value", "exponent"] spLPow := ⟨f22, _, PySem.W.mg_of X G fa22, fk22, b22, ok_lpow F22 C⟩
    have D23 : Df l.prog w K mg base 2 "_law_count" ["p", "given"] (spLCnt K) := ⟨f23, _, PySem.W.mg_of X G fa23, fk23, b23, ok_lcnt F23 D22⟩
    have D26 : Df l.prog w K mg base 4 "_law_asked" ["p", "given"] (spAskC K) := ⟨f26, _, PySem.W.mg_of X G fa26, fk26, b26, ok_askC F26 X0 (PySem.W.mg_of X G fa3) fk3 b3 GV⟩
    have D27 : Df l.prog w K mg base 7 "_law_figures" ["box"] spBox1 := ⟨f27, _, PySem.W.mg_of X G fa27, fk27, b27, ok_figC F27 C D11 D22 D23 D26 D12⟩
    have GR := ok_rightC (P := l.prog) (w := w) (base := base) F24 C rp rv D23 DK3 D18 D12
    have GM := ok_measC (P := l.prog) (w := w) (base := base) F25 C D11 D20 DK4 DK5 DK6 D7 D12
    exact ok_claw F28 C sm MS D10 D11 D17 D21 D19 D13 D20 D3 D12 D27 (PySem.W.mg_of X G fa25) fk25 b25 GM (PySem.W.mg_of X G fa24) fk24 b24 GR
theorem walk {l : PySem.W.OpenLaw} {q : Program} {loose : List Str} {XP : (Str → Option Value) → Heap → Prop} {YP : World → Heap → Prop} {d : DefRec} {K : Params → PySem.W.Frag} (hn : l.most = some 63) (hdf : d.params.defaults = [])
    (hY : ∀ (w : World) (h : Heap), YP w h → (K w.params).In h)
    (F : ∀ (w : World) (mg : Str → Option Value) (fa : Addr) (h : Heap), (K w.params).In h → h.Ns mainGlobals mg → mg d.name = some (.ref fa) →
      ∃ fd : FuncData, (∀ (s : Shared) (u : Value), BindsTo s fd ⟨[u], []⟩ [("script", u)]) ∧ ∀ base : Heap, (K w.params).In base → base.Ns mainGlobals mg → FnG l.prog w (K w.params) mg base 9 fa fd ["script"] (spCLaw (K w.params))) :
    PySem.W.WalkO q loose XP YP l.row.toRowW d [] (fun f vs => PySem.call f vs) :=
  walk_still (n := 63) (k := 9) (x := "script") (sp := spCLaw) hn (by decide) hdf ⟨rfl, by decide, by decide⟩ hY F (fun _ _ a ns hl hS => ⟨a, ns, rfl, hS, hl, fun _ => rfl⟩)
end K5


set_option Elab.async false
open PySem PySem.W PyProof.Rows
set_option maxRecDepth 100000 in
set_option maxHeartbeats 0 in
theorem PySem.Challenge.cw_ledgertrace_k05_counts_holds : PySem.Challenge.rw_ledgertrace_k05_counts.Holds := by
  w_on; o_law; k_head; (case hw => w_witness2)
  k_fill
  refine K5.walk (l := PySem.Challenge.rw_ledgertrace_k05_counts) rfl rfl (fun w h Y => PySem.W.kIn_of Y) ?F
  case F =>
    intro w mg fa h KX G hmg
    refine' K5.all_mk KX G hmg ?bey ?zer ?zl ?one ?o1 ?o2 ?o3 ?yg ?yl ?yk ?ug ?ul ?uk ?y1 ?u1 ?mg1 ?ml1 ?ax0 ?xx0 ?sax0 ?gax0 ?ggx0 ?cax0 ?nox0 ?iix0 ?tix0 ?lix0 ?cix0 ?kcx0 ?tyx0 ?fa0 ?fl0 ?fc0 ?fk0 ?fa1 ?fl1 ?fc1 ?fk1 ?fa2 ?fl2 ?fc2 ?fk2 ?fa3 ?fl3 ?fc3 ?fk3 ?fa4 ?fl4 ?fc4 ?fk4 ?fa5 ?fl5 ?fc5 ?fk5 ?fa6 ?fl6 ?fc6 ?fk6 ?fa7 ?fl7 ?fc7 ?fk7 ?fa8 ?fl8 ?fc8 ?fk8 ?fa9 ?fl9 ?fc9 ?fk9 ?fa10 ?fl10 ?fc10 ?fk10 ?fa11 ?fl11 ?fc11 ?fk11 ?fa12 ?fl12 ?fc12 ?fk12 ?fa13 ?fl13 ?fc13 ?fk13 ?fa14 ?fl14 ?fc14 ?fk14 ?fa15 ?fl15 ?fc15 ?fk15 ?fa16 ?fl16 ?fc16 ?fk16 ?fa17 ?fl17 ?fc17 ?fk17 ?fa18 ?fl18 ?fc18 ?fk18 ?fa19 ?fl19 ?fc19 ?fk19 ?fa20 ?fl20 ?fc20 ?fk20 ?fa21 ?fl21 ?fc21 ?fk21 ?fa22 ?fl22 ?fc22 ?fk22 ?fa23 ?fl23 ?fc23 ?fk23 ?fa24 ?fl24 ?fc24 ?fk24 ?fa25 ?fl25 ?fc25 ?fk25 ?fa26 ?fl26 ?fc26 ?fk26 ?fa27 ?fl27 ?fc27 ?fk27 ?fa28 ?fl28 ?fc28 ?fk28 ?z_isinstance ?z_tuple ?z_list ?z_len ?z_range ?z_bool ?z_str ?z_int ?z_min ?z_any ?z_dict ?z_sorted ?z_sum ?z_repr ?z_reversed
    (case bey => k_is)
    (case zer => k_is)
    (case zl => k_is)
    (case one => k_is)
    (case o1 => k_is)
    (case o2 => k_is)
    (case o3 => k_is)
    (case yg => k_is)
    (case yl => k_is)
    (case yk => (repeat (refine ⟨⟨_, _, rfl, rfl⟩, ?_⟩)); trivial)
    (case ug => k_is)
    (case ul => k_is)
    (case uk => (repeat (refine ⟨⟨_, _, rfl, rfl⟩, ?_⟩)); trivial)
    (case y1 => k_is)
    (case u1 => k_is)
    (case mg1 => k_is)
    (case ml1 => k_is)
    (case ax0 => k_is)
    (case xx0 => k_is)
    (case sax0 => k_is)
    (case gax0 => k_is)
    (case ggx0 => k_is)
    (case cax0 => k_is)
    (case nox0 => k_is)
    (case iix0 => k_is)
    (case tix0 => k_is)
    (case lix0 => k_is)
    (case cix0 => k_is)
    (case kcx0 => k_is)
    (case tyx0 => k_is)
    (case fa0 => k_is)
    (case fl0 => k_is)
    (case fc0 => k_is)
    (case fk0 => k_is)
    (case fa1 => k_is)
    (case fl1 => k_is)
    (case fc1 => k_is)
    (case fk1 => k_is)
    (case fa2 => k_is)
    (case fl2 => k_is)
    (case fc2 => k_is)
    (case fk2 => k_is)
    (case fa3 => k_is)
    (case fl3 => k_is)
    (case fc3 => k_is)
    (case fk3 => k_is)
    (case fa4 => k_is)
    (case fl4 => k_is)
    (case fc4 => k_is)
    (case fk4 => k_is)
    (case fa5 => k_is)
    (case fl5 => k_is)
    (case fc5 => k_is)
    (case fk5 => k_is)
    (case fa6 => k_is)
    (case fl6 => k_is)
    (case fc6 => k_is)
    (case fk6 => k_is)
    (case fa7 => k_is)
    (case fl7 => k_is)
    (case fc7 => k_is)
    (case fk7 => k_is)
    (case fa8 => k_is)
    (case fl8 => k_is)
    (case fc8 => k_is)
    (case fk8 => k_is)
    (case fa9 => k_is)
    (case fl9 => k_is)
    (case fc9 => k_is)
    (case fk9 => k_is)
    (case fa10 => k_is)
    (case fl10 => k_is)
    (case fc10 => k_is)
    (case fk10 => k_is)
    (case fa11 => k_is)
    (case fl11 => k_is)
    (case fc11 => k_is)
    (case fk11 => k_is)
    (case fa12 => k_is)
    (case fl12 => k_is)
    (case fc12 => k_is)
    (case fk12 => k_is)
    (case fa13 => k_is)
    (case fl13 => k_is)
    (case fc13 => k_is)
    (case fk13 => k_is)
    (case fa14 => k_is)
    (case fl14 => k_is)
    (case fc14 => k_is)
    (case fk14 => k_is)
    (case fa15 => k_is)
    (case fl15 => k_is)
    (case fc15 => k_is)
    (case fk15 => k_is)
    (case fa16 => k_is)
    (case fl16 => k_is)
    (case fc16 => k_is)
    (case fk16 => k_is)
    (case fa17 => k_is)
    (case fl17 => k_is)
    (case fc17 => k_is)
    (case fk17 => k_is)
    (case fa18 => k_is)
    (case fl18 => k_is)
    (case fc18 => k_is)
    (case fk18 => k_is)
    (case fa19 => k_is)
    (case fl19 => k_is)
    (case fc19 => k_is)
    (case fk19 => k_is)
    (case fa20 => k_is)
    (case fl20 => k_is)
    (case fc20 => k_is)
    (case fk20 => k_is)
    (case fa21 => k_is)
    (case fl21 => k_is)
    (case fc21 => k_is)
    (case fk21 => k_is)
    (case fa22 => k_is)
    (case fl22 => k_is)
    (case fc22 => k_is)
    (case fk22 => k_is)
    (case fa23 => k_is)
    (case fl23 => k_is)
    (case fc23 => k_is)
    (case fk23 => k_is)
    (case fa24 => k_is)
    (case fl24 => k_is)
    (case fc24 => k_is)
    (case fk24 => k_is)
    (case fa25 => k_is)
    (case fl25 => k_is)
    (case fc25 => k_is)
    (case fk25 => k_is)
    (case fa26 => k_is)
    (case fl26 => k_is)
    (case fc26 => k_is)
    (case fk26 => k_is)
    (case fa27 => k_is)
    (case fl27 => k_is)
    (case fc27 => k_is)
    (case fk27 => k_is)
    (case fa28 => k_is)
    (case fl28 => k_is)
    (case fc28 => k_is)
    (case fk28 => k_is)
    (case z_isinstance => k_is)
    (case z_tuple => k_is)
    (case z_list => k_is)
    (case z_len => k_is)
    (case z_range => k_is)
    (case z_bool => k_is)
    (case z_str => k_is)
    (case z_int => k_is)
    (case z_min => k_is)
    (case z_any => k_is)
    (case z_dict => k_is)
    (case z_sorted => k_is)
    (case z_sum => k_is)
    (case z_repr => k_is)
    (case z_reversed => k_is)

