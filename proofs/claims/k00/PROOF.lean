import PyProof.Rows.All
import Wide.All
import OpenK.AllK
import Wide.FinOn
import KE.KExcInit
import KE.KExcIs
import HandS.Exc
import HandS.ExcInit
import HandS.Ends
import HandS.ExcValue
import HandS.IsInst
import HandS.ExcField
import HandS.ForExc
import HandS.Comp
import HandS.Text
import HandS.Codes
import HandS.TryOnly
import HandS.ExcIs
import PySem.Challenge.RW_ledgertrace_k00_errors
set_option Elab.async false
set_option linter.all false
set_option maxRecDepth 100000
set_option maxHeartbeats 2000000
/-! own exception classes over one own base that is over Exception, each with an __init__ that keeps its argument in a field -/
namespace PySem
namespace ExE
open PySem.W PySem.Calls PyProof.Rows Builtin Builtin.ObjectAttr
abbrev eTail : List Value := [.type "Exception", .type "BaseException", .type "object"]
/-- the class at C: what the written part says of it; T its own base, f its field, fI its __init__ -/
structure EC (K : Frag) (C : Addr) (T : Addr) (f : Str) (fI : Addr) : Prop where
  cls : ∃ nm q N bs sn sub ab col dd k0 k1 k2 k3 k5, K.lookup C = some (excClassObj nm q C N bs (.ref T :: eTail) true sn sub ab col dd k0 k1 k2 k3 k5 "Exception.__new__")
  sa : findIn K (.ref C) "__setattr__" = some (some (.builtin "object.__setattr__"))
  ga : findIn K (.ref C) "__getattribute__" = some (some (.builtin "BaseException.__getattribute__"))
  gg : findIn K (.ref C) "__getattr__" = some none
  ca : findIn K (.ref C) "__class__" = some (some (.builtin "object.__class__"))
  no : findIn K (.ref C) f = some none
  ini : findIn K (.ref C) "__init__" = some (some (.ref fI))
  tI : typeIn K (.ref fI) = some (.type "function")
  kC : keepIn K (.ref C) = true
  tyC : typeIn K (.ref C) = some (.type "type")
section
variable {K : Frag} {C T fI : Addr} {f : Str}
theorem EC.clsIn (e : EC K C T f fI) : ∃ cd, clsIn K C = some cd ∧ cd.mro = .ref C :: .ref T :: eTail ∧ cd.hasDict = true := by
  obtain ⟨nm, q, N, bs, sn, sub, ab, col, dd, k0, k1, k2, k3, k5, h⟩ := e.cls
  refine ⟨{ name := nm, bases := bs, mro := .ref C :: .ref T :: eTail, ns := N, qualname := q, hasDict := true, slotNames := sn, subclasses := sub, abstract := ab, collection := col, hasDel := false }, ?_, rfl, rfl⟩
  unfold W.clsIn
  rw [h] <;> rfl
theorem EC.isCls (e : EC K C T f fI) : (PySem.W.clsIn K C).isSome = true := by
  obtain ⟨cd, h, _⟩ := e.clsIn
  rw [h]
  rfl
theorem EC.hd (e : EC K C T f fI) : hasDictIn K C = true := by
  obtain ⟨cd, h, _, h2⟩ := e.clsIn
  unfold hasDictIn
  rw [h]
  exact h2
theorem EC.ovr (e : EC K C T f fI) : excOver K C eTail = true := by
  obtain ⟨cd, h, h1, _⟩ := e.clsIn
  unfold excOver
  rw [h, Option.any_some, h1]
  show (C == C && excTail eTail eTail) = true
  rw [beq_self_eq_true]
  rfl
theorem EC.mro (e : EC K C T f fI) (b : Value) : mroIn K C b = some ((Value.ref C :: .ref T :: eTail).contains b) := by
  obtain ⟨cd, h, h1, _⟩ := e.clsIn
  unfold mroIn
  rw [h, Option.bind_some, h1]
  rfl
theorem EC.sub (e : EC K C T f fI) (b : Value) : subIn K (.ref C) b = some ((Value.ref C :: .ref T :: eTail).contains b) := e.mro b
theorem EC.exC (e : EC K C T f fI) : subIn K (.ref C) (.type "BaseException") = some true := by
  rw [e.sub, List.contains_cons, List.contains_cons]
  rfl
theorem EC.has (e : EC K C T f fI) {X : String} (h : eTail.contains (.type X) = true) : subIn K (.ref C) (.type X) = some true := by
  rw [e.sub, List.contains_cons, List.contains_cons, h, Bool.or_true, Bool.or_true]
theorem EC.lacks (e : EC K C T f fI) {X : String} (h : eTail.contains (.type X) = false) : subIn K (.ref C) (.type X) = some false := by
  rw [e.sub, List.contains_cons, List.contains_cons, h]
  rfl
theorem EC.self (e : EC K C T f fI) : subIn K (.ref C) (.ref C) = some true := by
  rw [e.sub, List.contains_cons, beq_self_eq_true, Bool.true_or]
theorem EC.base (e : EC K C T f fI) : subIn K (.ref C) (.ref T) = some true := by
  rw [e.sub, List.contains_cons, List.contains_cons, beq_self_eq_true, Bool.true_or, Bool.or_true]
theorem EC.other (e : EC K C T f fI) {D : Addr} (h1 : D ≠ C) (h2 : D ≠ T) : subIn K (.ref C) (.ref D) = some false := by
  have q1 : (Value.ref D == Value.ref C) = false := by simp [h1]
  have q2 : (Value.ref D == Value.ref T) = false := by simp [h2]
  rw [e.sub, List.contains_cons, List.contains_cons, q1, q2]
  rfl
theorem EC.taker (e : EC K C T f fI) : takerIn K C f = some none := by
  unfold takerIn
  rw [e.no] <;> rfl
end
/-- the first store into an exception -/
theorem store1 {prog : Program} {w : World} {A : Around} {R : Result → Shared → Prop} {hp : Heap} {g : Array GenState} {d : Drawn} {t : Nat} {os : OsState} {K : Frag} {C T fI x t0 : Addr} {f : Str} {tk : Tok} {v : Value}
    (X : K.In hp) (e : EC K C T f fI) (hx : hp.get? x = some (HandSPX.excO C t0))
    (hq : ∀ h' tk' dx, (∀ b o, b ≠ x → hp.get? b = some o → h'.get? b = some o) → hp.objs.size ≤ dx → dx ≠ x →
      h'.get? x = some { cls := .ref C, dict := some dx, data := .fields #[.ref t0, .none, .none, .none, .bool false, .none] } →
      h'.Ns1 dx (fun y => if y = f then some v else none) → R (.ok (.ret .none)) ⟨h', g, d, tk', os⟩) :
    codeAny (model prog w) A (.call (.builtin "object.__setattr__") ⟨[.ref x, .str f tk, v], []⟩) R ⟨hp, g, d, t, os⟩ := by
  have ne : x ≠ hp.objs.size := Nat.ne_of_lt (Heap.lt_size hx)
  obtain ⟨cd, hcd, hmro, hdict⟩ := e.clsIn
  have look : Looks (model prog w) hp (classData C) cd := looks_clsIn X hcd
  refine osa_openX (s := ⟨hp, g, d, t, os⟩) (od := none) F.store_Exception X ⟨hx, rfl, rfl, trivial⟩ e.ovr e.taker fun b => ?_
  obtain ⟨nm, bs, mro, ns, qn, hd, sn, sb, ab, col, del⟩ := cd
  dsimp only at hdict
  subst hdict
  show wpAny _ _ (storeInOwnDict (.ref x) (.ref C) (.str f tk) f v b) _ _ _
  unfold storeInOwnDict
  unfold ownDictForStores
  repeat (first | with_reducible refine HandSPX.store_in_new ?_ ?_ | with_reducible refine wpAny_loadPart_at hx ?_ | with_reducible refine look.at ?_ | wp_step)
  · exact ⟨_, #[], _, (Heap.get?_update_ne _ _ _ _ ne.symm).trans (Heap.get?_push_at rfl rfl), rfl, fun u hu => absurd hu (by simp), fun _ => rfl⟩
  · intro h' tk' hn hs
    have hx1 : (hp.push { cls := .type "dict", data := .dict #[] }).get? x = some (HandSPX.excO C t0) := Heap.get?_push_of_some _ hx
    refine hq h' tk' hp.objs.size (fun b o hb ho => ?_) (Nat.le_refl _) ne.symm ?_ hn
    · refine (hs.2 b (Nat.ne_of_lt (Heap.lt_size ho))).trans ?_
      exact (Heap.get?_update_ne _ _ _ _ hb).trans (Heap.get?_push_of_some _ ho)
    · refine (hs.2 x ne).trans ?_
      exact Heap.get?_update_self _ hx1 rfl

/-- what the call of such a class leaves: the exception at e, its dict at d -/
structure Made (f : Str) (h h' : Heap) (e C d : Addr) (v : Value) : Prop where
  keep : ∀ b o, h.get? b = some o → h'.get? b = some o
  new : h.objs.size ≤ e
  obj : ∃ t1 : Addr, h'.get? e = some { cls := .ref C, dict := some d, data := .fields #[.ref t1, .none, .none, .none, .bool false, .none] }
  dbig : h.objs.size ≤ d
  dne : d ≠ e
  ns : h'.Ns1 d (fun y => if y = f then some v else none)
/-- the class, called with one argument: asked of each class -/
def Makes (K : Frag) (C : Addr) (f : Str) : Prop := ∀ {prog : Program} {w : World} {A : Around} {R : Result → Shared → Prop} {s : Shared} {v : Value}, K.In s.heap → s.heap.NoLimit → A.depth + 1 < recursionLimit →
  (∀ h' tk e d, Made f s.heap h' e C d v → R (.ok (.ret (.ref e))) { s with heap := h', toks := tk }) → codeAny (model prog w) A (.call (.ref C) ⟨[v], []⟩) R s
theorem lineOne (v : Value) : [v].length ≤ sizeLine := by
  rw [sizeLine_eq]
  exact (by decide : 1 ≤ 16777216)
theorem ldName {M : Model} {s : Shared} {A : Around} {E : Value → Shared → Prop} {name : Str} {scope : Scope} {L a : Addr} {cd : Value} {m : Str → Option Value} {x : Str} {pos : Pos} {v : Value} {Q : Value → Shared → Prop}
    (hn : s.heap.Ns L m) (hv : m x = some v) (h : Q v s) (hk : scope.kind = .function := by rfl) (hl : (envOfC name scope L a cd).kindOf x = some .local := by rfl) (hd : (x == ("__debug__" : Str)) = false := by decide) :
    wpAny M A (eval (.Name x pos) (envOfC name scope L a cd)) Q E s := wpAny_Name (wpAny_loadName_local hk hl hn hv h) hd

namespace Iat
def ia (p1 p2 : Pos) : Arguments := { posonlyargs := [], args := [{ arg := "self", annotation := none, pos := p1 }, { arg := "at", annotation := none, pos := p2 }], vararg := none, kwonlyargs := [], kw_defaults := [], kwarg := none, defaults := [] }
def ib (q1 q2 q3 q4 : Pos) : List Stmt := [.Assign [.Attribute (.Name "self" q1) "at" q2] (.Name "at" q3) q4]
def isc : Scope := { kind := .function, names := [(PySem.Str.ofString "self", .local), (PySem.Str.ofString "at", .local)], isGenerator := false, isCoroutine := false, more := [] }
/-- the function __init__ at fI -/
def FnI (K : Frag) (fI : Addr) (qn : Str) : Prop := ∃ (oc : Value) (od : Option Addr) (doc pm : Value) (an : Option Addr) (cdv ct : Value) (osl : Array (Option Value)) (p1 p2 q1 q2 q3 q4 : Pos),
    K.lookup fI = some ⟨oc, od, .func (fnOf "__init__" qn (ia p1 p2) (ib q1 q2 q3 q4) isc .none .none doc pm an cdv ct), osl⟩ ∧ codeIn K cdv qn = true
section
variable {K : Frag} {C T fI : Addr} {qn : Str}
theorem init {prog : Program} {w : World} {A : Around} {R : Result → Shared → Prop} {s : Shared} (e : EC K C T "at" fI) (fn : FnI K fI qn) {x t0 : Addr} {v : Value} (X : K.In s.heap) (hlim : s.heap.NoLimit) (hx : s.heap.get? x = some (HandSPX.excO C t0)) (hroom : A.depth < recursionLimit)
    (hq : ∀ h' tk dx, (∀ b o, b ≠ x → s.heap.get? b = some o → h'.get? b = some o) → s.heap.objs.size ≤ dx → dx ≠ x →
      h'.get? x = some { cls := .ref C, dict := some dx, data := .fields #[.ref t0, .none, .none, .none, .bool false, .none] } →
      h'.Ns1 dx (fun y => if y = "at" then some v else none) → R (.ok (.ret .none)) { s with heap := h', toks := tk }) :
    codeAny (model prog w) A (.call (.ref fI) ⟨[.ref x, v], []⟩) R s := by
  obtain ⟨oc, od, doc, pm, an, cdv, ct, osl, p1, p2, q1, q2, q3, q4, ho, hcd⟩ := fn
  refine Att.call_fn (binds := [("self", .ref x), ("at", v)]) X hlim ho hcd hroom (BindsTo.of_eq (by first | rfl | with_unfolding_all rfl)) (by first | rfl | decide | with_unfolding_all rfl) (fun s₁ IC => ?_) rfl rfl rfl
  obtain ⟨h₁, tk₁, rfl⟩ := IC.toInCall.same
  have kp : ∀ b o, s.heap.get? b = some o → h₁.get? b = some o := IC.toInCall.keep
  have hn := IC.toInCall.ns
  have X₁ : K.In h₁ := X.keeps kp
  have hx₁ := kp _ _ hx
  show wpAny _ _ (execs _ _) _ _ _
  refine wpAny_execs_cons (plainObj_wpAny_Assign_Attribute ?_)
  refine ldName (v := v) hn (by first | rfl | with_unfolding_all rfl | kernel_rfl) (ldName (v := .ref x) hn (by first | rfl | with_unfolding_all rfl | kernel_rfl) ?_)
  refine set_plain X₁ (ox := HandSPX.excO C t0) (od := none) ⟨hx₁, rfl, rfl, trivial⟩ e.sa ?_
  refine store1 X₁ e hx₁ fun h₃ tk₃ dx k₃ dn dne hx₃ hn₃ => ?_
  show wpAny _ _ (execs _ _) _ _ _
  have big : s.heap.objs.size ≤ dx := Nat.le_of_lt (Nat.lt_of_lt_of_le hn.lt dn)
  exact wpAny_execs_nil (hq h₃ tk₃ dx (fun b o hb ho => k₃ b o hb (kp b o ho)) big dne hx₃ hn₃)
theorem makes (e : EC K C T "at" fI) (fn : FnI K fI qn) : Makes K C "at" := fun {prog w A R s v} X hlim hroom hq => by
  obtain ⟨nm, q, N, bs, sn, sub, ab, col, dd, k0, k1, k2, k3, k5, hC⟩ := e.cls
  obtain ⟨hp, g, dr, tk, os⟩ := s
  have kp : ∀ b o, hp.get? b = some o → ((hp.push (kdv_tup [v])).push (HandSPX.excO C hp.objs.size)).get? b = some o := fun b o z => Heap.get?_push_of_some _ (Heap.get?_push_of_some _ z)
  have hget : ((hp.push (kdv_tup [v])).push (HandSPX.excO C hp.objs.size)).get? (hp.objs.size + 1) = some (HandSPX.excO C hp.objs.size) := by heap_get
  have tails : ∀ Y : String, (Value.ref T :: eTail).contains (.type Y) = eTail.contains (.type Y) := fun Y => by rw [List.contains_cons]; rfl
  refine HandSPX.call_own F.excBase_Exception tails (X _ _ hC) (looks_findIn X e.ini) (fun self => bind_fn X self e.tI) (lineOne v) ?_
  refine init (s := ⟨(hp.push (kdv_tup [v])).push (HandSPX.excO C hp.objs.size), g, dr, tk, os⟩) e fn (X.keeps kp) (hlim.keeps kp) hget ?_ fun h' tk' dx k' dn dne hx' hns => ?_
  · show A.depth + 1 < recursionLimit
    exact hroom
  · have old : ∀ b o, hp.get? b = some o → h'.get? b = some o := fun b o z => k' b o (Nat.ne_of_lt (Nat.lt_succ_of_lt (Heap.lt_size z))) (kp b o z)
    have z : hp.objs.size + 1 + 1 ≤ dx := by
      have q := dn
      simp only [Heap.size_push] at q
      exact q
    exact ⟨rfl, hq h' tk' (hp.objs.size + 1) dx ⟨old, Nat.le_succ _, ⟨_, hx'⟩, Nat.le_trans (Nat.le_trans (Nat.le_succ _) (Nat.le_succ _)) z, dne, hns⟩⟩
end
end Iat

namespace Iname
def ia (p1 p2 : Pos) : Arguments := { posonlyargs := [], args := [{ arg := "self", annotation := none, pos := p1 }, { arg := "name", annotation := none, pos := p2 }], vararg := none, kwonlyargs := [], kw_defaults := [], kwarg := none, defaults := [] }
def ib (q1 q2 q3 q4 : Pos) : List Stmt := [.Assign [.Attribute (.Name "self" q1) "name" q2] (.Name "name" q3) q4]
def isc : Scope := { kind := .function, names := [(PySem.Str.ofString "self", .local), (PySem.Str.ofString "name", .local)], isGenerator := false, isCoroutine := false, more := [] }
/-- the function __init__ at fI -/
def FnI (K : Frag) (fI : Addr) (qn : Str) : Prop := ∃ (oc : Value) (od : Option Addr) (doc pm : Value) (an : Option Addr) (cdv ct : Value) (osl : Array (Option Value)) (p1 p2 q1 q2 q3 q4 : Pos),
    K.lookup fI = some ⟨oc, od, .func (fnOf "__init__" qn (ia p1 p2) (ib q1 q2 q3 q4) isc .none .none doc pm an cdv ct), osl⟩ ∧ codeIn K cdv qn = true
section
variable {K : Frag} {C T fI : Addr} {qn : Str}
theorem init {prog : Program} {w : World} {A : Around} {R : Result → Shared → Prop} {s : Shared} (e : EC K C T "name" fI) (fn : FnI K fI qn) {x t0 : Addr} {v : Value} (X : K.In s.heap) (hlim : s.heap.NoLimit) (hx : s.heap.get? x = some (HandSPX.excO C t0)) (hroom : A.depth < recursionLimit)
    (hq : ∀ h' tk dx, (∀ b o, b ≠ x → s.heap.get? b = some o → h'.get? b = some o) → s.heap.objs.size ≤ dx → dx ≠ x →
      h'.get? x = some { cls := .ref C, dict := some dx, data := .fields #[.ref t0, .none, .none, .none, .bool false, .none] } →
      h'.Ns1 dx (fun y => if y = "name" then some v else none) → R (.ok (.ret .none)) { s with heap := h', toks := tk }) :
    codeAny (model prog w) A (.call (.ref fI) ⟨[.ref x, v], []⟩) R s := by
  obtain ⟨oc, od, doc, pm, an, cdv, ct, osl, p1, p2, q1, q2, q3, q4, ho, hcd⟩ := fn
  refine Att.call_fn (binds := [("self", .ref x), ("name", v)]) X hlim ho hcd hroom (BindsTo.of_eq (by first | rfl | with_unfolding_all rfl)) (by first | rfl | decide | with_unfolding_all rfl) (fun s₁ IC => ?_) rfl rfl rfl
  obtain ⟨h₁, tk₁, rfl⟩ := IC.toInCall.same
  have kp : ∀ b o, s.heap.get? b = some o → h₁.get? b = some o := IC.toInCall.keep
  have hn := IC.toInCall.ns
  have X₁ : K.In h₁ := X.keeps kp
  have hx₁ := kp _ _ hx
  show wpAny _ _ (execs _ _) _ _ _
  refine wpAny_execs_cons (plainObj_wpAny_Assign_Attribute ?_)
  refine ldName (v := v) hn (by first | rfl | with_unfolding_all rfl | kernel_rfl) (ldName (v := .ref x) hn (by first | rfl | with_unfolding_all rfl | kernel_rfl) ?_)
  refine set_plain X₁ (ox := HandSPX.excO C t0) (od := none) ⟨hx₁, rfl, rfl, trivial⟩ e.sa ?_
  refine store1 X₁ e hx₁ fun h₃ tk₃ dx k₃ dn dne hx₃ hn₃ => ?_
  show wpAny _ _ (execs _ _) _ _ _
  have big : s.heap.objs.size ≤ dx := Nat.le_of_lt (Nat.lt_of_lt_of_le hn.lt dn)
  exact wpAny_execs_nil (hq h₃ tk₃ dx (fun b o hb ho => k₃ b o hb (kp b o ho)) big dne hx₃ hn₃)
theorem makes (e : EC K C T "name" fI) (fn : FnI K fI qn) : Makes K C "name" := fun {prog w A R s v} X hlim hroom hq => by
  obtain ⟨nm, q, N, bs, sn, sub, ab, col, dd, k0, k1, k2, k3, k5, hC⟩ := e.cls
  obtain ⟨hp, g, dr, tk, os⟩ := s
  have kp : ∀ b o, hp.get? b = some o → ((hp.push (kdv_tup [v])).push (HandSPX.excO C hp.objs.size)).get? b = some o := fun b o z => Heap.get?_push_of_some _ (Heap.get?_push_of_some _ z)
  have hget : ((hp.push (kdv_tup [v])).push (HandSPX.excO C hp.objs.size)).get? (hp.objs.size + 1) = some (HandSPX.excO C hp.objs.size) := by heap_get
  have tails : ∀ Y : String, (Value.ref T :: eTail).contains (.type Y) = eTail.contains (.type Y) := fun Y => by rw [List.contains_cons]; rfl
  refine HandSPX.call_own F.excBase_Exception tails (X _ _ hC) (looks_findIn X e.ini) (fun self => bind_fn X self e.tI) (lineOne v) ?_
  refine init (s := ⟨(hp.push (kdv_tup [v])).push (HandSPX.excO C hp.objs.size), g, dr, tk, os⟩) e fn (X.keeps kp) (hlim.keeps kp) hget ?_ fun h' tk' dx k' dn dne hx' hns => ?_
  · show A.depth + 1 < recursionLimit
    exact hroom
  · have old : ∀ b o, hp.get? b = some o → h'.get? b = some o := fun b o z => k' b o (Nat.ne_of_lt (Nat.lt_succ_of_lt (Heap.lt_size z))) (kp b o z)
    have z : hp.objs.size + 1 + 1 ≤ dx := by
      have q := dn
      simp only [Heap.size_push] at q
      exact q
    exact ⟨rfl, hq h' tk' (hp.objs.size + 1) dx ⟨old, Nat.le_succ _, ⟨_, hx'⟩, Nat.le_trans (Nat.le_trans (Nat.le_succ _) (Nat.le_succ _)) z, dne, hns⟩⟩
end
end Iname

namespace Iword
def ia (p1 p2 : Pos) : Arguments := { posonlyargs := [], args := [{ arg := "self", annotation := none, pos := p1 }, { arg := "word", annotation := none, pos := p2 }], vararg := none, kwonlyargs := [], kw_defaults := [], kwarg := none, defaults := [] }
def ib (q1 q2 q3 q4 : Pos) : List Stmt := [.Assign [.Attribute (.Name "self" q1) "word" q2] (.Name "word" q3) q4]
def isc : Scope := { kind := .function, names := [(PySem.Str.ofString "self", .local), (PySem.Str.ofString "word", .local)], isGenerator := false, isCoroutine := false, more := [] }
/-- the function __init__ at fI -/
def FnI (K : Frag) (fI : Addr) (qn : Str) : Prop := ∃ (oc : Value) (od : Option Addr) (doc pm : Value) (an : Option Addr) (cdv ct : Value) (osl : Array (Option Value)) (p1 p2 q1 q2 q3 q4 : Pos),
    K.lookup fI = some ⟨oc, od, .func (fnOf "__init__" qn (ia p1 p2) (ib q1 q2 q3 q4) isc .none .none doc pm an cdv ct), osl⟩ ∧ codeIn K cdv qn = true
section
variable {K : Frag} {C T fI : Addr} {qn : Str}
theorem init {prog : Program} {w : World} {A : Around} {R : Result → Shared → Prop} {s : Shared} (e : EC K C T "word" fI) (fn : FnI K fI qn) {x t0 : Addr} {v : Value} (X : K.In s.heap) (hlim : s.heap.NoLimit) (hx : s.heap.get? x = some (HandSPX.excO C t0)) (hroom : A.depth < recursionLimit)
    (hq : ∀ h' tk dx, (∀ b o, b ≠ x → s.heap.get? b = some o → h'.get? b = some o) → s.heap.objs.size ≤ dx → dx ≠ x →
      h'.get? x = some { cls := .ref C, dict := some dx, data := .fields #[.ref t0, .none, .none, .none, .bool false, .none] } →
      h'.Ns1 dx (fun y => if y = "word" then some v else none) → R (.ok (.ret .none)) { s with heap := h', toks := tk }) :
    codeAny (model prog w) A (.call (.ref fI) ⟨[.ref x, v], []⟩) R s := by
  obtain ⟨oc, od, doc, pm, an, cdv, ct, osl, p1, p2, q1, q2, q3, q4, ho, hcd⟩ := fn
  refine Att.call_fn (binds := [("self", .ref x), ("word", v)]) X hlim ho hcd hroom (BindsTo.of_eq (by first | rfl | with_unfolding_all rfl)) (by first | rfl | decide | with_unfolding_all rfl) (fun s₁ IC => ?_) rfl rfl rfl
  obtain ⟨h₁, tk₁, rfl⟩ := IC.toInCall.same
  have kp : ∀ b o, s.heap.get? b = some o → h₁.get? b = some o := IC.toInCall.keep
  have hn := IC.toInCall.ns
  have X₁ : K.In h₁ := X.keeps kp
  have hx₁ := kp _ _ hx
  show wpAny _ _ (execs _ _) _ _ _
  refine wpAny_execs_cons (plainObj_wpAny_Assign_Attribute ?_)
  refine ldName (v := v) hn (by first | rfl | with_unfolding_all rfl | kernel_rfl) (ldName (v := .ref x) hn (by first | rfl | with_unfolding_all rfl | kernel_rfl) ?_)
  refine set_plain X₁ (ox := HandSPX.excO C t0) (od := none) ⟨hx₁, rfl, rfl, trivial⟩ e.sa ?_
  refine store1 X₁ e hx₁ fun h₃ tk₃ dx k₃ dn dne hx₃ hn₃ => ?_
  show wpAny _ _ (execs _ _) _ _ _
  have big : s.heap.objs.size ≤ dx := Nat.le_of_lt (Nat.lt_of_lt_of_le hn.lt dn)
  exact wpAny_execs_nil (hq h₃ tk₃ dx (fun b o hb ho => k₃ b o hb (kp b o ho)) big dne hx₃ hn₃)
theorem makes (e : EC K C T "word" fI) (fn : FnI K fI qn) : Makes K C "word" := fun {prog w A R s v} X hlim hroom hq => by
  obtain ⟨nm, q, N, bs, sn, sub, ab, col, dd, k0, k1, k2, k3, k5, hC⟩ := e.cls
  obtain ⟨hp, g, dr, tk, os⟩ := s
  have kp : ∀ b o, hp.get? b = some o → ((hp.push (kdv_tup [v])).push (HandSPX.excO C hp.objs.size)).get? b = some o := fun b o z => Heap.get?_push_of_some _ (Heap.get?_push_of_some _ z)
  have hget : ((hp.push (kdv_tup [v])).push (HandSPX.excO C hp.objs.size)).get? (hp.objs.size + 1) = some (HandSPX.excO C hp.objs.size) := by heap_get
  have tails : ∀ Y : String, (Value.ref T :: eTail).contains (.type Y) = eTail.contains (.type Y) := fun Y => by rw [List.contains_cons]; rfl
  refine HandSPX.call_own F.excBase_Exception tails (X _ _ hC) (looks_findIn X e.ini) (fun self => bind_fn X self e.tI) (lineOne v) ?_
  refine init (s := ⟨(hp.push (kdv_tup [v])).push (HandSPX.excO C hp.objs.size), g, dr, tk, os⟩) e fn (X.keeps kp) (hlim.keeps kp) hget ?_ fun h' tk' dx k' dn dne hx' hns => ?_
  · show A.depth + 1 < recursionLimit
    exact hroom
  · have old : ∀ b o, hp.get? b = some o → h'.get? b = some o := fun b o z => k' b o (Nat.ne_of_lt (Nat.lt_succ_of_lt (Heap.lt_size z))) (kp b o z)
    have z : hp.objs.size + 1 + 1 ≤ dx := by
      have q := dn
      simp only [Heap.size_push] at q
      exact q
    exact ⟨rfl, hq h' tk' (hp.objs.size + 1) dx ⟨old, Nat.le_succ _, ⟨_, hx'⟩, Nat.le_trans (Nat.le_trans (Nat.le_succ _) (Nat.le_succ _)) z, dne, hns⟩⟩
end
end Iword
end ExE
end PySem


set_option Elab.async false
set_option linter.all false
set_option maxRecDepth 100000
set_option maxHeartbeats 2000000
namespace L2
open PySem PySem.Spec PyProof.Rows PySem.ExE
/-- an exception of the class at C, at e, its dict at d, its field f holding v -/
def EAt (H : Hp) (C : Addr) (f : Str) (e : Addr) (v : V) : Prop := ∃ d : Addr, H e = some (exo e C (some d)) ∧ H d = some (.xd [(f, v)])
theorem EAt.keep {H H' : Hp} {C e : Addr} {f : Str} {v : V} (h : EAt H C f e v) (k : ∀ b o, H b = some o → (∀ xs, o ≠ .lst xs) → H' b = some o) : EAt H' C f e v := by
  obtain ⟨d, h1, h2⟩ := h
  exact ⟨d, k _ _ h1 (fun xs z => by have z' : HO.ext _ = HO.lst xs := z; cases z'), k _ _ h2 (fun xs z => nomatch z)⟩
section
variable {X : Cx} {C : Addr} {f : Str}
/-- C(e) in a raise -/
def tMkX (C : Addr) (f : Str) (ta : TA) : St → Hp → XK → Prop := fun σ H Q => ta σ H fun vs H1 => ∃ v, vs = [v] ∧ ∀ d, H1 d = none → Q (.ref C) (some d) (upd H1 d (.xd [(f, v)]))
/-- C(e) as a value -/
def tMkV (C : Addr) (f : Str) (ta : TA) : TE := fun σ H Q => ta σ H fun vs H1 => ∃ v, vs = [v] ∧ ∀ d e, H1 d = none → H1 e = none → e ≠ d → Q (.ref e) (upd (upd H1 d (.xd [(f, v)])) e (exo e C (some d)))
/-- the state behind the making: what lies without the exception, what lies with it -/
theorem made_inv {pins : List (Addr × Obj)} {σ : St} {H1 : Hp} {hp h' : Heap} {g : Array GenState} {dr : Drawn} {tk tk' : Nat} {os : OsState} {e d : Addr} {v : V} {v' : Value}
    (I1 : Inv X pins σ H1 ⟨hp, g, dr, tk, os⟩) (rv : RelV v v') (M : Made f hp h' e C d v') :
    ∃ (G : Heap) (t1 : Addr), Inv X pins σ (upd H1 d (.xd [(f, v)])) ⟨G, g, dr, tk', os⟩ ∧ (∀ b o, G.get? b = some o → h'.get? b = some o) ∧ G.get? e = none ∧
      h'.get? e = some { cls := .ref C, dict := some d, data := .fields #[.ref t1, .none, .none, .none, .bool false, .none] } ∧ H1 d = none ∧ H1 e = none := by
  obtain ⟨t1, hoe⟩ := M.obj
  obtain ⟨G, keepG, goneG⟩ := restrict h' fun b => decide (b ≠ e)
  have gk : ∀ b, b ≠ e → G.get? b = h'.get? b := fun b hb => keepG b (decide_eq_true hb)
  have ge : G.get? e = none := goneG e (by simp)
  have old : ∀ b o, hp.get? b = some o → G.get? b = some o := fun b o q => by
    rw [gk b (Nat.ne_of_lt (Nat.lt_of_lt_of_le (Heap.lt_size q) M.new))]
    exact M.keep b o q
  have nsG : G.Ns1 d (fun y => if y = f then some v' else none) := M.ns.at fun o q => (gk d M.dne).trans q
  have ob : ObjOk X.prog X.w (upd H1 d (.xd [(f, v)])) G d (.xd [(f, v)]) := ⟨_, nsG, fun y => relO_put (fs := []) (mA := fun _ => none) rv (fun _ => True.intro) y⟩
  refine ⟨G, t1, I1.laid (t' := tk') old M.dbig ob, fun b o q => ?_, ge, hoe, I1.hok.fresh M.dbig, I1.hok.fresh M.new⟩
  by_cases hb : b = e
  · rw [hb, ge] at q
    cases q
  · rw [← gk b hb]
    exact q
theorem pmk_mk {x : Str} {a : Expr} {ta : TA} {p pos : Pos} {k : Nat} {T fI : Addr} (E : EC X.K C T f fI) (mk : Makes X.K C f) (hm : X.mg x = some (.ref C)) (hr : Room k X.A) (ha : PA X [a] ta) (hg : Gl X x)
    (hdb : (x == ("__debug__" : Str)) = false := by decide) (he : starEach (a :: []) X.env = (false, eval a X.env) :: starEach [] X.env := by rfl) (hpl : (backTo pos (starEach [] X.env)).any (·.1) = false := by rfl) :
    PMk X (.Call (.Name x p) [a] [] pos) (tMkX C f ta) := by
  intro pins s σ H Q I h
  refine wpAny_Call_Name_kw (ld_glob I hg hm ?_ hdb)
  refine PySem.W.callWith_K (h₀ := X.base) I.ok.mod.kin E.kC (thn (ha.run pos pins s σ H _ I h) fun us s1 hh => ?_) he hpl
  obtain ⟨vs, H1, I1, r1, v, ev, q1⟩ := hh
  subst ev
  refine ⟨I1.kIn, ?_⟩
  cases r1 with
  | cons rv rn =>
    rename_i v' us'
    cases rn
    show wpAny _ _ (call (.ref C) [v']) _ _ _
    have hlim := I1.nolimit
    obtain ⟨hp, g, dr, tk, os⟩ := s1
    refine wpAny_call (mk I1.kIn hlim (by have := hr.dp; show X.A.depth + 1 < _; omega) fun h' tk' e d M => ?_)
    obtain ⟨G, t1, J, kG, ge, hoe, nd, ne⟩ := made_inv (tk' := tk') I1 rv M
    refine ⟨e, _, _, ⟨G, g, dr, tk', os⟩, _, .ref C, some d, rfl, J, kG, ge, hoe, ⟨rfl, rfl⟩, rfl, rfl, ?_, rfl, I1.bare, raises_own E.exC E.tyC, q1 d nd⟩
    rw [upd_ne (Ne.symm M.dne)]
    exact ne
theorem pe_mk {x : Str} {a : Expr} {ta : TA} {p pos : Pos} {k : Nat} {T fI : Addr} (E : EC X.K C T f fI) (mk : Makes X.K C f) (hm : X.mg x = some (.ref C)) (hr : Room k X.A) (ha : PA X [a] ta) (hg : Gl X x)
    (hdb : (x == ("__debug__" : Str)) = false := by decide) (he : starEach (a :: []) X.env = (false, eval a X.env) :: starEach [] X.env := by rfl) (hpl : (backTo pos (starEach [] X.env)).any (·.1) = false := by rfl) :
    PE X (.Call (.Name x p) [a] [] pos) (tMkV C f ta) := by
  refine ⟨fun pins s σ H Q I h => ?_⟩
  refine wpAny_Call_Name_kw (ld_glob I hg hm ?_ hdb)
  refine PySem.W.callWith_K (h₀ := X.base) I.ok.mod.kin E.kC (thn (ha.run pos pins s σ H _ I h) fun us s1 hh => ?_) he hpl
  obtain ⟨vs, H1, I1, r1, v, ev, q1⟩ := hh
  subst ev
  refine ⟨I1.kIn, ?_⟩
  cases r1 with
  | cons rv rn =>
    rename_i v' us'
    cases rn
    show wpAny _ _ (call (.ref C) [v']) _ _ _
    have hlim := I1.nolimit
    obtain ⟨hp, g, dr, tk, os⟩ := s1
    refine wpAny_call (mk I1.kIn hlim (by have := hr.dp; show X.A.depth + 1 < _; omega) fun h' tk' e d M => ?_)
    obtain ⟨G, t1, J, kG, ge, hoe, nd, ne⟩ := made_inv (tk' := tk') I1 rv M
    have ne' : (upd H1 d (.xd [(f, v)])) e = none := by
      rw [upd_ne (Ne.symm M.dne)]
      exact ne
    exact ⟨.ref e, _, J.laidN (h' := h') (t' := tk') kG ge ne' (exo_ok hoe), rfl, q1 d e nd ne (Ne.symm M.dne)⟩
/-- what stands at an exception's address in the heap -/
theorem EAt.inst {H : Hp} {h : Heap} {e : Addr} {v : V} (ok : HOk X.prog X.w H h) (a : EAt H C f e v) : ∃ (ox od : Obj) (u : Value), PySem.W.InstAt h e ox C (some od) ∧ PySem.W.lookIn f od = some (some u) ∧ RelV v u := by
  obtain ⟨d, h1, h2⟩ := a
  obtain ⟨t1, ho⟩ := exo_at ok h1
  obtain ⟨mA, hns, hr⟩ : ObjOk X.prog X.w H h d (.xd [(f, v)]) := ok d _ h2
  obtain ⟨od, hod, hl⟩ := lookIn_ns hns
  have l : List.lookup f [(f, v)] = some v := by simp [List.lookup]
  obtain ⟨u, hu, ru⟩ := RelO.some_of (v := v) (o := mA f) (by rw [← l]; exact hr f)
  exact ⟨_, od, u, ⟨ho, rfl, rfl, hod⟩, by rw [hl, hu], ru⟩
/-- e.f -/
def tFldE (K : PySem.W.Frag) (f : Str) (to : TE) : TE := fun σ H Q => to σ H fun x H1 => ∃ (e C T fI : Addr) (v : V), x = .ref e ∧ EC K C T f fI ∧ EAt H1 C f e v ∧ Q v H1
theorem pe_fldE {o : Expr} {to : TE} {pos : Pos} (ho : PE X o to) (hb : attributeBase o f X.env (eval o X.env) = eval o X.env := by rfl) : PE X (.Attribute o f pos) (tFldE X.K f to) := by
  refine ⟨fun pins s σ H Q I h => ?_⟩
  refine attr_of hb (thn (ho.run pins s σ H _ I h) fun u s1 hh => ?_)
  obtain ⟨x, H1, I1, rx, e, C, T, fI, v, ex, Ec, ea, q⟩ := hh
  subst ex
  obtain rfl : u = Value.ref e := rx
  obtain ⟨ox, od, w, J, hl, rw'⟩ := ea.inst I1.hok
  exact HandSPX.exc_get I1.kIn J Ec.ga Ec.gg Ec.exC (PySem.W.findObj_own Ec.hd Ec.no rfl hl) (handed_of rw') ⟨v, H1, I1.tok _, rw', q⟩
/-- isinstance(e, c) -/
structure HasCls (K : PySem.W.Frag) : Prop where
  hn : PySem.W.specialIn K (.builtin "object.__class__") "__get__" = some (some (.builtin "getset_descriptor.__get__"))
  ht : PySem.W.takesIn K (.builtin "object.__class__") = some true
def rIsV (K : PySem.W.Frag) : List V → Hp → VK → Prop := fun xs H Q => ∃ (e C T fI : Addr) (f : Str) (v c : V) (u : Value) (b : Bool), xs = [.ref e, c] ∧ ClsV c u ∧ EC K C T f fI ∧ EAt H C f e v ∧ PySem.W.kitOne K (.ref C) u = some b ∧ Q (.bl b) H
theorem call_isV (Z : HasCls X.K) : CallR X (.builtin "isinstance") (rIsV X.K) := by
  intro pins s σ H xs us Q I r h
  obtain ⟨e, C, T, fI, f, v, c, u, b, rfl, k, Ec, ea, hk, q⟩ := h
  obtain ⟨u1, u2, rfl, r1, r2⟩ := vals2 r
  have e2 := k.eq r2
  subst e2
  cases (show u1 = Value.ref e from r1)
  obtain ⟨ox, od, w, J, _, _⟩ := ea.inst I.hok
  have hob : PySem.W.mroIn X.K C (.type "object") = some true := Ec.has (by decide)
  exact PySem.W.kia_one (PySem.W.kitx_exc Ec.isCls Ec.ga Ec.gg Ec.exC Ec.ca Z.hn Z.ht hob) I.kIn J hk (fun z => nomatch z) fun tk => ⟨.bl b, H, I.tok tk, rfl, q⟩
end
/-! the answers -/
section
open PySem.W
variable {K : PySem.W.Frag} {C T fI D T2 fJ : Addr} {f f2 : Str}
theorem kit_self : kitOne K (.ref C) (.ref C) = some true := by
  unfold kitOne
  rw [if_pos (beq_self_eq_true _)]
theorem kit_own (E : EC K C T f fI) {D : Addr} {b : Bool} (hD : (clsIn K D).isSome = true) (tD : typeIn K (.ref D) = some (.type "type")) (h : subIn K (.ref C) (.ref D) = some b) (hne : D ≠ C) : kitOne K (.ref C) (.ref D) = some b := by
  have q : ((clsIn K D).isSome && typeIn K (.ref D) == some (.type "type")) = true := by rw [hD, tD]; rfl
  unfold kitOne
  rw [if_neg (by simp [Ne.symm hne])]
  unfold kitCls
  dsimp only
  rw [if_pos q]
  exact h
theorem kit_bi (E : EC K C T f fI) {n : String} {b : Bool} (hm : kitMeta n = true) (h : subIn K (.ref C) (.type n) = some b) : kitOne K (.ref C) (.type n) = some b := by
  unfold kitOne
  rw [if_neg (by simp)]
  unfold kitCls
  dsimp only
  rw [if_pos hm]
  exact h
end
/-! try with clauses, each with a name -/
/-- what the clauses wish, one behind the other; each: its class, the slot of its name, its suite -/
def wClauses (K : PySem.W.Frag) (Wout : WX) (D : Ends) : List (Value × Nat × (Addr → Value → Option Addr → TS)) → WX
  | [] => Wout
  | (c, i, ts) :: r => fun cls d σ H => ∃ b, PySem.W.exmOne K cls c = some b ∧
      (b = true → ∀ a, H a = none → ts a cls d { nx := fun σ' H' => D.nx (σ'.set i none) H', rt := D.rt, bk := fun σ' H' => D.bk (σ'.set i none) H', ct := fun σ' H' => D.ct (σ'.set i none) H' } (σ.set i (some (.ref a))) H) ∧
      (b = false → wClauses K Wout D r cls d σ H)
inductive Clauses (X : Cx) : List ExceptHandler → List (Value × Nat × (Addr → Value → Option Addr → TS)) → Prop
  | nil : Clauses X [] []
  | cons {x n : Str} {i : Nat} {c : Value} {ts : Addr → Value → Option Addr → TS} {b₀ : Stmt} {suite : List Stmt} {np pos' : Pos} {hds : List ExceptHandler} {l : List (Value × Nat × (Addr → Value → Option Addr → TS))}
      (hc : Names X x c) (hi : X.N[i]? = some n) (hln : X.env.kindOf n = some .local)
      (hsu : ∀ (a : Addr) (oe : Obj) (cls : Value) (d : Option Addr) (pn : List (Addr × Obj)), Zc cls d oe → (∃ vs, oe.data = .fields vs) → PSs (X.suite a ((a, oe) :: pn)) (b₀ :: suite) (ts a cls d))
      (r : Clauses X hds l) : Clauses X (.ExceptHandler (some (.Name x np)) (some n) (b₀ :: suite) pos' :: hds) ((c, i, ts) :: l)
section
variable {X : Cx} {body : List Stmt} {h₀ : ExceptHandler} {hds : List ExceptHandler} {l : List (Value × Nat × (Addr → Value → Option Addr → TS))} {pos : Pos} {tb : WX → TS} {Wout : WX}
/-- the suite's end: its name goes -/
theorem suite_end {pins : List (Addr × Obj)} {D : Ends} {i : Nat} {n : Str} {a : Addr} {q : Addr × Obj} {p : Pos} {fl : Flow} {s6 : Shared} (ok : X.Ok) (hN : X.N.Nodup) (hi : X.N[i]? = some n) (hln : X.env.kindOf n = some .local)
    (hsp : SP (X.suite a (q :: (X.pn ++ pins))) [] { nx := fun σ' H' => D.nx (σ'.set i none) H', rt := D.rt, bk := fun σ' H' => D.bk (σ'.set i none) H', ct := fun σ' H' => D.ct (σ'.set i none) H' } fl s6) :
    wpAny (model X.prog X.w) X.A (do bindName X.env n .none; unbindBehindTheSuite X.env n p) (fun _ s7 => SP X pins D fl s7) X.xe s6 := by
  cases fl with
  | next =>
    obtain ⟨σ6, H6, S6, w6⟩ := hsp
    exact gone_ok (S6.unsuite ok) hN hi hln fun s7 J7 => ⟨_, _, J7, w6⟩
  | brk =>
    obtain ⟨σ6, H6, S6, w6⟩ := hsp
    exact gone_ok (S6.unsuite ok) hN hi hln fun s7 J7 => ⟨_, _, J7, w6⟩
  | cont =>
    obtain ⟨σ6, H6, S6, w6⟩ := hsp
    exact gone_ok (S6.unsuite ok) hN hi hln fun s7 J7 => ⟨_, _, J7, w6⟩
  | ret u =>
    obtain ⟨v6, σ6, H6, S6, r6, w6⟩ := hsp
    exact gone_ok (S6.unsuite ok) hN hi hln fun s7 J7 => ⟨_, _, _, J7, r6, w6⟩
theorem ps_try_named (hs : X.stack = X.env :: X.outer) (hf : X.env.frame = some X.env.locals) (hN : X.N.Nodup) (tk : Takes X Wout)
    (hb : ∀ (W : WX) (pn : List (Addr × Obj)) (xe : Value → Shared → Prop), Takes (X.tr pn xe) W → PassesOwn (model X.prog X.w) X.A X.env xe → PSs (X.tr pn xe) body (tb W))
    (hh : Clauses X (h₀ :: hds) l) : PS X (.Try body (h₀ :: hds) [] [] pos) (fun D σ H => tb (wClauses X.K Wout D l) D σ H) := by
  refine ⟨fun pins s σ H D I h => ?_⟩
  have ok := I.ok
  have hfr : X.A.frames = some (X.env :: X.outer) := by rw [ok.frames, hs]
  refine wpAny_Try_except ?_
  refine wpAny_mono ((hb (wClauses X.K Wout D l) (X.pn ++ pins) (fun e s₁ => wpAny (model X.prog X.w) X.A (noteFrame e X.env) (fun _ s₂ =>
    wpAny (model X.prog X.w) X.A (setFlight e none) (fun _ s₃ => wpAny (model X.prog X.w) X.A (handleBy e X.env (h₀ :: hds)) (SP X pins D) X.xe s₃) X.xe s₂) X.xe s₁)
    (fun u s' xx => ?_) PassesOwn.looking).run [] s σ H D (I.toTry _) h) (fun fl s1 hsp => ?_) (fun e s1 he => he)
  · obtain ⟨a, B, sI, pins', σ', H', cls, d, rfl, J', nb, up, sky, na, os, ag, w⟩ := xx
    have J : Inv X pins σ' H' sI := J'.ofTry ok
    have sky' : Sky B (X.env :: X.outer) a (Zc cls d) X.env.locals s'.heap := by
      rw [← hs]
      exact sky
    refine Sky.land Zc.steady hfr hf sky' fun h3 fl3 up3 => ?_
    have J3 : Inv X pins σ' H' { s' with heap := h3 } := J.landed nb fl3.1 (up.trans up3) os ag
    obtain ⟨oe3, vs3, he3, hz3, hd3⟩ := fl3.there
    have nfr : a ∉ frs (X.env :: X.outer) := fun hm => by
      obtain ⟨_, o', e', hnf⟩ := fl3.2.2.1.mem hm
      rw [he3] at e'
      cases e'
      exact hnf _ hd3
    have nL : a ≠ X.env.locals := fun z => nfr (List.mem_filterMap.mpr ⟨X.env, List.mem_cons_self, by rw [hf, z]⟩)
    have nF : a ∉ X.fs := fun hm => by
      obtain ⟨e, he, q⟩ := List.mem_filterMap.mp hm
      exact nfr (List.mem_filterMap.mpr ⟨e, List.mem_cons_of_mem _ he, q⟩)
    have S3 := J3.suite he3 hd3 na nL nF
    have LT : PySem.W.Looks (model X.prog X.w) h3 (typeOf (.ref a)) cls := fun A Q E s k q => wpAny_typeOf_ref (k _ _ he3) (by rw [hz3.1]; exact q)
    have go : ∀ {hs' : List ExceptHandler} {l' : List (Value × Nat × (Addr → Value → Option Addr → TS))}, Clauses X hs' l' → wClauses X.K Wout D l' cls d σ' H' →
        wpAny (model X.prog X.w) X.A (handleBy (.ref a) X.env hs') (SP X pins D) X.xe { s' with heap := h3 } := by
      intro hs' l' hk
      induction hk with
      | nil =>
        intro w
        refine wpAny_handleBy_nil ?_
        obtain ⟨k1, k2, k3, oe, vs, T, oT, ts', he, hz, hd, h1, hr⟩ := id fl3
        have fin : wpAny (model X.prog X.w) X.A (setFlight (.ref a) X.env.frame) (fun _ s4 => wpAny (model X.prog X.w) X.A (throw (.ref a) : Sem Flow) (SP X pins D) X.xe s4) X.xe { s' with heap := h3 } := by
          rw [hf]
          refine HandSPX.setFlight_upZ fl3 fun h4 hh4 up4 => wpAny_throw (tk _ _ ?_)
          refine ⟨a, B, sI, pins, σ', H', cls, d, rfl, J, nb, (up.trans up3).trans up4, .inr (.inr ?_), na, os, ag, w⟩
          rw [hs]
          exact hh4
        unfold PySem.passOn
        refine wpAny_bind (wpAny_field he hd h1 ?_)
        rw [if_neg (show ¬ ((Value.ref T == Value.none) = true) from by simp)]
        first
          | exact wpAny_bind (wpAny_pure (wpAny_bind fin))
          | exact wpAny_bind fin
      | @cons x n i c ts b₀ suite np pos' hds2 l2 hc hi hln hsu r ih =>
        intro w
        obtain ⟨b, hb1, hyes, hno⟩ := w
        refine wpAny_handleBy_cons (codeAny_handlers_test ?_) (by intro q; cases q)
        have LM := PySem.W.exm_one (M := model X.prog X.w) (J3.kIn) LT hb1
        have test : ∀ {Q : Value → Shared → Prop} {E : Value → Shared → Prop}, Q c { s' with heap := h3 } → wpAny (model X.prog X.w) (X.A.mark (some (.ref a))) (eval (.Name x np) X.env) Q E { s' with heap := h3 } := fun {Q E} q => by
          obtain ⟨hg, hdbg, hm | ⟨hm, hv, hnn⟩⟩ := hc
          · exact ld_glob (X := X.suite a ((a, oe3) :: (X.pn ++ pins))) S3 hg hm q hdbg
          · exact ld_blt (X := X.suite a ((a, oe3) :: (X.pn ++ pins))) S3 hg hm hv q hnn hdbg
        refine test (LM.here ?_)
        cases b with
        | false =>
          show wpAny _ X.A (handleBy (.ref a) X.env hds2) _ _ _
          exact ih (hno rfl)
        | true =>
          refine codeAny_handlers_suite_as ?_
          refine HandSPX.lands_againZ fl3 fun h4 fl4 up4 => ?_
          have J4 : Inv X pins σ' H' { s' with heap := h4 } := J.landed nb fl4.1 ((up.trans up3).trans up4) os ag
          obtain ⟨oe4, vs4, he4, hz4, hd4⟩ := fl4.there
          have S4 := J4.suite he4 hd4 na nL nF
          refine store_ok (X := X.suite a ((a, oe4) :: (X.pn ++ pins))) (v := .ref a) S4 hN hi (.inl hln) rfl (fun s5 S5 => ?_) (.inr hln)
          refine wpAny_mono ((hsu a oe4 cls d (X.pn ++ pins) hz4 ⟨_, hd4⟩).run [] s5 _ H' _ S5 (hyes rfl a na)) (fun fl s6 hsp => ?_) (fun _ _ z => False.elim z)
          exact suite_end ok hN hi hln hsp
    exact go hh w
  · cases fl with
    | next =>
      obtain ⟨σ', H', J', q⟩ := hsp
      exact wpAny_execs_nil ⟨σ', H', J'.ofTry ok, q⟩
    | brk =>
      obtain ⟨σ', H', J', q⟩ := hsp
      exact ⟨σ', H', J'.ofTry ok, q⟩
    | cont =>
      obtain ⟨σ', H', J', q⟩ := hsp
      exact ⟨σ', H', J'.ofTry ok, q⟩
    | ret u =>
      obtain ⟨v, σ', H', J', r, q⟩ := hsp
      exact ⟨v, σ', H', J'.ofTry ok, r, q⟩
end
end L2


set_option Elab.async false
set_option linter.all false
set_option maxRecDepth 100000
set_option maxHeartbeats 2000000
namespace K0
open PySem L2
def topS (i : Nat) : Stmt := PySem.Challenge.pw_ledgertrace_k00_errors.main.body.getD i (.Pass ⟨0, 0, 0, 0⟩)
abbrev sMix : Stmt := topS 11
abbrev sBox : Stmt := topS 12
abbrev sDraw : Stmt := topS 13
abbrev sAlike : Stmt := topS 14
abbrev sText : Stmt := topS 15
abbrev sAlone : Stmt := topS 16
abbrev sNum : Stmt := topS 17
abbrev sWord : Stmt := topS 18
abbrev sRaise : Stmt := topS 19
abbrev sCaught : Stmt := topS 20
abbrev sBen : Stmt := topS 21
abbrev sLaw : Stmt := topS 22
/-- the mixing: some number below 2147483629 -/
def spMix : Sp := fun vs H Q _ => ∃ c s : Int, vs = [.int c, .int s] ∧ ∀ r : Int, 0 ≤ r → Q (.int r) H
section
variable {P : Program} {w : World} {K : PySem.W.Frag} {mg : Str → Option Value} {base : Heap}
theorem scMix : FnScope ["cell", "salt", "one"] ["cell", "salt"] (defScope sMix) := ⟨rfl, rfl, rfl, by decide +kernel, rfl, by decide +kernel, by decide +kernel⟩
theorem ok_mix {f : Addr} {fd : FuncData} (F : Fun K "_law_mix" "_law_mix" sMix f fd) (mI : mg "int" = none) : FnOk P w K mg base CX0 1 f fd ["cell", "salt"] spMix := by
  refine F.ok scMix (fun vs H Q E h => ?_) (fun cdv A outer s H vs Q E hr h => ?_)
  · obtain ⟨c, s, rfl, _⟩ := h
    rfl
  · obtain ⟨c, s, rfl, k⟩ := h
    refine ⟨_, pss_cons (ps_set (i := 2) scMix.nd rfl (Or.inl rfl) (pe_op op_mod (pe_callTy call_int1 (by rfl) mI (by decide +kernel) (pa_cons (pe_op op_add (pe_op op_add (pe_op op_mul (pv 0) pe_int) (pe_op op_mul (pv 1) pe_int)) pe_int) pa_nil)) pe_int))
      (pss_one (ps_ret (pe_op op_mod (pe_callTy call_int1 (by rfl) mI (by decide +kernel) (pa_cons (pe_op op_add (pe_op op_add (pe_op op_mul (pv 2) (pv 2)) (pe_op op_mul (pv 2) pe_int)) (pe_op op_mul (pv 1) pe_int)) pa_nil)) pe_int))), ?_⟩
    refine ⟨_, rfl, _, _, rfl, rfl, .inr ⟨by decide, by decide⟩, _, rfl, _, _, rfl, rfl, .inr ⟨by decide, by decide⟩, _, _, rfl, rfl, _, _, rfl, rfl, .inl ⟨_, rfl, _, _, rfl, rfl, (by show (0 : Int) < 2147483647; decide), ?_⟩⟩
    have h0 : 0 ≤ (c * 48271 + s * 69621 + 12345) % 2147483647 := Int.emod_nonneg _ (by decide)
    have h1 : (c * 48271 + s * 69621 + 12345) % 2147483647 < 2147483647 := Int.emod_lt_of_pos _ (by decide)
    refine ⟨_, rfl, _, rfl, _, _, rfl, rfl, .inl ⟨by omega, by omega⟩, _, rfl, _, _, rfl, rfl, .inr ⟨by decide, by decide⟩, _, _, rfl, rfl, _, rfl, _, _, rfl, rfl, .inr ⟨by decide, by decide⟩, _, _, rfl, rfl, .inl ⟨_, rfl, _, _, rfl, rfl, (by show (0 : Int) < 2147483629; decide), ?_⟩⟩
    exact k _ (Int.emod_nonneg _ (by decide))
end
end K0


set_option Elab.async false
set_option linter.all false
set_option maxRecDepth 100000
set_option maxHeartbeats 4000000
namespace K0
open PySem L2
def bx (d0 d1 at_ s m : Int) (c : Addr) : List V := [.int d0, .int d1, .int at_, .int s, .int m, .ref c]
/-- a box at b, its cells at c -/
structure BoxAt (H : Hp) (b c : Addr) (ns : List Int) : Prop where
  lst : ∃ d0 d1 at_ s m : Int, 0 ≤ at_ ∧ H b = some (.lst (bx d0 d1 at_ s m c))
  cells : H c = some (.lst (ns.map V.int))
  len : ns.length ≤ 1000
theorem bx_ne {d0 d1 at_ s m : Int} {c : Addr} {ns : List Int} : HO.lst (ns.map V.int) ≠ HO.lst (bx d0 d1 at_ s m c) := by
  intro z
  have z' := HO.lst.inj z
  have h5 := congrArg (fun l => l[5]?) z'
  simp only [bx, List.getElem?_map] at h5
  cases e : ns[5]? with
  | none => rw [e] at h5; simp at h5
  | some y => rw [e] at h5; simp at h5
/-- all but b is kept -/
def But (b : Addr) (H H' : Hp) : Prop := ∀ a o, H a = some o → a ≠ b → H' a = some o
theorem But.refl {b : Addr} {H : Hp} : But b H H := fun _ _ h _ => h
theorem But.trans {b : Addr} {H H1 H2 : Hp} (x : But b H H1) (y : But b H1 H2) : But b H H2 := fun a o h n => y a o (x a o h n) n
theorem But.upd {b : Addr} {H : Hp} {o : HO} : But b H (upd H b o) := fun a u h n => by rw [upd_ne n]; exact h
theorem But.same {b : Addr} {H H1 H2 : Hp} (x : But b H H1) (y : Same H1 H2) : But b H H2 := fun a o h n => y a o (x a o h n)
theorem BoxAt.ne {H : Hp} {b c : Addr} {ns : List Int} (x : BoxAt H b c ns) : c ≠ b := by
  obtain ⟨d0, d1, at_, s, m, _, h⟩ := x.lst
  exact ne_of x.cells h bx_ne
theorem BoxAt.put {H : Hp} {b c : Addr} {ns : List Int} (x : BoxAt H b c ns) {d0 d1 at_ s m : Int} (h : 0 ≤ at_) : BoxAt (upd H b (.lst (bx d0 d1 at_ s m c))) b c ns :=
  ⟨⟨d0, d1, at_, s, m, h, upd_same⟩, by rw [upd_ne x.ne]; exact x.cells, x.len⟩
/-- another box stays -/
theorem BoxAt.keep {H H' : Hp} {b b2 c2 : Addr} {ns : List Int} (y : BoxAt H b2 c2 ns) (hb : But b H H') (n1 : b2 ≠ b) (n2 : c2 ≠ b) : BoxAt H' b2 c2 ns := by
  obtain ⟨d0, d1, at_, s, m, h0, h⟩ := y.lst
  exact ⟨⟨d0, d1, at_, s, m, h0, hb _ _ h n1⟩, hb _ _ y.cells n2, y.len⟩
theorem BoxAt.same {H H' : Hp} {b c : Addr} {ns : List Int} (y : BoxAt H b c ns) (s : Same H H') : BoxAt H' b c ns := by
  obtain ⟨d0, d1, at_, s', m, h0, h⟩ := y.lst
  exact ⟨⟨d0, d1, at_, s', m, h0, s _ _ h⟩, s _ _ y.cells, y.len⟩
def spBox (K : PySem.W.Frag) : Sp := fun vs H Q _ => ∃ (a : Addr) (ns : List Int) (n : Int), vs = [.ref a, .int n] ∧ SqL K H a (ns.map V.int) ∧ ns.length ≤ 1000 ∧ 0 ≤ n ∧
  ∀ (b c : Addr) (H' : Hp), H b = none → H c = none → Same H H' → BoxAt H' b c ns → Q (.ref b) H'
def spDraw : Sp := fun vs H Q _ => ∃ (b c : Addr) (ns : List Int) (many : Int), vs = [.ref b, .int many] ∧ 0 < many ∧ many < 1000000 ∧ BoxAt H b c ns ∧
  ∀ (r : Int) (H' : Hp), 0 ≤ r → r < many → BoxAt H' b c ns → But b H H' → Q (.int r) H'
section
variable {P : Program} {w : World} {K : PySem.W.Frag} {mg : Str → Option Value} {base : Heap}
theorem scBox : FnScope ["script", "at", "cell"] ["script", "at"] (defScope sBox) := ⟨rfl, rfl, rfl, by decide +kernel, rfl, by decide +kernel, by decide +kernel⟩
theorem ok_box {f : Addr} {fd : FuncData} (F : Fun K "_law_box" "_law_box" sBox f fd) (mI : mg "int" = none) : FnOk P w K mg base CX0 1 f fd ["script", "at"] (spBox K) := by
  refine F.ok scBox (fun vs H Q E h => ?_) (fun cdv A outer s H vs Q E hr h => ?_)
  · obtain ⟨a, ns, n, rfl, _⟩ := h
    rfl
  · obtain ⟨a, ns, n, rfl, hS, hl, hn, k⟩ := h
    refine ⟨_, pss_one (ps_ret (pe_lst (pa_cons pe_int (pa_cons pe_int (pa_cons (pv 1) (pa_cons pe_int (pa_cons (pv 1) (pa_cons
      (pe_lc (own := [("cell", 2)]) (g := gName 2) (tt := tYes) rfl scBox.nd (pi_list (pv 0)) (blkOk_by (N := ["script", "at", "cell"]) (sc := defScope sBox) (by decide +kernel)) (fun _ _ _ _ _ => pg_name (i := 2) scBox.nd rfl (Or.inl rfl)) (fun _ _ _ _ _ => pts_nil)
        (fun _ _ _ _ _ => pe_callTy call_int1 (by rfl) mI (by decide +kernel) (pa_cons (pv 2) pa_nil))) pa_nil)))))))), ?_⟩
    refine ⟨_, rfl, _, rfl, _, rfl, a, rfl, ⟨_, hS⟩, fun D nD => ?_⟩
    refine lc_list (K := K) (a := a) (xs := ns.map V.int) (fun i H2 => Same H H2 ∧ H2 D = some (.lst ((ns.take i).map V.int))) ⟨fun b o e => by rw [upd_ne (ne_of_none e nD)]; exact e, by rw [upd_same, List.take_zero, List.map_nil]⟩ (fun i H2 _ ⟨s2, _⟩ => s2.seq hS) ?_ ?_
    · rintro i y H2 hi ⟨s2, hD⟩
      obtain ⟨z, hz, rfl⟩ : ∃ z, ns[i]? = some z ∧ y = V.int z := by
        rw [List.getElem?_map] at hi
        cases e : ns[i]? with
        | none => rw [e] at hi; cases hi
        | some z => rw [e] at hi; exact ⟨z, rfl, (Option.some.inj hi).symm⟩
      have hil : i < ns.length := (List.getElem?_eq_some_iff.mp hz).1
      refine ⟨rfl, _, rfl, .inl ⟨_, rfl, _, hD, small1000 (by rw [List.length_map, List.length_take]; omega), fun b o e => ?_, ?_⟩⟩
      · rw [upd_ne (ne_of_none e nD)]
        exact s2 b o e
      · rw [upd_same, List.take_succ, hz, List.map_append]
        rfl
    · rintro H2 ⟨s2, hD⟩
      refine ⟨by show 6 ≤ sizeLine; decide, fun b nb => ?_⟩
      have e0 : (ns.map V.int).length = ns.length := List.length_map ..
      rw [e0, List.take_length] at hD
      have nbH : H b = none := s2.free nb
      exact k b D _ nbH nD (fun c o e => by rw [upd_ne (ne_of_none e nbH)]; exact s2 c o e) ⟨⟨0, 0, n, 0, n, hn, upd_same⟩, by rw [upd_ne (ne_of_none hD nb)]; exact hD, hl⟩
theorem scDraw : FnScope ["box", "many", "cell", "drawn"] ["box", "many"] (defScope sDraw) := ⟨rfl, rfl, rfl, by decide +kernel, rfl, by decide +kernel, by decide +kernel⟩
theorem ok_draw {f fM : Addr} {fd fdM : FuncData} (F : Fun K "_law_draw" "_law_draw" sDraw f fd) (FM : Fun K "_law_mix" "_law_mix" sMix fM fdM) (bM : Binds K fdM ["cell", "salt"] []) (gM : mg "_law_mix" = some (.ref fM)) (kM : PySem.W.keepIn K (.ref fM) = true)
    (mI : mg "int" = none) (mL : mg "len" = none) : FnOk P w K mg base CX0 2 f fd ["box", "many"] spDraw := by
  have GM : FnOk P w K mg base CX0 1 fM fdM ["cell", "salt"] spMix := ok_mix FM mI
  refine F.ok scDraw (fun vs H Q E h => ?_) (fun cdv A outer s H vs Q E hr h => ?_)
  · obtain ⟨b, c, ns, many, rfl, _⟩ := h
    rfl
  · obtain ⟨b, c, ns, many, rfl, hm0, hm1, hB, k⟩ := h
    have hr1 : Room 1 _ := hr
    refine ⟨_, C8.pss_cut (ps_if (PW.pt (pw_and (pt_cmpR op_eq (pe_ix ix_list (pv 0) pe_int (fun _ _ => rfl)) pe_int (nomark _))
          (pw_and1 (pt_cmpR op_lt (pe_ix ix_list (pv 0) pe_int (fun _ _ => rfl)) (pe_callB call_len_seq (by rfl) mL PySem.boot_len (pa_cons (pe_ix ix_list (pv 0) pe_int (fun _ _ => rfl)) pa_nil)) (nomark _)))))
        (pss_cons (ps_set (i := 2) scDraw.nd rfl (Or.inl rfl) (pe_ix ix_list (pe_ix ix_list (pv 0) pe_int (fun _ _ => rfl)) (pe_ix ix_list (pv 0) pe_int (fun _ _ => rfl)) (fun _ _ => rfl)))
        (pss_cons (ps_asg (pe_op op_add (pe_ix ix_list (pv 0) pe_int (fun _ _ => rfl)) pe_int) (pg_sub (pv 0) pe_int set_list))
        (pss_cons (ps_asg (pe_op op_mod (pe_callTy call_int1 (by rfl) mI (by decide +kernel) (pa_cons (pe_op op_add (pe_op op_mul (pe_ix ix_list (pv 0) pe_int (fun _ _ => rfl)) pe_int) (pv 2)) pa_nil)) pe_int) (pg_sub (pv 0) pe_int set_list))
        (pss_one (ps_if (pt_cmpR op_ge (pv 2) (pe_op op_pow pe_int pe_int) (nomark _))
          (pss_cons (ps_asg (pe_op op_sub (pv 2) (pe_op op_pow pe_int pe_int)) (pg_sub (pv 0) pe_int set_list))
          (pss_one (ps_asg pe_int (pg_sub (pv 0) pe_int set_list)))) pss_nil))))) pss_nil)
      (C8.pss_cut (ps_if (PW.pt (pw_and (pt_cmpR op_gt (pe_ix ix_list (pv 0) pe_int (fun _ _ => rfl)) pe_int (nomark _)) (pw_and1 (pt_cmpR op_gt (pe_ix ix_list (pv 0) pe_int (fun _ _ => rfl)) pe_int (nomark _)))))
        (pss_cons (ps_set (i := 3) scDraw.nd rfl (Or.inl rfl) (pe_op op_modN (pe_callTy call_int1 (by rfl) mI (by decide +kernel) (pa_cons (pe_ix ix_list (pv 0) pe_int (fun _ _ => rfl)) pa_nil)) (pv 1)))
        (pss_cons (ps_asg (pe_op op_fdivN (pe_ix ix_list (pv 0) pe_int (fun _ _ => rfl)) (pv 1)) (pg_sub (pv 0) pe_int set_list))
        (pss_cons (ps_asg (pe_op op_sub (pe_ix ix_list (pv 0) pe_int (fun _ _ => rfl)) pe_int) (pg_sub (pv 0) pe_int set_list))
        (pss_one (ps_ret (pv 3)))))) pss_nil)
      (pss_cons (ps_asg pe_int (pg_sub (pv 0) pe_int set_list))
      (pss_cons (ps_asg (pe_op op_add (pe_ix ix_list (pv 0) pe_int (fun _ _ => rfl)) pe_int) (pg_sub (pv 0) pe_int set_list))
      (pss_one (ps_ret (pe_op op_modN (pe_callTy call_int1 (by rfl) mI (by decide +kernel) (pa_cons (pe_call GM hr1 rfl gM kM bM .nil pass0 (pa_cons (pe_ix ix_list (pv 0) pe_int (fun _ _ => rfl)) (pa_cons (pe_ix ix_list (pv 0) pe_int (fun _ _ => rfl)) pa_nil))) pa_nil)) (pv 1))))))), ?_⟩
    refine ⟨fun σ H2 => (∃ v, σ = [some (.ref b), some (.int many), v, none]) ∧ BoxAt H2 b c ns ∧ But b H H2, ?_, ?_⟩
    · obtain ⟨d0, d1, at_, s, m, hat, hb⟩ := id hB.lst
      refine ⟨_, rfl, b, _, _, _, rfl, rfl, SqL.of hb, rfl, rfl, _, rfl, ?_⟩
      refine ite2 (fun _ => ?_) (fun _ => ?_)
      · refine ⟨_, rfl, b, _, _, _, rfl, rfl, SqL.of hb, rfl, _, rfl, b, _, _, _, rfl, rfl, SqL.of hb, rfl, c, _, rfl, .inl (SqL.of hB.cells), _, _, rfl, rfl, _, rfl, ?_⟩
        refine ite2 (fun hlt => ?_) (fun _ => ?_)
        · have hlt' : at_ < ((ns.map V.int).length : Int) := of_decide_eq_true hlt
          rw [List.length_map] at hlt'
          obtain ⟨j, rfl⟩ := Int.eq_ofNat_of_zero_le hat
          have hj : j < ns.length := by omega
          have hget : (ns.map V.int)[j]? = some (V.int ns[j]) := by rw [List.getElem?_map, List.getElem?_eq_getElem hj]; rfl
          refine ⟨_, rfl, b, _, _, _, rfl, rfl, SqL.of hb, rfl, _, rfl, b, _, _, _, rfl, rfl, SqL.of hb, rfl, c, _, _, _, rfl, rfl, SqL.of hB.cells, atI_nat hget, ?_⟩
          refine ⟨_, rfl, b, _, _, _, rfl, rfl, SqL.of hb, rfl, _, _, rfl, rfl, _, rfl, b, _, _, _, rfl, rfl, hb, rfl, ?_⟩
          refine ⟨_, rfl, b, _, _, _, rfl, rfl, SqL.of upd_same, rfl, _, _, rfl, rfl, .inr ⟨by decide, by decide⟩, _, rfl, _, _, rfl, rfl, .inl ⟨_, rfl, _, _, rfl, rfl, (by show (0 : Int) < 2147483647; decide), _, rfl, b, _, _, _, rfl, rfl, upd_same, rfl, ?_⟩⟩
          refine ⟨_, rfl, _, _, rfl, rfl, ⟨by decide, by decide, by decide⟩, _, _, rfl, rfl, _, rfl, ?_⟩
          rw [upd_upd]
          refine ite2 (fun _ => ?_) (fun _ => ?_)
          · refine ⟨_, rfl, _, _, rfl, rfl, ⟨by decide, by decide, by decide⟩, _, _, rfl, rfl, _, rfl, b, _, _, _, rfl, rfl, upd_same, rfl, ?_⟩
            refine ⟨_, rfl, b, _, _, _, rfl, rfl, upd_same, rfl, ?_⟩
            rw [upd_upd, upd_upd]
            exact ⟨⟨_, rfl⟩, hB.put (by omega), But.upd⟩
          · exact ⟨⟨_, rfl⟩, hB.put (by omega), But.upd⟩
        · exact ⟨⟨_, rfl⟩, hB, But.refl⟩
      · exact ⟨⟨_, rfl⟩, hB, But.refl⟩
    · rintro σ H2 ⟨⟨v, rfl⟩, hB2, hk⟩
      obtain ⟨d0, d1, at_, s, m, hat, hb⟩ := id hB2.lst
      refine ⟨fun σ H3 => (∃ v, σ = [some (.ref b), some (.int many), v, none]) ∧ BoxAt H3 b c ns ∧ But b H H3, ?_, ?_⟩
      · have stay : (∃ u, [some (V.ref b), some (V.int many), v, none] = [some (V.ref b), some (V.int many), u, none]) ∧ BoxAt H2 b c ns ∧ But b H H2 := ⟨⟨_, rfl⟩, hB2, hk⟩
        refine ⟨_, rfl, b, _, _, _, rfl, rfl, SqL.of hb, rfl, _, _, rfl, rfl, _, rfl, ?_⟩
        refine ite2 (fun _ => ?_) (fun _ => stay)
        refine ⟨_, rfl, b, _, _, _, rfl, rfl, SqL.of hb, rfl, _, _, rfl, rfl, _, rfl, ?_⟩
        refine ite2 (fun _ => ?_) (fun _ => stay)
        refine ⟨_, rfl, b, _, _, _, rfl, rfl, SqL.of hb, rfl, .inl ⟨_, rfl, _, rfl, _, _, rfl, rfl, (by omega), ?_⟩⟩
        refine ⟨_, rfl, b, _, _, _, rfl, rfl, SqL.of hb, rfl, _, rfl, _, _, rfl, rfl, ⟨by omega, by omega⟩, _, rfl, b, _, _, _, rfl, rfl, hb, rfl, ?_⟩
        refine ⟨_, rfl, b, _, _, _, rfl, rfl, SqL.of upd_same, rfl, _, _, rfl, rfl, _, rfl, b, _, _, _, rfl, rfl, upd_same, rfl, ?_⟩
        rw [upd_upd]
        refine ⟨_, rfl, ?_⟩
        exact k _ _ (Int.fmod_nonneg_of_pos _ hm0) (Int.fmod_lt_of_pos _ hm0) (hB2.put hat) (hk.trans But.upd)
      · rintro σ H3 ⟨⟨v, rfl⟩, hB3, hk3⟩
        obtain ⟨e0, e1, at_, s, m, hat, hb⟩ := id hB3.lst
        refine ⟨_, rfl, b, _, _, _, rfl, rfl, hb, rfl, ?_⟩
        refine ⟨_, rfl, b, _, _, _, rfl, rfl, SqL.of upd_same, rfl, _, _, rfl, rfl, _, rfl, b, _, _, _, rfl, rfl, upd_same, rfl, ?_⟩
        rw [upd_upd]
        refine ⟨_, rfl, b, _, _, _, rfl, rfl, SqL.of upd_same, rfl, _, rfl, b, _, _, _, rfl, rfl, SqL.of upd_same, rfl, _, _, rfl, fun r h0 => .inl ⟨_, rfl, _, rfl, _, _, rfl, rfl, (by omega), ?_⟩⟩
        exact k _ _ (Int.fmod_nonneg_of_pos _ hm0) (Int.fmod_lt_of_pos _ hm0) (hB3.put hat) (hk3.trans But.upd)
end
end K0


set_option Elab.async false
set_option linter.all false
set_option maxRecDepth 100000
set_option maxHeartbeats 4000000
namespace K0
open PySem L2
def scalV : V → Prop
  | .non => True
  | .bl _ => True
  | .int _ => True
  | .str _ => True
  | _ => False
/-- the same data at both, n deep at most -/
def Alike (K : PySem.W.Frag) (H : Hp) : Nat → V → V → Prop
  | 0, x, y => x = y ∧ scalV x
  | n + 1, x, y => (x = y ∧ scalV x) ∨ ∃ (a b : Addr) (xs ys : List V), x = .ref a ∧ y = .ref b ∧ ((SqT K H a xs ∧ SqT K H b ys) ∨ (SqL K H a xs ∧ SqL K H b ys)) ∧ xs.length = ys.length ∧ ys.length ≤ 1000000 ∧
      ∀ (i : Nat) (u v : V), xs[i]? = some u → ys[i]? = some v → Alike K H n u v
theorem sqT_same {K : PySem.W.Frag} {H H' : Hp} {a : Addr} {xs : List V} (s : Same H H') (h : SqT K H a xs) : SqT K H' a xs := by
  rcases h with (h | ⟨o, h⟩) | h
  · exact .inl (.inl (s _ _ h))
  · exact .inl (.inr ⟨o, s _ _ h⟩)
  · exact .inr h
theorem Alike.same {K : PySem.W.Frag} {H H' : Hp} (s : Same H H') : ∀ {n : Nat} {x y : V}, Alike K H n x y → Alike K H' n x y
  | 0, _, _, h => h
  | n + 1, x, y, h => by
    rcases h with h | ⟨a, b, xs, ys, rfl, rfl, h, hl, h1, h2⟩
    · exact .inl h
    · refine .inr ⟨a, b, xs, ys, rfl, rfl, ?_, hl, h1, fun i u v e1 e2 => (h2 i u v e1 e2).same s⟩
      rcases h with ⟨p, q⟩ | ⟨p, q⟩
      · exact .inl ⟨sqT_same s p, sqT_same s q⟩
      · exact .inr ⟨s.seq p, s.seq q⟩
theorem tyX_T {K : PySem.W.Frag} {H : Hp} {a : Addr} {xs : List V} (h : SqT K H a xs) : TyX K H (.ref a) (.type "tuple") := by
  rcases h with (h | ⟨o, h⟩) | ⟨o, its, n, h1, h2, _⟩
  · exact .base (.tup h)
  · exact .fTuple h
  · exact .kTuple h1 h2
theorem tyX_L {K : PySem.W.Frag} {H : Hp} {a : Addr} {xs : List V} (h : SqL K H a xs) : TyX K H (.ref a) (.type "list") := by
  rcases h with (h | ⟨o, h⟩) | ⟨o, its, n, h1, h2, _⟩
  · exact .base (.lst h)
  · exact .base (.frz h)
  · exact .kList h1 h2
def spAlike (K : PySem.W.Frag) (n : Nat) : Sp := fun vs H Q _ => ∃ x y : V, vs = [x, y] ∧ Alike K H n x y ∧ ∀ H', Same H H' → Q (.bl true) H'
theorem Alike.two {K : PySem.W.Frag} {H : Hp} {n : Nat} {x y : V} (h : Alike K H n x y) : (x = y ∧ scalV x) ∨ ∃ (m : Nat) (a b : Addr) (xs ys : List V), n = m + 1 ∧ x = .ref a ∧ y = .ref b ∧ ((SqT K H a xs ∧ SqT K H b ys) ∨ (SqL K H a xs ∧ SqL K H b ys)) ∧ xs.length = ys.length ∧ ys.length ≤ 1000000 ∧
    ∀ (i : Nat) (u v : V), xs[i]? = some u → ys[i]? = some v → Alike K H m u v := by
  cases n with
  | zero => exact .inl h
  | succ m =>
    rcases h with h | ⟨a, b, xs, ys, h⟩
    · exact .inl h
    · exact .inr ⟨m, a, b, xs, ys, rfl, h⟩
def spA (K : PySem.W.Frag) : Nat → Sp
  | 0 => fun _ _ _ _ => False
  | n + 1 => spAlike K n
theorem kitAnyS {K : PySem.W.Frag} {t : String} (h : t = "tuple" ∨ t = "list") : PySem.W.kitAny K (.type t) [.type "tuple", .type "list"] = some true := by
  rcases h with rfl | rfl
  · exact kitAny_cons (b := true) (kit_ty (by decide +kernel)) (fun z => nomatch z) fun _ => rfl
  · exact kitAny_cons (b := false) (kit_ty (by decide +kernel)) (fun _ => kitAny_cons (b := true) (kit_ty (by decide +kernel)) (fun z => nomatch z) fun _ => rfl) fun z => nomatch z
theorem atI_some {xs : List V} {i : Nat} (h : i < xs.length) : atI xs ((0 : Int) + (i : Int)) = some (xs[i]) := by
  rw [Int.zero_add]
  exact atI_nat (by simp [h])
structure Nm (mg : Str → Option Value) : Prop where
  isi : mg "isinstance" = none
  tup : mg "tuple" = none
  lst : mg "list" = none
  len : mg "len" = none
  rng : mg "range" = none
  bool : mg "bool" = none
  str : mg "str" = none
  int : mg "int" = none
def typName : V → String
  | .non => "NoneType"
  | .bl _ => "bool"
  | .int _ => "int"
  | _ => "str"
theorem scal_ty {K : PySem.W.Frag} {H : Hp} {x : V} (h : scalV x) : TyX K H x (.type (typName x)) := by
  cases x <;> first | exact h.elim | exact .base .non | exact .base (.bl _) | exact .base (.int _) | exact .base (.str _)
theorem kitAny2 {K : PySem.W.Frag} {t a b : String} (h1 : kitB t a = some false) (h2 : kitB t b = some false) : PySem.W.kitAny K (.type t) [.type a, .type b] = some false :=
  kitAny_cons (kit_ty h1) (fun _ => kitAny_cons (kit_ty h2) (fun _ => rfl) fun z => nomatch z) fun z => nomatch z
section
variable {P : Program} {w : World} {K : PySem.W.Frag} {mg : Str → Option Value} {base : Heap}
theorem scAlike : FnScope ["told", "due", "k"] ["told", "due"] (defScope sAlike) := ⟨rfl, rfl, rfl, by decide +kernel, rfl, by decide +kernel, by decide +kernel⟩
theorem ok_alike {f : Addr} {fd : FuncData} (F : Fun K "_law_alike" "_law_alike" sAlike f fd) (b : Binds K fd ["told", "due"] []) (g : mg "_law_alike" = some (.ref f)) (kp : PySem.W.keepIn K (.ref f) = true) (N : Nm mg) :
    ∀ n : Nat, FnOk P w K mg base CX0 n f fd ["told", "due"] (spA K n) := by
  intro n
  induction n with
  | zero => exact ⟨fun _ _ _ _ h => h.elim, fun _ _ _ _ _ _ _ _ _ _ _ _ _ h => h.elim⟩
  | succ n ih =>
    refine F.ok scAlike (fun vs H Q E h => ?_) (fun cdv A outer s H vs Q E hr h => ?_)
    · obtain ⟨x, y, rfl, _⟩ := h
      rfl
    · obtain ⟨x, y, rfl, hA, k⟩ := h
      refine ⟨_, pss_cons (ps_if (pt_val (pe_callB call_isiT (by rfl) N.isi (by decide +kernel) (pa_cons (pv 1) (pa_cons (pe_tup (pa_cons (pe_bltn (v := .ty "tuple") (by rfl) N.tup (by decide +kernel) rfl) (pa_cons (pe_bltn (v := .ty "list") (by rfl) N.lst (by decide +kernel) rfl) pa_nil))) pa_nil))))
          (pss_cons (ps_if (PW.pt (pw_or (pt_cmpR op_ne (pe_callB call_isi (by rfl) N.isi (by decide +kernel) (pa_cons (pv 0) (pa_cons (pe_bltn (v := .ty "tuple") (by rfl) N.tup (by decide +kernel) rfl) pa_nil))) (pe_callB call_isi (by rfl) N.isi (by decide +kernel) (pa_cons (pv 1) (pa_cons (pe_bltn (v := .ty "tuple") (by rfl) N.tup (by decide +kernel) rfl) pa_nil))) (nomark _))
              (pw_or1 (pt_cmpR op_ne (pe_callB call_isi (by rfl) N.isi (by decide +kernel) (pa_cons (pv 0) (pa_cons (pe_bltn (v := .ty "list") (by rfl) N.lst (by decide +kernel) rfl) pa_nil))) (pe_callB call_isi (by rfl) N.isi (by decide +kernel) (pa_cons (pv 1) (pa_cons (pe_bltn (v := .ty "list") (by rfl) N.lst (by decide +kernel) rfl) pa_nil))) (nomark _))))) (pss_one (ps_ret pe_bl)) pss_nil)
          (pss_cons (ps_if (pt_cmpR op_ne (pe_callB call_len_seq (by rfl) N.len PySem.boot_len (pa_cons (pv 0) pa_nil)) (pe_callB call_len_seq (by rfl) N.len PySem.boot_len (pa_cons (pv 1) pa_nil)) (nomark _)) (pss_one (ps_ret pe_bl)) pss_nil)
          (pss_cons (ps_for PassesOwn.never rfl (pi_range1 rfl N.rng (pa_cons (pe_callB call_len_seq (by rfl) N.len PySem.boot_len (pa_cons (pv 1) pa_nil)) pa_nil)) (pg_name (i := 2) scAlike.nd rfl (Or.inl rfl))
            (pss_one (ps_if (pt_not (pt_val (pe_call ih hr rfl g kp b .nil pass0 (pa_cons (pe_ix ix_seq (pv 0) (pv 2) (fun _ _ => rfl)) (pa_cons (pe_ix ix_seq (pv 1) (pv 2) (fun _ _ => rfl)) pa_nil))))) (pss_one (ps_ret pe_bl)) pss_nil)))
          (pss_one (ps_ret pe_bl))))) pss_nil)
        (pss_cons (ps_if (pt_cmpR op_isN (pv 1) pe_non (nomark _)) (pss_one (ps_ret (pe_cmpR op_isN (pv 0) pe_non (nomark _)))) pss_nil)
        (pss_cons (ps_if (pt_val (pe_callB call_isi (by rfl) N.isi (by decide +kernel) (pa_cons (pv 1) (pa_cons (pe_bltn (v := .ty "bool") (by rfl) N.bool (by decide +kernel) rfl) pa_nil)))) (pss_one (ps_ret (pe_and (pe_callB call_isi (by rfl) N.isi (by decide +kernel) (pa_cons (pv 0) (pa_cons (pe_bltn (v := .ty "bool") (by rfl) N.bool (by decide +kernel) rfl) pa_nil))) (pe_one (pe_cmpR op_eq (pv 0) (pv 1) (nomark _)))))) pss_nil)
        (pss_cons (ps_if (pt_val (pe_callB call_isi (by rfl) N.isi (by decide +kernel) (pa_cons (pv 1) (pa_cons (pe_bltn (v := .ty "str") (by rfl) N.str (by decide +kernel) rfl) pa_nil)))) (pss_one (ps_ret (pe_and (pe_callB call_isi (by rfl) N.isi (by decide +kernel) (pa_cons (pv 0) (pa_cons (pe_bltn (v := .ty "str") (by rfl) N.str (by decide +kernel) rfl) pa_nil))) (pe_one (pe_cmpR op_eq (pv 0) (pv 1) (nomark _)))))) pss_nil)
        (pss_one (ps_ret (pe_and (pe_callB call_isi (by rfl) N.isi (by decide +kernel) (pa_cons (pv 0) (pa_cons (pe_bltn (v := .ty "int") (by rfl) N.int (by decide +kernel) rfl) pa_nil)))
          (pe_and (pe_not (pe_callB call_isi (by rfl) N.isi (by decide +kernel) (pa_cons (pv 0) (pa_cons (pe_bltn (v := .ty "bool") (by rfl) N.bool (by decide +kernel) rfl) pa_nil)))) (pe_one (pe_cmpR op_eq (pv 0) (pv 1) (nomark _)))))))))), ?_⟩
      rcases hA.two with ⟨rfl, hs⟩ | ⟨m, a, c, xs, ys, rfl, rfl, rfl, hh, hl, h1, h2⟩
      · -- a scalar
        refine ⟨_, rfl, (by show 2 ≤ sizeLine; decide), fun p np => ?_⟩
        have sm : Same H (upd H p (.tup [.ty "tuple", .ty "list"])) := fun q o e => by
          rw [upd_ne (ne_of_none e np)]
          exact e
        have kk := k _ sm
        cases x with
        | non =>
          refine ⟨_, p, [.ty "tuple", .ty "list"], _, [.type "tuple", .type "list"], false, rfl, upd_same, .cons (.ty _) (.cons (.ty _) .nil), .base .non, kitAny2 (by decide +kernel) (by decide +kernel), false, rfl, iteF ?_⟩
          refine ⟨_, rfl, rfl, _, rfl, iteT ?_⟩
          exact ⟨_, rfl, rfl, kk⟩
        | bl z =>
          refine ⟨_, p, [.ty "tuple", .ty "list"], _, [.type "tuple", .type "list"], false, rfl, upd_same, .cons (.ty _) (.cons (.ty _) .nil), .base (.bl z), kitAny2 (by decide +kernel) (by decide +kernel), false, rfl, iteF ?_⟩
          refine ⟨_, rfl, rfl, _, rfl, iteF ?_⟩
          refine ⟨_, rfl, _, _, _, _, true, rfl, .ty _, .base (.bl z), kit_ty (by decide +kernel), true, rfl, iteT ?_⟩
          refine ⟨_, rfl, _, _, _, _, true, rfl, .ty _, .base (.bl z), kit_ty (by decide +kernel), true, rfl, ?_⟩
          refine iteT ⟨_, rfl, _, rfl, rfl, ?_⟩
          rw [decide_eq_true rfl]
          exact kk
        | int z =>
          refine ⟨_, p, [.ty "tuple", .ty "list"], _, [.type "tuple", .type "list"], false, rfl, upd_same, .cons (.ty _) (.cons (.ty _) .nil), .base (.int z), kitAny2 (by decide +kernel) (by decide +kernel), false, rfl, iteF ?_⟩
          refine ⟨_, rfl, rfl, _, rfl, iteF ?_⟩
          refine ⟨_, rfl, _, _, _, _, false, rfl, .ty _, .base (.int z), kit_ty (by decide +kernel), false, rfl, iteF ?_⟩
          refine ⟨_, rfl, _, _, _, _, false, rfl, .ty _, .base (.int z), kit_ty (by decide +kernel), false, rfl, iteF ?_⟩
          refine ⟨_, rfl, _, _, _, _, true, rfl, .ty _, .base (.int z), kit_ty (by decide +kernel), true, rfl, ?_⟩
          refine iteT ?_
          refine ⟨_, rfl, _, _, _, _, false, rfl, .ty _, .base (.int z), kit_ty (by decide +kernel), false, rfl, true, rfl, ?_⟩
          refine iteT ⟨_, rfl, _, rfl, rfl, ?_⟩
          rw [decide_eq_true rfl]
          exact kk
        | str z =>
          refine ⟨_, p, [.ty "tuple", .ty "list"], _, [.type "tuple", .type "list"], false, rfl, upd_same, .cons (.ty _) (.cons (.ty _) .nil), .base (.str z), kitAny2 (by decide +kernel) (by decide +kernel), false, rfl, iteF ?_⟩
          refine ⟨_, rfl, rfl, _, rfl, iteF ?_⟩
          refine ⟨_, rfl, _, _, _, _, false, rfl, .ty _, .base (.str z), kit_ty (by decide +kernel), false, rfl, iteF ?_⟩
          refine ⟨_, rfl, _, _, _, _, true, rfl, .ty _, .base (.str z), kit_ty (by decide +kernel), true, rfl, iteT ?_⟩
          refine ⟨_, rfl, _, _, _, _, true, rfl, .ty _, .base (.str z), kit_ty (by decide +kernel), true, rfl, ?_⟩
          refine iteT ⟨_, rfl, _, rfl, rfl, ?_⟩
          rw [decide_eq_true rfl]
          exact kk
        | byt _ => exact hs.elim
        | flt _ => exact hs.elim
        | ref _ => exact hs.elim
        | ty _ => exact hs.elim
      · -- a sequence
        refine ⟨_, rfl, (by show 2 ≤ sizeLine; decide), fun p np => ?_⟩
        have sm : Same H (upd H p (.tup [.ty "tuple", .ty "list"])) := fun q o e => by
          rw [upd_ne (ne_of_none e np)]
          exact e
        obtain ⟨t, ht, tA, tC⟩ : ∃ t : String, (t = "tuple" ∨ t = "list") ∧ TyX K (upd H p (.tup [.ty "tuple", .ty "list"])) (.ref a) (.type t) ∧ TyX K (upd H p (.tup [.ty "tuple", .ty "list"])) (.ref c) (.type t) := by
          rcases hh with ⟨p1, p2⟩ | ⟨p1, p2⟩
          · exact ⟨"tuple", .inl rfl, tyX_T (sqT_same sm p1), tyX_T (sqT_same sm p2)⟩
          · exact ⟨"list", .inr rfl, tyX_L (sm.seq p1), tyX_L (sm.seq p2)⟩
        refine ⟨_, p, [.ty "tuple", .ty "list"], _, [.type "tuple", .type "list"], true, rfl, upd_same, .cons (.ty _) (.cons (.ty _) .nil), tC, kitAnyS ht, true, rfl, iteT ?_⟩
        obtain ⟨b1, b2, k1, k2⟩ : ∃ b1 b2 : Bool, kitB t "tuple" = some b1 ∧ kitB t "list" = some b2 := by
          rcases ht with rfl | rfl
          · exact ⟨true, false, by decide +kernel, by decide +kernel⟩
          · exact ⟨false, true, by decide +kernel, by decide +kernel⟩
        refine ⟨_, rfl, _, _, _, _, b1, rfl, .ty _, tA, kit_ty k1, _, rfl, _, _, _, _, b1, rfl, .ty _, tC, kit_ty k1, rfl, _, rfl, ?_⟩
        rw [show (!decide (V.bl b1 = V.bl b1)) = false by simp]
        refine iteF ?_
        refine ⟨_, rfl, _, _, _, _, b2, rfl, .ty _, tA, kit_ty k2, _, rfl, _, _, _, _, b2, rfl, .ty _, tC, kit_ty k2, rfl, _, rfl, ?_⟩
        rw [show (!decide (V.bl b2 = V.bl b2)) = false by simp]
        refine iteF ?_
        have sq : ∀ H2, Same H H2 → (SqL K H2 a xs ∨ SqT K H2 a xs) ∧ (SqL K H2 c ys ∨ SqT K H2 c ys) := fun H2 s2 => by
          rcases hh with ⟨p1, p2⟩ | ⟨p1, p2⟩
          · exact ⟨.inr (sqT_same s2 p1), .inr (sqT_same s2 p2)⟩
          · exact ⟨.inl (s2.seq p1), .inl (s2.seq p2)⟩
        refine ⟨_, rfl, a, xs, rfl, (sq _ sm).1, _, rfl, c, ys, rfl, (sq _ sm).2, rfl, _, rfl, ?_⟩
        rw [hl, show (!decide (V.int (ys.length : Int) = V.int (ys.length : Int))) = false by simp]
        refine iteF ?_
        refine ⟨_, rfl, c, ys, rfl, (sq _ sm).2, _, rfl, (by omega), (by omega), ?_⟩
        refine for_range (n := ys.length) (fun i σ H2 => (∃ v, σ = [some (.ref a), some (.ref c), v]) ∧ Same H H2) ⟨⟨none, rfl⟩, sm⟩ ?_ ?_
        · rintro i σ H2 hi ⟨⟨v, rfl⟩, s2⟩
          have hix : i < xs.length := by omega
          have pick : ∀ (q : Addr) (zs : List V), (SqL K H2 q zs ∨ SqT K H2 q zs) → ∀ (hz : i < zs.length) (Q' : VK), Q' zs[i] H2 → rIx K (.ref q) (.int (0 + (i : Int))) H2 Q' := fun q zs hq hz Q' hQ => by
            rcases hq with hq | hq
            · exact .inl ⟨q, zs, _, _, rfl, rfl, hq, atI_some hz, hQ⟩
            · exact .inr (.inl ⟨q, zs, _, _, rfl, rfl, hq, atI_some hz, hQ⟩)
          have s2' := sq H2 s2
          refine ⟨_, rfl, _, rfl, pick a xs s2'.1 hix _ ⟨_, rfl, _, rfl, pick c ys s2'.2 hi _ ?_⟩⟩
          refine ⟨_, _, rfl, (h2 i _ _ (by simp [hix]) (by simp [hi])).same s2, fun H3 s3 => ⟨_, rfl, ?_⟩⟩
          refine iteF ?_
          exact ⟨⟨_, rfl⟩, s2.trans s3⟩
        · rintro σ H2 ⟨_, s2⟩
          exact k _ s2
end
end K0


set_option Elab.async false
set_option linter.all false
set_option maxRecDepth 100000
set_option maxHeartbeats 4000000
namespace K0
open PySem L2
def spText : Sp := fun vs H Q _ => ∃ (b c : Addr) (ns : List Int), vs = [.ref b] ∧ BoxAt H b c ns ∧ ∀ (z : Str) (H' : Hp), BoxAt H' b c ns → But b H H' → Q (.str z) H'
section
variable {P : Program} {w : World} {K : PySem.W.Frag} {mg : Str → Option Value} {base : Heap}
theorem scText : FnScope ["box", "signs", "k"] ["box"] (defScope sText) := ⟨rfl, rfl, rfl, by decide +kernel, rfl, by decide +kernel, by decide +kernel⟩
theorem ok_text {f fD : Addr} {fd fdD : FuncData} (F : Fun K "_law_text" "_law_text" sText f fd) (GD : FnOk P w K mg base CX0 2 fD fdD ["box", "many"] spDraw) (bD : Binds K fdD ["box", "many"] []) (gD : mg "_law_draw" = some (.ref fD)) (kD : PySem.W.keepIn K (.ref fD) = true)
    (N : Nm mg) : FnOk P w K mg base CX0 3 f fd ["box"] spText := by
  refine F.ok scText (fun vs H Q E h => ?_) (fun cdv A outer s H vs Q E hr h => ?_)
  · obtain ⟨b, c, ns, rfl, _⟩ := h
    rfl
  · obtain ⟨b, c, ns, rfl, hB, k⟩ := h
    refine ⟨_, pss_cons (ps_if (pt_cmpR op_eq (pe_call GD hr rfl gD kD bD .nil pass0 (pa_cons (pv 0) (pa_cons pe_int pa_nil))) pe_int (nomark _))
        (pss_one (ps_ret (pe_ix ix_list (pe_lst (pa_cons pe_str (pa_cons pe_str (pa_cons pe_str (pa_cons pe_str (pa_cons pe_str (pa_cons pe_str (pa_cons pe_str (pa_cons pe_str pa_nil)))))))))
          (pe_call GD hr rfl gD kD bD .nil pass0 (pa_cons (pv 0) (pa_cons pe_int pa_nil))) (fun _ _ => rfl)))) pss_nil)
      (pss_cons (ps_set (i := 1) scText.nd rfl (Or.inr rfl) pe_str)
      (pss_one (ps_ret (pe_join pe_str
        (pe_lc (own := [("k", 2)]) (g := gName 2) (tt := tYes) rfl scText.nd (pi_range1 rfl N.rng (pa_cons (pe_op op_add pe_int (pe_call GD hr rfl gD kD bD .nil pass0 (pa_cons (pv 0) (pa_cons pe_int pa_nil)))) pa_nil))
          (blkOk_by (N := ["box", "signs", "k"]) (sc := defScope sText) (by decide +kernel)) (fun _ _ _ _ _ => pg_name (i := 2) scText.nd rfl (Or.inl rfl)) (fun _ _ _ _ _ => pts_nil)
          (fun _ _ _ _ _ => pe_ix ix_str (pv 1) (pe_call GD hr rfl gD kD bD .nil pass0 (pa_cons (pv 0) (pa_cons pe_int pa_nil))) (fun _ _ => rfl))))))), ?_⟩
    refine ⟨_, rfl, b, c, ns, _, rfl, by decide, by decide, hB, fun r H1 h0 h1 B1 k1 => ⟨rfl, _, rfl, ?_⟩⟩
    refine ite2 (fun _ => ?_) (fun _ => ?_)
    · refine ⟨by show 8 ≤ sizeLine; decide, fun p np => ?_⟩
      have k2 : But b H (upd H1 p (.lst [.str "rows", .str "terms", .str "tokens", .str "sets", .str "key", .str "a1", .str "", .str "sold"])) := k1.same fun q o e => by
        rw [upd_ne (ne_of_none e np)]
        exact e
      have B2 : BoxAt (upd H1 p (.lst [.str "rows", .str "terms", .str "tokens", .str "sets", .str "key", .str "a1", .str "", .str "sold"])) b c ns := B1.same fun q o e => by
        rw [upd_ne (ne_of_none e np)]
        exact e
      obtain ⟨d0, d1, at_, s', m, _, hb⟩ := id B1.lst
      have pb : p ≠ b := Ne.symm (ne_of_none hb np)
      refine ⟨_, rfl, b, c, ns, _, rfl, by decide, by decide, B2, fun r2 H3 h2 h3 B3 k3 => ?_⟩
      obtain ⟨j, rfl⟩ := Int.eq_ofNat_of_zero_le h2
      have hj : j < 8 := by omega
      have pick : ∀ j : Nat, j < 8 → ∃ z : Str, ([.str "rows", .str "terms", .str "tokens", .str "sets", .str "key", .str "a1", .str "", .str "sold"] : List V)[j]? = some (.str z) := by
        intro j hj
        match j, hj with
        | 0, _ => exact ⟨_, rfl⟩
        | 1, _ => exact ⟨_, rfl⟩
        | 2, _ => exact ⟨_, rfl⟩
        | 3, _ => exact ⟨_, rfl⟩
        | 4, _ => exact ⟨_, rfl⟩
        | 5, _ => exact ⟨_, rfl⟩
        | 6, _ => exact ⟨_, rfl⟩
        | 7, _ => exact ⟨_, rfl⟩
        | n + 8, h => omega
      obtain ⟨z, hz⟩ := pick j hj
      exact ⟨p, _, _, _, rfl, rfl, SqL.of (k3 _ _ upd_same pb), atI_nat hz, k z H3 B3 (k2.trans k3)⟩
    · refine ⟨⟨_, rfl⟩, _, rfl, b, c, ns, _, rfl, by decide, by decide, B1, fun r2 H2 h2 h3 B2 k2 => ⟨_, _, rfl, rfl, _, rfl, by omega, by omega, fun D nD => ?_⟩⟩
      obtain ⟨d0, d1, at_, s', m, _, hb⟩ := id B2.lst
      have Db : D ≠ b := Ne.symm (ne_of_none hb nD)
      have k12 := k1.trans k2
      refine lc_range (lo := 0) (n := (1 + r2).toNat) (fun i H3 => BoxAt H3 b c ns ∧ But b H H3 ∧ ∃ ys : List Str, H3 D = some (.lst (ys.map V.str)) ∧ ys.length = i ∧ (ys.map (·.length)).sum = i)
        ⟨B2.same fun q o e => ?_, k12.same fun q o e => ?_, [], upd_same, rfl, rfl⟩ ?_ ?_
      · rw [upd_ne (ne_of_none e nD)]
        exact e
      · rw [upd_ne (ne_of_none e nD)]
        exact e
      · rintro i H3 hi ⟨B3, k3, ys, hD, hl, hs⟩
        refine ⟨rfl, _, rfl, _, rfl, b, c, ns, _, rfl, by decide, by decide, B3, fun r4 H4 h4 h5 B4 k4 => ?_⟩
        obtain ⟨j, rfl⟩ := Int.eq_ofNat_of_zero_le h4
        have len37 : (Str.cps "abcdefghijklmnopqrstuvwxyz 0123456789").toList.length = 37 := by decide +kernel
        have hj : j < (Str.cps "abcdefghijklmnopqrstuvwxyz 0123456789").toList.length := by omega
        refine ⟨_, _, _, rfl, rfl, by decide +kernel, atI_nat (List.getElem?_eq_getElem hj), (ys.map V.str), k4 _ _ hD Db, small1000 (by rw [List.length_map]; omega), ?_⟩
        have nD4 : b ≠ D := Ne.symm Db
        refine ⟨?_, fun q o e nq => ?_, ys ++ [⟨#[(Str.cps "abcdefghijklmnopqrstuvwxyz 0123456789").toList[j]]⟩], ?_, ?_, ?_⟩
        · obtain ⟨x0, x1, x2, x3, x4, y1, y2⟩ := B4.lst
          refine ⟨⟨x0, x1, x2, x3, x4, y1, by rw [upd_ne nD4]; exact y2⟩, ?_, B4.len⟩
          rw [upd_ne ?_]
          · exact B4.cells
          · exact ne_of_none B2.cells nD
        · rw [upd_ne (fun z => ?_)]
          · exact k4 _ _ (k3 _ _ e nq) nq
          · have e2 := k12 _ _ e nq
            rw [z, nD] at e2
            cases e2
        · rw [upd_same, List.map_append]
          rfl
        · rw [List.length_append, hl]
          rfl
        · rw [List.map_append, List.sum_append, hs]
          rfl
      · rintro H3 ⟨B3, k3, ys, hD, hl, hs⟩
        refine ⟨_, D, ys, rfl, rfl, .inl (SqL.of hD), ?_, k _ H3 B3 k3⟩
        rw [hs, show Str.length "" = 0 from rfl]
        omega
end
end K0


set_option Elab.async false
set_option linter.all false
set_option maxRecDepth 100000
set_option maxHeartbeats 4000000
namespace K0
open PySem L2 PySem.ExE
/-- one of the eight classes -/
structure Cl (K : PySem.W.Frag) (mg : Str → Option Value) (T : Addr) (x f : Str) (C fI : Addr) : Prop where
  E : EC K C T f fI
  mks : Makes K C f
  g : mg x = some (.ref C)
structure Txt (K : PySem.W.Frag) (mg : Str → Option Value) (T c0 c1 c2 c3 c4 c5 c6 c7 : Addr) (fi : Nat → Addr) : Prop where
  l0 : Cl K mg T "BadValue" "at" c0 (fi 0)
  l1 : Cl K mg T "BadProgram" "at" c1 (fi 1)
  l2 : Cl K mg T "BadRecord" "at" c2 (fi 2)
  l3 : Cl K mg T "BadPaper" "at" c3 (fi 3)
  l4 : Cl K mg T "BadLine" "at" c4 (fi 4)
  l5 : Cl K mg T "TooMany" "word" c5 (fi 5)
  l6 : Cl K mg T "NothingThere" "name" c6 (fi 6)
  l7 : Cl K mg T "Unlike" "name" c7 (fi 7)
  nd : [T, c0, c1, c2, c3, c4, c5, c6, c7].Nodup
  isT : (PySem.W.clsIn K T).isSome = true
  tT : PySem.W.typeIn K (.ref T) = some (.type "type")
  gT : mg "TraceError" = some (.ref T)
  exT : PySem.W.subIn K (.ref T) (.type "BaseException") = some true
  hdT : PySem.W.hasDictIn K T = true
  hc : HasCls K
  N : Nm mg
  exc : mg "Exception" = none
  ve : mg "ValueError" = none
theorem eat_same {H H' : Hp} {C e : Addr} {f : Str} {v : V} (s : Same H H') (h : EAt H C f e v) : EAt H' C f e v := h.keep fun b o q _ => s b o q
section
variable {P : Program} {w : World} {K : PySem.W.Frag} {mg : Str → Option Value} {base : Heap} {T c0 c1 c2 c3 c4 c5 c6 c7 : Addr} {fi : Nat → Addr}
theorem Txt.each (X : Txt K mg T c0 c1 c2 c3 c4 c5 c6 c7 fi) : ∀ D ∈ [c0, c1, c2, c3, c4, c5, c6, c7], (PySem.W.clsIn K D).isSome = true ∧ PySem.W.typeIn K (.ref D) = some (.type "type") := by
  intro D hD
  simp only [List.mem_cons, List.not_mem_nil, or_false] at hD
  rcases hD with rfl | rfl | rfl | rfl | rfl | rfl | rfl | rfl
  · exact ⟨X.l0.E.isCls, X.l0.E.tyC⟩
  · exact ⟨X.l1.E.isCls, X.l1.E.tyC⟩
  · exact ⟨X.l2.E.isCls, X.l2.E.tyC⟩
  · exact ⟨X.l3.E.isCls, X.l3.E.tyC⟩
  · exact ⟨X.l4.E.isCls, X.l4.E.tyC⟩
  · exact ⟨X.l5.E.isCls, X.l5.E.tyC⟩
  · exact ⟨X.l6.E.isCls, X.l6.E.tyC⟩
  · exact ⟨X.l7.E.isCls, X.l7.E.tyC⟩
theorem Txt.sub (X : Txt K mg T c0 c1 c2 c3 c4 c5 c6 c7 fi) {j : Nat} {C fI : Addr} {f : Str} (hj : [c0, c1, c2, c3, c4, c5, c6, c7][j]? = some C) (E : EC K C T f fI) {i : Nat} {D : Addr} (hi : [c0, c1, c2, c3, c4, c5, c6, c7][i]? = some D) :
    PySem.W.subIn K (.ref C) (.ref D) = some (decide (i = j)) := by
  have nd2 : [c0, c1, c2, c3, c4, c5, c6, c7].Nodup := (List.nodup_cons.mp X.nd).2
  have nT : T ∉ [c0, c1, c2, c3, c4, c5, c6, c7] := (List.nodup_cons.mp X.nd).1
  by_cases e : i = j
  · subst e
    rw [hj] at hi
    cases hi
    rw [decide_eq_true rfl]
    exact E.self
  · rw [decide_eq_false e]
    refine E.other (fun z => e ?_) (fun z => nT ?_)
    · subst z
      exact nd_ix nd2 hi hj
    · subst z
      exact List.mem_of_getElem? hi
theorem Txt.kit (X : Txt K mg T c0 c1 c2 c3 c4 c5 c6 c7 fi) {j : Nat} {C fI : Addr} {f : Str} (hj : [c0, c1, c2, c3, c4, c5, c6, c7][j]? = some C) (E : EC K C T f fI) {i : Nat} {D : Addr} (hi : [c0, c1, c2, c3, c4, c5, c6, c7][i]? = some D) :
    PySem.W.kitOne K (.ref C) (.ref D) = some (decide (i = j)) := by
  have h := X.sub hj E hi
  obtain ⟨h1, h2⟩ := X.each D (List.mem_of_getElem? hi)
  by_cases e : D = C
  · have nd2 : [c0, c1, c2, c3, c4, c5, c6, c7].Nodup := (List.nodup_cons.mp X.nd).2
    subst e
    rw [nd_ix nd2 hi hj, decide_eq_true rfl]
    exact kit_self
  · exact kit_own E h1 h2 h e
theorem Txt.kitT (X : Txt K mg T c0 c1 c2 c3 c4 c5 c6 c7 fi) {j : Nat} {C fI : Addr} {f : Str} (hj : [c0, c1, c2, c3, c4, c5, c6, c7][j]? = some C) (E : EC K C T f fI) : PySem.W.kitOne K (.ref C) (.ref T) = some true := by
  have nT : T ∉ [c0, c1, c2, c3, c4, c5, c6, c7] := (List.nodup_cons.mp X.nd).1
  refine kit_own E X.isT X.tT E.base fun z => nT ?_
  subst z
  exact List.mem_of_getElem? hj
def spAlone (K : PySem.W.Frag) (T : Addr) (cs : List Addr) : Sp := fun vs H Q _ => ∃ (e C fI : Addr) (j : Nat) (f : Str) (v : V), vs = [.ref e, .int (j : Int)] ∧ cs[j]? = some C ∧ EC K C T f fI ∧ EAt H C f e v ∧ ∀ H', Same H H' → Q (.bl true) H'
theorem scAlone : FnScope ["e", "kind", "kinds", "k"] ["e", "kind"] (defScope sAlone) := ⟨rfl, rfl, rfl, by decide +kernel, rfl, by decide +kernel, by decide +kernel⟩
theorem same_new {H : Hp} {p : Addr} {o : HO} (np : H p = none) : Same H (upd H p o) := fun q u e => by
  rw [upd_ne (ne_of_none e np)]
  exact e
theorem ok_alone {f : Addr} {fd : FuncData} (F : Fun K "_law_alone" "_law_alone" sAlone f fd) (X : Txt K mg T c0 c1 c2 c3 c4 c5 c6 c7 fi) : FnOk P w K mg base CX0 1 f fd ["e", "kind"] (spAlone K T [c0, c1, c2, c3, c4, c5, c6, c7]) := by
  refine F.ok scAlone (fun vs H Q E h => ?_) (fun cdv A outer s H vs Q E hr h => ?_)
  · obtain ⟨e, C, fI, j, f, v, rfl, _⟩ := h
    rfl
  · obtain ⟨e, C, fI, j, f, v, rfl, hj, Ec, ea, k⟩ := h
    refine ⟨_, pss_cons (ps_set (i := 2) scAlone.nd rfl (Or.inl rfl) (pe_lst
          (pa_cons (pe_callB (call_isV X.hc) (by rfl) X.N.isi (by decide +kernel) (pa_cons (pv 0) (pa_cons (pe_glob (v := .ref _) rfl X.l0.g rfl) pa_nil)))
          (pa_cons (pe_callB (call_isV X.hc) (by rfl) X.N.isi (by decide +kernel) (pa_cons (pv 0) (pa_cons (pe_glob (v := .ref _) rfl X.l1.g rfl) pa_nil)))
          (pa_cons (pe_callB (call_isV X.hc) (by rfl) X.N.isi (by decide +kernel) (pa_cons (pv 0) (pa_cons (pe_glob (v := .ref _) rfl X.l2.g rfl) pa_nil)))
          (pa_cons (pe_callB (call_isV X.hc) (by rfl) X.N.isi (by decide +kernel) (pa_cons (pv 0) (pa_cons (pe_glob (v := .ref _) rfl X.l3.g rfl) pa_nil))) pa_nil))))))
      (pss_cons (ps_set (i := 2) scAlone.nd rfl (Or.inl rfl) (pe_op op_cat (pv 2) (pe_lst
          (pa_cons (pe_callB (call_isV X.hc) (by rfl) X.N.isi (by decide +kernel) (pa_cons (pv 0) (pa_cons (pe_glob (v := .ref _) rfl X.l4.g rfl) pa_nil)))
          (pa_cons (pe_callB (call_isV X.hc) (by rfl) X.N.isi (by decide +kernel) (pa_cons (pv 0) (pa_cons (pe_glob (v := .ref _) rfl X.l5.g rfl) pa_nil)))
          (pa_cons (pe_callB (call_isV X.hc) (by rfl) X.N.isi (by decide +kernel) (pa_cons (pv 0) (pa_cons (pe_glob (v := .ref _) rfl X.l6.g rfl) pa_nil)))
          (pa_cons (pe_callB (call_isV X.hc) (by rfl) X.N.isi (by decide +kernel) (pa_cons (pv 0) (pa_cons (pe_glob (v := .ref _) rfl X.l7.g rfl) pa_nil))) pa_nil)))))))
      (pss_cons (ps_for PassesOwn.never rfl (pi_range1 rfl X.N.rng (pa_cons pe_int pa_nil)) (pg_name (i := 3) scAlone.nd rfl (Or.inl rfl))
        (pss_one (ps_if (pt_cmpR op_ne (pe_ix ix_list (pv 2) (pv 3) (fun _ _ => rfl)) (pe_cmpR op_eq (pv 3) (pv 1) (nomark _)) (nomark _)) (pss_one (ps_ret pe_bl)) pss_nil)))
      (pss_one (ps_ret (pe_and (pe_callB (call_isV X.hc) (by rfl) X.N.isi (by decide +kernel) (pa_cons (pv 0) (pa_cons (pe_glob (v := .ref _) rfl X.gT rfl) pa_nil)))
        (pe_and (pe_callB (call_isV X.hc) (by rfl) X.N.isi (by decide +kernel) (pa_cons (pv 0) (pa_cons (pe_bltn (v := .ty "Exception") (by rfl) X.exc (by decide +kernel) rfl) pa_nil)))
          (pe_one (pe_not (pe_callB (call_isV X.hc) (by rfl) X.N.isi (by decide +kernel) (pa_cons (pv 0) (pa_cons (pe_bltn (v := .ty "ValueError") (by rfl) X.ve (by decide +kernel) rfl) pa_nil))))))))))), ?_⟩
    refine ⟨_, rfl, e, C, T, fI, f, v, _, _, _, rfl, .own _, Ec, eat_same (Same.refl _) ea, X.kit hj Ec (i := 0) rfl, _, rfl, e, C, T, fI, f, v, _, _, _, rfl, .own _, Ec, eat_same (Same.refl _) ea, X.kit hj Ec (i := 1) rfl, _, rfl, e, C, T, fI, f, v, _, _, _, rfl, .own _, Ec, eat_same (Same.refl _) ea, X.kit hj Ec (i := 2) rfl, _, rfl, e, C, T, fI, f, v, _, _, _, rfl, .own _, Ec, eat_same (Same.refl _) ea, X.kit hj Ec (i := 3) rfl, (by show 4 ≤ sizeLine; decide), fun p np => ?_⟩
    have s1 := same_new (o := .lst [.bl (decide (0 = j)), .bl (decide (1 = j)), .bl (decide (2 = j)), .bl (decide (3 = j))]) np
    refine ⟨_, rfl, _, rfl, e, C, T, fI, f, v, _, _, _, rfl, .own _, Ec, eat_same s1 ea, X.kit hj Ec (i := 4) rfl, _, rfl, e, C, T, fI, f, v, _, _, _, rfl, .own _, Ec, eat_same s1 ea, X.kit hj Ec (i := 5) rfl, _, rfl, e, C, T, fI, f, v, _, _, _, rfl, .own _, Ec, eat_same s1 ea, X.kit hj Ec (i := 6) rfl, _, rfl, e, C, T, fI, f, v, _, _, _, rfl, .own _, Ec, eat_same s1 ea, X.kit hj Ec (i := 7) rfl, (by show 4 ≤ sizeLine; decide), fun q nq => ?_⟩
    have pq : p ≠ q := ne_of_none upd_same nq
    refine ⟨p, q, _, _, rfl, rfl, (by rw [upd_ne pq]; exact upd_same), upd_same, (by show 4 + 4 ≤ sizeLine; decide), fun r nr => ?_⟩
    have s2 := s1.trans (same_new (o := .lst [.bl (decide (4 = j)), .bl (decide (5 = j)), .bl (decide (6 = j)), .bl (decide (7 = j))]) nq)
    have s3 := s2.trans (same_new (o := .lst ([.bl (decide (0 = j)), .bl (decide (1 = j)), .bl (decide (2 = j)), .bl (decide (3 = j))] ++ [.bl (decide (4 = j)), .bl (decide (5 = j)), .bl (decide (6 = j)), .bl (decide (7 = j))])) nr)
    refine ⟨8, rfl, by decide, by decide, ?_⟩
    refine for_range (lo := 0) (n := 8) (fun i σ H2 => (∃ v2, σ = [some (.ref e), some (.int (j : Int)), some (.ref r), v2]) ∧ Same H H2 ∧ H2 r = some (.lst ([.bl (decide (0 = j)), .bl (decide (1 = j)), .bl (decide (2 = j)), .bl (decide (3 = j))] ++ [.bl (decide (4 = j)), .bl (decide (5 = j)), .bl (decide (6 = j)), .bl (decide (7 = j))])))
      ⟨⟨_, rfl⟩, s3, upd_same⟩ ?_ ?_
    · rintro i σ H2 hi ⟨⟨v2, rfl⟩, sH, hr2⟩
      have pick : ([.bl (decide (0 = j)), .bl (decide (1 = j)), .bl (decide (2 = j)), .bl (decide (3 = j))] ++ [.bl (decide (4 = j)), .bl (decide (5 = j)), .bl (decide (6 = j)), .bl (decide (7 = j))] : List V)[i]? = some (.bl (decide (i = j))) := by
        match i, hi with
        | 0, _ => rfl
        | 1, _ => rfl
        | 2, _ => rfl
        | 3, _ => rfl
        | 4, _ => rfl
        | 5, _ => rfl
        | 6, _ => rfl
        | 7, _ => rfl
        | n + 8, h => omega
      refine ⟨_, rfl, _, rfl, r, _, _, _, rfl, rfl, SqL.of hr2, (by rw [Int.zero_add]; exact atI_nat pick), _, rfl, _, rfl, rfl, rfl, _, rfl, ?_⟩
      have eb : (decide (V.int (0 + (i : Int)) = V.int (j : Int))) = decide (i = j) := by
        by_cases z : i = j
        · subst z
          simp
        · rw [decide_eq_false z, decide_eq_false]
          intro q
          injection q with q1
          omega
      rw [eb, show (!decide (V.bl (decide (i = j)) = V.bl (decide (i = j)))) = false by simp]
      exact iteF ⟨⟨_, rfl⟩, sH, hr2⟩
    · rintro σ H2 ⟨⟨v2, rfl⟩, sH, hr2⟩
      have ea2 := eat_same sH ea
      refine ⟨_, rfl, ⟨e, C, T, fI, f, v, _, _, true, rfl, .own _, Ec, ea2, X.kitT hj Ec, _, rfl, iteT ?_⟩⟩
      refine ⟨_, rfl, ⟨e, C, T, fI, f, v, _, _, true, rfl, .ty _, Ec, ea2, kit_bi Ec (by decide +kernel) (Ec.has (by decide)), _, rfl, iteT ?_⟩⟩
      refine ⟨_, rfl, ⟨e, C, T, fI, f, v, _, _, false, rfl, .ty _, Ec, ea2, kit_bi Ec (by decide +kernel) (Ec.lacks (by decide)), _, rfl, ?_⟩⟩
      exact k H2 sH
end
end K0


set_option Elab.async false
set_option linter.all false
set_option maxRecDepth 100000
set_option maxHeartbeats 8000000
namespace K0
open PySem L2 PySem.ExE
theorem made_step {H : Hp} {C d e : Addr} {f : Str} {v : V} (nd : H d = none) (ne : H e = none) (ned : e ≠ d) : Same H (upd (upd H d (.xd [(f, v)])) e (exo e C (some d))) ∧ EAt (upd (upd H d (.xd [(f, v)])) e (exo e C (some d))) C f e v :=
  ⟨(same_new nd).trans (same_new (by rw [upd_ne ned]; exact ne)), d, upd_same, by rw [upd_ne (Ne.symm ned)]; exact upd_same⟩
theorem alike_pair {K : PySem.W.Frag} {H : Hp} {p q : Addr} {xs : List V} (hp : SqT K H p xs) (hq : SqT K H q xs) (hs : ∀ x ∈ xs, scalV x) (hl : xs.length ≤ 1000000) : Alike K H 1 (.ref p) (.ref q) :=
  .inr ⟨p, q, xs, xs, rfl, rfl, .inl ⟨hp, hq⟩, rfl, hl, fun i u v e1 e2 => by
    rw [e1] at e2
    cases e2
    exact ⟨rfl, hs _ (List.mem_of_getElem? e1)⟩⟩
def spNum : Sp := fun vs H Q _ => ∃ a b : Int, vs = [.int a, .int b] ∧ ∀ H', Same H H' → Q (.bl true) H'
/-- the exceptions es, of the classes cs -/
def Es (K : PySem.W.Frag) (T : Addr) (cs : List Addr) (H : Hp) (f : Str) (es : List Addr) (v : V) : Prop := ∀ (i : Nat) (e : Addr), es[i]? = some e → ∃ C fI, cs[i]? = some C ∧ EC K C T f fI ∧ EAt H C f e v
section
variable {P : Program} {w : World} {K : PySem.W.Frag} {mg : Str → Option Value} {base : Heap} {T c0 c1 c2 c3 c4 c5 c6 c7 : Addr} {fi : Nat → Addr}
theorem es_at (X : Txt K mg T c0 c1 c2 c3 c4 c5 c6 c7 fi) {H : Hp} {e0 e1 e2 e3 e4 : Addr} {v : V} (h0 : EAt H c0 "at" e0 v) (h1 : EAt H c1 "at" e1 v) (h2 : EAt H c2 "at" e2 v) (h3 : EAt H c3 "at" e3 v) (h4 : EAt H c4 "at" e4 v) :
    Es K T [c0, c1, c2, c3, c4, c5, c6, c7] H "at" [e0, e1, e2, e3, e4] v := by
  intro i e hi
  match i, hi with
  | 0, hi => cases hi; exact ⟨_, _, rfl, X.l0.E, h0⟩
  | 1, hi => cases hi; exact ⟨_, _, rfl, X.l1.E, h1⟩
  | 2, hi => cases hi; exact ⟨_, _, rfl, X.l2.E, h2⟩
  | 3, hi => cases hi; exact ⟨_, _, rfl, X.l3.E, h3⟩
  | 4, hi => cases hi; exact ⟨_, _, rfl, X.l4.E, h4⟩
  | n + 5, hi => cases hi
theorem scNum : FnScope ["at", "other", "first", "second", "k"] ["at", "other"] (defScope sNum) := ⟨rfl, rfl, rfl, by decide +kernel, rfl, by decide +kernel, by decide +kernel⟩
theorem ok_num {f fA fO : Addr} {fd fdA fdO : FuncData} (F : Fun K "_law_numbered" "_law_numbered" sNum f fd) (X : Txt K mg T c0 c1 c2 c3 c4 c5 c6 c7 fi)
    (GA : FnOk P w K mg base CX0 2 fA fdA ["told", "due"] (spA K 2)) (bA : Binds K fdA ["told", "due"] []) (gA : mg "_law_alike" = some (.ref fA)) (kA : PySem.W.keepIn K (.ref fA) = true)
    (GO : FnOk P w K mg base CX0 1 fO fdO ["e", "kind"] (spAlone K T [c0, c1, c2, c3, c4, c5, c6, c7])) (bO : Binds K fdO ["e", "kind"] []) (gO : mg "_law_alone" = some (.ref fO)) (kO : PySem.W.keepIn K (.ref fO) = true) :
    FnOk P w K mg base CX0 3 f fd ["at", "other"] spNum := by
  refine F.ok scNum (fun vs H Q E h => ?_) (fun cdv A outer s H vs Q E hr h => ?_)
  · obtain ⟨a, b, rfl, _⟩ := h
    rfl
  · obtain ⟨a, b, rfl, k⟩ := h
    refine ⟨_, pss_cons (ps_set (i := 2) scNum.nd rfl (Or.inl rfl) (pe_lst
          (pa_cons (pe_mk X.l0.E X.l0.mks X.l0.g hr (pa_cons (pv 0) pa_nil) rfl)
          (pa_cons (pe_mk X.l1.E X.l1.mks X.l1.g hr (pa_cons (pv 0) pa_nil) rfl)
          (pa_cons (pe_mk X.l2.E X.l2.mks X.l2.g hr (pa_cons (pv 0) pa_nil) rfl)
          (pa_cons (pe_mk X.l3.E X.l3.mks X.l3.g hr (pa_cons (pv 0) pa_nil) rfl)
          (pa_cons (pe_mk X.l4.E X.l4.mks X.l4.g hr (pa_cons (pv 0) pa_nil) rfl) pa_nil)))))))
      (pss_cons (ps_set (i := 3) scNum.nd rfl (Or.inl rfl) (pe_lst
          (pa_cons (pe_mk X.l0.E X.l0.mks X.l0.g hr (pa_cons (pv 1) pa_nil) rfl)
          (pa_cons (pe_mk X.l1.E X.l1.mks X.l1.g hr (pa_cons (pv 1) pa_nil) rfl)
          (pa_cons (pe_mk X.l2.E X.l2.mks X.l2.g hr (pa_cons (pv 1) pa_nil) rfl)
          (pa_cons (pe_mk X.l3.E X.l3.mks X.l3.g hr (pa_cons (pv 1) pa_nil) rfl)
          (pa_cons (pe_mk X.l4.E X.l4.mks X.l4.g hr (pa_cons (pv 1) pa_nil) rfl) pa_nil)))))))
      (pss_cons (ps_for PassesOwn.never rfl (pi_range1 rfl X.N.rng (pa_cons pe_int pa_nil)) (pg_name (i := 4) scNum.nd rfl (Or.inl rfl))
        (pss_one (ps_if (PW.pt (pw_or
            (pt_not (pt_val (pe_call GA hr rfl gA kA bA .nil pass0 (pa_cons (pe_tup (pa_cons (pe_fldE (pe_ix ix_list (pv 2) (pv 4) (fun _ _ => rfl))) (pa_cons (pe_fldE (pe_ix ix_list (pv 3) (pv 4) (fun _ _ => rfl))) pa_nil))) (pa_cons (pe_tup (pa_cons (pv 0) (pa_cons (pv 1) pa_nil))) pa_nil)))))
            (pw_or1 (pt_not (pt_val (pe_call GO (hr.mono (by decide)) rfl gO kO bO .nil pass0 (pa_cons (pe_ix ix_list (pv 2) (pv 4) (fun _ _ => rfl)) (pa_cons (pv 4) pa_nil)))))))) (pss_one (ps_ret pe_bl)) pss_nil)))
      (pss_one (ps_ret pe_bl)))), ?_⟩
    refine ⟨_, rfl, _, rfl, fun d0 e0 nd0 ne0 ned0 => ?_⟩
    obtain ⟨s0, a0⟩ := made_step (C := c0) (f := "at") (v := .int a) nd0 ne0 ned0
    generalize upd (upd H d0 (.xd [("at", .int a)])) e0 (exo e0 c0 (some d0)) = H0 at s0 a0 ⊢
    refine ⟨_, rfl, _, rfl, fun d1 e1 nd1 ne1 ned1 => ?_⟩
    obtain ⟨s1, a1⟩ := made_step (C := c1) (f := "at") (v := .int a) nd1 ne1 ned1
    generalize upd (upd H0 d1 (.xd [("at", .int a)])) e1 (exo e1 c1 (some d1)) = H1 at s1 a1 ⊢
    refine ⟨_, rfl, _, rfl, fun d2 e2 nd2 ne2 ned2 => ?_⟩
    obtain ⟨s2, a2⟩ := made_step (C := c2) (f := "at") (v := .int a) nd2 ne2 ned2
    generalize upd (upd H1 d2 (.xd [("at", .int a)])) e2 (exo e2 c2 (some d2)) = H2 at s2 a2 ⊢
    refine ⟨_, rfl, _, rfl, fun d3 e3 nd3 ne3 ned3 => ?_⟩
    obtain ⟨s3, a3⟩ := made_step (C := c3) (f := "at") (v := .int a) nd3 ne3 ned3
    generalize upd (upd H2 d3 (.xd [("at", .int a)])) e3 (exo e3 c3 (some d3)) = H3 at s3 a3 ⊢
    refine ⟨_, rfl, _, rfl, fun d4 e4 nd4 ne4 ned4 => ?_⟩
    obtain ⟨s4, a4⟩ := made_step (C := c4) (f := "at") (v := .int a) nd4 ne4 ned4
    generalize upd (upd H3 d4 (.xd [("at", .int a)])) e4 (exo e4 c4 (some d4)) = H4 at s4 a4 ⊢
    have es1 := es_at X (eat_same (s1.trans (s2.trans (s3.trans s4))) a0) (eat_same (s2.trans (s3.trans s4)) a1) (eat_same (s3.trans s4) a2) (eat_same s4 a3) a4
    have t4 : Same H H4 := s0.trans (s1.trans (s2.trans (s3.trans s4)))
    clear s0 s1 s2 s3 s4 a0 a1 a2 a3 a4 nd0 nd1 nd2 nd3 nd4 ne0 ne1 ne2 ne3 ne4 ned0 ned1 ned2 ned3 ned4
    refine ⟨by show 5 ≤ sizeLine; decide, fun p np => ?_⟩
    have t5 := t4.trans (same_new (o := .lst [.ref e0, .ref e1, .ref e2, .ref e3, .ref e4]) np)
    have hp5 : (upd H4 p (.lst [.ref e0, .ref e1, .ref e2, .ref e3, .ref e4])) p = some (.lst [.ref e0, .ref e1, .ref e2, .ref e3, .ref e4]) := upd_same
    have es5 : Es K T [c0, c1, c2, c3, c4, c5, c6, c7] (upd H4 p (.lst [.ref e0, .ref e1, .ref e2, .ref e3, .ref e4])) "at" [e0, e1, e2, e3, e4] (.int a) := fun i e hi => by
      obtain ⟨C, fI, h1, h2, h3⟩ := es1 i e hi
      exact ⟨C, fI, h1, h2, eat_same (same_new np) h3⟩
    generalize upd H4 p (.lst [.ref e0, .ref e1, .ref e2, .ref e3, .ref e4]) = H5 at t5 hp5 es5 ⊢
    clear es1 t4 np
    refine ⟨_, rfl, _, rfl, fun d0 g0 nd0 ne0 ned0 => ?_⟩
    obtain ⟨s0, a0⟩ := made_step (C := c0) (f := "at") (v := .int b) nd0 ne0 ned0
    generalize upd (upd H5 d0 (.xd [("at", .int b)])) g0 (exo g0 c0 (some d0)) = H6 at s0 a0 ⊢
    refine ⟨_, rfl, _, rfl, fun d1 g1 nd1 ne1 ned1 => ?_⟩
    obtain ⟨s1, a1⟩ := made_step (C := c1) (f := "at") (v := .int b) nd1 ne1 ned1
    generalize upd (upd H6 d1 (.xd [("at", .int b)])) g1 (exo g1 c1 (some d1)) = H7 at s1 a1 ⊢
    refine ⟨_, rfl, _, rfl, fun d2 g2 nd2 ne2 ned2 => ?_⟩
    obtain ⟨s2, a2⟩ := made_step (C := c2) (f := "at") (v := .int b) nd2 ne2 ned2
    generalize upd (upd H7 d2 (.xd [("at", .int b)])) g2 (exo g2 c2 (some d2)) = H8 at s2 a2 ⊢
    refine ⟨_, rfl, _, rfl, fun d3 g3 nd3 ne3 ned3 => ?_⟩
    obtain ⟨s3, a3⟩ := made_step (C := c3) (f := "at") (v := .int b) nd3 ne3 ned3
    generalize upd (upd H8 d3 (.xd [("at", .int b)])) g3 (exo g3 c3 (some d3)) = H9 at s3 a3 ⊢
    refine ⟨_, rfl, _, rfl, fun d4 g4 nd4 ne4 ned4 => ?_⟩
    obtain ⟨s4, a4⟩ := made_step (C := c4) (f := "at") (v := .int b) nd4 ne4 ned4
    generalize upd (upd H9 d4 (.xd [("at", .int b)])) g4 (exo g4 c4 (some d4)) = H10 at s4 a4 ⊢
    have es2 := es_at X (eat_same (s1.trans (s2.trans (s3.trans s4))) a0) (eat_same (s2.trans (s3.trans s4)) a1) (eat_same (s3.trans s4) a2) (eat_same s4 a3) a4
    have t10 : Same H5 H10 := s0.trans (s1.trans (s2.trans (s3.trans s4)))
    clear s0 s1 s2 s3 s4 a0 a1 a2 a3 a4 nd0 nd1 nd2 nd3 nd4 ne0 ne1 ne2 ne3 ne4 ned0 ned1 ned2 ned3 ned4
    refine ⟨by show 5 ≤ sizeLine; decide, fun q nq => ?_⟩
    have t11 := t10.trans (same_new (o := .lst [.ref g0, .ref g1, .ref g2, .ref g3, .ref g4]) nq)
    refine ⟨5, rfl, by decide, by decide, ?_⟩
    refine for_range (lo := 0) (n := 5) (fun i σ J => (∃ v2, σ = [some (.int a), some (.int b), some (.ref p), some (.ref q), v2]) ∧ Same H5 J ∧ Same H10 J ∧ J q = some (.lst [.ref g0, .ref g1, .ref g2, .ref g3, .ref g4]))
      ⟨⟨_, rfl⟩, t11, same_new nq, upd_same⟩ ?_ ?_
    · rintro i σ J hi ⟨⟨v2, rfl⟩, sJ, sJ2, hq⟩
      have hpJ := sJ _ _ hp5
      obtain ⟨e, he⟩ : ∃ e, ([e0, e1, e2, e3, e4] : List Addr)[i]? = some e := ⟨_, List.getElem?_eq_getElem (by show i < 5; exact hi)⟩
      obtain ⟨g, hg⟩ : ∃ g, ([g0, g1, g2, g3, g4] : List Addr)[i]? = some g := ⟨_, List.getElem?_eq_getElem (by show i < 5; exact hi)⟩
      have he' : atI ([.ref e0, .ref e1, .ref e2, .ref e3, .ref e4] : List V) (0 + (i : Int)) = some (.ref e) := by
        rw [Int.zero_add]
        exact atI_nat (by show (([e0, e1, e2, e3, e4] : List Addr).map V.ref)[i]? = _; rw [List.getElem?_map, he]; rfl)
      have hg' : atI ([.ref g0, .ref g1, .ref g2, .ref g3, .ref g4] : List V) (0 + (i : Int)) = some (.ref g) := by
        rw [Int.zero_add]
        exact atI_nat (by show (([g0, g1, g2, g3, g4] : List Addr).map V.ref)[i]? = _; rw [List.getElem?_map, hg]; rfl)
      obtain ⟨C, fI, hC, EC1, ea⟩ := es5 i e he
      obtain ⟨C', fI', hC', EC2, ga⟩ := es2 i g hg
      refine ⟨_, rfl, _, rfl, p, _, _, _, rfl, rfl, SqL.of hpJ, he', e, C, T, fI, _, rfl, EC1, eat_same sJ ea, ?_⟩
      refine ⟨_, rfl, _, rfl, q, _, _, _, rfl, rfl, SqL.of hq, hg', g, C', T, fI', _, rfl, EC2, eat_same sJ2 ga, (by show 2 ≤ sizeLine; decide), fun r nr => ?_⟩
      have sr := same_new (o := .tup [.int a, .int b]) nr
      refine ⟨_, rfl, _, rfl, (by show 2 ≤ sizeLine; decide), fun t nt => ?_⟩
      have st := same_new (o := .tup [.int a, .int b]) nt
      refine ⟨_, _, rfl, alike_pair (SqT.of (st _ _ upd_same)) (SqT.of upd_same) (fun x hx => ?_) (by show 2 ≤ 1000000; decide), fun J2 sj2 => ⟨_, rfl, iteF ?_⟩⟩
      · simp only [List.mem_cons, List.not_mem_nil, or_false] at hx
        rcases hx with rfl | rfl <;> trivial
      have s12 : Same J J2 := sr.trans (st.trans sj2)
      refine ⟨_, rfl, _, rfl, p, _, _, _, rfl, rfl, SqL.of (s12 _ _ hpJ), he', _, rfl, e, C, fI, i, "at", _, ?_, hC, EC1, eat_same (sJ.trans s12) ea, fun J3 sj3 => ⟨_, rfl, iteF ?_⟩⟩
      · show [V.ref e, V.int (0 + (i : Int))] = [V.ref e, V.int (i : Int)]
        rw [Int.zero_add]
      · have s13 := s12.trans sj3
        exact ⟨⟨_, rfl⟩, sJ.trans s13, sJ2.trans s13, s13 _ _ hq⟩
    · rintro σ J ⟨_, sJ, _⟩
      exact k J (t5.trans sJ)
end
end K0


set_option Elab.async false
set_option linter.all false
set_option maxRecDepth 100000
set_option maxHeartbeats 8000000
namespace K0
open PySem L2 PySem.ExE
def spWord : Sp := fun vs H Q _ => ∃ a b : Str, vs = [.str a, .str b] ∧ ∀ H', Same H H' → Q (.bl true) H'
section
variable {P : Program} {w : World} {K : PySem.W.Frag} {mg : Str → Option Value} {base : Heap} {T c0 c1 c2 c3 c4 c5 c6 c7 : Addr} {fi : Nat → Addr}
theorem scWord : FnScope ["word", "other", "many", "there", "unlike"] ["word", "other"] (defScope sWord) := ⟨rfl, rfl, rfl, by decide +kernel, rfl, by decide +kernel, by decide +kernel⟩
theorem ok_word {f fA fO : Addr} {fd fdA fdO : FuncData} (F : Fun K "_law_worded" "_law_worded" sWord f fd) (X : Txt K mg T c0 c1 c2 c3 c4 c5 c6 c7 fi)
    (GA : FnOk P w K mg base CX0 2 fA fdA ["told", "due"] (spA K 2)) (bA : Binds K fdA ["told", "due"] []) (gA : mg "_law_alike" = some (.ref fA)) (kA : PySem.W.keepIn K (.ref fA) = true)
    (GO : FnOk P w K mg base CX0 1 fO fdO ["e", "kind"] (spAlone K T [c0, c1, c2, c3, c4, c5, c6, c7])) (bO : Binds K fdO ["e", "kind"] []) (gO : mg "_law_alone" = some (.ref fO)) (kO : PySem.W.keepIn K (.ref fO) = true) :
    FnOk P w K mg base CX0 3 f fd ["word", "other"] spWord := by
  refine F.ok scWord (fun vs H Q E h => ?_) (fun cdv A outer s H vs Q E hr h => ?_)
  · obtain ⟨a, b, rfl, _⟩ := h
    rfl
  · obtain ⟨a, b, rfl, k⟩ := h
    have hr1 : Room 1 _ := hr.mono (by decide)
    refine ⟨_, pss_cons (ps_set (i := 2) scWord.nd rfl (Or.inl rfl) (pe_lst
          (pa_cons (pe_mk X.l5.E X.l5.mks X.l5.g hr (pa_cons (pv 0) pa_nil) rfl) (pa_cons (pe_mk X.l5.E X.l5.mks X.l5.g hr (pa_cons (pv 1) pa_nil) rfl) pa_nil))))
      (pss_cons (ps_set (i := 3) scWord.nd rfl (Or.inl rfl) (pe_lst
          (pa_cons (pe_mk X.l6.E X.l6.mks X.l6.g hr (pa_cons (pv 0) pa_nil) rfl) (pa_cons (pe_mk X.l6.E X.l6.mks X.l6.g hr (pa_cons (pv 1) pa_nil) rfl) pa_nil))))
      (pss_cons (ps_set (i := 4) scWord.nd rfl (Or.inl rfl) (pe_lst
          (pa_cons (pe_mk X.l7.E X.l7.mks X.l7.g hr (pa_cons (pv 0) pa_nil) rfl) (pa_cons (pe_mk X.l7.E X.l7.mks X.l7.g hr (pa_cons (pv 1) pa_nil) rfl) pa_nil))))
      (pss_cons (ps_if (pt_not (pt_val (pe_call GA hr rfl gA kA bA .nil pass0
          (pa_cons (pe_tup (pa_cons (pe_fldE (pe_ix ix_list (pv 2) pe_int (fun _ _ => rfl))) (pa_cons (pe_fldE (pe_ix ix_list (pv 3) pe_int (fun _ _ => rfl))) (pa_cons (pe_fldE (pe_ix ix_list (pv 4) pe_int (fun _ _ => rfl))) pa_nil))))
          (pa_cons (pe_tup (pa_cons (pv 0) (pa_cons (pv 0) (pa_cons (pv 0) pa_nil)))) pa_nil))))) (pss_one (ps_ret pe_bl)) pss_nil)
      (pss_cons (ps_if (pt_not (pt_val (pe_call GA hr rfl gA kA bA .nil pass0
          (pa_cons (pe_tup (pa_cons (pe_fldE (pe_ix ix_list (pv 2) pe_int (fun _ _ => rfl))) (pa_cons (pe_fldE (pe_ix ix_list (pv 3) pe_int (fun _ _ => rfl))) (pa_cons (pe_fldE (pe_ix ix_list (pv 4) pe_int (fun _ _ => rfl))) pa_nil))))
          (pa_cons (pe_tup (pa_cons (pv 1) (pa_cons (pv 1) (pa_cons (pv 1) pa_nil)))) pa_nil))))) (pss_one (ps_ret pe_bl)) pss_nil)
      (pss_one (ps_ret (pe_and (pe_call GO hr1 rfl gO kO bO .nil pass0 (pa_cons (pe_ix ix_list (pv 2) pe_int (fun _ _ => rfl)) (pa_cons pe_int pa_nil)))
        (pe_and (pe_call GO hr1 rfl gO kO bO .nil pass0 (pa_cons (pe_ix ix_list (pv 3) pe_int (fun _ _ => rfl)) (pa_cons pe_int pa_nil)))
          (pe_one (pe_call GO hr1 rfl gO kO bO .nil pass0 (pa_cons (pe_ix ix_list (pv 4) pe_int (fun _ _ => rfl)) (pa_cons pe_int pa_nil)))))))))))), ?_⟩
    have two : ∀ {p : Addr} {J : Hp} {x y : V}, J p = some (.lst [x, y]) → SqL K J p [x, y] := fun h => SqL.of h
    -- many
    refine ⟨_, rfl, _, rfl, fun d0 e0 nd ne ned => ?_⟩
    obtain ⟨s0, a0⟩ := made_step (C := c5) (f := "word") (v := .str a) nd ne ned
    generalize upd (upd H d0 (.xd [("word", .str a)])) e0 (exo e0 c5 (some d0)) = H0 at s0 a0 ⊢
    refine ⟨_, rfl, _, rfl, fun d1 e1 nd ne ned => ?_⟩
    obtain ⟨s1, a1⟩ := made_step (C := c5) (f := "word") (v := .str b) nd ne ned
    generalize upd (upd H0 d1 (.xd [("word", .str b)])) e1 (exo e1 c5 (some d1)) = H1 at s1 a1 ⊢
    refine ⟨by show 2 ≤ sizeLine; decide, fun p np => ?_⟩
    have s2 := same_new (o := .lst [.ref e0, .ref e1]) np
    have hp : (upd H1 p (.lst [.ref e0, .ref e1])) p = some (.lst [.ref e0, .ref e1]) := upd_same
    generalize upd H1 p (.lst [.ref e0, .ref e1]) = H2 at s2 hp ⊢
    -- there
    refine ⟨_, rfl, _, rfl, fun d2 e2 nd ne ned => ?_⟩
    obtain ⟨s3, a2⟩ := made_step (C := c6) (f := "name") (v := .str a) nd ne ned
    generalize upd (upd H2 d2 (.xd [("name", .str a)])) e2 (exo e2 c6 (some d2)) = H3 at s3 a2 ⊢
    refine ⟨_, rfl, _, rfl, fun d3 e3 nd ne ned => ?_⟩
    obtain ⟨s4, a3⟩ := made_step (C := c6) (f := "name") (v := .str b) nd ne ned
    generalize upd (upd H3 d3 (.xd [("name", .str b)])) e3 (exo e3 c6 (some d3)) = H4 at s4 a3 ⊢
    refine ⟨by show 2 ≤ sizeLine; decide, fun q nq => ?_⟩
    have s5 := same_new (o := .lst [.ref e2, .ref e3]) nq
    have hq : (upd H4 q (.lst [.ref e2, .ref e3])) q = some (.lst [.ref e2, .ref e3]) := upd_same
    generalize upd H4 q (.lst [.ref e2, .ref e3]) = H5 at s5 hq ⊢
    -- unlike
    refine ⟨_, rfl, _, rfl, fun d4 e4 nd ne ned => ?_⟩
    obtain ⟨s6, a4⟩ := made_step (C := c7) (f := "name") (v := .str a) nd ne ned
    generalize upd (upd H5 d4 (.xd [("name", .str a)])) e4 (exo e4 c7 (some d4)) = H6 at s6 a4 ⊢
    refine ⟨_, rfl, _, rfl, fun d5 e5 nd ne ned => ?_⟩
    obtain ⟨s7, a5⟩ := made_step (C := c7) (f := "name") (v := .str b) nd ne ned
    generalize upd (upd H6 d5 (.xd [("name", .str b)])) e5 (exo e5 c7 (some d5)) = H7 at s7 a5 ⊢
    refine ⟨by show 2 ≤ sizeLine; decide, fun r nr => ?_⟩
    have s8 := same_new (o := .lst [.ref e4, .ref e5]) nr
    have hr' : (upd H7 r (.lst [.ref e4, .ref e5])) r = some (.lst [.ref e4, .ref e5]) := upd_same
    generalize upd H7 r (.lst [.ref e4, .ref e5]) = H8 at s8 hr' ⊢
    have t78 := s8
    have t68 := s7.trans t78
    have t58 := s6.trans t68
    have t48 := s5.trans t58
    have t38 := s4.trans t48
    have t28 := s3.trans t38
    have t18 := s2.trans t28
    have t08 := s1.trans t18
    have tH8 := s0.trans t08
    have hp := t28 _ _ hp
    have hq := t58 _ _ hq
    have a0 := eat_same t08 a0
    have a1 := eat_same t18 a1
    have a2 := eat_same t38 a2
    have a3 := eat_same t48 a3
    have a4 := eat_same t68 a4
    have a5 := eat_same t78 a5
    clear s0 s1 s2 s3 s4 s5 s6 s7 s8 t78 t68 t58 t48 t38 t28 t18 t08
    -- the first three
    refine ⟨_, rfl, p, _, _, _, rfl, rfl, SqL.of hp, rfl, e0, c5, T, _, _, rfl, X.l5.E, a0, ?_⟩
    refine ⟨_, rfl, q, _, _, _, rfl, rfl, SqL.of hq, rfl, e2, c6, T, _, _, rfl, X.l6.E, a2, ?_⟩
    refine ⟨_, rfl, r, _, _, _, rfl, rfl, SqL.of hr', rfl, e4, c7, T, _, _, rfl, X.l7.E, a4, (by show 3 ≤ sizeLine; decide), fun t nt => ?_⟩
    have u1 := same_new (o := .tup [.str a, .str a, .str a]) nt
    refine ⟨_, rfl, _, rfl, _, rfl, (by show 3 ≤ sizeLine; decide), fun t2 nt2 => ?_⟩
    have u2 := same_new (o := .tup [.str a, .str a, .str a]) nt2
    refine ⟨_, _, rfl, alike_pair (SqT.of (u2 _ _ upd_same)) (SqT.of upd_same) (fun x hx => ?_) (by show 3 ≤ 1000000; decide), fun J1 v1 => ⟨_, rfl, iteF ?_⟩⟩
    · simp only [List.mem_cons, List.not_mem_nil, or_false] at hx
      rcases hx with rfl | rfl | rfl <;> trivial
    have w1 : Same H8 J1 := u1.trans (u2.trans v1)
    refine ⟨_, rfl, p, _, _, _, rfl, rfl, SqL.of (w1 _ _ hp), rfl, e1, c5, T, _, _, rfl, X.l5.E, eat_same w1 a1, ?_⟩
    refine ⟨_, rfl, q, _, _, _, rfl, rfl, SqL.of (w1 _ _ hq), rfl, e3, c6, T, _, _, rfl, X.l6.E, eat_same w1 a3, ?_⟩
    refine ⟨_, rfl, r, _, _, _, rfl, rfl, SqL.of (w1 _ _ hr'), rfl, e5, c7, T, _, _, rfl, X.l7.E, eat_same w1 a5, (by show 3 ≤ sizeLine; decide), fun t nt => ?_⟩
    have u3 := same_new (o := .tup [.str b, .str b, .str b]) nt
    refine ⟨_, rfl, _, rfl, _, rfl, (by show 3 ≤ sizeLine; decide), fun t2 nt2 => ?_⟩
    have u4 := same_new (o := .tup [.str b, .str b, .str b]) nt2
    refine ⟨_, _, rfl, alike_pair (SqT.of (u4 _ _ upd_same)) (SqT.of upd_same) (fun x hx => ?_) (by show 3 ≤ 1000000; decide), fun J2 v2 => ⟨_, rfl, iteF ?_⟩⟩
    · simp only [List.mem_cons, List.not_mem_nil, or_false] at hx
      rcases hx with rfl | rfl | rfl <;> trivial
    have w2 : Same H8 J2 := w1.trans (u3.trans (u4.trans v2))
    refine ⟨_, rfl, p, _, _, _, rfl, rfl, SqL.of (w2 _ _ hp), rfl, e0, c5, _, 5, "word", _, rfl, rfl, X.l5.E, eat_same w2 a0, fun J3 v3 => ⟨_, rfl, iteT ?_⟩⟩
    have w3 := w2.trans v3
    refine ⟨_, rfl, q, _, _, _, rfl, rfl, SqL.of (w3 _ _ hq), rfl, e2, c6, _, 6, "name", _, rfl, rfl, X.l6.E, eat_same w3 a2, fun J4 v4 => ⟨_, rfl, iteT ?_⟩⟩
    have w4 := w3.trans v4
    refine ⟨_, rfl, r, _, _, _, rfl, rfl, SqL.of (w4 _ _ hr'), rfl, e4, c7, _, 7, "name", _, rfl, rfl, X.l7.E, eat_same w4 a4, fun J5 v5 => ?_⟩
    exact k J5 (tH8.trans (w4.trans v5))
end
end K0


set_option Elab.async false
set_option linter.all false
set_option maxRecDepth 100000
set_option maxHeartbeats 8000000
namespace K0
open PySem L2 PySem.ExE
/-- the field and its value -/
def pay (j : Nat) (a : Int) (z : Str) : Str × V := if j < 5 then ("at", .int a) else if j = 5 then ("word", .str z) else ("name", .str z)
def spRaise (cs : List Addr) : Sp := fun vs H Q E => ∃ (j : Nat) (a : Int) (z : Str) (C : Addr), vs = [.int (j : Int), .int a, .str z] ∧ cs[j]? = some C ∧ ∀ d, H d = none → E (.ref C) (some d) (upd H d (.xd [pay j a z]))
section
variable {P : Program} {w : World} {K : PySem.W.Frag} {mg : Str → Option Value} {base : Heap} {T c0 c1 c2 c3 c4 c5 c6 c7 : Addr} {fi : Nat → Addr}
theorem scRaise : FnScope ["kind", "at", "word"] ["kind", "at", "word"] (defScope sRaise) := ⟨rfl, rfl, rfl, by decide +kernel, rfl, by decide +kernel, by decide +kernel⟩
theorem ok_raise {f : Addr} {fd : FuncData} (F : Fun K "_law_raise" "_law_raise" sRaise f fd) (X : Txt K mg T c0 c1 c2 c3 c4 c5 c6 c7 fi) : FnOk P w K mg base (L2.CX P w) 2 f fd ["kind", "at", "word"] (spRaise [c0, c1, c2, c3, c4, c5, c6, c7]) := by
  refine F.okX scRaise (fun vs H Q E h => ?_) (fun cdv A outer s H vs Q E hr h => ?_)
  · obtain ⟨j, a, z, C, rfl, _⟩ := h
    rfl
  · obtain ⟨j, a, z, C, rfl, hC, k⟩ := h
    refine ⟨_, pss_cons (ps_if (pt_cmpR op_eq (pv 0) pe_int (nomark _)) (pss_one (ps_raise rfl (takes_of rfl rfl rfl rfl) (pmk_mk X.l0.E X.l0.mks X.l0.g hr (pa_cons (pv 1) pa_nil) rfl))) pss_nil)
      (pss_cons (ps_if (pt_cmpR op_eq (pv 0) pe_int (nomark _)) (pss_one (ps_raise rfl (takes_of rfl rfl rfl rfl) (pmk_mk X.l1.E X.l1.mks X.l1.g hr (pa_cons (pv 1) pa_nil) rfl))) pss_nil)
      (pss_cons (ps_if (pt_cmpR op_eq (pv 0) pe_int (nomark _)) (pss_one (ps_raise rfl (takes_of rfl rfl rfl rfl) (pmk_mk X.l2.E X.l2.mks X.l2.g hr (pa_cons (pv 1) pa_nil) rfl))) pss_nil)
      (pss_cons (ps_if (pt_cmpR op_eq (pv 0) pe_int (nomark _)) (pss_one (ps_raise rfl (takes_of rfl rfl rfl rfl) (pmk_mk X.l3.E X.l3.mks X.l3.g hr (pa_cons (pv 1) pa_nil) rfl))) pss_nil)
      (pss_cons (ps_if (pt_cmpR op_eq (pv 0) pe_int (nomark _)) (pss_one (ps_raise rfl (takes_of rfl rfl rfl rfl) (pmk_mk X.l4.E X.l4.mks X.l4.g hr (pa_cons (pv 1) pa_nil) rfl))) pss_nil)
      (pss_cons (ps_if (pt_cmpR op_eq (pv 0) pe_int (nomark _)) (pss_one (ps_raise rfl (takes_of rfl rfl rfl rfl) (pmk_mk X.l5.E X.l5.mks X.l5.g hr (pa_cons (pv 2) pa_nil) rfl))) pss_nil)
      (pss_cons (ps_if (pt_cmpR op_eq (pv 0) pe_int (nomark _)) (pss_one (ps_raise rfl (takes_of rfl rfl rfl rfl) (pmk_mk X.l6.E X.l6.mks X.l6.g hr (pa_cons (pv 2) pa_nil) rfl))) pss_nil)
      (pss_one (ps_raise rfl (takes_of rfl rfl rfl rfl) (pmk_mk X.l7.E X.l7.mks X.l7.g hr (pa_cons (pv 2) pa_nil) rfl))))))))), ?_⟩
    have no : ∀ n : Nat, j ≠ n → decide (V.int (j : Int) = V.int (n : Int)) = false := fun n h => decide_eq_false fun q => h (by injection q with q; omega)
    have hj : j < 8 := (List.getElem?_eq_some_iff.mp hC).1
    refine ⟨_, rfl, rfl, _, rfl, ite2 (fun h0 => ?_) (fun h0 => ?_)⟩
    · have e : j = 0 := by
        have q := of_decide_eq_true h0
        injection q with q
        omega
      subst e
      cases hC
      exact ⟨_, rfl, _, rfl, k⟩
    refine ⟨_, rfl, rfl, _, rfl, ite2 (fun h1 => ?_) (fun h1 => ?_)⟩
    · have e : j = 1 := by
        have q := of_decide_eq_true h1
        injection q with q
        omega
      subst e
      cases hC
      exact ⟨_, rfl, _, rfl, k⟩
    refine ⟨_, rfl, rfl, _, rfl, ite2 (fun h2 => ?_) (fun h2 => ?_)⟩
    · have e : j = 2 := by
        have q := of_decide_eq_true h2
        injection q with q
        omega
      subst e
      cases hC
      exact ⟨_, rfl, _, rfl, k⟩
    refine ⟨_, rfl, rfl, _, rfl, ite2 (fun h3 => ?_) (fun h3 => ?_)⟩
    · have e : j = 3 := by
        have q := of_decide_eq_true h3
        injection q with q
        omega
      subst e
      cases hC
      exact ⟨_, rfl, _, rfl, k⟩
    refine ⟨_, rfl, rfl, _, rfl, ite2 (fun h4 => ?_) (fun h4 => ?_)⟩
    · have e : j = 4 := by
        have q := of_decide_eq_true h4
        injection q with q
        omega
      subst e
      cases hC
      exact ⟨_, rfl, _, rfl, k⟩
    refine ⟨_, rfl, rfl, _, rfl, ite2 (fun h5 => ?_) (fun h5 => ?_)⟩
    · have e : j = 5 := by
        have q := of_decide_eq_true h5
        injection q with q
        omega
      subst e
      cases hC
      exact ⟨_, rfl, _, rfl, k⟩
    refine ⟨_, rfl, rfl, _, rfl, ite2 (fun h6 => ?_) (fun h6 => ?_)⟩
    · have e : j = 6 := by
        have q := of_decide_eq_true h6
        injection q with q
        omega
      subst e
      cases hC
      exact ⟨_, rfl, _, rfl, k⟩
    have ne : ∀ n : Nat, ¬ decide (V.int (j : Int) = V.int (n : Int)) = true → j ≠ n := fun n h q => h (by subst q; exact decide_eq_true rfl)
    have e : j = 7 := by
      have q0 := ne 0 h0
      have q1 := ne 1 h1
      have q2 := ne 2 h2
      have q3 := ne 3 h3
      have q4 := ne 4 h4
      have q5 := ne 5 h5
      have q6 := ne 6 h6
      omega
    subst e
    cases hC
    exact ⟨_, rfl, _, rfl, k⟩
end
end K0


set_option Elab.async false
set_option linter.all false
set_option maxRecDepth 100000
set_option maxHeartbeats 8000000
namespace K0
open PySem L2 PySem.ExE
def spCaught : Sp := fun vs H Q _ => ∃ (j : Nat) (a : Int) (z : Str), vs = [.int (j : Int), .int a, .str z] ∧ j < 8 ∧ ∀ p H', Same H H' → H' p = some (.tup [.int (j : Int), (pay j a z).2]) → Q (.ref p) H'
def spBen : Sp := fun vs H Q _ => ∃ (j : Nat) (a : Int) (z : Str), vs = [.int (j : Int), .int a, .str z] ∧ j < 8 ∧ ∀ H', Same H H' → Q (.bl true) H'
section
variable {P : Program} {w : World} {K : PySem.W.Frag} {mg : Str → Option Value} {base : Heap} {T c0 c1 c2 c3 c4 c5 c6 c7 : Addr} {fi : Nat → Addr}
theorem Txt.hdOf (X : Txt K mg T c0 c1 c2 c3 c4 c5 c6 c7 fi) : ∀ D ∈ [c0, c1, c2, c3, c4, c5, c6, c7], ∃ f fI, EC K D T f fI := by
  intro D hD
  simp only [List.mem_cons, List.not_mem_nil, or_false] at hD
  rcases hD with rfl | rfl | rfl | rfl | rfl | rfl | rfl | rfl
  · exact ⟨_, _, X.l0.E⟩
  · exact ⟨_, _, X.l1.E⟩
  · exact ⟨_, _, X.l2.E⟩
  · exact ⟨_, _, X.l3.E⟩
  · exact ⟨_, _, X.l4.E⟩
  · exact ⟨_, _, X.l5.E⟩
  · exact ⟨_, _, X.l6.E⟩
  · exact ⟨_, _, X.l7.E⟩
theorem Txt.exm (X : Txt K mg T c0 c1 c2 c3 c4 c5 c6 c7 fi) {j : Nat} {C : Addr} (hj : [c0, c1, c2, c3, c4, c5, c6, c7][j]? = some C) (i : Nat) {D : Addr} (hi : [c0, c1, c2, c3, c4, c5, c6, c7][i]? = some D) :
    PySem.W.exmOne K (.ref C) (.ref D) = some (decide (i = j)) := by
  obtain ⟨f, fI, E⟩ := X.hdOf C (List.mem_of_getElem? hj)
  obtain ⟨g, gI, E2⟩ := X.hdOf D (List.mem_of_getElem? hi)
  exact PySem.W.exm_ref E2.exC E2.hd E2.tyC (X.sub hj E hi)
theorem Txt.exmT (X : Txt K mg T c0 c1 c2 c3 c4 c5 c6 c7 fi) {j : Nat} {C : Addr} (hj : [c0, c1, c2, c3, c4, c5, c6, c7][j]? = some C) : PySem.W.exmOne K (.ref C) (.ref T) = some true := by
  obtain ⟨f, fI, E⟩ := X.hdOf C (List.mem_of_getElem? hj)
  exact PySem.W.exm_ref X.exT X.hdT X.tT E.base
theorem xf_of {C f fI} (E : EC K C T f fI) : XfC K C := ⟨E.ga, E.gg, E.exC, E.hd⟩
theorem scCaught : FnScope ["kind", "at", "word", "e"] ["kind", "at", "word"] (defScope sCaught) := ⟨rfl, rfl, rfl, by decide +kernel, rfl, by decide +kernel, by decide +kernel⟩
theorem ok_caught {f fR : Addr} {fd fdR : FuncData} (F : Fun K "_law_caught" "_law_caught" sCaught f fd) (X : Txt K mg T c0 c1 c2 c3 c4 c5 c6 c7 fi)
    (GR : FnOk P w K mg base (L2.CX P w) 2 fR fdR ["kind", "at", "word"] (spRaise [c0, c1, c2, c3, c4, c5, c6, c7])) (bR : Binds K fdR ["kind", "at", "word"] []) (gR : mg "_law_raise" = some (.ref fR)) (kR : PySem.W.keepIn K (.ref fR) = true) :
    FnOk P w K mg base CX0 3 f fd ["kind", "at", "word"] spCaught := by
  refine F.ok scCaught (fun vs H Q E h => ?_) (fun cdv A outer s H vs Q E hr h => ?_)
  · obtain ⟨j, a, z, rfl, _⟩ := h
    rfl
  · obtain ⟨j, a, z, rfl, hj, k⟩ := h
    refine ⟨_, pss_cons (ps_try_named (tb := fun W => tDrop (tCallS (spRaise [c0, c1, c2, c3, c4, c5, c6, c7]) (WE W) (tCons (tVar 0) (tCons (tVar 1) (tCons (tVar 2) tNil))))) rfl rfl scCaught.nd takes0
        (fun W pn xe tk _ => pss_one (ps_expr (pe_callS GR hr rfl gR kR bR (fun σ => passAt tk σ) (pa_cons (pv 0) (pa_cons (pv 1) (pa_cons (pv 2) pa_nil))))))
        (.cons (i := 3) ⟨rfl, by decide, .inl X.l7.g⟩ rfl rfl (fun b oe cls d pn hz hf => pss_one (ps_ret (pe_tup (pa_cons pe_int (pa_cons (pe_xf (xf_of X.l7.E) X.l7.E.no hz hf (pv 3)) pa_nil)))))
        (.cons (i := 3) ⟨rfl, by decide, .inl X.l6.g⟩ rfl rfl (fun b oe cls d pn hz hf => pss_one (ps_ret (pe_tup (pa_cons pe_int (pa_cons (pe_xf (xf_of X.l6.E) X.l6.E.no hz hf (pv 3)) pa_nil)))))
        (.cons (i := 3) ⟨rfl, by decide, .inl X.l5.g⟩ rfl rfl (fun b oe cls d pn hz hf => pss_one (ps_ret (pe_tup (pa_cons pe_int (pa_cons (pe_xf (xf_of X.l5.E) X.l5.E.no hz hf (pv 3)) pa_nil)))))
        (.cons (i := 3) ⟨rfl, by decide, .inl X.l4.g⟩ rfl rfl (fun b oe cls d pn hz hf => pss_one (ps_ret (pe_tup (pa_cons pe_int (pa_cons (pe_xf (xf_of X.l4.E) X.l4.E.no hz hf (pv 3)) pa_nil)))))
        (.cons (i := 3) ⟨rfl, by decide, .inl X.l3.g⟩ rfl rfl (fun b oe cls d pn hz hf => pss_one (ps_ret (pe_tup (pa_cons pe_int (pa_cons (pe_xf (xf_of X.l3.E) X.l3.E.no hz hf (pv 3)) pa_nil)))))
        (.cons (i := 3) ⟨rfl, by decide, .inl X.l2.g⟩ rfl rfl (fun b oe cls d pn hz hf => pss_one (ps_ret (pe_tup (pa_cons pe_int (pa_cons (pe_xf (xf_of X.l2.E) X.l2.E.no hz hf (pv 3)) pa_nil)))))
        (.cons (i := 3) ⟨rfl, by decide, .inl X.l1.g⟩ rfl rfl (fun b oe cls d pn hz hf => pss_one (ps_ret (pe_tup (pa_cons pe_int (pa_cons (pe_xf (xf_of X.l1.E) X.l1.E.no hz hf (pv 3)) pa_nil)))))
        (.cons (i := 3) ⟨rfl, by decide, .inl X.l0.g⟩ rfl rfl (fun b oe cls d pn hz hf => pss_one (ps_ret (pe_tup (pa_cons pe_int (pa_cons (pe_xf (xf_of X.l0.E) X.l0.E.no hz hf (pv 3)) pa_nil)))))
        .nil)))))))))
      (pss_one (ps_ret (pe_tup (pa_cons pe_int (pa_cons pe_non pa_nil))))), ?_⟩
    obtain ⟨C, hC⟩ : ∃ C, [c0, c1, c2, c3, c4, c5, c6, c7][j]? = some C := ⟨_, List.getElem?_eq_getElem (by show j < 8; exact hj)⟩
    refine ⟨_, rfl, _, rfl, _, rfl, j, a, z, C, rfl, hC, fun d nd => ?_⟩
    have sd := same_new (o := .xd [pay j a z]) nd
    have fin : ∀ p, (upd H d (.xd [pay j a z])) p = none → Q (.ref p) (upd (upd H d (.xd [pay j a z])) p (.tup [.int (j : Int), (pay j a z).2])) := fun p np => k p _ (sd.trans (same_new np)) upd_same
    have eqj : ∀ {n : Nat}, decide (n = j) = true → j = n := fun h => (of_decide_eq_true h).symm
    refine ⟨_, X.exm hC 7 rfl, fun hb e ne => ?_, fun hb7 => ⟨_, X.exm hC 6 rfl, fun hb e ne => ?_, fun hb6 => ⟨_, X.exm hC 5 rfl, fun hb e ne => ?_, fun hb5 => ⟨_, X.exm hC 4 rfl, fun hb e ne => ?_, fun hb4 => ⟨_, X.exm hC 3 rfl, fun hb e ne => ?_, fun hb3 =>
      ⟨_, X.exm hC 2 rfl, fun hb e ne => ?_, fun hb2 => ⟨_, X.exm hC 1 rfl, fun hb e ne => ?_, fun hb1 => ⟨_, X.exm hC 0 rfl, fun hb e ne => ?_, fun hb0 => ?_⟩⟩⟩⟩⟩⟩⟩⟩
    · obtain rfl := eqj hb
      cases hC
      exact ⟨_, rfl, rfl, rfl, d, _, _, rfl, upd_same, rfl, (by show 2 ≤ sizeLine; decide), fin⟩
    · obtain rfl := eqj hb
      cases hC
      exact ⟨_, rfl, rfl, rfl, d, _, _, rfl, upd_same, rfl, (by show 2 ≤ sizeLine; decide), fin⟩
    · obtain rfl := eqj hb
      cases hC
      exact ⟨_, rfl, rfl, rfl, d, _, _, rfl, upd_same, rfl, (by show 2 ≤ sizeLine; decide), fin⟩
    · obtain rfl := eqj hb
      cases hC
      exact ⟨_, rfl, rfl, rfl, d, _, _, rfl, upd_same, rfl, (by show 2 ≤ sizeLine; decide), fin⟩
    · obtain rfl := eqj hb
      cases hC
      exact ⟨_, rfl, rfl, rfl, d, _, _, rfl, upd_same, rfl, (by show 2 ≤ sizeLine; decide), fin⟩
    · obtain rfl := eqj hb
      cases hC
      exact ⟨_, rfl, rfl, rfl, d, _, _, rfl, upd_same, rfl, (by show 2 ≤ sizeLine; decide), fin⟩
    · obtain rfl := eqj hb
      cases hC
      exact ⟨_, rfl, rfl, rfl, d, _, _, rfl, upd_same, rfl, (by show 2 ≤ sizeLine; decide), fin⟩
    · obtain rfl := eqj hb
      cases hC
      exact ⟨_, rfl, rfl, rfl, d, _, _, rfl, upd_same, rfl, (by show 2 ≤ sizeLine; decide), fin⟩
    · have n7 := of_decide_eq_false hb7
      have n6 := of_decide_eq_false hb6
      have n5 := of_decide_eq_false hb5
      have n4 := of_decide_eq_false hb4
      have n3 := of_decide_eq_false hb3
      have n2 := of_decide_eq_false hb2
      have n1 := of_decide_eq_false hb1
      have n0 := of_decide_eq_false hb0
      omega
theorem scBen : FnScope ["kind", "at", "word"] ["kind", "at", "word"] (defScope sBen) := ⟨rfl, rfl, rfl, by decide +kernel, rfl, by decide +kernel, by decide +kernel⟩
theorem ok_ben {f fR : Addr} {fd fdR : FuncData} (F : Fun K "_law_beneath" "_law_beneath" sBen f fd) (X : Txt K mg T c0 c1 c2 c3 c4 c5 c6 c7 fi)
    (GR : FnOk P w K mg base (L2.CX P w) 2 fR fdR ["kind", "at", "word"] (spRaise [c0, c1, c2, c3, c4, c5, c6, c7])) (bR : Binds K fdR ["kind", "at", "word"] []) (gR : mg "_law_raise" = some (.ref fR)) (kR : PySem.W.keepIn K (.ref fR) = true) :
    FnOk P w K mg base CX0 3 f fd ["kind", "at", "word"] spBen := by
  refine F.ok scBen (fun vs H Q E h => ?_) (fun cdv A outer s H vs Q E hr h => ?_)
  · obtain ⟨j, a, z, rfl, _⟩ := h
    rfl
  · obtain ⟨j, a, z, rfl, hj, k⟩ := h
    refine ⟨_, pss_cons (ps_try_only (tb := fun W => tDrop (tCallS (spRaise [c0, c1, c2, c3, c4, c5, c6, c7]) (WE W) (tCons (tVar 0) (tCons (tVar 1) (tCons (tVar 2) tNil))))) rfl rfl ⟨rfl, by decide, .inl X.gT⟩ takes0
        (fun W pn xe tk _ => pss_one (ps_expr (pe_callS GR hr rfl gR kR bR (fun σ => passAt tk σ) (pa_cons (pv 0) (pa_cons (pv 1) (pa_cons (pv 2) pa_nil))))))
        (fun b oe cls d pn _ _ => pss_one (ps_ret pe_bl))) (pss_one (ps_ret pe_bl)), ?_⟩
    obtain ⟨C, hC⟩ : ∃ C, [c0, c1, c2, c3, c4, c5, c6, c7][j]? = some C := ⟨_, List.getElem?_eq_getElem (by show j < 8; exact hj)⟩
    refine ⟨_, rfl, _, rfl, _, rfl, j, a, z, C, rfl, hC, fun d nd => ?_⟩
    exact ⟨true, X.exmT hC, fun _ e ne => k _ (same_new nd), fun q => nomatch q⟩
end
end K0


set_option Elab.async false
set_option linter.all false
set_option maxRecDepth 100000
set_option maxHeartbeats 8000000
namespace K0
open PySem L2 PySem.ExE
def spLaw (K : PySem.W.Frag) : Sp := fun vs H Q _ => ∃ (a : Addr) (ns : List Int), vs = [.ref a] ∧ SqL K H a (ns.map V.int) ∧ ns.length ≤ 63 ∧ ∀ H', Q (.bl true) H'
/-- a def of the text, where it stands -/
structure Df (K : PySem.W.Frag) (mg : Str → Option Value) (x : Str) (st : Stmt) (ps : List Str) (f : Addr) (fd : FuncData) : Prop where
  F : Fun K x x st f fd
  b : Binds K fd ps []
  g : mg x = some (.ref f)
  k : PySem.W.keepIn K (.ref f) = true
theorem pay_scal (j : Nat) (a : Int) (z : Str) : scalV (pay j a z).2 := by
  unfold pay
  split
  · trivial
  · split <;> trivial
theorem BoxAt.bne {H : Hp} {b c b2 : Addr} {ns : List Int} (x : BoxAt H b c ns) (h : H b2 = none) : b2 ≠ b ∧ b2 ≠ c := by
  obtain ⟨d0, d1, at_, s, m, _, hb⟩ := x.lst
  exact ⟨Ne.symm (ne_of_none hb h), Ne.symm (ne_of_none x.cells h)⟩
section
variable {P : Program} {w : World} {K : PySem.W.Frag} {mg : Str → Option Value} {base : Heap} {T c0 c1 c2 c3 c4 c5 c6 c7 : Addr} {fi : Nat → Addr}
theorem scLaw : FnScope ["script", "box", "far", "at", "word", "kind", "due"] ["script"] (defScope sLaw) := ⟨rfl, rfl, rfl, by decide +kernel, rfl, by decide +kernel, by decide +kernel⟩
theorem ok_law {f f1 f2 f3 f4 f5 f6 f7 f8 f9 f10 f11 : Addr} {fd d1 d2 d3 d4 d5 d6 d7 d8 d9 d10 d11 : FuncData} (F : Fun K "law" "law" sLaw f fd) (X : Txt K mg T c0 c1 c2 c3 c4 c5 c6 c7 fi)
    (Dmix : Df K mg "_law_mix" sMix ["cell", "salt"] f1 d1) (Dbox : Df K mg "_law_box" sBox ["script", "at"] f2 d2) (Ddraw : Df K mg "_law_draw" sDraw ["box", "many"] f3 d3) (Dalike : Df K mg "_law_alike" sAlike ["told", "due"] f4 d4)
    (Dtext : Df K mg "_law_text" sText ["box"] f5 d5) (Dalone : Df K mg "_law_alone" sAlone ["e", "kind"] f6 d6) (Dnum : Df K mg "_law_numbered" sNum ["at", "other"] f7 d7) (Dword : Df K mg "_law_worded" sWord ["word", "other"] f8 d8)
    (Draise : Df K mg "_law_raise" sRaise ["kind", "at", "word"] f9 d9) (Dcaught : Df K mg "_law_caught" sCaught ["kind", "at", "word"] f10 d10) (Dben : Df K mg "_law_beneath" sBen ["kind", "at", "word"] f11 d11) :
    FnOk P w K mg base CX0 4 f fd ["script"] (spLaw K) := by
  have GB : FnOk P w K mg base CX0 1 f2 d2 ["script", "at"] (spBox K) := ok_box Dbox.F X.N.int
  have GD : FnOk P w K mg base CX0 2 f3 d3 ["box", "many"] spDraw := ok_draw Ddraw.F Dmix.F Dmix.b Dmix.g Dmix.k X.N.int X.N.len
  have GA : FnOk P w K mg base CX0 2 f4 d4 ["told", "due"] (spA K 2) := ok_alike Dalike.F Dalike.b Dalike.g Dalike.k X.N 2
  have GT : FnOk P w K mg base CX0 3 f5 d5 ["box"] spText := ok_text Dtext.F GD Ddraw.b Ddraw.g Ddraw.k X.N
  have GO : FnOk P w K mg base CX0 1 f6 d6 ["e", "kind"] (spAlone K T [c0, c1, c2, c3, c4, c5, c6, c7]) := ok_alone Dalone.F X
  have GN : FnOk P w K mg base CX0 3 f7 d7 ["at", "other"] spNum := ok_num Dnum.F X GA Dalike.b Dalike.g Dalike.k GO Dalone.b Dalone.g Dalone.k
  have GW : FnOk P w K mg base CX0 3 f8 d8 ["word", "other"] spWord := ok_word Dword.F X GA Dalike.b Dalike.g Dalike.k GO Dalone.b Dalone.g Dalone.k
  have GR : FnOk P w K mg base (L2.CX P w) 2 f9 d9 ["kind", "at", "word"] (spRaise [c0, c1, c2, c3, c4, c5, c6, c7]) := ok_raise Draise.F X
  have GC : FnOk P w K mg base CX0 3 f10 d10 ["kind", "at", "word"] spCaught := ok_caught Dcaught.F X GR Draise.b Draise.g Draise.k
  have GE : FnOk P w K mg base CX0 3 f11 d11 ["kind", "at", "word"] spBen := ok_ben Dben.F X GR Draise.b Draise.g Draise.k
  refine F.ok scLaw (fun vs H Q E h => ?_) (fun cdv A outer s H vs Q E hr h => ?_)
  · obtain ⟨a, ns, rfl, _⟩ := h
    rfl
  · obtain ⟨a, ns, rfl, hS, hl, k⟩ := h
    have hr1 : Room 1 _ := hr.mono (by decide)
    have hr2 : Room 2 _ := hr.mono (by decide)
    have hr3 : Room 3 _ := hr
    refine ⟨_, pss_cons (ps_set (i := 1) scLaw.nd rfl (Or.inl rfl) (pe_call GB hr1 rfl Dbox.g Dbox.k Dbox.b .nil pass0 (pa_cons (pv 0) (pa_cons pe_int pa_nil))))
      (pss_cons (ps_set (i := 2) scLaw.nd rfl (Or.inl rfl) (pe_call GB hr1 rfl Dbox.g Dbox.k Dbox.b .nil pass0 (pa_cons (pv 0) (pa_cons pe_int pa_nil))))
      (pss_cons (ps_set (i := 3) scLaw.nd rfl (Or.inl rfl) (pe_call GD hr2 rfl Ddraw.g Ddraw.k Ddraw.b .nil pass0 (pa_cons (pv 1) (pa_cons pe_int pa_nil))))
      (pss_cons (ps_set (i := 4) scLaw.nd rfl (Or.inl rfl) (pe_call GT hr3 rfl Dtext.g Dtext.k Dtext.b .nil pass0 (pa_cons (pv 1) pa_nil)))
      (pss_cons (ps_if (PW.pt (pw_or
          (pt_not (pt_val (pe_call GN hr3 rfl Dnum.g Dnum.k Dnum.b .nil pass0 (pa_cons (pv 3) (pa_cons (pe_call GD hr2 rfl Ddraw.g Ddraw.k Ddraw.b .nil pass0 (pa_cons (pv 2) (pa_cons pe_int pa_nil))) pa_nil)))))
          (pw_or1 (pt_not (pt_val (pe_call GW hr3 rfl Dword.g Dword.k Dword.b .nil pass0 (pa_cons (pv 4) (pa_cons (pe_call GT hr3 rfl Dtext.g Dtext.k Dtext.b .nil pass0 (pa_cons (pv 2) pa_nil)) pa_nil)))))))) (pss_one (ps_ret pe_bl)) pss_nil)
      (pss_cons (ps_for PassesOwn.never rfl (pi_range1 rfl X.N.rng (pa_cons pe_int pa_nil)) (pg_name (i := 5) scLaw.nd rfl (Or.inl rfl))
        (pss_cons (ps_set (i := 6) scLaw.nd rfl (Or.inl rfl) (pe_ix ix_list (pe_lst (pa_cons (pv 3) (pa_cons (pv 4) pa_nil))) (pe_callTy call_int1 (by rfl) X.N.int (by decide +kernel) (pa_cons (pe_cmpR op_gt (pv 5) pe_int (nomark _)) pa_nil)) (fun _ _ => rfl)))
        (pss_one (ps_if (PW.pt (pw_or
            (pt_not (pt_val (pe_call GA hr2 rfl Dalike.g Dalike.k Dalike.b .nil pass0 (pa_cons (pe_call GC hr3 rfl Dcaught.g Dcaught.k Dcaught.b .nil pass0 (pa_cons (pv 5) (pa_cons (pv 3) (pa_cons (pv 4) pa_nil)))) (pa_cons (pe_tup (pa_cons (pv 5) (pa_cons (pv 6) pa_nil))) pa_nil)))))
            (pw_or1 (pt_not (pt_val (pe_call GE hr3 rfl Dben.g Dben.k Dben.b .nil pass0 (pa_cons (pv 5) (pa_cons (pv 3) (pa_cons (pv 4) pa_nil))))))))) (pss_one (ps_ret pe_bl)) pss_nil))))
      (pss_one (ps_ret pe_bl))))))), ?_⟩
    refine ⟨_, rfl, a, ns, 0, rfl, hS, by omega, by decide, fun b c H1 nb nc s1 B1 => ?_⟩
    refine ⟨_, rfl, a, ns, 1, rfl, s1.seq hS, by omega, by decide, fun b2 e2 H2 nb2 nc2 s2 B2 => ?_⟩
    obtain ⟨q1, q2⟩ := B1.bne nb2
    obtain ⟨q3, q4⟩ := B1.bne nc2
    refine ⟨_, rfl, b, c, ns, _, rfl, by decide, by decide, B1.same s2, fun r H3 h0 h1 B3 k3 => ?_⟩
    refine ⟨_, rfl, b, c, ns, rfl, B3, fun z H4 B4 k4 => ?_⟩
    have F2 := B2.keep (k3.trans k4) q1 q3
    refine ⟨_, rfl, _, rfl, b2, e2, ns, _, rfl, by decide, by decide, F2, fun r2 H5 h2 h3 F5 k5 => ⟨_, _, rfl, fun H6 s6 => ⟨_, rfl, iteF ?_⟩⟩⟩
    have F6 := F5.same s6
    refine ⟨_, rfl, _, rfl, b2, e2, ns, rfl, F6, fun z2 H7 F7 k7 => ⟨_, _, rfl, fun H8 s8 => ⟨_, rfl, iteF ?_⟩⟩⟩
    refine ⟨8, rfl, by decide, by decide, ?_⟩
    refine for_range (lo := 0) (n := 8) (fun i σ J => ∃ v1 v2, σ = [some (.ref a), some (.ref b), some (.ref b2), some (.int r), some (.str z), v1, v2]) ⟨_, _, rfl⟩ ?_ ?_
    · rintro i σ J hi ⟨v1, v2, rfl⟩
      refine ⟨_, rfl, _, rfl, (by show 2 ≤ sizeLine; decide), fun p np => ⟨_, rfl, _, _, rfl, rfl, .inr ⟨_, rfl, ?_⟩⟩⟩
      have due : ∀ (Q' : VK), Q' (pay i r z).2 (upd J p (.lst [.int r, .str z])) → rIxL K (.ref p) (.int (if decide ((4 : Int) < 0 + (i : Int)) = true then 1 else 0)) (upd J p (.lst [.int r, .str z])) Q' := fun Q' hQ => by
        by_cases h : i < 5
        · rw [decide_eq_false (by omega : ¬ (4 : Int) < 0 + (i : Int))]
          refine ⟨p, _, _, .int r, rfl, rfl, SqL.of upd_same, rfl, ?_⟩
          have e : (pay i r z).2 = .int r := by
            unfold pay
            rw [if_pos h]
          rw [e] at hQ
          exact hQ
        · rw [decide_eq_true (by omega : (4 : Int) < 0 + (i : Int))]
          refine ⟨p, _, _, .str z, rfl, rfl, SqL.of upd_same, rfl, ?_⟩
          have e : (pay i r z).2 = .str z := by
            unfold pay
            rw [if_neg h]
            split <;> rfl
          rw [e] at hQ
          exact hQ
      refine due _ ?_
      refine ⟨_, rfl, _, rfl, _, rfl, i, r, z, ?_, hi, fun t J1 s1 ht => ?_⟩
      · show [V.int (0 + (i : Int)), V.int r, V.str z] = _
        rw [Int.zero_add]
      refine ⟨_, rfl, _, rfl, (by show 2 ≤ sizeLine; decide), fun u nu => ?_⟩
      have su := same_new (o := .tup [.int (0 + (i : Int)), (pay i r z).2]) nu
      refine ⟨_, _, rfl, alike_pair (SqT.of (su _ _ ht)) (SqT.of ?_) (fun x hx => ?_) (by show 2 ≤ 1000000; decide), fun J2 s2 => ⟨_, rfl, iteF ?_⟩⟩
      · rw [upd_same, Int.zero_add]
      · simp only [List.mem_cons, List.not_mem_nil, or_false] at hx
        rcases hx with rfl | rfl
        · trivial
        · exact pay_scal i r z
      refine ⟨_, rfl, _, rfl, _, rfl, i, r, z, ?_, hi, fun J3 s3 => ⟨_, rfl, iteF ⟨_, _, rfl⟩⟩⟩
      show [V.int (0 + (i : Int)), V.int r, V.str z] = _
      rw [Int.zero_add]
    · rintro σ J ⟨v1, v2, rfl⟩
      exact k J
end
end K0


set_option Elab.async false
set_option linter.all false
set_option maxRecDepth 100000
set_option maxHeartbeats 4000000
namespace K0
open PySem L2 PySem.ExE
theorem all_mk {l : PySem.W.OpenLaw} {w : World} {K : PySem.W.Frag} {h : Heap} {mg : Str → Option Value} {fa T : Addr} (X : K.In h) (G : h.Ns mainGlobals mg) (hfa : mg "law" = some (.ref fa))
    {c0 e0 N0 : Addr} {bs0 sub0 : List Value} {nm0 qn0 : Str} {sn0 : List Str} {ab0 : Bool} {col0 : Option Bool} {dd0 od0 an0 : Option Addr} {r00 r01 r02 r03 r05 : Option Value} {sl0 : Array (Option Value)} {oc0 dc0 pm0 cd0 ct0 : Value}
    {c1 e1 N1 : Addr} {bs1 sub1 : List Value} {nm1 qn1 : Str} {sn1 : List Str} {ab1 : Bool} {col1 : Option Bool} {dd1 od1 an1 : Option Addr} {r10 r11 r12 r13 r15 : Option Value} {sl1 : Array (Option Value)} {oc1 dc1 pm1 cd1 ct1 : Value}
    {c2 e2 N2 : Addr} {bs2 sub2 : List Value} {nm2 qn2 : Str} {sn2 : List Str} {ab2 : Bool} {col2 : Option Bool} {dd2 od2 an2 : Option Addr} {r20 r21 r22 r23 r25 : Option Value} {sl2 : Array (Option Value)} {oc2 dc2 pm2 cd2 ct2 : Value}
    {c3 e3 N3 : Addr} {bs3 sub3 : List Value} {nm3 qn3 : Str} {sn3 : List Str} {ab3 : Bool} {col3 : Option Bool} {dd3 od3 an3 : Option Addr} {r30 r31 r32 r33 r35 : Option Value} {sl3 : Array (Option Value)} {oc3 dc3 pm3 cd3 ct3 : Value}
    {c4 e4 N4 : Addr} {bs4 sub4 : List Value} {nm4 qn4 : Str} {sn4 : List Str} {ab4 : Bool} {col4 : Option Bool} {dd4 od4 an4 : Option Addr} {r40 r41 r42 r43 r45 : Option Value} {sl4 : Array (Option Value)} {oc4 dc4 pm4 cd4 ct4 : Value}
    {c5 e5 N5 : Addr} {bs5 sub5 : List Value} {nm5 qn5 : Str} {sn5 : List Str} {ab5 : Bool} {col5 : Option Bool} {dd5 od5 an5 : Option Addr} {r50 r51 r52 r53 r55 : Option Value} {sl5 : Array (Option Value)} {oc5 dc5 pm5 cd5 ct5 : Value}
    {c6 e6 N6 : Addr} {bs6 sub6 : List Value} {nm6 qn6 : Str} {sn6 : List Str} {ab6 : Bool} {col6 : Option Bool} {dd6 od6 an6 : Option Addr} {r60 r61 r62 r63 r65 : Option Value} {sl6 : Array (Option Value)} {oc6 dc6 pm6 cd6 ct6 : Value}
    {c7 e7 N7 : Addr} {bs7 sub7 : List Value} {nm7 qn7 : Str} {sn7 : List Str} {ab7 : Bool} {col7 : Option Bool} {dd7 od7 an7 : Option Addr} {r70 r71 r72 r73 r75 : Option Value} {sl7 : Array (Option Value)} {oc7 dc7 pm7 cd7 ct7 : Value}
    {f0 : Addr} {fod0 fan0 : Option Addr} {fsl0 : Array (Option Value)} {foc0 fkV0 fdc0 fpm0 fcd0 fct0 : Value}
    {f1 : Addr} {fod1 fan1 : Option Addr} {fsl1 : Array (Option Value)} {foc1 fkV1 fdc1 fpm1 fcd1 fct1 : Value}
    {f2 : Addr} {fod2 fan2 : Option Addr} {fsl2 : Array (Option Value)} {foc2 fkV2 fdc2 fpm2 fcd2 fct2 : Value}
    {f3 : Addr} {fod3 fan3 : Option Addr} {fsl3 : Array (Option Value)} {foc3 fkV3 fdc3 fpm3 fcd3 fct3 : Value}
    {f4 : Addr} {fod4 fan4 : Option Addr} {fsl4 : Array (Option Value)} {foc4 fkV4 fdc4 fpm4 fcd4 fct4 : Value}
    {f5 : Addr} {fod5 fan5 : Option Addr} {fsl5 : Array (Option Value)} {foc5 fkV5 fdc5 fpm5 fcd5 fct5 : Value}
    {f6 : Addr} {fod6 fan6 : Option Addr} {fsl6 : Array (Option Value)} {foc6 fkV6 fdc6 fpm6 fcd6 fct6 : Value}
    {f7 : Addr} {fod7 fan7 : Option Addr} {fsl7 : Array (Option Value)} {foc7 fkV7 fdc7 fpm7 fcd7 fct7 : Value}
    {f8 : Addr} {fod8 fan8 : Option Addr} {fsl8 : Array (Option Value)} {foc8 fkV8 fdc8 fpm8 fcd8 fct8 : Value}
    {f9 : Addr} {fod9 fan9 : Option Addr} {fsl9 : Array (Option Value)} {foc9 fkV9 fdc9 fpm9 fcd9 fct9 : Value}
    {f10 : Addr} {fod10 fan10 : Option Addr} {fsl10 : Array (Option Value)} {foc10 fkV10 fdc10 fpm10 fcd10 fct10 : Value}
    {f11 : Addr} {fod11 fan11 : Option Addr} {fsl11 : Array (Option Value)} {foc11 fkV11 fdc11 fpm11 fcd11 fct11 : Value}
    (aT : PySem.W.nsIn K mainGlobals "TraceError" = some (some (.ref T)))
    (tT : PySem.W.typeIn K (.ref T) = some (.type "type"))
    (iT : PySem.W.isClsIn K T = true)
    (xT : PySem.W.subIn K (.ref T) (.type "BaseException") = some true)
    (hT : PySem.W.hasDictIn K T = true)
    (hsn : PySem.W.specialIn K (.builtin "object.__class__") "__get__" = some (some (.builtin "getset_descriptor.__get__")))
    (htk : PySem.W.takesIn K (.builtin "object.__class__") = some true)
    (a0 : PySem.W.nsIn K mainGlobals "BadValue" = some (some (.ref c0)))
    (x0 : K.lookup c0 = some (excClassObj nm0 qn0 c0 N0 bs0 [.ref T, .type "Exception", .type "BaseException", .type "object"] true sn0 sub0 ab0 col0 dd0 r00 r01 r02 r03 r05 "Exception.__new__"))
    (sa0 : PySem.W.findIn K (.ref c0) "__setattr__" = some (some (.builtin "object.__setattr__")))
    (ga0 : PySem.W.findIn K (.ref c0) "__getattribute__" = some (some (.builtin "BaseException.__getattribute__")))
    (gg0 : PySem.W.findIn K (.ref c0) "__getattr__" = some none)
    (ca0 : PySem.W.findIn K (.ref c0) "__class__" = some (some (.builtin "object.__class__")))
    (no0 : PySem.W.findIn K (.ref c0) "at" = some none)
    (ii0 : PySem.W.findIn K (.ref c0) "__init__" = some (some (.ref e0)))
    (ti0 : PySem.W.typeIn K (.ref e0) = some (.type "function"))
    (li0 : K.lookup e0 = some ⟨oc0, od0, .func (PySem.W.fnOf "__init__" "BadValue.__init__" (defArgs (inClass (topS 2) 0)) (defBody (inClass (topS 2) 0)) (defScope (inClass (topS 2) 0)) .none .none dc0 pm0 an0 cd0 ct0), sl0⟩)
    (ci0 : PySem.W.codeIn K cd0 "BadValue.__init__" = true)
    (kc0 : PySem.W.keepIn K (.ref c0) = true)
    (ty0 : PySem.W.typeIn K (.ref c0) = some (.type "type"))
    (a1 : PySem.W.nsIn K mainGlobals "BadProgram" = some (some (.ref c1)))
    (x1 : K.lookup c1 = some (excClassObj nm1 qn1 c1 N1 bs1 [.ref T, .type "Exception", .type "BaseException", .type "object"] true sn1 sub1 ab1 col1 dd1 r10 r11 r12 r13 r15 "Exception.__new__"))
    (sa1 : PySem.W.findIn K (.ref c1) "__setattr__" = some (some (.builtin "object.__setattr__")))
    (ga1 : PySem.W.findIn K (.ref c1) "__getattribute__" = some (some (.builtin "BaseException.__getattribute__")))
    (gg1 : PySem.W.findIn K (.ref c1) "__getattr__" = some none)
    (ca1 : PySem.W.findIn K (.ref c1) "__class__" = some (some (.builtin "object.__class__")))
    (no1 : PySem.W.findIn K (.ref c1) "at" = some none)
    (ii1 : PySem.W.findIn K (.ref c1) "__init__" = some (some (.ref e1)))
    (ti1 : PySem.W.typeIn K (.ref e1) = some (.type "function"))
    (li1 : K.lookup e1 = some ⟨oc1, od1, .func (PySem.W.fnOf "__init__" "BadProgram.__init__" (defArgs (inClass (topS 3) 0)) (defBody (inClass (topS 3) 0)) (defScope (inClass (topS 3) 0)) .none .none dc1 pm1 an1 cd1 ct1), sl1⟩)
    (ci1 : PySem.W.codeIn K cd1 "BadProgram.__init__" = true)
    (kc1 : PySem.W.keepIn K (.ref c1) = true)
    (ty1 : PySem.W.typeIn K (.ref c1) = some (.type "type"))
    (a2 : PySem.W.nsIn K mainGlobals "BadRecord" = some (some (.ref c2)))
    (x2 : K.lookup c2 = some (excClassObj nm2 qn2 c2 N2 bs2 [.ref T, .type "Exception", .type "BaseException", .type "object"] true sn2 sub2 ab2 col2 dd2 r20 r21 r22 r23 r25 "Exception.__new__"))
    (sa2 : PySem.W.findIn K (.ref c2) "__setattr__" = some (some (.builtin "object.__setattr__")))
    (ga2 : PySem.W.findIn K (.ref c2) "__getattribute__" = some (some (.builtin "BaseException.__getattribute__")))
    (gg2 : PySem.W.findIn K (.ref c2) "__getattr__" = some none)
    (ca2 : PySem.W.findIn K (.ref c2) "__class__" = some (some (.builtin "object.__class__")))
    (no2 : PySem.W.findIn K (.ref c2) "at" = some none)
    (ii2 : PySem.W.findIn K (.ref c2) "__init__" = some (some (.ref e2)))
    (ti2 : PySem.W.typeIn K (.ref e2) = some (.type "function"))
    (li2 : K.lookup e2 = some ⟨oc2, od2, .func (PySem.W.fnOf "__init__" "BadRecord.__init__" (defArgs (inClass (topS 4) 0)) (defBody (inClass (topS 4) 0)) (defScope (inClass (topS 4) 0)) .none .none dc2 pm2 an2 cd2 ct2), sl2⟩)
    (ci2 : PySem.W.codeIn K cd2 "BadRecord.__init__" = true)
    (kc2 : PySem.W.keepIn K (.ref c2) = true)
    (ty2 : PySem.W.typeIn K (.ref c2) = some (.type "type"))
    (a3 : PySem.W.nsIn K mainGlobals "BadPaper" = some (some (.ref c3)))
    (x3 : K.lookup c3 = some (excClassObj nm3 qn3 c3 N3 bs3 [.ref T, .type "Exception", .type "BaseException", .type "object"] true sn3 sub3 ab3 col3 dd3 r30 r31 r32 r33 r35 "Exception.__new__"))
    (sa3 : PySem.W.findIn K (.ref c3) "__setattr__" = some (some (.builtin "object.__setattr__")))
    (ga3 : PySem.W.findIn K (.ref c3) "__getattribute__" = some (some (.builtin "BaseException.__getattribute__")))
    (gg3 : PySem.W.findIn K (.ref c3) "__getattr__" = some none)
    (ca3 : PySem.W.findIn K (.ref c3) "__class__" = some (some (.builtin "object.__class__")))
    (no3 : PySem.W.findIn K (.ref c3) "at" = some none)
    (ii3 : PySem.W.findIn K (.ref c3) "__init__" = some (some (.ref e3)))
    (ti3 : PySem.W.typeIn K (.ref e3) = some (.type "function"))
    (li3 : K.lookup e3 = some ⟨oc3, od3, .func (PySem.W.fnOf "__init__" "BadPaper.__init__" (defArgs (inClass (topS 5) 0)) (defBody (inClass (topS 5) 0)) (defScope (inClass (topS 5) 0)) .none .none dc3 pm3 an3 cd3 ct3), sl3⟩)
    (ci3 : PySem.W.codeIn K cd3 "BadPaper.__init__" = true)
    (kc3 : PySem.W.keepIn K (.ref c3) = true)
    (ty3 : PySem.W.typeIn K (.ref c3) = some (.type "type"))
    (a4 : PySem.W.nsIn K mainGlobals "BadLine" = some (some (.ref c4)))
    (x4 : K.lookup c4 = some (excClassObj nm4 qn4 c4 N4 bs4 [.ref T, .type "Exception", .type "BaseException", .type "object"] true sn4 sub4 ab4 col4 dd4 r40 r41 r42 r43 r45 "Exception.__new__"))
    (sa4 : PySem.W.findIn K (.ref c4) "__setattr__" = some (some (.builtin "object.__setattr__")))
    (ga4 : PySem.W.findIn K (.ref c4) "__getattribute__" = some (some (.builtin "BaseException.__getattribute__")))
    (gg4 : PySem.W.findIn K (.ref c4) "__getattr__" = some none)
    (ca4 : PySem.W.findIn K (.ref c4) "__class__" = some (some (.builtin "object.__class__")))
    (no4 : PySem.W.findIn K (.ref c4) "at" = some none)
    (ii4 : PySem.W.findIn K (.ref c4) "__init__" = some (some (.ref e4)))
    (ti4 : PySem.W.typeIn K (.ref e4) = some (.type "function"))
    (li4 : K.lookup e4 = some ⟨oc4, od4, .func (PySem.W.fnOf "__init__" "BadLine.__init__" (defArgs (inClass (topS 6) 0)) (defBody (inClass (topS 6) 0)) (defScope (inClass (topS 6) 0)) .none .none dc4 pm4 an4 cd4 ct4), sl4⟩)
    (ci4 : PySem.W.codeIn K cd4 "BadLine.__init__" = true)
    (kc4 : PySem.W.keepIn K (.ref c4) = true)
    (ty4 : PySem.W.typeIn K (.ref c4) = some (.type "type"))
    (a5 : PySem.W.nsIn K mainGlobals "TooMany" = some (some (.ref c5)))
    (x5 : K.lookup c5 = some (excClassObj nm5 qn5 c5 N5 bs5 [.ref T, .type "Exception", .type "BaseException", .type "object"] true sn5 sub5 ab5 col5 dd5 r50 r51 r52 r53 r55 "Exception.__new__"))
    (sa5 : PySem.W.findIn K (.ref c5) "__setattr__" = some (some (.builtin "object.__setattr__")))
    (ga5 : PySem.W.findIn K (.ref c5) "__getattribute__" = some (some (.builtin "BaseException.__getattribute__")))
    (gg5 : PySem.W.findIn K (.ref c5) "__getattr__" = some none)
    (ca5 : PySem.W.findIn K (.ref c5) "__class__" = some (some (.builtin "object.__class__")))
    (no5 : PySem.W.findIn K (.ref c5) "word" = some none)
    (ii5 : PySem.W.findIn K (.ref c5) "__init__" = some (some (.ref e5)))
    (ti5 : PySem.W.typeIn K (.ref e5) = some (.type "function"))
    (li5 : K.lookup e5 = some ⟨oc5, od5, .func (PySem.W.fnOf "__init__" "TooMany.__init__" (defArgs (inClass (topS 8) 0)) (defBody (inClass (topS 8) 0)) (defScope (inClass (topS 8) 0)) .none .none dc5 pm5 an5 cd5 ct5), sl5⟩)
    (ci5 : PySem.W.codeIn K cd5 "TooMany.__init__" = true)
    (kc5 : PySem.W.keepIn K (.ref c5) = true)
    (ty5 : PySem.W.typeIn K (.ref c5) = some (.type "type"))
    (a6 : PySem.W.nsIn K mainGlobals "NothingThere" = some (some (.ref c6)))
    (x6 : K.lookup c6 = some (excClassObj nm6 qn6 c6 N6 bs6 [.ref T, .type "Exception", .type "BaseException", .type "object"] true sn6 sub6 ab6 col6 dd6 r60 r61 r62 r63 r65 "Exception.__new__"))
    (sa6 : PySem.W.findIn K (.ref c6) "__setattr__" = some (some (.builtin "object.__setattr__")))
    (ga6 : PySem.W.findIn K (.ref c6) "__getattribute__" = some (some (.builtin "BaseException.__getattribute__")))
    (gg6 : PySem.W.findIn K (.ref c6) "__getattr__" = some none)
    (ca6 : PySem.W.findIn K (.ref c6) "__class__" = some (some (.builtin "object.__class__")))
    (no6 : PySem.W.findIn K (.ref c6) "name" = some none)
    (ii6 : PySem.W.findIn K (.ref c6) "__init__" = some (some (.ref e6)))
    (ti6 : PySem.W.typeIn K (.ref e6) = some (.type "function"))
    (li6 : K.lookup e6 = some ⟨oc6, od6, .func (PySem.W.fnOf "__init__" "NothingThere.__init__" (defArgs (inClass (topS 7) 0)) (defBody (inClass (topS 7) 0)) (defScope (inClass (topS 7) 0)) .none .none dc6 pm6 an6 cd6 ct6), sl6⟩)
    (ci6 : PySem.W.codeIn K cd6 "NothingThere.__init__" = true)
    (kc6 : PySem.W.keepIn K (.ref c6) = true)
    (ty6 : PySem.W.typeIn K (.ref c6) = some (.type "type"))
    (a7 : PySem.W.nsIn K mainGlobals "Unlike" = some (some (.ref c7)))
    (x7 : K.lookup c7 = some (excClassObj nm7 qn7 c7 N7 bs7 [.ref T, .type "Exception", .type "BaseException", .type "object"] true sn7 sub7 ab7 col7 dd7 r70 r71 r72 r73 r75 "Exception.__new__"))
    (sa7 : PySem.W.findIn K (.ref c7) "__setattr__" = some (some (.builtin "object.__setattr__")))
    (ga7 : PySem.W.findIn K (.ref c7) "__getattribute__" = some (some (.builtin "BaseException.__getattribute__")))
    (gg7 : PySem.W.findIn K (.ref c7) "__getattr__" = some none)
    (ca7 : PySem.W.findIn K (.ref c7) "__class__" = some (some (.builtin "object.__class__")))
    (no7 : PySem.W.findIn K (.ref c7) "name" = some none)
    (ii7 : PySem.W.findIn K (.ref c7) "__init__" = some (some (.ref e7)))
    (ti7 : PySem.W.typeIn K (.ref e7) = some (.type "function"))
    (li7 : K.lookup e7 = some ⟨oc7, od7, .func (PySem.W.fnOf "__init__" "Unlike.__init__" (defArgs (inClass (topS 9) 0)) (defBody (inClass (topS 9) 0)) (defScope (inClass (topS 9) 0)) .none .none dc7 pm7 an7 cd7 ct7), sl7⟩)
    (ci7 : PySem.W.codeIn K cd7 "Unlike.__init__" = true)
    (kc7 : PySem.W.keepIn K (.ref c7) = true)
    (ty7 : PySem.W.typeIn K (.ref c7) = some (.type "type"))
    (nd : ([T, c0, c1, c2, c3, c4, c5, c6, c7] : List Addr).Nodup)
    (fa0 : PySem.W.nsIn K mainGlobals "_law_mix" = some (some (.ref f0)))
    (fl0 : K.lookup f0 = some ⟨foc0, fod0, .func (PySem.W.fnOf "_law_mix" "_law_mix" (defArgs sMix) (defBody sMix) (defScope sMix) .none fkV0 fdc0 fpm0 fan0 fcd0 fct0), fsl0⟩)
    (fc0 : PySem.W.codeIn K fcd0 "_law_mix" = true)
    (fk0 : PySem.W.keepIn K (.ref f0) = true)
    (fa1 : PySem.W.nsIn K mainGlobals "_law_box" = some (some (.ref f1)))
    (fl1 : K.lookup f1 = some ⟨foc1, fod1, .func (PySem.W.fnOf "_law_box" "_law_box" (defArgs sBox) (defBody sBox) (defScope sBox) .none fkV1 fdc1 fpm1 fan1 fcd1 fct1), fsl1⟩)
    (fc1 : PySem.W.codeIn K fcd1 "_law_box" = true)
    (fk1 : PySem.W.keepIn K (.ref f1) = true)
    (fa2 : PySem.W.nsIn K mainGlobals "_law_draw" = some (some (.ref f2)))
    (fl2 : K.lookup f2 = some ⟨foc2, fod2, .func (PySem.W.fnOf "_law_draw" "_law_draw" (defArgs sDraw) (defBody sDraw) (defScope sDraw) .none fkV2 fdc2 fpm2 fan2 fcd2 fct2), fsl2⟩)
    (fc2 : PySem.W.codeIn K fcd2 "_law_draw" = true)
    (fk2 : PySem.W.keepIn K (.ref f2) = true)
    (fa3 : PySem.W.nsIn K mainGlobals "_law_alike" = some (some (.ref f3)))
    (fl3 : K.lookup f3 = some ⟨foc3, fod3, .func (PySem.W.fnOf "_law_alike" "_law_alike" (defArgs sAlike) (defBody sAlike) (defScope sAlike) .none fkV3 fdc3 fpm3 fan3 fcd3 fct3), fsl3⟩)
    (fc3 : PySem.W.codeIn K fcd3 "_law_alike" = true)
    (fk3 : PySem.W.keepIn K (.ref f3) = true)
    (fa4 : PySem.W.nsIn K mainGlobals "_law_text" = some (some (.ref f4)))
    (fl4 : K.lookup f4 = some ⟨foc4, fod4, .func (PySem.W.fnOf "_law_text" "_law_text" (defArgs sText) (defBody sText) (defScope sText) .none fkV4 fdc4 fpm4 fan4 fcd4 fct4), fsl4⟩)
    (fc4 : PySem.W.codeIn K fcd4 "_law_text" = true)
    (fk4 : PySem.W.keepIn K (.ref f4) = true)
    (fa5 : PySem.W.nsIn K mainGlobals "_law_alone" = some (some (.ref f5)))
    (fl5 : K.lookup f5 = some ⟨foc5, fod5, .func (PySem.W.fnOf "_law_alone" "_law_alone" (defArgs sAlone) (defBody sAlone) (defScope sAlone) .none fkV5 fdc5 fpm5 fan5 fcd5 fct5), fsl5⟩)
    (fc5 : PySem.W.codeIn K fcd5 "_law_alone" = true)
    (fk5 : PySem.W.keepIn K (.ref f5) = true)
    (fa6 : PySem.W.nsIn K mainGlobals "_law_numbered" = some (some (.ref f6)))
    (fl6 : K.lookup f6 = some ⟨foc6, fod6, .func (PySem.W.fnOf "_law_numbered" "_law_numbered" (defArgs sNum) (defBody sNum) (defScope sNum) .none fkV6 fdc6 fpm6 fan6 fcd6 fct6), fsl6⟩)
    (fc6 : PySem.W.codeIn K fcd6 "_law_numbered" = true)
    (fk6 : PySem.W.keepIn K (.ref f6) = true)
    (fa7 : PySem.W.nsIn K mainGlobals "_law_worded" = some (some (.ref f7)))
    (fl7 : K.lookup f7 = some ⟨foc7, fod7, .func (PySem.W.fnOf "_law_worded" "_law_worded" (defArgs sWord) (defBody sWord) (defScope sWord) .none fkV7 fdc7 fpm7 fan7 fcd7 fct7), fsl7⟩)
    (fc7 : PySem.W.codeIn K fcd7 "_law_worded" = true)
    (fk7 : PySem.W.keepIn K (.ref f7) = true)
    (fa8 : PySem.W.nsIn K mainGlobals "_law_raise" = some (some (.ref f8)))
    (fl8 : K.lookup f8 = some ⟨foc8, fod8, .func (PySem.W.fnOf "_law_raise" "_law_raise" (defArgs sRaise) (defBody sRaise) (defScope sRaise) .none fkV8 fdc8 fpm8 fan8 fcd8 fct8), fsl8⟩)
    (fc8 : PySem.W.codeIn K fcd8 "_law_raise" = true)
    (fk8 : PySem.W.keepIn K (.ref f8) = true)
    (fa9 : PySem.W.nsIn K mainGlobals "_law_caught" = some (some (.ref f9)))
    (fl9 : K.lookup f9 = some ⟨foc9, fod9, .func (PySem.W.fnOf "_law_caught" "_law_caught" (defArgs sCaught) (defBody sCaught) (defScope sCaught) .none fkV9 fdc9 fpm9 fan9 fcd9 fct9), fsl9⟩)
    (fc9 : PySem.W.codeIn K fcd9 "_law_caught" = true)
    (fk9 : PySem.W.keepIn K (.ref f9) = true)
    (fa10 : PySem.W.nsIn K mainGlobals "_law_beneath" = some (some (.ref f10)))
    (fl10 : K.lookup f10 = some ⟨foc10, fod10, .func (PySem.W.fnOf "_law_beneath" "_law_beneath" (defArgs sBen) (defBody sBen) (defScope sBen) .none fkV10 fdc10 fpm10 fan10 fcd10 fct10), fsl10⟩)
    (fc10 : PySem.W.codeIn K fcd10 "_law_beneath" = true)
    (fk10 : PySem.W.keepIn K (.ref f10) = true)
    (fa11 : PySem.W.nsIn K mainGlobals "law" = some (some (.ref f11)))
    (fl11 : K.lookup f11 = some ⟨foc11, fod11, .func (PySem.W.fnOf "law" "law" (defArgs sLaw) (defBody sLaw) (defScope sLaw) .none fkV11 fdc11 fpm11 fan11 fcd11 fct11), fsl11⟩)
    (fc11 : PySem.W.codeIn K fcd11 "law" = true)
    (fk11 : PySem.W.keepIn K (.ref f11) = true)
    (z_isi : PySem.W.nsIn K mainGlobals "isinstance" = some none)
    (z_tup : PySem.W.nsIn K mainGlobals "tuple" = some none)
    (z_lst : PySem.W.nsIn K mainGlobals "list" = some none)
    (z_len : PySem.W.nsIn K mainGlobals "len" = some none)
    (z_rng : PySem.W.nsIn K mainGlobals "range" = some none)
    (z_bool : PySem.W.nsIn K mainGlobals "bool" = some none)
    (z_str : PySem.W.nsIn K mainGlobals "str" = some none)
    (z_int : PySem.W.nsIn K mainGlobals "int" = some none)
    (z_exc : PySem.W.nsIn K mainGlobals "Exception" = some none)
    (z_ve : PySem.W.nsIn K mainGlobals "ValueError" = some none)
    : ∃ fd : FuncData, (∀ (s : Shared) (v : Value), BindsTo s fd ⟨[v], []⟩ [("script", v)]) ∧ ∀ base : Heap, K.In base → base.Ns mainGlobals mg → FnOk l.prog w K mg base CX0 4 fa fd ["script"] (spLaw K) := by
  have e := hfa.symm.trans (PySem.W.mg_of X G fa11)
  cases e
  have E0 : EC K c0 T "at" e0 := ⟨⟨_, _, _, _, _, _, _, _, _, _, _, _, _, _, x0⟩, sa0, ga0, gg0, ca0, no0, ii0, ti0, kc0, ty0⟩
  have M0 : Makes K c0 "at" := Iat.makes E0 (qn := "BadValue.__init__") ⟨_, _, _, _, _, _, _, _, _, _, _, _, _, _, li0, ci0⟩
  have E1 : EC K c1 T "at" e1 := ⟨⟨_, _, _, _, _, _, _, _, _, _, _, _, _, _, x1⟩, sa1, ga1, gg1, ca1, no1, ii1, ti1, kc1, ty1⟩
  have M1 : Makes K c1 "at" := Iat.makes E1 (qn := "BadProgram.__init__") ⟨_, _, _, _, _, _, _, _, _, _, _, _, _, _, li1, ci1⟩
  have E2 : EC K c2 T "at" e2 := ⟨⟨_, _, _, _, _, _, _, _, _, _, _, _, _, _, x2⟩, sa2, ga2, gg2, ca2, no2, ii2, ti2, kc2, ty2⟩
  have M2 : Makes K c2 "at" := Iat.makes E2 (qn := "BadRecord.__init__") ⟨_, _, _, _, _, _, _, _, _, _, _, _, _, _, li2, ci2⟩
  have E3 : EC K c3 T "at" e3 := ⟨⟨_, _, _, _, _, _, _, _, _, _, _, _, _, _, x3⟩, sa3, ga3, gg3, ca3, no3, ii3, ti3, kc3, ty3⟩
  have M3 : Makes K c3 "at" := Iat.makes E3 (qn := "BadPaper.__init__") ⟨_, _, _, _, _, _, _, _, _, _, _, _, _, _, li3, ci3⟩
  have E4 : EC K c4 T "at" e4 := ⟨⟨_, _, _, _, _, _, _, _, _, _, _, _, _, _, x4⟩, sa4, ga4, gg4, ca4, no4, ii4, ti4, kc4, ty4⟩
  have M4 : Makes K c4 "at" := Iat.makes E4 (qn := "BadLine.__init__") ⟨_, _, _, _, _, _, _, _, _, _, _, _, _, _, li4, ci4⟩
  have E5 : EC K c5 T "word" e5 := ⟨⟨_, _, _, _, _, _, _, _, _, _, _, _, _, _, x5⟩, sa5, ga5, gg5, ca5, no5, ii5, ti5, kc5, ty5⟩
  have M5 : Makes K c5 "word" := Iword.makes E5 (qn := "TooMany.__init__") ⟨_, _, _, _, _, _, _, _, _, _, _, _, _, _, li5, ci5⟩
  have E6 : EC K c6 T "name" e6 := ⟨⟨_, _, _, _, _, _, _, _, _, _, _, _, _, _, x6⟩, sa6, ga6, gg6, ca6, no6, ii6, ti6, kc6, ty6⟩
  have M6 : Makes K c6 "name" := Iname.makes E6 (qn := "NothingThere.__init__") ⟨_, _, _, _, _, _, _, _, _, _, _, _, _, _, li6, ci6⟩
  have E7 : EC K c7 T "name" e7 := ⟨⟨_, _, _, _, _, _, _, _, _, _, _, _, _, _, x7⟩, sa7, ga7, gg7, ca7, no7, ii7, ti7, kc7, ty7⟩
  have M7 : Makes K c7 "name" := Iname.makes E7 (qn := "Unlike.__init__") ⟨_, _, _, _, _, _, _, _, _, _, _, _, _, _, li7, ci7⟩
  have T' : Txt K mg T c0 c1 c2 c3 c4 c5 c6 c7 (fun n => match n with | 0 => e0 | 1 => e1 | 2 => e2 | 3 => e3 | 4 => e4 | 5 => e5 | 6 => e6 | _ => e7) := {
    l0 := ⟨E0, M0, PySem.W.mg_of X G a0⟩
    l1 := ⟨E1, M1, PySem.W.mg_of X G a1⟩
    l2 := ⟨E2, M2, PySem.W.mg_of X G a2⟩
    l3 := ⟨E3, M3, PySem.W.mg_of X G a3⟩
    l4 := ⟨E4, M4, PySem.W.mg_of X G a4⟩
    l5 := ⟨E5, M5, PySem.W.mg_of X G a5⟩
    l6 := ⟨E6, M6, PySem.W.mg_of X G a6⟩
    l7 := ⟨E7, M7, PySem.W.mg_of X G a7⟩
    nd := nd, isT := iT, tT := tT, gT := PySem.W.mg_of X G aT, exT := xT, hdT := hT, hc := ⟨hsn, htk⟩
    N := ⟨PySem.W.mg_none_of X G z_isi, PySem.W.mg_none_of X G z_tup, PySem.W.mg_none_of X G z_lst, PySem.W.mg_none_of X G z_len, PySem.W.mg_none_of X G z_rng, PySem.W.mg_none_of X G z_bool, PySem.W.mg_none_of X G z_str, PySem.W.mg_none_of X G z_int⟩, exc := PySem.W.mg_none_of X G z_exc, ve := PySem.W.mg_none_of X G z_ve }
  have F0 := fun_mk (st := sMix) fl0 fc0 fk0
  have b0 := F0.binds (ps := ["cell", "salt"]) fun _ _ _ _ _ _ us hl => match us, hl with | [_, _], _ => rfl
  have F1 := fun_mk (st := sBox) fl1 fc1 fk1
  have b1 := F1.binds (ps := ["script", "at"]) fun _ _ _ _ _ _ us hl => match us, hl with | [_, _], _ => rfl
  have F2 := fun_mk (st := sDraw) fl2 fc2 fk2
  have b2 := F2.binds (ps := ["box", "many"]) fun _ _ _ _ _ _ us hl => match us, hl with | [_, _], _ => rfl
  have F3 := fun_mk (st := sAlike) fl3 fc3 fk3
  have b3 := F3.binds (ps := ["told", "due"]) fun _ _ _ _ _ _ us hl => match us, hl with | [_, _], _ => rfl
  have F4 := fun_mk (st := sText) fl4 fc4 fk4
  have b4 := F4.binds (ps := ["box"]) fun _ _ _ _ _ _ us hl => match us, hl with | [_], _ => rfl
  have F5 := fun_mk (st := sAlone) fl5 fc5 fk5
  have b5 := F5.binds (ps := ["e", "kind"]) fun _ _ _ _ _ _ us hl => match us, hl with | [_, _], _ => rfl
  have F6 := fun_mk (st := sNum) fl6 fc6 fk6
  have b6 := F6.binds (ps := ["at", "other"]) fun _ _ _ _ _ _ us hl => match us, hl with | [_, _], _ => rfl
  have F7 := fun_mk (st := sWord) fl7 fc7 fk7
  have b7 := F7.binds (ps := ["word", "other"]) fun _ _ _ _ _ _ us hl => match us, hl with | [_, _], _ => rfl
  have F8 := fun_mk (st := sRaise) fl8 fc8 fk8
  have b8 := F8.binds (ps := ["kind", "at", "word"]) fun _ _ _ _ _ _ us hl => match us, hl with | [_, _, _], _ => rfl
  have F9 := fun_mk (st := sCaught) fl9 fc9 fk9
  have b9 := F9.binds (ps := ["kind", "at", "word"]) fun _ _ _ _ _ _ us hl => match us, hl with | [_, _, _], _ => rfl
  have F10 := fun_mk (st := sBen) fl10 fc10 fk10
  have b10 := F10.binds (ps := ["kind", "at", "word"]) fun _ _ _ _ _ _ us hl => match us, hl with | [_, _, _], _ => rfl
  have F11 := fun_mk (st := sLaw) fl11 fc11 fk11
  exact ⟨PySem.W.fnOf "law" "law" (defArgs sLaw) (defBody sLaw) (defScope sLaw) .none fkV11 fdc11 fpm11 fan11 fcd11 fct11, fun s v => .of_eq rfl, fun base _ _ => ok_law F11 T' ⟨F0, b0, PySem.W.mg_of X G fa0, fk0⟩ ⟨F1, b1, PySem.W.mg_of X G fa1, fk1⟩ ⟨F2, b2, PySem.W.mg_of X G fa2, fk2⟩ ⟨F3, b3, PySem.W.mg_of X G fa3, fk3⟩ ⟨F4, b4, PySem.W.mg_of X G fa4, fk4⟩ ⟨F5, b5, PySem.W.mg_of X G fa5, fk5⟩ ⟨F6, b6, PySem.W.mg_of X G fa6, fk6⟩ ⟨F7, b7, PySem.W.mg_of X G fa7, fk7⟩ ⟨F8, b8, PySem.W.mg_of X G fa8, fk8⟩ ⟨F9, b9, PySem.W.mg_of X G fa9, fk9⟩ ⟨F10, b10, PySem.W.mg_of X G fa10, fk10⟩⟩
theorem walk {l : PySem.W.OpenLaw} {q : Program} {loose : List Str} {XP : (Str → Option Value) → Heap → Prop} {YP : World → Heap → Prop} {d : DefRec} {K : Params → PySem.W.Frag} (hn : l.most = some 63) (hdf : d.params.defaults = [])
    (hY : ∀ (w : World) (h : Heap), YP w h → (K w.params).In h)
    (F : ∀ (w : World) (mg : Str → Option Value) (fa : Addr) (h : Heap), (K w.params).In h → h.Ns mainGlobals mg → mg d.name = some (.ref fa) →
      ∃ fd : FuncData, (∀ (s : Shared) (u : Value), BindsTo s fd ⟨[u], []⟩ [("script", u)]) ∧ ∀ base : Heap, (K w.params).In base → base.Ns mainGlobals mg → FnOk l.prog w (K w.params) mg base CX0 4 fa fd ["script"] (spLaw (K w.params))) :
    PySem.W.WalkO q loose XP YP l.row.toRowW d [] (fun f vs => PySem.call f vs) :=
  L2.walk_of (n := 63) (k := 4) (x := "script") (CX := fun _ => CX0) (sp := fun w => spLaw (K w.params)) hn (by decide) hdf ⟨rfl, by decide, by decide⟩ hY F (fun _ _ a ns hl _ hS => ⟨a, ns, rfl, hS, hl, fun _ => rfl⟩) fun _ _ _ _ _ z => z
end K0


set_option Elab.async false
open PySem PySem.W PyProof.Rows
set_option maxRecDepth 100000 in
set_option maxHeartbeats 0 in
theorem PySem.Challenge.cw_ledgertrace_k00_errors_holds : PySem.Challenge.rw_ledgertrace_k00_errors.Holds := by
  w_on; o_law; k_head; (case hw => w_witness2)
  k_fill
  refine K0.walk (l := PySem.Challenge.rw_ledgertrace_k00_errors) rfl rfl (fun w h Y => PySem.W.kIn_of Y) ?F
  case F =>
    intro w mg fa h KX G hmg
    refine' K0.all_mk KX G hmg ?aT ?tT ?iT ?xT ?hT ?hsn ?htk ?a0 ?x0 ?sa0 ?ga0 ?gg0 ?ca0 ?no0 ?ii0 ?ti0 ?li0 ?ci0 ?kc0 ?ty0 ?a1 ?x1 ?sa1 ?ga1 ?gg1 ?ca1 ?no1 ?ii1 ?ti1 ?li1 ?ci1 ?kc1 ?ty1 ?a2 ?x2 ?sa2 ?ga2 ?gg2 ?ca2 ?no2 ?ii2 ?ti2 ?li2 ?ci2 ?kc2 ?ty2 ?a3 ?x3 ?sa3 ?ga3 ?gg3 ?ca3 ?no3 ?ii3 ?ti3 ?li3 ?ci3 ?kc3 ?ty3 ?a4 ?x4 ?sa4 ?ga4 ?gg4 ?ca4 ?no4 ?ii4 ?ti4 ?li4 ?ci4 ?kc4 ?ty4 ?a5 ?x5 ?sa5 ?ga5 ?gg5 ?ca5 ?no5 ?ii5 ?ti5 ?li5 ?ci5 ?kc5 ?ty5 ?a6 ?x6 ?sa6 ?ga6 ?gg6 ?ca6 ?no6 ?ii6 ?ti6 ?li6 ?ci6 ?kc6 ?ty6 ?a7 ?x7 ?sa7 ?ga7 ?gg7 ?ca7 ?no7 ?ii7 ?ti7 ?li7 ?ci7 ?kc7 ?ty7 ?nd ?fa0 ?fl0 ?fc0 ?fk0 ?fa1 ?fl1 ?fc1 ?fk1 ?fa2 ?fl2 ?fc2 ?fk2 ?fa3 ?fl3 ?fc3 ?fk3 ?fa4 ?fl4 ?fc4 ?fk4 ?fa5 ?fl5 ?fc5 ?fk5 ?fa6 ?fl6 ?fc6 ?fk6 ?fa7 ?fl7 ?fc7 ?fk7 ?fa8 ?fl8 ?fc8 ?fk8 ?fa9 ?fl9 ?fc9 ?fk9 ?fa10 ?fl10 ?fc10 ?fk10 ?fa11 ?fl11 ?fc11 ?fk11 ?z_isi ?z_tup ?z_lst ?z_len ?z_rng ?z_bool ?z_str ?z_int ?z_exc ?z_ve
    (case aT => k_is)
    (case tT => k_is)
    (case iT => k_is)
    (case xT => k_is)
    (case hT => k_is)
    (case hsn => k_is)
    (case htk => k_is)
    (case a0 => k_is)
    (case x0 => k_is)
    (case sa0 => k_is)
    (case ga0 => k_is)
    (case gg0 => k_is)
    (case ca0 => k_is)
    (case no0 => k_is)
    (case ii0 => k_is)
    (case ti0 => k_is)
    (case li0 => k_is)
    (case ci0 => k_is)
    (case kc0 => k_is)
    (case ty0 => k_is)
    (case a1 => k_is)
    (case x1 => k_is)
    (case sa1 => k_is)
    (case ga1 => k_is)
    (case gg1 => k_is)
    (case ca1 => k_is)
    (case no1 => k_is)
    (case ii1 => k_is)
    (case ti1 => k_is)
    (case li1 => k_is)
    (case ci1 => k_is)
    (case kc1 => k_is)
    (case ty1 => k_is)
    (case a2 => k_is)
    (case x2 => k_is)
    (case sa2 => k_is)
    (case ga2 => k_is)
    (case gg2 => k_is)
    (case ca2 => k_is)
    (case no2 => k_is)
    (case ii2 => k_is)
    (case ti2 => k_is)
    (case li2 => k_is)
    (case ci2 => k_is)
    (case kc2 => k_is)
    (case ty2 => k_is)
    (case a3 => k_is)
    (case x3 => k_is)
    (case sa3 => k_is)
    (case ga3 => k_is)
    (case gg3 => k_is)
    (case ca3 => k_is)
    (case no3 => k_is)
    (case ii3 => k_is)
    (case ti3 => k_is)
    (case li3 => k_is)
    (case ci3 => k_is)
    (case kc3 => k_is)
    (case ty3 => k_is)
    (case a4 => k_is)
    (case x4 => k_is)
    (case sa4 => k_is)
    (case ga4 => k_is)
    (case gg4 => k_is)
    (case ca4 => k_is)
    (case no4 => k_is)
    (case ii4 => k_is)
    (case ti4 => k_is)
    (case li4 => k_is)
    (case ci4 => k_is)
    (case kc4 => k_is)
    (case ty4 => k_is)
    (case a5 => k_is)
    (case x5 => k_is)
    (case sa5 => k_is)
    (case ga5 => k_is)
    (case gg5 => k_is)
    (case ca5 => k_is)
    (case no5 => k_is)
    (case ii5 => k_is)
    (case ti5 => k_is)
    (case li5 => k_is)
    (case ci5 => k_is)
    (case kc5 => k_is)
    (case ty5 => k_is)
    (case a6 => k_is)
    (case x6 => k_is)
    (case sa6 => k_is)
    (case ga6 => k_is)
    (case gg6 => k_is)
    (case ca6 => k_is)
    (case no6 => k_is)
    (case ii6 => k_is)
    (case ti6 => k_is)
    (case li6 => k_is)
    (case ci6 => k_is)
    (case kc6 => k_is)
    (case ty6 => k_is)
    (case a7 => k_is)
    (case x7 => k_is)
    (case sa7 => k_is)
    (case ga7 => k_is)
    (case gg7 => k_is)
    (case ca7 => k_is)
    (case no7 => k_is)
    (case ii7 => k_is)
    (case ti7 => k_is)
    (case li7 => k_is)
    (case ci7 => k_is)
    (case kc7 => k_is)
    (case ty7 => k_is)
    (case nd => decide)
    (case fa0 => k_is)
    (case fl0 => k_is)
    (case fc0 => k_is)
    (case fk0 => k_is)
    (case fa1 => k_is)
    (case fl1 => k_is)
    (case fc1 => k_is)
    (case fk1 => k_is)
    (case fa2 => k_is)
    (case fl2 => k_is)
    (case fc2 => k_is)
    (case fk2 => k_is)
    (case fa3 => k_is)
    (case fl3 => k_is)
    (case fc3 => k_is)
    (case fk3 => k_is)
    (case fa4 => k_is)
    (case fl4 => k_is)
    (case fc4 => k_is)
    (case fk4 => k_is)
    (case fa5 => k_is)
    (case fl5 => k_is)
    (case fc5 => k_is)
    (case fk5 => k_is)
    (case fa6 => k_is)
    (case fl6 => k_is)
    (case fc6 => k_is)
    (case fk6 => k_is)
    (case fa7 => k_is)
    (case fl7 => k_is)
    (case fc7 => k_is)
    (case fk7 => k_is)
    (case fa8 => k_is)
    (case fl8 => k_is)
    (case fc8 => k_is)
    (case fk8 => k_is)
    (case fa9 => k_is)
    (case fl9 => k_is)
    (case fc9 => k_is)
    (case fk9 => k_is)
    (case fa10 => k_is)
    (case fl10 => k_is)
    (case fc10 => k_is)
    (case fk10 => k_is)
    (case fa11 => k_is)
    (case fl11 => k_is)
    (case fc11 => k_is)
    (case fk11 => k_is)
    (case z_isi => k_is)
    (case z_tup => k_is)
    (case z_lst => k_is)
    (case z_len => k_is)
    (case z_rng => k_is)
    (case z_bool => k_is)
    (case z_str => k_is)
    (case z_int => k_is)
    (case z_exc => k_is)
    (case z_ve => k_is)

