import PyProof.Rows.All
import Wide.All
import OpenK.AllK
import Wide.FinOn
import KE.KDictKeyed
import KE.SortData
import KE.DataCmp
import HandS.ForMost
import HandS.Conv
import HandS.DictTup
import HandS.TupAny
import HandS.Walk
import HandS.ForExc
import HandS.Comp
import HandS.Text
import HandS.Codes
import HandS.IsInst
import HandS.More
import HandS.Wide
import HandS.ForDict
import KE.KDictPairs
import PyProof.ReprRoads
import PyProof.Rows.ReprR
import HandS.Ends
import PyProof.StrLawsRepr
import KE.KExcInit
import KE.KExcIs
import HandS.Exc
import HandS.ExcInit
import HandS.ExcValue
import HandS.ExcField
import KE.SortKeyHeap
import HandS.SortKw
import KE.DataEq
import HandS.TupLen
import HandS.Call
import HandS.Iter
import KE.GoesEnum
import KE.GoesMore
import HandS.DictComp
import KE.KIntText
import HandS.List
import PyProof.Rows.SortShellAny
import HandS.RaiseMore
import HandS.ExcOwn
import HandS.ExcIs
import Wide.Txt
import PySem.Challenge.RW_ledgertrace_k14_widths_and_refusals
set_option Elab.async false
set_option linter.all false
set_option maxRecDepth 100000
set_option maxHeartbeats 2000000
/-! dicts whose keys are tuples of pairs (text, int), their values ints -/
namespace Nd
open PySem PySem.Spec PyProof.Rows L2
abbrev Mono := List (Str × Int)
def mD (m : Mono) : PyData := .tuple (m.map fun p => .tuple [.str p.1, .int p.2])
def mK (m : Mono) : NestedKey := .tup (m.map fun p => .tup [.text p.1, .num p.2])
theorem mK_inj {m n : Mono} (h : mK m = mK n) : m = n := by
  have h' := NestedKey.tup.inj h
  revert n
  induction m with
  | nil =>
    intro n _ h'
    cases n with
    | nil => rfl
    | cons y r => simp at h'
  | cons x r ih =>
    intro n h h'
    cases n with
    | nil => simp at h'
    | cons y r' =>
      simp only [List.map_cons, List.cons.injEq, NestedKey.tup.injEq, NestedKey.text.injEq, NestedKey.num.injEq] at h'
      obtain ⟨⟨h1, h2, _⟩, h3⟩ := h'
      have := ih (n := r') (by show NestedKey.tup _ = NestedKey.tup _; rw [h3]) h3
      rw [this]
      obtain ⟨x1, x2⟩ := x
      obtain ⟨y1, y2⟩ := y
      simp only at h1 h2
      rw [h1, h2]
theorem mK_depth (m : Mono) : (mK m).depth ≤ 8 := by
  have h : ∀ m : Mono, NestedKey.depthAll (m.map fun p => .tup [.text p.1, .num p.2]) ≤ 1 := by
    intro m
    induction m with
    | nil => simp [NestedKey.depthAll]
    | cons x r ih => simp only [List.map_cons, NestedKey.depthAll, NestedKey.depth]; omega
  have := h m
  simp only [mK, NestedKey.depth]
  omega
section
variable {X : Cx} {pins : List (Addr × Obj)} {σ : L2.St} {H : Hp} {s : Shared}
theorem pair_is (I : Inv X pins σ H s) {v : V} {u : Value} {x : Str} {i : Int} (h : Dp X.K H v (.tuple [.str x, .int i])) (r : RelV v u) : NestedIs s.heap (.tup [.text x, .num i]) u := by
  cases h with
  | tup hs ha =>
    cases r
    obtain ⟨its, rv, ⟨o, ho, hc, n, hd⟩, _⟩ := I.tuple hs
    cases ha with
    | cons h1 ha =>
      cases ha with
      | cons h2 ha =>
        cases ha
        cases h1
        cases h2
        cases rv with
        | cons r1 rv =>
          cases rv with
          | cons r2 rv =>
            cases rv
            obtain ⟨t1, rfl⟩ := r1
            obtain ⟨t2, rfl⟩ := r2
            exact .tup ho hc hd (.cons (.text _ _) (.cons (.int _ _) .nil))
theorem pairs_are (I : Inv X pins σ H s) : ∀ {m : Mono} {vs : List V} {us : List Value}, DpAll X.K H vs (m.map fun p => .tuple [.str p.1, .int p.2]) → Vals vs us → NestedAll s.heap (m.map fun p => .tup [.text p.1, .num p.2]) us
  | [], _, _, h, r => by
    cases h
    cases r
    exact .nil
  | p :: m, _, _, h, r => by
    cases h with
    | cons h1 h2 =>
      cases r with
      | cons r1 r2 => exact .cons (pair_is I h1 r1) (pairs_are I h2 r2)
/-- a tuple that is a monomial is a key -/
theorem key_is (I : Inv X pins σ H s) {a : Addr} {m : Mono} (h : Dp X.K H (.ref a) (mD m)) : (nestedKind X.prog X.w).is s.heap (mK m) a := by
  cases h with
  | tup hs ha =>
    obtain ⟨its, rv, ⟨o, ho, hc, n, hd⟩, _⟩ := I.tuple hs
    exact ⟨.tup ho hc hd (by simpa using pairs_are I ha rv), mK_depth m⟩
end
/-- an entry: the key, its tuple, the value -/
abbrev Ent := Mono × Addr × Int
def EntR : List Ent → List (NestedKey × Addr × Value) → Prop := Paired fun p q => mK p.1 = q.1 ∧ p.2.1 = q.2.1 ∧ RelV (.int p.2.2) q.2.2
def ndO (P : Program) (w : World) (d : Addr) (es : List Ent) : HO := .ext fun h => es.length ≤ sizeLine ∧ (d == sysModules) = false ∧ ∃ xs, EntR es xs ∧
  ∃ o ds ep, h.get? d = some o ∧ o.ExactDict ∧ o.data = .dict ds ep ∧ ds.toList = xs.map (entryOfKey (nestedKind P w)) ∧ (xs.map (·.1)).Nodup
theorem ndO_ok {P : Program} {w : World} {H : Hp} {h : Heap} {d : Addr} {es : List Ent} {xs : List (NestedKey × Addr × Value)} (z : es.length ≤ sizeLine) (hd : (d == sysModules) = false) (r : EntR es xs)
    (k : ∃ o ds ep, h.get? d = some o ∧ o.ExactDict ∧ o.data = .dict ds ep ∧ ds.toList = xs.map (entryOfKey (nestedKind P w)) ∧ (xs.map (·.1)).Nodup) : ObjOk P w H h d (ndO P w d es) := by
  obtain ⟨o, ds, ep, ho, k⟩ := k
  refine ⟨⟨z, hd, xs, r, o, ds, ep, ho, k⟩, ⟨o, ho⟩, fun h1 h2 q kk => ?_⟩
  obtain ⟨z', hd', xs', r', o', ds', ep', ho', k'⟩ := q
  exact ⟨z', hd', xs', r', o', ds', ep', kk _ ho', k'⟩
/-- at d: such a dict -/
structure NdAt (K : PySem.W.Frag) (P : Program) (w : World) (H : Hp) (d : Addr) (es : List Ent) : Prop where
  at_ : H d = some (ndO P w d es)
  keys : ∀ e ∈ es, Dp K H (.ref e.2.1) (mD e.1)
/-- what the dict holds -/
def getN (es : List Ent) (m : Mono) : Option Int := (es.find? fun e => decide (e.1 = m)).map (·.2.2)
def putN (es : List Ent) (m : Mono) (a : Addr) (c : Int) : List Ent := if (getN es m).isSome then es.map fun e => if e.1 = m then (e.1, e.2.1, c) else e else es ++ [(m, a, c)]
theorem putN_len (es : List Ent) (m : Mono) (a : Addr) (c : Int) : (putN es m a c).length ≤ es.length + 1 := by
  unfold putN
  split
  · rw [List.length_map]; omega
  · rw [List.length_append]; exact Nat.le_refl _
theorem dec_mK (m n : Mono) : decide (mK m = mK n) = decide (m = n) := by
  by_cases h : m = n
  · rw [h, decide_eq_true rfl, decide_eq_true rfl]
  · rw [decide_eq_false h, decide_eq_false fun q => h (mK_inj q)]
theorem EntR.get : ∀ {es : List Ent} {xs : List (NestedKey × Addr × Value)} (m : Mono), EntR es xs → RelO ((getN es m).map V.int) ((atKey xs (mK m)).map (·.2))
  | [], _, m, r => by
    cases r
    exact True.intro
  | e :: es, _, m, r => by
    cases r with
    | @cons p q ps qs h t =>
      obtain ⟨h1, h2, h3⟩ := h
      have ih := EntR.get (es := es) m t
      have eq : decide (q.1 = mK m) = decide (e.1 = m) := by rw [← h1, dec_mK]
      unfold getN atKey at ih ⊢
      rw [List.find?_cons, List.find?_cons, eq]
      cases hb : decide (e.1 = m) with
      | true => exact h3
      | false => exact ih
theorem EntR.put {es : List Ent} {xs : List (NestedKey × Addr × Value)} (m : Mono) {a : Addr} {c : Int} {u : Value} (r : EntR es xs) (ru : RelV (.int c) u) : EntR (putN es m a c) (storedH xs (mK m) a u) := by
  have e : (getN es m).isSome = (atKey xs (mK m)).isSome := by
    have q := (r.get m).isSome_eq
    rw [Option.isSome_map, Option.isSome_map] at q
    exact q
  unfold putN storedH
  rw [e]
  by_cases q : (atKey xs (mK m)).isSome = true
  · rw [if_pos q, if_pos q]
    clear e q
    induction r with
    | nil => exact .nil
    | @cons p x ps xs' h t ih =>
      refine .cons ?_ ih
      obtain ⟨h1, h2, h3⟩ := h
      unfold putAt
      dsimp only
      by_cases z : p.1 = m
      · rw [if_pos z, if_pos (by rw [← h1, z])]
        exact ⟨h1, h2, ru⟩
      · rw [if_neg z, if_neg (fun y => z (mK_inj (by rw [h1, y])))]
        exact ⟨h1, h2, h3⟩
  · rw [if_neg q, if_neg q]
    exact Paired.snoc r ⟨rfl, rfl, ru⟩
theorem EntR.len {es : List Ent} {xs : List (NestedKey × Addr × Value)} (r : EntR es xs) : es.length = xs.length := Paired.length r
section
variable {X : Cx} {pins : List (Addr × Obj)} {σ : L2.St} {H : Hp} {s : Shared} {d : Addr} {es : List Ent} {A : Around} {E : Value → Shared → Prop}
theorem EntR.all {es : List Ent} {xs : List (NestedKey × Addr × Value)} {h : Heap} {P : Program} {w : World} (r : EntR es xs) (k : ∀ e ∈ es, (nestedKind P w).is h (mK e.1) e.2.1) : ∀ x ∈ xs, (nestedKind P w).is h x.1 x.2.1 := by
  induction r with
  | nil => intro x hx; exact nomatch hx
  | @cons p q ps qs hq t ih =>
    intro x hx
    rcases List.mem_cons.mp hx with e | hx
    · subst e
      have z := k p List.mem_cons_self
      rw [hq.1, hq.2.1] at z
      exact z
    · exact ih (fun e he => k e (List.mem_cons_of_mem _ he)) x hx
theorem NdAt.open (I : Inv X pins σ H s) (n : NdAt X.K X.prog X.w H d es) : es.length ≤ sizeLine ∧ (d == sysModules) = false ∧ ∃ xs, EntR es xs ∧ s.heap.DictOfH (nestedKind X.prog X.w) d xs := by
  obtain ⟨⟨z, hd, xs, r, o, ds, ep, ho, h2, h3, h4, h5⟩, _⟩ : ObjOk X.prog X.w H s.heap d (ndO X.prog X.w d es) := I.hok d _ n.at_
  exact ⟨z, hd, xs, r, o, ds, ep, ho, h2, h3, h4, r.all fun e he => key_is I (n.keys e he), h5⟩
theorem room_in1 (hu : A.units + 9 < cLine) : (nestedKind X.prog X.w).room A.in1 := by
  show A.units + 1 + 8 < cLine
  omega
theorem nd_typeIs (I : Inv X pins σ H s) (n : NdAt X.K X.prog X.w H d es) : s.TypeIs (.ref d) "dict" := by
  obtain ⟨_, _, xs, _, dd⟩ := n.open I
  exact dd.typeIs
theorem nd_noDict (I : Inv X pins σ H s) (n : NdAt X.K X.prog X.w H d es) : ∀ b, Value.ref d = .ref b → ∃ ob, s.heap.get? b = some ob ∧ ob.dict = none := fun b q => by
  cases q
  obtain ⟨_, _, xs, _, ob, _, _, h1, h2, _⟩ := n.open I
  exact ⟨ob, h1, h2.2.1⟩
/-! ### {} -/
def tNdNew (P : Program) (w : World) : TE := fun _ H Q => ∀ p, H p = none → Q (.ref p) (upd H p (ndO P w p []))
theorem pe_ndNew {pos : Pos} : PE X (.Dict [] [] pos) (tNdNew X.prog X.w) := ⟨fun pins s σ H Q I h =>
  wpAny_Dict_empty ⟨.ref s.heap.objs.size, _, I.laid (a := s.heap.objs.size) (o := ndO X.prog X.w s.heap.objs.size []) (t' := s.toks) (fun _ _ q => Heap.get?_push_of_some _ q) (Nat.le_refl _)
    (ndO_ok (Nat.zero_le _) (beq_eq_false_iff_ne.mpr (Ne.symm (Nat.ne_of_lt I.big))) .nil ⟨_, #[], 0, Heap.get?_push_size _ rfl, ⟨rfl, rfl, rfl⟩, rfl, rfl, List.nodup_nil⟩), rfl, h _ (I.hok.fresh (Nat.le_refl _))⟩⟩
/-! ### d[m] -/
def tNdGet (K : PySem.W.Frag) (P : Program) (w : World) (td ty : TE) : TE := fun σ H Q => td σ H fun x H1 => ty σ H1 fun y H2 => ∃ (d a : Addr) (es : List Ent) (m : Mono) (c : Int), x = .ref d ∧ y = .ref a ∧ NdAt K P w H2 d es ∧ Dp K H2 (.ref a) (mD m) ∧ getN es m = some c ∧ Q (.int c) H2
theorem pe_ndGet {o i : Expr} {td ty : TE} {pos : Pos} (hu : X.A.units + 9 < cLine) (ho : PE X o td) (hi : PE X i ty) (hs : NoSl i) : PE X (.Subscript o i pos) (tNdGet X.K X.prog X.w td ty) := by
  refine ⟨fun pins s σ H Q I h => ?_⟩
  refine subD_of PySem.F.slot_dict_getitem.lookup hs (thn (ho.run pins s σ H _ I h) fun u s1 ⟨x, H1, I1, rx, q1⟩ => thn (hi.run pins s1 σ H1 _ I1 q1) fun iv s2 ⟨y, H2, I2, ry, d, a, es, m, c, ex, ey, n, hm, hg, q2⟩ => ?_)
  subst ex ey
  obtain rfl : u = Value.ref d := rx
  obtain rfl : iv = Value.ref a := ry
  obtain ⟨z, hd, xs, rel, dd⟩ := n.open I2
  obtain ⟨w', hw, rw'⟩ := RelO.some_of (v := V.int c) (o := (atKey xs (mK m)).map (·.2)) (by have q := rel.get m; rw [hg] at q; exact q)
  obtain ⟨p, hp, hp2⟩ := Option.map_eq_some_iff.mp hw
  refine ⟨dd.typeIs, wpAny_getItem_heap (room_in1 hu) (key_is I2 hm) dd hp ?_⟩
  rw [hp2]
  exact ⟨.int c, H2, I2.tok _, rw', q2⟩
/-! ### d.get(m, 0) -/
def tNdGetOr (K : PySem.W.Frag) (P : Program) (w : World) (td ty tx : TE) : TE := fun σ H Q => td σ H fun x H1 => ∃ (d : Addr) (es : List Ent), x = .ref d ∧ NdAt K P w H1 d es ∧ ty σ H1 fun y H2 => tx σ H2 fun z H3 => ∃ (a : Addr) (m : Mono) (i : Int), y = .ref a ∧ z = .int i ∧
  NdAt K P w H3 d es ∧ Dp K H3 (.ref a) (mD m) ∧ Q (.int ((getN es m).getD i)) H3
theorem pe_ndGetOr {o e f : Expr} {apos cpos : Pos} {td ty tx : TE} (hu : X.A.units + 9 < cLine) (ho : PE X o td) (he : PE X e ty) (hf : PE X f tx) (m : M2 X o "get" apos e f cpos) : PE X (.Call (.Attribute o "get" apos) [e, f] [] cpos) (tNdGetOr X.K X.prog X.w td ty tx) := by
  refine ⟨fun pins s σ H Q I h => ?_⟩
  refine wpAny_Call_method m.base m.few m.line PySem.F.plainAttrs_dict PySem.F.slot_dict_get PySem.F.type_dict_get (thn (ho.run pins s σ H _ I h) fun u s1 ⟨x, H1, I1, rx, d, es, ex, n, q1⟩ => ?_)
  subst ex
  obtain rfl : u = Value.ref d := rx
  refine ⟨nd_typeIs I1 n, nd_noDict I1 n, ?_⟩
  rw [m.trees]
  refine Calls.callWith_builtin rfl (Calls.evalArgs_plain (Calls.spliced_cons (thn (he.run pins s1 σ H1 _ I1 q1) fun iv s2 ⟨y, H2, I2, ry, q2⟩ =>
    Calls.spliced_cons (thn (hf.run pins s2 σ H2 _ I2 q2) fun fv s3 ⟨z, H3, I3, rz, a, mm, i, ey, ez, n3, hm, q3⟩ => Calls.spliced_nil ?_))))
  subst ey ez
  obtain rfl : iv = Value.ref a := ry
  obtain ⟨z, hd, xs, rel, dd⟩ := n3.open I3
  refine call_meetsIn PySem.F.slot_dict_get dd.typeIs PySem.F.entry_dict_get (PySem.F.args_dict_get_3 _ _ _) (meetsH_dict_get_default (nestedKind X.prog X.w) d a hd fv) ⟨room_in1 hu, mK mm, xs, key_is I3 hm, dd, ?_⟩
  refine ⟨.int ((getN es mm).getD i), H3, I3.tok _, ?_, q3⟩
  have q := (rel.get mm).getD (show RelV (.int i) fv from rz)
  have e : ((getN es mm).map V.int).getD (V.int i) = V.int ((getN es mm).getD i) := by cases getN es mm <;> rfl
  rw [e] at q
  exact q
/-! ### d[m] = c -/
theorem NdAt.put (n : NdAt X.K X.prog X.w H d es) {m : Mono} {a : Addr} {c : Int} (hm : Dp X.K H (.ref a) (mD m)) (dp : ∀ v e, Dp X.K H v e → Dp X.K (upd H d (ndO X.prog X.w d (putN es m a c))) v e) :
    NdAt X.K X.prog X.w (upd H d (ndO X.prog X.w d (putN es m a c))) d (putN es m a c) := by
  refine ⟨upd_same, fun e he => dp _ _ ?_⟩
  unfold putN at he
  split at he
  · obtain ⟨e0, h0, rfl⟩ := List.mem_map.mp he
    split
    · exact n.keys e0 h0
    · exact n.keys e0 h0
  · rcases List.mem_append.mp he with h | h
    · exact n.keys e h
    · rw [List.mem_singleton.mp h]
      exact hm
def rNdSet (K : PySem.W.Frag) (P : Program) (w : World) : TSet := fun o i v H Q => ∃ (d a : Addr) (es : List Ent) (m : Mono) (c : Int), o = .ref d ∧ i = .ref a ∧ v = .int c ∧ NdAt K P w H d es ∧ Dp K H (.ref a) (mD m) ∧ es.length < sizeLine ∧ Q (upd H d (ndO P w d (putN es m a c)))
theorem set_nd (hu : X.A.units + 9 < cLine) : PSet X (rNdSet X.K X.prog X.w) := by
  intro pins s σ H o i v ov iv u Q I ro ri rv h
  obtain ⟨d, a, es, m, c, rfl, rfl, rfl, n, hm, hl, q⟩ := h
  obtain rfl : ov = Value.ref d := ro
  obtain rfl : iv = Value.ref a := ri
  obtain ⟨z, hd, xs, rel, dd⟩ := n.open I
  have hz : xs.length ≤ sizeLine := by rw [← rel.len]; exact z
  refine wpAny_setItem_heap (hsz := hz) (room_in1 hu) (key_is I hm) dd fun h' dd' hs => ?_
  obtain ⟨ob, ds, ep, hq, h2, h3, h4, _, h5⟩ := dd'
  refine ⟨_, d_write I (by rw [n.at_]; exact True.intro) hs ⟨ob, hq⟩ (ndO_ok ?_ hd (rel.put m rv) ⟨ob, ds, ep, hq, h2, h3, h4, h5⟩), q⟩
  have := putN_len es m a c
  omega
/-! ### len(d) -/
theorem len_body {P : Program} {w : World} {A : Around} {E : Value → Shared → Prop} {s : Shared} {d : Addr} {ds : Array DictEntry} {ep : Nat} {Q : Value → Shared → Prop} (hd : (d == sysModules) = false) (hm : s.heap.DictRaw d ds ep) (hfit : (ds.size : Int) < 2 ^ 63)
    (h : Q (.int ds.size (s.toks + 1)) { s with toks := s.toks + 1 + 1 }) : wpAny (model P w) A (Builtin.«len» ⟨[.ref d], []⟩) (fun fin s' => ∃ r, fin = .done (.ret r) ∧ Q r s') E s := by
  unfold Builtin.«len»
  refine wpAny_bind (m := oneArg "len" _) (wpAny_pure ?_)
  refine wpAny_bind (m := callSpecial? (.ref d) (Str.ofString "__len__")) ?_
  refine wpAny_callSpecial?_slot (name := Str.ofString "__len__") hm.typeIs PySem.F.slot_dict_len ?_
  refine call_meetsIn PySem.F.slot_dict_len hm.typeIs PySem.F.entry_dict_len (PySem.F.args_dict_len_1 _) (PySem.meets_dict_len_raw d hd) ⟨ds, ep, hm, ?_⟩
  show wpAny _ _ _ _ _ { s with toks := s.toks + 1 }
  refine wpAny_bind (wpAny_holding (wpAny_pure ?_))
  refine wpAny_bind (wpAny_letGo ?_)
  show wpAny _ _ (if ((ds.size : Nat) : Int) < 0 then _ else _) _ _ _
  rw [if_neg (by omega)]
  show wpAny _ _ (if ((ds.size : Nat) : Int) ≥ 2 ^ 63 then _ else _) _ _ _
  rw [if_neg (by omega)]
  exact wpAny_bind (wpAny_mkInt (wpAny_pure ⟨_, rfl, h⟩))
theorem call_lenNd : CallR X (.builtin "len") (fun xs H Q => ∃ (d : Addr) (es : List Ent), xs = [V.ref d] ∧ NdAt X.K X.prog X.w H d es ∧ Q (.int es.length) H) := by
  intro pins s σ H xs us Q I r h
  obtain ⟨d, es, rfl, n, q⟩ := h
  obtain ⟨u, rfl, ru⟩ := vals1 r
  cases ru
  obtain ⟨z, hd, xs, rel, o, ds, ep, ho, hx, hdt, he, _, _⟩ := n.open I
  have e1 : ds.size = es.length := by rw [size_of_entries he, rel.len]
  refine Calls.call_function_entry kind_len plain_len entry_len (args_len1 _) (len_body (ds := ds) (ep := ep) hd ⟨o, ho, hx, hdt⟩ (by rw [e1]; rw [sizeLine_eq] at z; omega) ?_)
  rw [e1]
  exact ⟨.int es.length, H, I.tok _, ⟨_, rfl⟩, q⟩
end
end Nd


set_option Elab.async false
set_option linter.all false
set_option maxRecDepth 100000
set_option maxHeartbeats 2000000
namespace Nd
open PySem PySem.Spec PyProof.Rows L2
/-! ### < of data -/
section
variable {X : Cx}
def rLtD (K : PySem.W.Frag) : R2 := fun x y H Q => ∃ d e, Dp K H x d ∧ Dp K H y e ∧ PySem.W.alike d e = true ∧ d ≠ .none ∧ d.depth ≤ 20 ∧ Q (.bl (PySem.W.dataLt d e)) H
theorem op_ltD (hu : X.A.units + 64 < cLine) : OpR X (compareOp .Lt) (rLtD X.K) := by
  intro pins s σ H x y v u Q I rx ry h
  obtain ⟨d, e, hd, he, ha, hn, hp, q⟩ := h
  obtain ⟨as, r1⟩ := Dp.reads I d x v hd rx
  obtain ⟨bs, r2⟩ := Dp.reads I e y u he ry
  exact PySem.W.lt_data r1 r2 ha hn (by omega) ⟨.bl _, H, I, rfl, q⟩
end
mutual
theorem dp_same {K : PySem.W.Frag} {H H' : Hp} (s : Same H H') : ∀ {v : V} {d : PyData}, Dp K H v d → Dp K H' v d
  | _, _, .non => .non
  | _, _, .bl b => .bl b
  | _, _, .int i => .int i
  | _, _, .str x => .str x
  | _, _, .lst h a => .lst (s.seq h) (dpAll_same s a)
  | _, _, .tup h a => .tup (by
      rcases h with (h | ⟨o, h⟩) | h
      · exact .inl (.inl (s _ _ h))
      · exact .inl (.inr ⟨o, s _ _ h⟩)
      · exact .inr h) (dpAll_same s a)
theorem dpAll_same {K : PySem.W.Frag} {H H' : Hp} (s : Same H H') : ∀ {v : List V} {d : List PyData}, DpAll K H v d → DpAll K H' v d
  | _, _, .nil => .nil
  | _, _, .cons h t => .cons (dp_same s h) (dpAll_same s t)
end
mutual
theorem reads_lt {h : Heap} : ∀ {v : Value} {d : PyData} {as : List Addr}, Reads h v d as → ∀ a ∈ as, a < h.objs.size
  | _, _, _, .none => fun a ha => nomatch ha
  | _, _, _, .bool _ => fun a ha => nomatch ha
  | _, _, _, .int _ _ => fun a ha => nomatch ha
  | _, _, _, .str _ _ => fun a ha => nomatch ha
  | _, _, _, .list ho _ _ hr => fun a ha => by
    rcases List.mem_cons.mp ha with e | ha
    · rw [e]
      exact Heap.lt_size ho
    · exact readsAll_lt hr a ha
  | _, _, _, .tuple _ _ _ hr => readsAll_lt hr
  | _, _, _, .dict ho _ _ h1 h2 => fun a ha => by
    rcases List.mem_append.mp ha with ha | ha
    · rcases List.mem_cons.mp ha with e | ha
      · rw [e]
        exact Heap.lt_size ho
      · exact readsAll_lt h1 a ha
    · exact readsAll_lt h2 a ha
theorem readsAll_lt {h : Heap} : ∀ {v : List Value} {d : List PyData} {as : List Addr}, ReadsAll h v d as → ∀ a ∈ as, a < h.objs.size
  | _, _, _, .nil => fun a ha => nomatch ha
  | _, _, _, .cons h1 h2 => fun a ha => by
    rcases List.mem_append.mp ha with ha | ha
    · exact reads_lt h1 a ha
    · exact readsAll_lt h2 a ha
end
/-! ### the entries of a dict, of either kind -/
def DEnt (K : PySem.W.Frag) (P : Program) (w : World) (H : Hp) (d : Addr) (prs : List (V × V)) : Prop :=
  (∃ kvs : List (Key × V), H d = some (.dK kvs) ∧ prs = kvs.map fun kv => (kV kv.1, kv.2)) ∨ ∃ es : List Ent, NdAt K P w H d es ∧ prs = es.map fun e => (V.ref e.2.1, V.int e.2.2)
theorem DEnt.k {K : PySem.W.Frag} {P : Program} {w : World} {H : Hp} {d : Addr} {kvs : List (Key × V)} (h : H d = some (.dK kvs)) : DEnt K P w H d (kvs.map fun kv => (kV kv.1, kv.2)) := .inl ⟨kvs, h, rfl⟩
theorem DEnt.n {K : PySem.W.Frag} {P : Program} {w : World} {H : Hp} {d : Addr} {es : List Ent} (h : NdAt K P w H d es) : DEnt K P w H d (es.map fun e => (V.ref e.2.1, V.int e.2.2)) := .inr ⟨es, h, rfl⟩
section
variable {X : Cx} {pins : List (Addr × Obj)} {σ : L2.St} {H : Hp} {s : Shared} {d : Addr} {prs : List (V × V)}
theorem DEnt.raw (I : Inv X pins σ H s) (h : DEnt X.K X.prog X.w H d prs) : (d == sysModules) = false ∧ prs.length ≤ sizeLine ∧ ∃ ds ep, DT.Raw s.heap d ds ep ∧ ds.size = prs.length ∧
    ∀ (j : Nat) (pr : V × V), prs[j]? = some pr → ∃ en, ds[j]? = some en ∧ L2.RelV pr.1 en.key ∧ L2.RelV pr.2 en.val := by
  rcases h with ⟨kvs, hd, rfl⟩ | ⟨es, n, rfl⟩
  · obtain ⟨z, hs, vs, kv, o, ds, ep, ho, hx, hdt, hko, hpr, hnd⟩ := dk_of I.hok hd
    have l1 : ds.size = kvs.length := by rw [← Array.length_toList, hpr.length, kv.length]
    refine ⟨hs, by rw [List.length_map]; exact z, ds, ep, ⟨o, ho, hx, hdt⟩, by rw [List.length_map, l1], fun j pr hj => ?_⟩
    rw [List.getElem?_map] at hj
    cases q : kvs[j]? with
    | none => rw [q] at hj; cases hj
    | some e =>
      rw [q] at hj
      cases hj
      obtain ⟨k, v⟩ := e
      obtain ⟨u, hu, ru⟩ := kv_get kv q
      have hj2 : j < ds.toList.length := by
        rw [Array.length_toList, l1]
        exact (List.getElem?_eq_some_iff.mp q).1
      have hen : ds.toList[j]? = some ds.toList[j] := List.getElem?_eq_getElem hj2
      obtain ⟨k1, k2⟩ := hpr.get? hen hu
      refine ⟨ds.toList[j], by rw [← Array.getElem?_toList]; exact hen, relV_key k1, ?_⟩
      rw [k2]
      exact ru
  · obtain ⟨z, hs, xs, rel, o, ds, ep, ho, hx, hdt, he, _, _⟩ := n.open I
    refine ⟨hs, by rw [List.length_map]; exact z, ds, ep, ⟨o, ho, hx, hdt⟩, by rw [List.length_map, size_of_entries he, rel.len], fun j pr hj => ?_⟩
    rw [List.getElem?_map] at hj
    cases q : es[j]? with
    | none => rw [q] at hj; cases hj
    | some e =>
      rw [q] at hj
      cases hj
      obtain ⟨x, hx', h1, h2, h3⟩ := paired_get rel q
      refine ⟨entryOfKey (nestedKind X.prog X.w) x, ?_, ?_, h3⟩
      · rw [entry_at he j, hx']
        rfl
      · show L2.RelV (.ref e.2.1) (.ref x.2.1)
        rw [h2]
        rfl
theorem DEnt.noDict (I : Inv X pins σ H s) (h : DEnt X.K X.prog X.w H d prs) : ∀ b, Value.ref d = .ref b → ∃ ob, s.heap.get? b = some ob ∧ ob.dict = none := fun b q => by
  cases q
  obtain ⟨_, _, ds, ep, ⟨o, ho, hx, _⟩, _⟩ := h.raw I
  exact ⟨o, ho, hx.2.1⟩
/-! ### d.items() as a value -/
def tItemsV (K : PySem.W.Frag) (P : Program) (w : World) (td : TE) : TE := fun σ H Q => td σ H fun x H1 => ∃ (d : Addr) (prs : List (V × V)), x = .ref d ∧ DEnt K P w H1 d prs ∧ ∀ p, H1 p = none → Q (.ref p) (upd H1 p (L2.DX.itemsO p d))
theorem pe_itemsV {e : Expr} {td : TE} {apos cpos : Pos} (he : PE X e td) (hbase : attributeBase e "items" X.env (eval e X.env) = eval e X.env := by rfl) (hline : (apos.endLine == cpos.line) = true := by rfl) :
    PE X (.Call (.Attribute e "items" apos) [] [] cpos) (tItemsV X.K X.prog X.w td) := by
  refine ⟨fun pins s σ H Q I h => ?_⟩
  refine wpAny_Call_method (T := "dict") (id := "dict.items") hbase rfl hline PySem.F.plainAttrs_dict PySem.F.slot_dict_items PySem.F.type_dict_items (thn (he.run pins s σ H _ I h) fun u s1 ⟨x, H1, I1, rx, d, prs, ex, n, q⟩ => ?_)
  subst ex
  obtain rfl : u = Value.ref d := rx
  obtain ⟨hs, _, ds, ep, hraw, _⟩ := n.raw I1
  refine ⟨hraw.typeIs, n.noDict I1, ?_⟩
  show wpAny _ _ (callWith cpos (.builtin "dict.items") [.ref d] [] []) _ X.xe s1
  refine method_meetsIn PySem.F.slot_dict_items PySem.F.entry_dict_items rfl (PySem.evalArgs_none ⟨rfl, hraw.typeIs, PySem.F.args_dict_items_1 _, _, DT.meetsItems (es := ds) (ep := ep) hs, hraw, ?_⟩)
  have hf : H1 s1.heap.objs.size = none := I1.hok.fresh (Nat.le_refl _)
  exact ⟨.ref s1.heap.objs.size, upd H1 s1.heap.objs.size (L2.DX.itemsO s1.heap.objs.size d), I1.laid (t' := s1.toks) (fun b u e => Heap.get?_push_of_some _ e) (Nat.le_refl _) (L2.DX.itemsO_ok (Heap.get?_push_size _ rfl)), rfl, q _ hf⟩
end
end Nd


set_option Elab.async false
set_option linter.all false
set_option maxRecDepth 100000
set_option maxHeartbeats 4000000
namespace Nd
open PySem PySem.Spec PyProof.Rows L2
/-! ### sorted(d.items()) -/
section
variable {X : Cx}
/-- the data of the pairs -/
def PrD (K : PySem.W.Frag) (H : Hp) : List (V × V) → List PyData → Prop := Paired fun pr dt => ∃ a c, dt = .tuple [a, c] ∧ Dp K H pr.1 a ∧ Dp K H pr.2 c
def rSortItems (K : PySem.W.Frag) (P : Program) (w : World) : List V → Hp → VK → Prop := fun xs H Q => ∃ (p d : Addr) (prs : List (V × V)) (dts : List PyData), xs = [.ref p] ∧ H p = some (L2.DX.itemsO p d) ∧ DEnt K P w H d prs ∧ PrD K H prs dts ∧
  PySem.W.AllAlike dts ∧ (∀ t ∈ dts, t.depth ≤ 20) ∧ ∀ (l : Addr) (H' : Hp) (ys : List V), H l = none → Same H H' → H' l = some (.lst ys) → DpAll K H' ys (dts.mergeSort (PySem.W.dataLe false id)) → Q (.ref l) H'
/-- a made pair in the heap -/
def MadeP (K : PySem.W.Frag) (H : Hp) (h : Heap) (as : List Addr) (v : Value) (dt : PyData) : Prop := ∃ (b : Addr) (pr : V × V) (k u : Value), v = .ref b ∧ b ∈ as ∧ h.get? b = some { cls := .type "tuple", data := .seq #[k, u] } ∧
  L2.RelV pr.1 k ∧ L2.RelV pr.2 u ∧ ∃ a c, dt = .tuple [a, c] ∧ Dp K H pr.1 a ∧ Dp K H pr.2 c
theorem eachIs_of {α β : Type} {R : α → β → Prop} : ∀ {as : List α} {bs : List β}, as.length = bs.length → (∀ (j : Nat) (a : α) (b : β), as[j]? = some a → bs[j]? = some b → R a b) → PySem.W.EachIs R as bs
  | [], [], _, _ => .nil
  | a :: as, b :: bs, hl, h => .cons (h 0 a b rfl rfl) (eachIs_of (by simpa using hl) fun j x y e1 e2 => h (j + 1) x y (by simpa using e1) (by simpa using e2))
  | [], _ :: _, hl, _ => by simp at hl
  | _ :: _, [], hl, _ => by simp at hl
theorem madeP_refs {K : PySem.W.Frag} {H : Hp} {h : Heap} {as : List Addr} : ∀ {vs : List Value} {ds : List PyData}, PySem.W.EachIs (MadeP K H h as) vs ds → ∃ bs : List Addr, vs = bs.map Value.ref ∧ Vals (bs.map V.ref) vs ∧
    (∀ (j : Nat) (b : Addr) (dt : PyData), bs[j]? = some b → ds[j]? = some dt → MadeP K H h as (.ref b) dt) ∧ bs.length = ds.length
  | _, _, .nil => ⟨[], rfl, .nil, fun j b dt h => (by simp at h), rfl⟩
  | _, _, .cons h t => by
    obtain ⟨bs, e, r, q, l⟩ := madeP_refs t
    obtain ⟨b, pr, k, u, rfl, hb⟩ := id h
    refine ⟨b :: bs, by rw [e]; rfl, .cons rfl r, fun j c dt h1 h2 => ?_, by simp [l]⟩
    cases j with
    | zero =>
      simp only [List.getElem?_cons_zero, Option.some.injEq] at h1 h2
      subst h1 h2
      exact h
    | succ j =>
      simp only [List.getElem?_cons_succ] at h1 h2
      exact q j c dt h1 h2
theorem dpAll_of {K : PySem.W.Frag} {H : Hp} : ∀ {bs : List Addr} {ds : List PyData}, bs.length = ds.length → (∀ (j : Nat) (b : Addr) (dt : PyData), bs[j]? = some b → ds[j]? = some dt → Dp K H (.ref b) dt) → DpAll K H (bs.map V.ref) ds
  | [], [], _, _ => .nil
  | b :: bs, d :: ds, hl, h => .cons (h 0 b d rfl rfl) (dpAll_of (by simpa using hl) fun j x y e1 e2 => h (j + 1) x y (by simpa using e1) (by simpa using e2))
  | [], _ :: _, hl, _ => by simp at hl
  | _ :: _, [], hl, _ => by simp at hl
theorem cr_sortItems (hc : X.calm = true) (hu : X.A.units + 64 < cLine) : CallR X (.builtin "sorted") (rSortItems X.K X.prog X.w) := by
  intro pins s σ H xs us Q I r h
  obtain ⟨p, d, prs, dts, rfl, hp, hD, hP, hal, hdep, q⟩ := h
  obtain rfl := Vals.ref1 r
  have view : s.heap.IsItemsView p d := (show ObjOk X.prog X.w H s.heap p (L2.DX.itemsO p d) from I.hok p _ hp).1
  obtain ⟨hs, hz, ds, ep, hraw, hsz, hent⟩ := hD.raw I
  have hh : X.A.handled = none := I.ok.hd hc
  refine DT.sortedI (es := ds) (ep := ep) hh view hraw (by rw [hsz]; exact hz) fun h' tk as hk hlt hl hG => ?_
  have lp : prs.length = dts.length := Paired.length hP
  have nd : as.Nodup := List.Pairwise.imp (fun h => Nat.ne_of_lt h) hG.rise
  have hob : (h'.push { cls := .type "list", data := .seq (as.map Value.ref).toArray }).get? h'.objs.size = some (seqObj "list" (as.map Value.ref).toArray 0) := Heap.get?_push_size _ rfl
  have kb : ∀ b o, s.heap.get? b = some o → (h'.push { cls := .type "list", data := .seq (as.map Value.ref).toArray }).get? b = some o := fun b o e => Heap.get?_push_of_some _ (hk b o e)
  have ne0 : ∀ b o, h'.get? b = some o → b ≠ h'.objs.size := fun b o e => Nat.ne_of_lt (Heap.lt_size e)
  generalize hh2 : h'.push { cls := .type "list", data := .seq (as.map Value.ref).toArray } = h2 at hob kb ⊢
  have ka : ∀ b o, h'.get? b = some o → h2.get? b = some o := fun b o e => by rw [← hh2]; exact Heap.get?_push_of_some _ e
  have made : PySem.W.EachIs (MadeP X.K H h' as) (as.map Value.ref) dts := by
    refine eachIs_of (by rw [List.length_map, hl, hsz, lp]) fun j v dt hj hd => ?_
    rw [List.getElem?_map] at hj
    cases qa : as[j]? with
    | none => rw [qa] at hj; cases hj
    | some b =>
      rw [qa] at hj
      cases hj
      obtain ⟨en, he, hg⟩ := hG.pairs j b qa
      have hjp : j < prs.length := by rw [lp]; exact (List.getElem?_eq_some_iff.mp hd).1
      obtain ⟨en', he', r1, r2⟩ := hent j _ (List.getElem?_eq_getElem hjp)
      rw [he] at he'
      cases he'
      obtain ⟨dt', hd', hpd⟩ := paired_get hP (List.getElem?_eq_getElem hjp)
      rw [hd] at hd'
      cases hd'
      exact ⟨b, prs[j], en.key, en.val, rfl, List.mem_of_getElem? qa, hg, r1, r2, hpd⟩
  have reads : PySem.W.EachIs (fun v dt => ∃ rs, Reads h2 v (id dt) rs ∧ h'.objs.size ∉ rs) (as.map Value.ref) dts := made.mono fun v dt ⟨b, pr, k, u, ev, hb, hg, r1, r2, a, c, ed, d1, d2⟩ => by
    subst ev ed
    obtain ⟨as1, q1⟩ := Dp.reads I a _ _ d1 r1
    obtain ⟨as2, q2⟩ := Dp.reads I c _ _ d2 r2
    have q1' := PyProof.Rows.Reads.keeps kb q1
    have q2' := PyProof.Rows.Reads.keeps kb q2
    refine ⟨_, Reads.tuple (ka _ _ hg) rfl rfl (ReadsAll.cons q1' (ReadsAll.cons q2' ReadsAll.nil)), fun hm => ?_⟩
    have : h'.objs.size < s.heap.objs.size := by
      rcases List.mem_append.mp hm with hm | hm
      · exact reads_lt q1 _ hm
      · rcases List.mem_append.mp hm with hm | hm
        · exact reads_lt q2 _ hm
        · exact nomatch hm
    omega
  have hsort : PySem.W.Sortable (dts.map id) := .inl fun t ht => by
    rw [List.map_id] at ht
    obtain ⟨j, hj⟩ := List.mem_iff_getElem?.mp ht
    have hjp : j < prs.length := by rw [lp]; exact (List.getElem?_eq_some_iff.mp hj).1
    obtain ⟨dt', hd', a, c, e, _⟩ := paired_get hP (List.getElem?_eq_getElem hjp)
    rw [hj] at hd'
    cases hd'
    exact ⟨a, [c], e⟩
  refine PySem.W.list_sort_data (s := { s with heap := h2, toks := tk }) (R := MadeP X.K H h' as) (enc := id) hob made reads (by rw [List.map_id]; exact hal) hsort (by rw [← lp]; exact hz) (fun b hb => ?_) fun out hlen hout => ?_
  · have := hdep b hb
    show X.A.in1.units + 1 + (id b).depth < cLine
    show X.A.units + 1 + 1 + b.depth < cLine
    omega
  show EP X pins σ Q (.ref h'.objs.size) { s with heap := sortedHeap h2 h'.objs.size (as.map Value.ref) out.toArray, toks := tk }
  have kF : ∀ b o, b ≠ h'.objs.size → h2.get? b = some o → (sortedHeap h2 h'.objs.size (as.map Value.ref) out.toArray).get? b = some o := fun b o hb e => (PyProof.Rows.sortedHeap_old hb (Heap.lt_size e)).trans e
  have kS : ∀ b o, s.heap.get? b = some o → (sortedHeap h2 h'.objs.size (as.map Value.ref) out.toArray).get? b = some o := fun b o e => kF b o (ne0 _ _ (hk b o e)) (kb b o e)
  obtain ⟨eF, heF⟩ := PyProof.Rows.sortedHeap_at (vs := as.map Value.ref) (out := out.toArray) hob
  have I1 : Inv X pins σ H { s with heap := sortedHeap h2 h'.objs.size (as.map Value.ref) out.toArray, toks := tk } := I.kept (t' := tk) kS
  have hn0 : H h'.objs.size = none := I.hok.fresh (Nat.le_of_lt hlt)
  obtain ⟨bs, eb, rv, hbs, lbs⟩ := madeP_refs hout
  have hlen2 : (bs.map V.ref).length ≤ sizeLine := by
    rw [List.length_map, lbs, List.length_mergeSort, ← lp]
    exact hz
  have I2 : Inv X pins σ (upd H h'.objs.size (.lst (bs.map V.ref))) { s with heap := sortedHeap h2 h'.objs.size (as.map Value.ref) out.toArray, toks := tk } :=
    I1.take (h' := sortedHeap h2 h'.objs.size (as.map Value.ref) out.toArray) (t' := tk) (fun b ob _ e => e) (I.fpOk (Nat.le_of_lt hlt) hn0) ⟨hlen2, out, eF, rv, heF⟩
  obtain ⟨H2, I3, g, qt⟩ := L2.DX.takeT (P := fun b vs => ∃ (x y : V) (k u : Value), vs = [x, y] ∧ h'.get? b = some { cls := .type "tuple", data := .seq #[k, u] } ∧ L2.RelV x k ∧ L2.RelV y u) I as _ I2 nd fun b hb => by
    obtain ⟨j, hj⟩ := List.mem_iff_getElem?.mp hb
    obtain ⟨en, he, hg⟩ := hG.pairs j b hj
    have hjp : j < prs.length := by
      have := (Array.getElem?_eq_some_iff.mp he).1
      omega
    obtain ⟨en', he', r1, r2⟩ := hent j _ (List.getElem?_eq_getElem hjp)
    rw [he] at he'
    cases he'
    have hbl : s.heap.objs.size ≤ b := Nat.le_of_lt (hG.above b hb)
    refine ⟨hbl, ?_, [prs[j].1, prs[j].2], ⟨_, _, en.key, en.val, rfl, hg, r1, r2⟩, fun H3 => ⟨(by rw [sizeLine_eq]; show 2 ≤ 16777216; omega), [en.key, en.val], .cons r1 (.cons r2 .nil), ⟨_, kF _ _ (ne0 _ _ hg) (ka _ _ hg), rfl, 0, rfl⟩⟩⟩
    rw [upd_ne (ne0 _ _ hg)]
    exact I.hok.fresh hbl
  have gr : Same H H2 := fun b o e => g b o (by rw [upd_ne (ne_of_none e hn0)]; exact e)
  refine ⟨.ref h'.objs.size, H2, I3, rfl, q h'.objs.size H2 (bs.map V.ref) hn0 gr (g _ _ upd_same) ?_⟩
  refine dpAll_of lbs fun j b dt hj hd => ?_
  obtain ⟨b', pr, k, u, eb', hb, hg, r1, r2, a, c, ed, d1, d2⟩ := hbs j b dt hj hd
  cases eb'
  obtain ⟨vs, ⟨x, y, k', u', ev, hg', r1', r2'⟩, hH⟩ := qt b hb
  rw [hg] at hg'
  cases hg'
  have ex : x = pr.1 := Option.some.inj (r1'.abs.symm.trans r1.abs)
  have ey : y = pr.2 := Option.some.inj (r2'.abs.symm.trans r2.abs)
  subst ev ed ex ey
  exact .tup (SqT.of hH) (.cons (dp_same gr d1) (.cons (dp_same gr d2) .nil))
end
end Nd


set_option Elab.async false
set_option linter.all false
set_option maxRecDepth 100000
set_option maxHeartbeats 4000000
namespace Nd
open PySem PySem.Spec PyProof.Rows L2
/-! ### walks over a locked dict of this kind -/
section
variable {X : Cx} {pins : List (Addr × Obj)} {σ : L2.St} {H : Hp} {s : Shared} {d : Addr} {o : Obj} {es : List Ent}
theorem lockedN (I : Inv X pins σ H s) (h : H d = some (.frz o (ndO X.prog X.w d es))) : (d == sysModules) = false ∧ s.heap.get? d = some o ∧ o.ExactDict ∧ ∃ (ds : Array DictEntry) (ep : Nat), o.data = .dict ds ep ∧ ds.size = es.length ∧
    ∀ (j : Nat) (e : Ent), es[j]? = some e → ∃ en, ds[j]? = some en ∧ en.key = .ref e.2.1 ∧ L2.RelV (.int e.2.2) en.val := by
  obtain ⟨hd, ⟨z, hs, xs, rel, o', ds, ep, ho, hx, hdt, he, _⟩, _⟩ : s.heap.get? d = some o ∧ ObjOk X.prog X.w H s.heap d (ndO X.prog X.w d es) := I.hok d _ h
  rw [hd] at ho
  cases ho
  refine ⟨hs, hd, hx, ds, ep, hdt, by rw [size_of_entries he, rel.len], fun j e q => ?_⟩
  obtain ⟨x, hx', h1, h2, h3⟩ := paired_get rel q
  refine ⟨entryOfKey (nestedKind X.prog X.w) x, ?_, ?_, h3⟩
  · rw [entry_at he j, hx']
    rfl
  · show Value.ref x.2.1 = Value.ref e.2.1
    rw [h2]
end
/-- the keys' own tuples -/
def ItkN (P : Program) (w : World) (d : Addr) (o : Obj) (es : List Ent) : It :=
  ⟨fun i H => H d = some (.frz o (ndO P w d es)) ∧ i < es.length, fun i H x H' => H' = H ∧ ∃ e, es[i]? = some e ∧ x = .ref e.2.1, fun i H => H d = some (.frz o (ndO P w d es)) ∧ es.length ≤ i⟩
/-- the pairs, each a new tuple -/
def ItiN (P : Program) (w : World) (d : Addr) (o : Obj) (es : List Ent) : It :=
  ⟨fun i H => H d = some (.frz o (ndO P w d es)) ∧ i < es.length, fun i H x H' => ∃ T e, es[i]? = some e ∧ x = .ref T ∧ H T = none ∧ H' = upd H T (.tup [.ref e.2.1, .int e.2.2]), fun i H => H d = some (.frz o (ndO P w d es)) ∧ es.length ≤ i⟩
section
variable {P : Program} {w : World} {K : PySem.W.Frag} {tg : Expr} {d : Addr} {o : Obj} {ds : Array DictEntry} {ep : Nat}
theorem turn_keysN {es : List Ent} (it : Addr) (hod : o.data = .dict ds ep) : Turn P w K tg (ItkN P w d o es) [it] it (fun i h => h.IsKeyIter it d i es.length ep) where
  mem := List.mem_singleton.mpr rfl
  obj := fun i h st b hb => by
    obtain rfl := List.mem_singleton.mp hb
    obtain ⟨oi, e, c, dd⟩ := st
    exact ⟨oi, e, fun v z => by rw [dd] at z; cases z⟩
  keep := fun i h h' st k => st.at fun oi e => k it (List.mem_singleton.mpr rfl) oi e
  item := by
    intro X hP hw hK hc i pins s σ H E I hf st hg
    subst hP hw hK
    obtain ⟨hd, hi⟩ := hg
    have hit := hf it (List.mem_singleton.mpr rfl)
    obtain ⟨hs, hgd, hx, ds', ep', hdt, hsz, ent⟩ := lockedN I hd
    obtain ⟨rfl, rfl⟩ := dict_ep hod hdt
    obtain ⟨en, hen, hkey, _⟩ := ent i _ (List.getElem?_eq_getElem hi)
    refine next_key_item st hgd hdt hsz hen fun h' st' sb => ?_
    have I1 : Inv X pins σ H { s with heap := h' } := I.turned (t' := s.toks) (fun b ob hb e => (sb.2 b hb).trans e) hit.1 hit.2.1 hit.2.2.2.1 hit.2.2.2.2.1 hit.2.2.2.2.2
    obtain ⟨oi, e, c, dd⟩ := id st'
    exact ⟨en.key, rfl, go_of (s := { s with heap := h' }) e c dd (by decide) ⟨.ref es[i].2.1, H, I1, hkey, ⟨rfl, es[i], List.getElem?_eq_getElem hi, rfl⟩, st', fun b hb => (hf b hb).1⟩⟩
  done := by
    intro X hP hw hK hc i pins s σ H E I hf st hg
    subst hP hw hK
    obtain ⟨hd, hi⟩ := hg
    have hit := hf it (List.mem_singleton.mpr rfl)
    obtain ⟨hs, hgd, hx, ds', ep', hdt, hsz, ent⟩ := lockedN I hd
    obtain ⟨rfl, rfl⟩ := dict_ep hod hdt
    exact next_key_end (I.ok.hd hc) st hgd hdt hsz hi fun h' eb => ⟨rfl, I.turned (t' := s.toks) (fun b ob hb e => eb b ob hb e) hit.1 hit.2.1 hit.2.2.2.1 hit.2.2.2.2.1 hit.2.2.2.2.2⟩
  self := fun A i s Q E st h => by
    refine wpAny_pyIter_slot st.typeIs PySem.F.slot_dict_keyiterator_iter (wpAny_call_entry PySem.F.slot_dict_keyiterator_iter st.typeIs PySem.F.entry_dict_keyiterator_iter ?_ (PySem.F.args_dict_keyiterator_iter_1 _))
    show wpAny _ _ (ret (.ref it)) _ _ s
    exact wpAny_pure ⟨_, rfl, "dict_keyiterator", _, st.typeIs, PySem.F.slot_dict_keyiterator_next.lookup, h⟩
theorem turn_itemsN {es : List Ent} {elts : List Expr} {kk : Nat} {tpos : Pos} (it : Addr) (hod : o.data = .dict ds ep) :
    Turn P w K (.Tuple elts kk tpos) (ItiN P w d o es) [it] it (fun i h => ∃ ok ov, IsItemIter h it d i es.length ep ok ov) where
  mem := List.mem_singleton.mpr rfl
  obj := fun i h st b hb => by
    obtain rfl := List.mem_singleton.mp hb
    obtain ⟨ok, ov, e⟩ := st
    exact ⟨_, e, fun v z => nomatch z⟩
  keep := fun i h h' st k => let ⟨ok, ov, e⟩ := st; ⟨ok, ov, k it (List.mem_singleton.mpr rfl) _ e⟩
  item := by
    intro X hP hw hK hc i pins s σ H E I hf st hg
    subst hP hw hK
    obtain ⟨hd, hi⟩ := hg
    obtain ⟨hs, hgd, hx, ds', ep', hdt, hsz, ent⟩ := lockedN I hd
    obtain ⟨rfl, rfl⟩ := dict_ep hod hdt
    obtain ⟨en, hen, hkey, hval⟩ := ent i _ (List.getElem?_eq_getElem hi)
    obtain ⟨ok, ov, he⟩ := st
    rw [← hsz] at he
    have hlt : it < s.heap.objs.size := Heap.lt_size he
    have hi2 : i < ds'.size := by omega
    have een : ds'[i] = en := by
      rw [Array.getElem?_eq_getElem hi2] at hen
      exact Option.some.inj hen
    refine DT.nextI he ⟨o, hgd, hx, hdt⟩ hi2 fun h' ho hT hz hk => ?_
    refine ⟨_, rfl, wpAny_letOwnedTupleGo_items (s := { s with heap := h' }) ho fun h'' he' sb => ?_⟩
    have hT2 : h''.get? s.heap.objs.size = some { cls := .type "tuple", data := .seq #[ds'[i].key, ds'[i].val] } := (sb.2 _ (Nat.ne_of_gt hlt)).trans hT
    rw [een] at hT2
    have new : ObjOk X.prog X.w (upd H s.heap.objs.size (.tup [.ref es[i].2.1, .int es[i].2.2])) h'' s.heap.objs.size (.tup [.ref es[i].2.1, .int es[i].2.2]) :=
      ⟨by show 2 ≤ sizeLine; decide, [en.key, en.val], .cons hkey (.cons hval .nil), ⟨_, hT2, rfl, _, rfl⟩⟩
    have I1 : Inv X pins σ (upd H s.heap.objs.size (.tup [.ref es[i].2.1, .int es[i].2.2])) { s with heap := h'' } :=
      I.turnedNew (t' := s.toks) (ch := [it]) (fun b ob hb e => (sb.2 b (fun z => hb (List.mem_singleton.mpr z))).trans (hk b ob (fun z => hb (List.mem_singleton.mpr z)) e)) hf (Nat.le_refl _) new
    refine ⟨.ref s.heap.objs.size, _, I1, rfl, ⟨_, es[i], List.getElem?_eq_getElem hi, rfl, I.hok.fresh (Nat.le_refl _), rfl⟩, ⟨ds'[i].key, ds'[i].val, ?_⟩, fun b hb => ?_⟩
    · rw [← hsz]
      exact he'
    · obtain rfl := List.mem_singleton.mp hb
      rw [upd_ne (Nat.ne_of_lt hlt)]
      exact (hf b (List.mem_singleton.mpr rfl)).1
  done := by
    intro X hP hw hK hc i pins s σ H E I hf st hg
    subst hP hw hK
    obtain ⟨hd, hi⟩ := hg
    have hit := hf it (List.mem_singleton.mpr rfl)
    obtain ⟨hs, hgd, hx, ds', ep', hdt, hsz, ent⟩ := lockedN I hd
    obtain ⟨rfl, rfl⟩ := dict_ep hod hdt
    obtain ⟨ok, ov, he⟩ := st
    rw [← hsz] at he
    exact DT.endI (I.ok.hd hc) he ⟨o, hgd, hx, hdt⟩ (by omega) fun h' eb => ⟨rfl, I.turned (t' := s.toks) (fun b ob hb e => eb b ob hb e) hit.1 hit.2.1 hit.2.2.2.1 hit.2.2.2.2.1 hit.2.2.2.2.2⟩
  self := fun A i s Q E st h => let ⟨_, _, e⟩ := st; PySem.W.kcp_self e h
end
def iKeysN (P : Program) (w : World) (td : TE) : TI := fun σ H R => td σ H fun x H1 => ∃ d o es, x = .ref d ∧ H1 d = some (.frz o (ndO P w d es)) ∧ R (ItkN P w d o es) H1
def iItemsN (P : Program) (w : World) (td : TE) : TI := fun σ H R => td σ H fun x H1 => ∃ d o es, x = .ref d ∧ H1 d = some (.frz o (ndO P w d es)) ∧ R (ItiN P w d o es) H1
section
variable {X : Cx} {tg e : Expr} {td : TE} {apos cpos : Pos}
theorem pi_keysN (he : PE X e td) : PI X tg e (iKeysN X.prog X.w td) := by
  refine ⟨fun pins s σ H R I h => ?_⟩
  refine thn (he.run pins s σ H _ I h) fun u s1 ⟨x, H1, I1, rx, d, o, es, ex, hd, q⟩ => ?_
  subst ex
  obtain rfl : u = Value.ref d := rx
  obtain ⟨hs, hgd, hx, ds, ep, hdt, hsz, ent⟩ := lockedN I1 hd
  refine iter_keys hs hgd hx hdt (pi_one (tk := s1.toks) I1 _ (turn_keysN _ hdt) ⟨_, Heap.get?_push_size _ rfl, rfl, ?_⟩ q)
  rw [hsz] <;> rfl
theorem pi_itemsN {elts : List Expr} {kk : Nat} {tpos : Pos} (he : PE X e td) (hbase : attributeBase e "items" X.env (eval e X.env) = eval e X.env := by rfl) (hline : (apos.endLine == cpos.line) = true := by rfl) :
    PI X (.Tuple elts kk tpos) (.Call (.Attribute e "items" apos) [] [] cpos) (iItemsN X.prog X.w td) := by
  refine ⟨fun pins s σ H R I h => ?_⟩
  refine wpAny_Call_method (T := "dict") (id := "dict.items") hbase rfl hline PySem.F.plainAttrs_dict PySem.F.slot_dict_items PySem.F.type_dict_items (thn (he.run pins s σ H _ I h) fun u s1 ⟨x, H1, I1, rx, d, o, es, ex, hd, q⟩ => ?_)
  subst ex
  obtain rfl : u = Value.ref d := rx
  obtain ⟨hs, hgd, hx, ds, ep, hdt, hsz, ent⟩ := lockedN I1 hd
  have hraw : DT.Raw s1.heap d ds ep := ⟨o, hgd, hx, hdt⟩
  refine ⟨hraw.typeIs, fun b z => (by cases z; exact ⟨o, hgd, hx.2.1⟩), ?_⟩
  have I2 : Inv X pins σ H1 { s1 with heap := s1.heap.push { cls := .type "dict_items", data := .fields #[.ref d] } } := I1.kept (t' := s1.toks) fun b ob z => Heap.get?_push_of_some _ z
  show wpAny _ _ (callWith cpos (.builtin "dict.items") [.ref d] [] []) _ X.xe s1
  refine method_meetsIn PySem.F.slot_dict_items PySem.F.entry_dict_items rfl (PySem.evalArgs_none ⟨rfl, hraw.typeIs, PySem.F.args_dict_items_1 _, _, DT.meetsItems (es := ds) (ep := ep) hs, hraw, ?_⟩)
  refine DT.iterI (d := d) (es := ds) (ep := ep) ⟨_, Heap.get?_push_size _ rfl, rfl, rfl⟩ (hraw.push _) (pi_one (tk := s1.toks) I2 _ (turn_itemsN _ hdt) ⟨.none, .none, ?_⟩ q)
  rw [← hsz]
  exact Heap.get?_push_size _ rfl
end
section
variable {P : Program} {w : World} {d : Addr} {o : Obj} {es : List Ent}
theorem walk_keysN : Walk (ItkN P w d o es) es.length (fun H => H d = some (.frz o (ndO P w d es))) (fun i H x H' => H' = H ∧ ∃ e, es[i]? = some e ∧ x = .ref e.2.1) :=
  ⟨fun _ _ hi q => ⟨q, hi⟩, fun _ q => ⟨q, Nat.le_refl _⟩, fun _ _ _ _ _ _ y => y⟩
theorem walk_itemsN : Walk (ItiN P w d o es) es.length (fun H => H d = some (.frz o (ndO P w d es))) (fun i H x H' => ∃ T e, es[i]? = some e ∧ x = .ref T ∧ H T = none ∧ H' = upd H T (.tup [.ref e.2.1, .int e.2.2])) :=
  ⟨fun _ _ hi q => ⟨q, hi⟩, fun _ q => ⟨q, Nat.le_refl _⟩, fun _ _ _ _ _ _ y => y⟩
end
theorem mut_nd {P : Program} {w : World} {d : Addr} {es : List Ent} : Mut (some (ndO P w d es)) := True.intro
end Nd


set_option Elab.async false
set_option linter.all false
set_option maxRecDepth 100000
set_option maxHeartbeats 2000000
/-! books: what is added up by keys; in order -/
namespace Bk
open PySem
class Ky (κ : Type) [DecidableEq κ] where
  enc : κ → PyData
  al : ∀ a b, PySem.W.alike (enc a) (enc b) = true
  inj : ∀ a b, PySem.W.keyToks (enc a) = PySem.W.keyToks (enc b) → a = b
  eqv : ∀ a b, PyData.eqv (enc a) (enc b) = decide (a = b)
  nn : ∀ a, enc a ≠ .none
  dep : ∀ a, (enc a).depth ≤ 10
section
variable {κ : Type} [DecidableEq κ] [Ky κ]
open Ky
def lt (a b : κ) : Bool := PySem.W.dataLt (enc a) (enc b)
theorem lt_irrefl (a : κ) : lt a a = false := PyProof.Rows.lex_irrefl _
theorem lt_trans {a b c : κ} (h1 : lt a b = true) (h2 : lt b c = true) : lt a c = true := (PyProof.Rows.listOrd PyProof.Rows.itemOrd).trans _ _ _ h1 h2
theorem lt_total {a b : κ} (h1 : lt a b = false) (h2 : lt b a = false) : a = b := inj a b ((PyProof.Rows.listOrd PyProof.Rows.itemOrd).total _ _ h1 h2)
theorem lt_asymm {a b : κ} (h : lt a b = true) : lt b a = false := by
  cases e : lt b a with
  | false => rfl
  | true => rw [← lt_trans h e, lt_irrefl]
theorem lt_ne {a b : κ} (h : lt a b = true) : a ≠ b := fun e => by rw [e, lt_irrefl] at h; cases h
abbrev Bag (κ : Type) := List (κ × Int)
/-- rising, each key once -/
def Asc (l : Bag κ) : Prop := l.Pairwise fun a b => lt a.1 b.1 = true
theorem Asc.uniq {l : Bag κ} (h : Asc l) {p q : κ × Int} (hp : p ∈ l) (hq : q ∈ l) (e : p.1 = q.1) : p = q := by
  induction l with
  | nil => exact nomatch hp
  | cons x r ih =>
    obtain ⟨h1, h2⟩ := List.pairwise_cons.mp h
    rcases List.mem_cons.mp hp with e1 | hp1
    · rcases List.mem_cons.mp hq with e2 | hq1
      · rw [e1, e2]
      · rw [e1] at e
        exact absurd e (lt_ne (h1 q hq1))
    · rcases List.mem_cons.mp hq with e2 | hq1
      · rw [e2] at e
        exact absurd e.symm (lt_ne (h1 p hp1))
      · exact ih h2 hp1 hq1
theorem asc_ext : ∀ {l m : Bag κ}, Asc l → Asc m → (∀ p, p ∈ l ↔ p ∈ m) → l = m
  | [], [], _, _, _ => rfl
  | [], y :: m, _, _, h => absurd ((h y).mpr List.mem_cons_self) (by simp)
  | x :: l, [], _, _, h => absurd ((h x).mp List.mem_cons_self) (by simp)
  | x :: l, y :: m, hl, hm, h => by
    obtain ⟨a1, a2⟩ := List.pairwise_cons.mp hl
    obtain ⟨b1, b2⟩ := List.pairwise_cons.mp hm
    have e : x = y := by
      rcases List.mem_cons.mp ((h x).mp List.mem_cons_self) with e | hx
      · exact e
      · rcases List.mem_cons.mp ((h y).mpr List.mem_cons_self) with e | hy
        · exact e.symm
        · have := lt_asymm (a1 y hy)
          rw [b1 x hx] at this
          cases this
    subst e
    have nl : x ∉ l := fun q => lt_ne (a1 x q) rfl
    have nm : x ∉ m := fun q => lt_ne (b1 x q) rfl
    rw [asc_ext a2 b2 fun p => ?_]
    constructor
    · intro hp
      rcases List.mem_cons.mp ((h p).mp (List.mem_cons_of_mem _ hp)) with e | q
      · rw [e] at hp
        exact absurd hp nl
      · exact q
    · intro hp
      rcases List.mem_cons.mp ((h p).mpr (List.mem_cons_of_mem _ hp)) with e | q
      · rw [e] at hp
        exact absurd hp nm
      · exact q
/-! adding up -/
def look (l : Bag κ) (k : κ) : Option Int := (l.find? fun e => decide (e.1 = k)).map (·.2)
def put (l : Bag κ) (k : κ) (v : Int) : Bag κ := if (look l k).isSome then l.map (fun e => if e.1 = k then (e.1, v) else e) else l ++ [(k, v)]
def add1 (l : Bag κ) (p : κ × Int) : Bag κ := put l p.1 ((look l p.1).getD 0 + p.2)
/-- the book of what is told in turn -/
def book (ts : Bag κ) : Bag κ := ts.foldl add1 []
def pr (l : Bag κ) (f : κ → Int) : Int := (l.map fun e => e.2 * f e.1).sum
theorem pr_nil (f : κ → Int) : pr [] f = 0 := rfl
theorem pr_cons (p : κ × Int) (l : Bag κ) (f : κ → Int) : pr (p :: l) f = p.2 * f p.1 + pr l f := by simp [pr]
theorem pr_append (l m : Bag κ) (f : κ → Int) : pr (l ++ m) f = pr l f + pr m f := by simp [pr]
theorem pr_perm {l m : Bag κ} (h : l.Perm m) (f : κ → Int) : pr l f = pr m f := by
  induction h with
  | nil => rfl
  | cons x _ ih => rw [pr_cons, pr_cons, ih]
  | swap x y l => rw [pr_cons, pr_cons, pr_cons, pr_cons]; omega
  | trans _ _ h1 h2 => rw [h1, h2]
theorem look_none {l : Bag κ} {k : κ} (h : look l k = none) : ∀ e ∈ l, e.1 ≠ k := by
  intro e he q
  unfold look at h
  rw [Option.map_eq_none_iff, List.find?_eq_none] at h
  exact h e he (decide_eq_true q)
theorem look_mem {l : Bag κ} {k : κ} {v : Int} (h : look l k = some v) : (k, v) ∈ l := by
  unfold look at h
  obtain ⟨e, he, rfl⟩ := Option.map_eq_some_iff.mp h
  have h1 := List.mem_of_find?_eq_some he
  have h2 := List.find?_some he
  have h3 : e.1 = k := of_decide_eq_true h2
  rw [← h3]
  exact h1
theorem look_of_mem {l : Bag κ} (hn : (l.map (·.1)).Nodup) {k : κ} {v : Int} (h : (k, v) ∈ l) : look l k = some v := by
  induction l with
  | nil => exact nomatch h
  | cons x r ih =>
    rw [List.map_cons, List.nodup_cons] at hn
    unfold look
    rw [List.find?_cons]
    rcases List.mem_cons.mp h with e | h
    · rw [← e]
      simp
    · have hne : ¬ x.1 = k := fun e => hn.1 (by rw [e]; exact List.mem_map.mpr ⟨_, h, rfl⟩)
      rw [decide_eq_false hne]
      exact ih hn.2 h
theorem keys_put (l : Bag κ) (k : κ) (v : Int) : (put l k v).map (·.1) = if (look l k).isSome then l.map (·.1) else l.map (·.1) ++ [k] := by
  unfold put
  split
  · rw [List.map_map]
    refine List.map_congr_left fun e _ => ?_
    show (if e.1 = k then (e.1, v) else e).1 = e.1
    split <;> rfl
  · rw [List.map_append]
    rfl
theorem nodup_put {l : Bag κ} (hn : (l.map (·.1)).Nodup) (k : κ) (v : Int) : ((put l k v).map (·.1)).Nodup := by
  rw [keys_put]
  split
  · exact hn
  · rename_i h
    have hno : look l k = none := by
      cases e : look l k with
      | none => rfl
      | some _ => rw [e] at h; simp at h
    rw [List.nodup_append]
    refine ⟨hn, by simp, fun a ha b hb e => ?_⟩
    rw [List.mem_singleton] at hb
    obtain ⟨x, hx, rfl⟩ := List.mem_map.mp ha
    exact look_none hno x hx (e.trans hb)
theorem map_off {l : Bag κ} {k : κ} {v : Int} (h : ∀ e ∈ l, e.1 ≠ k) : l.map (fun e => if e.1 = k then (e.1, v) else e) = l := by
  induction l with
  | nil => rfl
  | cons x r ih =>
    rw [List.map_cons, if_neg (h x List.mem_cons_self), ih fun e he => h e (List.mem_cons_of_mem _ he)]
theorem pr_set {l : Bag κ} (hn : (l.map (·.1)).Nodup) {k : κ} {u : Int} (h : (k, u) ∈ l) (v : Int) (f : κ → Int) : pr (l.map fun e => if e.1 = k then (e.1, v) else e) f = pr l f + (v - u) * f k := by
  induction l with
  | nil => exact nomatch h
  | cons x r ih =>
    rw [List.map_cons, List.nodup_cons] at hn
    rw [List.map_cons, pr_cons, pr_cons]
    rcases List.mem_cons.mp h with e | h
    · have hoff : ∀ e ∈ r, e.1 ≠ k := fun e' he q => hn.1 (by rw [← e, ← q]; exact List.mem_map.mpr ⟨_, he, rfl⟩)
      rw [map_off hoff, ← e, if_pos rfl]
      simp only [Int.sub_mul]
      omega
    · have hne : ¬ x.1 = k := fun e => hn.1 (by rw [e]; exact List.mem_map.mpr ⟨_, h, rfl⟩)
      rw [if_neg hne, ih hn.2 h]
      omega
theorem pr_add1 {l : Bag κ} (hn : (l.map (·.1)).Nodup) (p : κ × Int) (f : κ → Int) : pr (add1 l p) f = pr l f + p.2 * f p.1 := by
  unfold add1 put
  cases e : look l p.1 with
  | none =>
    simp only [Option.isSome_none, Bool.false_eq_true, if_false, Option.getD_none, Int.zero_add]
    rw [pr_append, pr_cons, pr_nil]
    simp
  | some u =>
    simp only [Option.isSome_some, if_true, Option.getD_some]
    rw [pr_set hn (look_mem e)]
    rw [show u + p.2 - u = p.2 by omega]
theorem nodup_add1 {l : Bag κ} (hn : (l.map (·.1)).Nodup) (p : κ × Int) : ((add1 l p).map (·.1)).Nodup := nodup_put hn _ _
theorem fold_ok : ∀ (ts : Bag κ) (l : Bag κ), (l.map (·.1)).Nodup → ((ts.foldl add1 l).map (·.1)).Nodup ∧ ∀ f, pr (ts.foldl add1 l) f = pr l f + pr ts f
  | [], l, h => ⟨h, fun f => by rw [pr_nil]; simp⟩
  | p :: ts, l, h => by
    obtain ⟨h1, h2⟩ := fold_ok ts (add1 l p) (nodup_add1 h p)
    refine ⟨h1, fun f => ?_⟩
    rw [List.foldl_cons, h2, pr_add1 h, pr_cons]
    omega
theorem book_nodup (ts : Bag κ) : ((book ts).map (·.1)).Nodup := (fold_ok ts [] List.nodup_nil).1
theorem book_pr (ts : Bag κ) (f : κ → Int) : pr (book ts) f = pr ts f := by
  have := (fold_ok ts [] List.nodup_nil).2 f
  rw [pr_nil, Int.zero_add] at this
  exact this
theorem book_snoc (ts : Bag κ) (p : κ × Int) : book (ts ++ [p]) = add1 (book ts) p := by simp [book]
def Pos (l : Bag κ) : Prop := ∀ p ∈ l, 0 < p.2
theorem pos_add1 {l : Bag κ} (h : Pos l) {p : κ × Int} (hp : 0 < p.2) : Pos (add1 l p) := by
  intro q hq
  have h0 : 0 ≤ (look l p.1).getD 0 := by
    cases e : look l p.1 with
    | none => exact Int.le_refl _
    | some u => exact Int.le_of_lt (h _ (look_mem e))
  unfold add1 put at hq
  split at hq
  · obtain ⟨x, hx, rfl⟩ := List.mem_map.mp hq
    split
    · show 0 < (look l p.1).getD 0 + p.2
      omega
    · exact h x hx
  · rcases List.mem_append.mp hq with hq | hq
    · exact h q hq
    · rw [List.mem_singleton.mp hq]
      show 0 < (look l p.1).getD 0 + p.2
      omega
theorem pos_fold : ∀ (ts : Bag κ) (l : Bag κ), Pos l → Pos ts → Pos (ts.foldl add1 l)
  | [], _, h, _ => h
  | p :: ts, l, h, ht => pos_fold ts (add1 l p) (pos_add1 h (ht p List.mem_cons_self)) fun q hq => ht q (List.mem_cons_of_mem _ hq)
theorem pos_book {ts : Bag κ} (h : Pos ts) : Pos (book ts) := pos_fold ts [] (fun _ q => nomatch q) h
theorem len_add1 (l : Bag κ) (p : κ × Int) : (add1 l p).length ≤ l.length + 1 := by
  unfold add1 put
  split
  · rw [List.length_map]; omega
  · rw [List.length_append]; exact Nat.le_refl _
theorem len_fold : ∀ (ts : Bag κ) (l : Bag κ), (ts.foldl add1 l).length ≤ l.length + ts.length
  | [], _ => Nat.le_refl _
  | p :: ts, l => by
    have h1 := len_fold ts (add1 l p)
    have h2 := len_add1 l p
    rw [List.foldl_cons, List.length_cons]
    omega
theorem len_book (ts : Bag κ) : (book ts).length ≤ ts.length := by
  have := len_fold ts []
  rw [List.length_nil, Nat.zero_add] at this
  exact this
/-- whatever holds of all keys told holds of the book's -/
theorem key_book {Pk : κ → Prop} : ∀ (ts l : Bag κ), (∀ p ∈ l, Pk p.1) → (∀ p ∈ ts, Pk p.1) → ∀ p ∈ ts.foldl add1 l, Pk p.1
  | [], _, h, _ => h
  | t :: ts, l, h, ht => by
    refine key_book ts (add1 l t) (fun p hp => ?_) fun q hq => ht q (List.mem_cons_of_mem _ hq)
    have hm : p.1 ∈ (add1 l t).map (·.1) := List.mem_map.mpr ⟨p, hp, rfl⟩
    unfold add1 at hm
    rw [keys_put] at hm
    split at hm
    · obtain ⟨x, hx, e⟩ := List.mem_map.mp hm
      rw [← e]
      exact h x hx
    · rcases List.mem_append.mp hm with hm | hm
      · obtain ⟨x, hx, e⟩ := List.mem_map.mp hm
        rw [← e]
        exact h x hx
      · rw [List.mem_singleton.mp hm]
        exact ht t List.mem_cons_self
/-! in order -/
def encP (p : κ × Int) : PyData := .tuple [enc p.1, .int p.2]
def srt (l : Bag κ) : Bag κ := l.mergeSort (PySem.W.dataLe false encP)
theorem srt_perm (l : Bag κ) : (srt l).Perm l := List.mergeSort_perm l _
theorem srt_asc {l : Bag κ} (hn : (l.map (·.1)).Nodup) : Asc (srt l) := by
  have h1 : (srt l).Pairwise (fun a b => PySem.W.dataLe false encP a b = true) := PySem.W.sort_pairwise (PySem.W.sortLe_total _ false _) l
  have h2 : ((srt l).map (·.1)).Nodup := ((srt_perm l).map _).nodup_iff.mpr hn
  rw [List.Nodup, List.pairwise_map] at h2
  refine (h1.and h2).imp fun {a b} ⟨hle, hne⟩ => ?_
  have hle' : (!PySem.W.dataLt (encP b) (encP a)) = true := hle
  unfold encP at hle'
  have ai : PySem.W.alike (.int b.2) (.int a.2) = true := by simp [PySem.W.alike]
  rw [PySem.W.dataLt_pair (al _ _) ai, eqv, decide_eq_false (Ne.symm hne), if_neg Bool.false_ne_true] at hle'
  have hle2 : lt b.1 a.1 = false := by
    cases e : lt b.1 a.1 with
    | false => rfl
    | true =>
      have e' : PySem.W.dataLt (enc b.1) (enc a.1) = true := e
      rw [e'] at hle'
      cases hle'
  cases e : lt a.1 b.1 with
  | true => rfl
  | false => exact absurd (lt_total e hle2) hne
def nf (ts : Bag κ) : Bag κ := srt (book ts)
theorem nf_asc (ts : Bag κ) : Asc (nf ts) := srt_asc (book_nodup ts)
theorem nf_pr (ts : Bag κ) (f : κ → Int) : pr (nf ts) f = pr ts f := by
  unfold nf
  rw [pr_perm (srt_perm _), book_pr]
theorem nf_pos {ts : Bag κ} (h : Pos ts) : Pos (nf ts) := fun p hp => pos_book h p ((srt_perm _).mem_iff.mp hp)
theorem nf_len (ts : Bag κ) : (nf ts).length ≤ ts.length := by
  unfold nf
  rw [(srt_perm _).length_eq]
  exact len_book ts
theorem nf_key {Pk : κ → Prop} {ts : Bag κ} (h : ∀ p ∈ ts, Pk p.1) : ∀ p ∈ nf ts, Pk p.1 := fun p hp => key_book ts [] (fun _ q => nomatch q) h p ((srt_perm _).mem_iff.mp hp)
/-! one form -/
def del (k : κ) : κ → Int := fun x => if x = k then 1 else 0
theorem pr_off {l : Bag κ} {k : κ} (h : ∀ e ∈ l, e.1 ≠ k) : pr l (del k) = 0 := by
  induction l with
  | nil => rfl
  | cons x r ih =>
    rw [pr_cons, ih fun e he => h e (List.mem_cons_of_mem _ he)]
    unfold del
    rw [if_neg (h x List.mem_cons_self)]
    simp
theorem pr_del {l : Bag κ} (h : Asc l) {k : κ} {v : Int} (hm : (k, v) ∈ l) : pr l (del k) = v := by
  induction l with
  | nil => exact nomatch hm
  | cons x r ih =>
    obtain ⟨h1, h2⟩ := List.pairwise_cons.mp h
    rw [pr_cons]
    rcases List.mem_cons.mp hm with e | hm
    · have hoff : ∀ e ∈ r, e.1 ≠ k := fun e' he q => lt_ne (h1 e' he) (by rw [← e]; exact q.symm)
      rw [pr_off hoff, ← e]
      unfold del
      rw [if_pos rfl]
      simp
    · rw [ih h2 hm]
      unfold del
      rw [if_neg fun q => lt_ne (h1 _ hm) q]
      simp
theorem mem_of_pr {l : Bag κ} (h : Asc l) {k : κ} {v : Int} (hv : v ≠ 0) (e : pr l (del k) = v) : (k, v) ∈ l := by
  by_cases hx : ∃ u, (k, u) ∈ l
  · obtain ⟨u, hu⟩ := hx
    rw [pr_del h hu] at e
    rw [← e]
    exact hu
  · have hoff : ∀ e ∈ l, e.1 ≠ k := fun e' he q => hx ⟨e'.2, by rw [← q]; exact he⟩
    rw [pr_off hoff] at e
    exact absurd e.symm hv
theorem one_form {l m : Bag κ} (hl : Asc l) (hm : Asc m) (pl : Pos l) (pm : Pos m) (h : ∀ f, pr l f = pr m f) : l = m := by
  refine asc_ext hl hm fun p => ⟨fun hp => ?_, fun hp => ?_⟩
  · have := pr_del hl (k := p.1) (v := p.2) hp
    rw [h] at this
    exact mem_of_pr hm (Int.ne_of_gt (pl p hp)) this
  · have := pr_del hm (k := p.1) (v := p.2) hp
    rw [← h] at this
    exact mem_of_pr hl (Int.ne_of_gt (pm p hp)) this
theorem nf_eq {l m : Bag κ} (pl : Pos l) (pm : Pos m) (h : ∀ f, pr l f = pr m f) : nf l = nf m :=
  one_form (nf_asc l) (nf_asc m) (nf_pos pl) (nf_pos pm) fun f => by rw [nf_pr, nf_pr, h]
theorem nf_id {l : Bag κ} (hl : Asc l) (pl : Pos l) : nf l = l := one_form (nf_asc l) hl (nf_pos pl) pl fun f => nf_pr l f
end
end Bk


set_option Elab.async false
set_option linter.all false
set_option maxRecDepth 100000
set_option maxHeartbeats 2000000
/-! polynomials over tokens -/
namespace Bk
open PySem Nd
instance : Ky Str where
  enc := .str
  al := fun a b => by simp [PySem.W.alike]
  inj := fun a b h => by
    simp only [PySem.W.keyToks, List.cons.injEq, Sum.inr.injEq, and_true] at h
    exact PySem.W.str_of_cps h
  eqv := fun a b => by
    by_cases h : a = b
    · subst h
      simp [PyData.eqv]
    · rw [decide_eq_false h]
      simp [PyData.eqv, h]
  nn := fun a h => nomatch h
  dep := fun a => by simp [PyData.depth]
def tkD (p : Str × Int) : PyData := .tuple [.str p.1, .int p.2]
theorem mD_eq (m : Mono) : mD m = .tuple (m.map tkD) := rfl
theorem al_tk (p q : Str × Int) : PySem.W.alike (tkD p) (tkD q) = true := by simp [tkD, PySem.W.alike, PySem.W.alikeAll]
theorem al_tks : ∀ m n : Mono, PySem.W.alikeAll (m.map tkD) (n.map tkD) = true
  | [], _ => by simp [PySem.W.alikeAll]
  | _ :: _, [] => by simp [PySem.W.alikeAll]
  | p :: m, q :: n => by
    rw [List.map_cons, List.map_cons, PySem.W.alikeAll, al_tk, al_tks m n]
    rfl
theorem toks_tk (p : Str × Int) : PySem.W.keyToks (tkD p) = [.inl 1, .inr p.1.cps.toList, .inl 1, .inl p.2, .inl 0] := by simp [tkD, PySem.W.keyToks, PySem.W.keyToksAll]
theorem toks_inj : ∀ m n : Mono, PySem.W.keyToksAll (m.map tkD) = PySem.W.keyToksAll (n.map tkD) → m = n
  | [], [], _ => rfl
  | [], q :: n, h => by simp [PySem.W.keyToksAll] at h
  | p :: m, [], h => by simp [PySem.W.keyToksAll] at h
  | p :: m, q :: n, h => by
    rw [List.map_cons, List.map_cons, PySem.W.toks_all_cons, PySem.W.toks_all_cons, toks_tk, toks_tk] at h
    simp only [List.cons_append, List.nil_append, List.cons.injEq, Sum.inl.injEq, Sum.inr.injEq, true_and] at h
    obtain ⟨h1, h2, h3⟩ := h
    rw [toks_inj m n h3]
    obtain ⟨p1, p2⟩ := p
    obtain ⟨q1, q2⟩ := q
    simp only at h1 h2
    rw [PySem.W.str_of_cps h1, h2]
theorem eqv_tk (p q : Str × Int) : PyData.eqv (tkD p) (tkD q) = decide (p = q) := by
  obtain ⟨p1, p2⟩ := p
  obtain ⟨q1, q2⟩ := q
  by_cases h1 : p1 = q1
  · by_cases h2 : p2 = q2
    · subst h1 h2
      simp [tkD, PyData.eqv, PyData.eqvAll]
    · simp [tkD, PyData.eqv, PyData.eqvAll, h2]
  · simp [tkD, PyData.eqv, PyData.eqvAll, h1]
theorem eqv_tks : ∀ m n : Mono, PyData.eqvAll (m.map tkD) (n.map tkD) = decide (m = n)
  | [], [] => by simp [PyData.eqvAll]
  | [], q :: n => by simp [PyData.eqvAll]
  | p :: m, [] => by simp [PyData.eqvAll]
  | p :: m, q :: n => by
    rw [List.map_cons, List.map_cons, PySem.W.eqv_all_cons, eqv_tk, eqv_tks m n]
    by_cases h1 : p = q
    · by_cases h2 : m = n
      · simp [h1, h2]
      · simp [h2]
    · simp [h1]
theorem dep_tks : ∀ m : Mono, PyData.depthAll (m.map tkD) ≤ 1
  | [] => by simp [PyData.depthAll]
  | p :: m => by
    have := dep_tks m
    simp only [List.map_cons, PyData.depthAll, tkD, PyData.depth]
    omega
instance : Ky Mono where
  enc := mD
  al := fun a b => by
    rw [mD_eq, mD_eq, PySem.W.alike]
    exact al_tks a b
  inj := fun a b h => by
    rw [mD_eq, mD_eq, PySem.W.keyToks, PySem.W.keyToks] at h
    exact toks_inj a b h
  eqv := fun a b => by
    rw [mD_eq, mD_eq, PyData.eqv]
    exact eqv_tks a b
  nn := fun a h => nomatch h
  dep := fun a => by
    have := dep_tks a
    rw [mD_eq, PyData.depth]
    omega
abbrev Poly := Bag Mono
/-- tokens rising, exponents from 1 on -/
def MOk (m : Mono) : Prop := Asc m ∧ Pos m
def POk (p : Poly) : Prop := Asc p ∧ Pos p ∧ ∀ t ∈ p, MOk t.1
def mulM (a b : Mono) : Mono := nf (a ++ b)
def prods (p q : Poly) : Poly := p.flatMap fun a => q.map fun b => (mulM a.1 b.1, a.2 * b.2)
def plusP (p q : Poly) : Poly := nf (p ++ q)
def timesP (p q : Poly) : Poly := nf (prods p q)
theorem pos_append {κ : Type} {l m : Bag κ} (hl : Pos l) (hm : Pos m) : Pos (l ++ m) := fun p hp => (List.mem_append.mp hp).elim (hl p) (hm p)
theorem mulM_ok {a b : Mono} (ha : MOk a) (hb : MOk b) : MOk (mulM a b) := ⟨nf_asc _, nf_pos (pos_append ha.2 hb.2)⟩
theorem mulM_comm {a b : Mono} (ha : MOk a) (hb : MOk b) : mulM a b = mulM b a :=
  nf_eq (pos_append ha.2 hb.2) (pos_append hb.2 ha.2) fun f => by rw [pr_append, pr_append]; omega
theorem mulM_assoc {a b c : Mono} (ha : MOk a) (hb : MOk b) (hc : MOk c) : mulM (mulM a b) c = mulM a (mulM b c) := by
  refine nf_eq (pos_append (mulM_ok ha hb).2 hc.2) (pos_append ha.2 (mulM_ok hb hc).2) fun f => ?_
  rw [pr_append, pr_append]
  unfold mulM
  rw [nf_pr, nf_pr, pr_append, pr_append]
  omega
theorem mulM_nil_left {a : Mono} (ha : MOk a) : mulM [] a = a := by
  unfold mulM
  rw [List.nil_append]
  exact nf_id ha.1 ha.2
theorem mulM_nil_right {a : Mono} (ha : MOk a) : mulM a [] = a := by
  unfold mulM
  rw [List.append_nil]
  exact nf_id ha.1 ha.2
theorem ok_nil : MOk [] := ⟨List.Pairwise.nil, fun _ h => nomatch h⟩
theorem pok_zero : POk [] := ⟨List.Pairwise.nil, fun _ h => (nomatch h), fun _ h => nomatch h⟩
def oneP : Poly := [([], 1)]
theorem pok_one : POk oneP := ⟨List.pairwise_singleton _ _, fun p h => by rw [List.mem_singleton.mp h]; decide, fun p h => by rw [List.mem_singleton.mp h]; exact ok_nil⟩
theorem plusP_ok {p q : Poly} (hp : POk p) (hq : POk q) : POk (plusP p q) :=
  ⟨nf_asc _, nf_pos (pos_append hp.2.1 hq.2.1), nf_key (Pk := MOk) fun t ht => (List.mem_append.mp ht).elim (hp.2.2 t) (hq.2.2 t)⟩
theorem mem_prods {p q : Poly} {t : Mono × Int} (h : t ∈ prods p q) : ∃ a ∈ p, ∃ b ∈ q, t = (mulM a.1 b.1, a.2 * b.2) := by
  unfold prods at h
  obtain ⟨a, ha, h⟩ := List.mem_flatMap.mp h
  obtain ⟨b, hb, rfl⟩ := List.mem_map.mp h
  exact ⟨a, ha, b, hb, rfl⟩
theorem pos_prods {p q : Poly} (hp : Pos p) (hq : Pos q) : Pos (prods p q) := fun t ht => by
  obtain ⟨a, ha, b, hb, rfl⟩ := mem_prods ht
  exact Int.mul_pos (hp a ha) (hq b hb)
theorem timesP_ok {p q : Poly} (hp : POk p) (hq : POk q) : POk (timesP p q) :=
  ⟨nf_asc _, nf_pos (pos_prods hp.2.1 hq.2.1), nf_key (Pk := MOk) fun t ht => by
    obtain ⟨a, ha, b, hb, rfl⟩ := mem_prods ht
    exact mulM_ok (hp.2.2 a ha) (hq.2.2 b hb)⟩
theorem pr_mapmul (q : Poly) (x : Int) (g : Mono → Mono) (f : Mono → Int) : pr (q.map fun b => (g b.1, x * b.2)) f = x * pr q (fun b => f (g b)) := by
  induction q with
  | nil => rw [List.map_nil, pr_nil, pr_nil, Int.mul_zero]
  | cons b r ih =>
    rw [List.map_cons, pr_cons, pr_cons, ih, Int.mul_add, Int.mul_assoc]
theorem pr_prods (p q : Poly) (f : Mono → Int) : pr (prods p q) f = pr p fun a => pr q fun b => f (mulM a b) := by
  induction p with
  | nil => rfl
  | cons a r ih =>
    have e : prods (a :: r) q = (q.map fun b => (mulM a.1 b.1, a.2 * b.2)) ++ prods r q := by simp [prods]
    rw [e, pr_append, ih, pr_cons, pr_mapmul q a.2 (mulM a.1) f]
theorem pr_times (p q : Poly) (f : Mono → Int) : pr (timesP p q) f = pr p fun a => pr q fun b => f (mulM a b) := by
  unfold timesP
  rw [nf_pr, pr_prods]
theorem pr_plus (p q : Poly) (f : Mono → Int) : pr (plusP p q) f = pr p f + pr q f := by
  unfold plusP
  rw [nf_pr, pr_append]
theorem pr_congr {p : Poly} {f g : Mono → Int} (h : ∀ t ∈ p, f t.1 = g t.1) : pr p f = pr p g := by
  induction p with
  | nil => rfl
  | cons a r ih =>
    rw [pr_cons, pr_cons, h a List.mem_cons_self, ih fun t ht => h t (List.mem_cons_of_mem _ ht)]
theorem pr_add (p : Poly) (f g : Mono → Int) : pr p (fun a => f a + g a) = pr p f + pr p g := by
  induction p with
  | nil => rfl
  | cons a r ih =>
    rw [pr_cons, pr_cons, pr_cons, ih, Int.mul_add]
    omega
theorem pr_zero (p : Poly) : pr p (fun _ => 0) = 0 := by
  induction p with
  | nil => rfl
  | cons a r ih => rw [pr_cons, ih]; simp
theorem pr_scale (p : Poly) (x : Int) (f : Mono → Int) : pr p (fun a => x * f a) = x * pr p f := by
  induction p with
  | nil => rw [pr_nil, pr_nil, Int.mul_zero]
  | cons a r ih =>
    rw [pr_cons, pr_cons, ih, Int.mul_add, ← Int.mul_assoc, ← Int.mul_assoc, Int.mul_comm a.2 x]
theorem pr_swap (p q : Poly) (f : Mono → Mono → Int) : pr p (fun a => pr q fun b => f a b) = pr q fun b => pr p fun a => f a b := by
  induction p with
  | nil =>
    rw [pr_nil]
    exact (pr_zero q).symm
  | cons a r ih =>
    rw [pr_cons, ih]
    have e : (fun b => pr (a :: r) fun x => f x b) = fun b => a.2 * f a.1 b + pr r fun x => f x b := by
      funext b
      rw [pr_cons]
    rw [e, pr_add, pr_scale]
section
variable {p q r : Poly}
theorem plus_assoc (hp : POk p) (hq : POk q) (hr : POk r) : plusP (plusP p q) r = plusP p (plusP q r) :=
  nf_eq (pos_append (plusP_ok hp hq).2.1 hr.2.1) (pos_append hp.2.1 (plusP_ok hq hr).2.1) fun f => by rw [pr_append, pr_append, pr_plus, pr_plus]; omega
theorem plus_comm (hp : POk p) (hq : POk q) : plusP p q = plusP q p := nf_eq (pos_append hp.2.1 hq.2.1) (pos_append hq.2.1 hp.2.1) fun f => by rw [pr_append, pr_append]; omega
theorem plus_zero (hp : POk p) : plusP p [] = p := by
  unfold plusP
  rw [List.append_nil]
  exact nf_id hp.1 hp.2.1
theorem zero_plus (hp : POk p) : plusP [] p = p := by
  unfold plusP
  rw [List.nil_append]
  exact nf_id hp.1 hp.2.1
theorem times_comm (hp : POk p) (hq : POk q) : timesP p q = timesP q p :=
  nf_eq (pos_prods hp.2.1 hq.2.1) (pos_prods hq.2.1 hp.2.1) fun f => by
    rw [pr_prods, pr_prods, pr_swap q p]
    exact pr_congr fun a ha => pr_congr fun b hb => by rw [mulM_comm (hp.2.2 a ha) (hq.2.2 b hb)]
theorem times_assoc (hp : POk p) (hq : POk q) (hr : POk r) : timesP (timesP p q) r = timesP p (timesP q r) :=
  nf_eq (pos_prods (timesP_ok hp hq).2.1 hr.2.1) (pos_prods hp.2.1 (timesP_ok hq hr).2.1) fun f => by
    rw [pr_prods, pr_prods, pr_times]
    refine pr_congr fun a ha => ?_
    rw [pr_times]
    exact pr_congr fun b hb => pr_congr fun c hc => by rw [mulM_assoc (hp.2.2 a ha) (hq.2.2 b hb) (hr.2.2 c hc)]
theorem times_plus (hp : POk p) (hq : POk q) (hr : POk r) : timesP p (plusP q r) = plusP (timesP p q) (timesP p r) :=
  nf_eq (pos_prods hp.2.1 (plusP_ok hq hr).2.1) (pos_append (timesP_ok hp hq).2.1 (timesP_ok hp hr).2.1) fun f => by
    rw [pr_prods, pr_append, pr_times, pr_times, ← pr_add]
    exact pr_congr fun a ha => by rw [pr_plus]
theorem times_one (hp : POk p) : timesP p oneP = p := by
  refine one_form (nf_asc _) hp.1 (timesP_ok hp pok_one).2.1 hp.2.1 fun f => ?_
  rw [pr_times]
  refine pr_congr fun a ha => ?_
  unfold oneP
  rw [pr_cons, pr_nil, mulM_nil_right (hp.2.2 a ha)]
  simp
theorem one_times (hp : POk p) : timesP oneP p = p := by rw [times_comm pok_one hp, times_one hp]
theorem times_zero : timesP p [] = [] := by
  have e : prods p [] = [] := by
    unfold prods
    induction p with
    | nil => rfl
    | cons a r ih => rw [List.flatMap_cons, List.map_nil, List.nil_append, ih]
  unfold timesP
  rw [e]
  exact nf_id List.Pairwise.nil fun _ h => nomatch h
theorem zero_times : timesP [] p = [] := nf_id List.Pairwise.nil fun _ h => nomatch h
end
/-! sizes -/
def S {κ : Type} (p : Bag κ) : Int := pr p fun _ => 1
theorem S_plus (p q : Poly) : S (plusP p q) = S p + S q := pr_plus p q _
theorem S_times (p q : Poly) : S (timesP p q) = S p * S q := by
  unfold S
  rw [pr_times]
  have e : (fun _ : Mono => pr q fun _ => 1) = fun _ : Mono => (pr q fun _ => 1) * 1 := by
    funext a
    rw [Int.mul_one]
  rw [e, pr_scale p _ (fun _ => 1), Int.mul_comm]
theorem S_nf {κ : Type} [DecidableEq κ] [Ky κ] (ts : Bag κ) : S (nf ts) = S ts := nf_pr ts _
theorem S_append {κ : Type} (p q : Bag κ) : S (p ++ q) = S p + S q := by
  unfold S pr
  simp
theorem S_nonneg {κ : Type} {l : Bag κ} (h : Pos l) : 0 ≤ S l := by
  induction l with
  | nil => exact Int.le_refl _
  | cons x r ih =>
    have h1 := h x List.mem_cons_self
    have h2 := ih fun q hq => h q (List.mem_cons_of_mem _ hq)
    have e : S (x :: r) = x.2 * 1 + S r := by unfold S pr; simp
    omega
theorem le_S {κ : Type} {l : Bag κ} (h : Pos l) {p : κ × Int} (hp : p ∈ l) : p.2 ≤ S l := by
  induction l with
  | nil => exact nomatch hp
  | cons x r ih =>
    have h1 := h x List.mem_cons_self
    have h0 : Pos r := fun q hq => h q (List.mem_cons_of_mem _ hq)
    have h2 := S_nonneg h0
    have e : S (x :: r) = x.2 * 1 + S r := by unfold S pr; simp
    rcases List.mem_cons.mp hp with q | q
    · rw [q]; omega
    · have := ih h0 q
      omega
theorem S_book {κ : Type} [DecidableEq κ] [Ky κ] (ts : Bag κ) : S (book ts) = S ts := book_pr ts _
theorem S_mulM (a b : Mono) : S (mulM a b) = S a + S b := by
  unfold mulM
  rw [S_nf, S_append]
theorem len_prods (p q : Poly) : (prods p q).length = p.length * q.length := by
  unfold prods
  induction p with
  | nil => simp
  | cons a r ih => rw [List.flatMap_cons, List.length_append, ih, List.length_map, List.length_cons, Nat.add_mul, Nat.one_mul, Nat.add_comm]
/-- degrees at most d -/
def Dg (p : Poly) (d : Int) : Prop := ∀ t ∈ p, S t.1 ≤ d
theorem Dg_nf {ts : Poly} {d : Int} (h : Dg ts d) : Dg (nf ts) d := nf_key (Pk := fun m => S m ≤ d) h
theorem Dg_plus {p q : Poly} {d : Int} (hp : Dg p d) (hq : Dg q d) : Dg (plusP p q) d := Dg_nf fun t ht => (List.mem_append.mp ht).elim (hp t) (hq t)
theorem Dg_times {p q : Poly} {d e : Int} (hp : Dg p d) (hq : Dg q e) : Dg (timesP p q) (d + e) := Dg_nf fun t ht => by
  obtain ⟨a, ha, b, hb, rfl⟩ := mem_prods ht
  have h1 := hp a ha
  have h2 := hq b hb
  show S (mulM a.1 b.1) ≤ d + e
  rw [S_mulM]
  omega
end Bk


set_option Elab.async false
set_option linter.all false
set_option maxRecDepth 100000
set_option maxHeartbeats 2000000
namespace K14
open PySem L2
def topS (i : Nat) : Stmt := PySem.Challenge.pw_ledgertrace_k14_widths_and_refusals.main.body.getD i (.Pass ⟨0, 0, 0, 0⟩)
abbrev t_is_sequence : Stmt := topS 4
abbrev t_is_integer : Stmt := topS 5
abbrev t_is_letters : Stmt := topS 6
abbrev t_is_word : Stmt := topS 7
abbrev t_is_cell : Stmt := topS 8
abbrev t_width_of : Stmt := topS 18
abbrev t_parts_of : Stmt := topS 19
abbrev t__need : Stmt := topS 20
abbrev t__check_nodes : Stmt := topS 21
abbrev t__is_node : Stmt := topS 22
abbrev t__width : Stmt := topS 23
abbrev t__is_many : Stmt := topS 24
abbrev t_is_column : Stmt := topS 25
abbrev t__are_columns : Stmt := topS 26
abbrev t__are_pairs : Stmt := topS 27
abbrev t__is_comparison : Stmt := topS 28
abbrev t__is_side : Stmt := topS 29
abbrev t__is_making : Stmt := topS 30
abbrev t__law_mixed : Stmt := topS 32
abbrev t__law_draw : Stmt := topS 33
abbrev t__law_start : Stmt := topS 34
abbrev t__law_same : Stmt := topS 35
abbrev t__law_cell : Stmt := topS 36
abbrev t__law_lists : Stmt := topS 37
abbrev t__law_side : Stmt := topS 38
abbrev t__law_program : Stmt := topS 39
section
variable {P : Program} {w : World} {K : PySem.W.Frag} {mg : Str → Option Value} {base : Heap}
end
end K14



set_option Elab.async false
set_option linter.all false
set_option maxRecDepth 100000
set_option maxHeartbeats 4000000
namespace K14
open PySem L2
def bx (d0 d1 at_ s m : Int) (c : Addr) : List V := [.int d0, .int d1, .int at_, .int s, .int m, .ref c]
/-- a box at b, its cells at c -/
structure BoxAt (H : Hp) (b c : Addr) (ns : List Int) : Prop where
  lst : ∃ d0 d1 at_ s m : Int, 0 ≤ at_ ∧ H b = some (.lst (bx d0 d1 at_ s m c))
  cells : H c = some (.lst (ns.map V.int))
  len : ns.length ≤ 1000
theorem bx_ne {d0 d1 at_ s m : Int} {c : Addr} {ns : List Int} : HO.lst (ns.map V.int) ≠ HO.lst (bx d0 d1 at_ s m c) := by
  intro z
  have z' := HO.lst.inj z
  have h5 := congrArg (fun l => l[5]?) z'
  simp only [bx, List.getElem?_map] at h5
  cases e : ns[5]? with
  | none => rw [e] at h5; simp at h5
  | some y => rw [e] at h5; simp at h5
/-- all but b is kept -/
def But (b : Addr) (H H' : Hp) : Prop := ∀ a o, H a = some o → a ≠ b → H' a = some o
theorem But.refl {b : Addr} {H : Hp} : But b H H := fun _ _ h _ => h
theorem But.trans {b : Addr} {H H1 H2 : Hp} (x : But b H H1) (y : But b H1 H2) : But b H H2 := fun a o h n => y a o (x a o h n) n
theorem But.upd {b : Addr} {H : Hp} {o : HO} : But b H (upd H b o) := fun a u h n => by rw [upd_ne n]; exact h
theorem But.same {b : Addr} {H H1 H2 : Hp} (x : But b H H1) (y : Same H1 H2) : But b H H2 := fun a o h n => y a o (x a o h n)
theorem BoxAt.ne {H : Hp} {b c : Addr} {ns : List Int} (x : BoxAt H b c ns) : c ≠ b := by
  obtain ⟨d0, d1, at_, s, m, _, h⟩ := x.lst
  exact ne_of x.cells h bx_ne
theorem BoxAt.put {H : Hp} {b c : Addr} {ns : List Int} (x : BoxAt H b c ns) {d0 d1 at_ s m : Int} (h : 0 ≤ at_) : BoxAt (upd H b (.lst (bx d0 d1 at_ s m c))) b c ns :=
  ⟨⟨d0, d1, at_, s, m, h, upd_same⟩, by rw [upd_ne x.ne]; exact x.cells, x.len⟩
/-- another box stays -/
theorem BoxAt.keep {H H' : Hp} {b b2 c2 : Addr} {ns : List Int} (y : BoxAt H b2 c2 ns) (hb : But b H H') (n1 : b2 ≠ b) (n2 : c2 ≠ b) : BoxAt H' b2 c2 ns := by
  obtain ⟨d0, d1, at_, s, m, h0, h⟩ := y.lst
  exact ⟨⟨d0, d1, at_, s, m, h0, hb _ _ h n1⟩, hb _ _ y.cells n2, y.len⟩
theorem BoxAt.same {H H' : Hp} {b c : Addr} {ns : List Int} (y : BoxAt H b c ns) (s : Same H H') : BoxAt H' b c ns := by
  obtain ⟨d0, d1, at_, s', m, h0, h⟩ := y.lst
  exact ⟨⟨d0, d1, at_, s', m, h0, s _ _ h⟩, s _ _ y.cells, y.len⟩
section
variable {P : Program} {w : World} {K : PySem.W.Frag} {mg : Str → Option Value} {base : Heap}
end
end K14



set_option Elab.async false
set_option linter.all false
set_option maxRecDepth 100000
set_option maxHeartbeats 4000000
namespace K14
open PySem L2
theorem sqT_same {K : PySem.W.Frag} {H H' : Hp} {a : Addr} {xs : List V} (s : Same H H') (h : SqT K H a xs) : SqT K H' a xs := by
  rcases h with (h | ⟨o, h⟩) | h
  · exact .inl (.inl (s _ _ h))
  · exact .inl (.inr ⟨o, s _ _ h⟩)
  · exact .inr h
theorem tyX_T {K : PySem.W.Frag} {H : Hp} {a : Addr} {xs : List V} (h : SqT K H a xs) : TyX K H (.ref a) (.type "tuple") := by
  rcases h with (h | ⟨o, h⟩) | ⟨o, its, n, h1, h2, _⟩
  · exact .base (.tup h)
  · exact .fTuple h
  · exact .kTuple h1 h2
theorem tyX_L {K : PySem.W.Frag} {H : Hp} {a : Addr} {xs : List V} (h : SqL K H a xs) : TyX K H (.ref a) (.type "list") := by
  rcases h with (h | ⟨o, h⟩) | ⟨o, its, n, h1, h2, _⟩
  · exact .base (.lst h)
  · exact .base (.frz h)
  · exact .kList h1 h2
structure Nm (mg : Str → Option Value) : Prop where
  isi : mg "isinstance" = none
  tup : mg "tuple" = none
  lst : mg "list" = none
  len : mg "len" = none
  rng : mg "range" = none
  bool : mg "bool" = none
  str : mg "str" = none
  int : mg "int" = none
theorem kitAny2 {K : PySem.W.Frag} {t a b : String} (h1 : kitB t a = some false) (h2 : kitB t b = some false) : PySem.W.kitAny K (.type t) [.type a, .type b] = some false :=
  kitAny_cons (kit_ty h1) (fun _ => kitAny_cons (kit_ty h2) (fun _ => rfl) fun z => nomatch z) fun z => nomatch z
section
variable {P : Program} {w : World} {K : PySem.W.Frag} {mg : Str → Option Value} {base : Heap}
end
end K14



set_option Elab.async false
set_option linter.all false
set_option maxRecDepth 100000
set_option maxHeartbeats 2000000
namespace K14
open PySem L2 Nd Bk
/-! data of tuples alone -/
mutual
def tupOnly : PyData → Bool
  | .tuple ds => tupOnlyAll ds
  | .int _ => true
  | .str _ => true
  | .none => true
  | .bool _ => true
  | _ => false
def tupOnlyAll : List PyData → Bool
  | [] => true
  | d :: ds => tupOnly d && tupOnlyAll ds
end
def NotT (u : Option HO) : Prop := (∀ xs, u ≠ some (.tup xs)) ∧ ∀ o xs, u ≠ some (.frz o (.tup xs))
theorem notT_lst {xs : List V} : NotT (some (.lst xs)) := ⟨fun _ h => (nomatch h), fun _ _ h => nomatch h⟩
theorem sqT_put {K : PySem.W.Frag} {H : Hp} {D a : Addr} {o : HO} {xs : List V} (n : NotT (H D)) (h : SqT K H a xs) : SqT K (upd H D o) a xs := by
  rcases h with (h | ⟨o', h⟩) | h
  · refine .inl (.inl ?_)
    rw [upd_ne (fun e => n.1 xs (by rw [← e]; exact h))]
    exact h
  · refine .inl (.inr ⟨o', ?_⟩)
    rw [upd_ne (fun e => n.2 o' xs (by rw [← e]; exact h))]
    exact h
  · exact .inr h
mutual
theorem dp_put0 {K : PySem.W.Frag} {H : Hp} {D : Addr} {o : HO} (n : NotT (H D)) : ∀ {v : V} {d : PyData}, Dp K H v d → tupOnly d = true → Dp K (upd H D o) v d
  | _, _, .non => fun _ => .non
  | _, _, .bl b => fun _ => .bl b
  | _, _, .int i => fun _ => .int i
  | _, _, .str x => fun _ => .str x
  | _, _, .lst h a => fun t => by simp [tupOnly] at t
  | _, _, .tup h a => fun t => .tup (sqT_put n h) (dpAll_put0 n a (by simpa [tupOnly] using t))
theorem dpAll_put0 {K : PySem.W.Frag} {H : Hp} {D : Addr} {o : HO} (n : NotT (H D)) : ∀ {v : List V} {d : List PyData}, DpAll K H v d → tupOnlyAll d = true → DpAll K (upd H D o) v d
  | _, _, .nil => fun _ => .nil
  | _, _, .cons h r => fun t => by
    simp only [tupOnlyAll, Bool.and_eq_true] at t
    exact .cons (dp_put0 n h t.1) (dpAll_put0 n r t.2)
end
theorem dp_put {K : PySem.W.Frag} {H : Hp} {D : Addr} {o : HO} (n : NotT (H D)) {v : V} {d : PyData} (t : tupOnly d = true) (h : Dp K H v d) : Dp K (upd H D o) v d := dp_put0 n h t
theorem dpAll_put {K : PySem.W.Frag} {H : Hp} {D : Addr} {o : HO} (n : NotT (H D)) {v : List V} {d : List PyData} (t : tupOnlyAll d = true) (h : DpAll K H v d) : DpAll K (upd H D o) v d := dpAll_put0 n h t
theorem tupOnlyAll_of : ∀ {ds : List PyData}, (∀ d ∈ ds, tupOnly d = true) → tupOnlyAll ds = true
  | [], _ => rfl
  | d :: ds, h => by
    simp only [tupOnlyAll, Bool.and_eq_true]
    exact ⟨h d List.mem_cons_self, tupOnlyAll_of fun e he => h e (List.mem_cons_of_mem _ he)⟩
/-! bags as data -/
section
variable {κ : Type} [DecidableEq κ] [Ky κ]
def bD (l : Bag κ) : PyData := .tuple (l.map encP)
class Tu (κ : Type) [DecidableEq κ] [Ky κ] : Prop where
  tu : ∀ k : κ, tupOnly (Ky.enc k) = true
theorem tu_encP [Tu κ] (p : κ × Int) : tupOnly (encP p) = true := by
  show (tupOnlyAll [Ky.enc p.1, .int p.2]) = true
  simp [tupOnlyAll, tupOnly, Tu.tu]
theorem tu_encPs [Tu κ] (l : Bag κ) : ∀ d ∈ l.map encP, tupOnly d = true := fun d h => by
  obtain ⟨p, _, rfl⟩ := List.mem_map.mp h
  exact tu_encP p
theorem tu_bD [Tu κ] (l : Bag κ) : tupOnly (bD l) = true := by
  show tupOnlyAll (l.map encP) = true
  exact tupOnlyAll_of (tu_encPs l)
end
instance : Tu Str := ⟨fun _ => rfl⟩
instance : Tu Mono := ⟨fun m => tu_bD (κ := Str) m⟩
section
variable {K : PySem.W.Frag} {H : Hp}
theorem dpAll_len : ∀ {xs : List V} {ds : List PyData}, DpAll K H xs ds → xs.length = ds.length
  | _, _, .nil => rfl
  | _, _, .cons _ t => by simp [dpAll_len t]
theorem dpAll_get : ∀ {xs : List V} {ds : List PyData}, DpAll K H xs ds → ∀ {i : Nat} {x : V}, xs[i]? = some x → ∃ d, ds[i]? = some d ∧ Dp K H x d
  | _, _, .cons h t, 0, x, e => by
    simp only [List.getElem?_cons_zero, Option.some.injEq] at e
    exact ⟨_, rfl, by rw [← e]; exact h⟩
  | _, _, .cons h t, i + 1, x, e => by
    simp only [List.getElem?_cons_succ] at e ⊢
    exact dpAll_get t e
theorem dp_int {v : V} {i : Int} (h : Dp K H v (.int i)) : v = .int i := by
  cases h
  rfl
theorem dp_str {v : V} {i : Str} (h : Dp K H v (.str i)) : v = .str i := by
  cases h
  rfl
end
/-! a list that is put together -/
theorem sm_new {H H2 : Hp} {d : Addr} {o : HO} (s : Same H H2) (n : H d = none) : Same H (upd H2 d o) := fun a u h => by
  rw [upd_ne (ne_of_none h n)]
  exact s a u h
theorem sm_refl {H : Hp} : Same H H := fun _ _ h => h
section
variable {K : PySem.W.Frag} {H1 : Hp} {D : Addr} {ds : List PyData}
end
/-! what a dict of this kind holds, as a bag -/
end K14



set_option Elab.async false
set_option linter.all false
set_option maxRecDepth 100000
set_option maxHeartbeats 2000000
namespace K14
open PySem L2 Nd Bk PySem.Spec PyProof.Rows
/-! dict(tuple of pairs), the tuple known to be without a dict of its own -/
def PlainT (H : Hp) (a : Addr) : Prop := ∃ o xs, H a = some (.frz o (.tup xs)) ∧ o.dict = none
theorem PlainT.same {H H' : Hp} {a : Addr} (s : Same H H') (h : PlainT H a) : PlainT H' a := let ⟨o, xs, h1, h2⟩ := h; ⟨o, xs, s _ _ h1, h2⟩
theorem PlainT.put {H : Hp} {a D : Addr} {u : HO} (n : NotT (H D)) (h : PlainT H a) : PlainT (upd H D u) a := by
  obtain ⟨o, xs, h1, h2⟩ := h
  refine ⟨o, xs, ?_, h2⟩
  rw [upd_ne (fun e => n.2 o xs (by rw [← e]; exact h1))]
  exact h1
section
variable {X : Cx}
theorem call_tupleF : CallR X (.type "tuple") (fun xs H Q => ∃ p ys, xs = [.ref p] ∧ SqL X.K H p ys ∧ ∀ l o, H l = none → o.dict = none → Q (.ref l) (upd H l (.frz o (.tup ys)))) := by
  intro pins s σ H xs us Q I r h
  obtain ⟨p, ys, rfl, hq, q⟩ := h
  obtain ⟨u, rfl, rx⟩ := vals1 r
  cases rx
  obtain ⟨its, r', pl, hz⟩ := I.list hq
  have hlen := r'.length
  refine call_tuple_list pl.isList (fun h' kp => ?_) (by simp only [List.size_toArray] <;> omega)
  have I1 : Inv X pins σ H { s with heap := h' } := I.kept (t' := s.toks) kp
  have I2 : Inv X pins σ (upd H h'.objs.size (.frz { cls := .type "tuple", data := .seq its.toArray } (.tup ys))) { s with heap := h'.push { cls := .type "tuple", data := .seq its.toArray } } :=
    I1.laid (t' := s.toks) (fun b o e => Heap.get?_push_of_some _ e) (Nat.le_refl _) (show ObjOk X.prog X.w _ _ _ (.frz _ (.tup ys)) from ⟨Heap.get?_push_size _ rfl, hz, its, r', IsTup.new _ _⟩)
  exact ⟨.ref h'.objs.size, _, I2, rfl, q _ _ (I1.hok.fresh (Nat.le_refl _)) rfl⟩
theorem merge_snoc {k : Key} {v : V} : ∀ (more kvs : List (Key × V)), (kvs ++ more).map (·.1) |>.Nodup → mergeK kvs more = kvs ++ more
  | [], kvs, _ => by
    rw [List.append_nil]
    rfl
  | p :: r, kvs, h => by
    have hn : valV kvs p.1 = none := by
      cases e : valV kvs p.1 with
      | none => rfl
      | some y =>
        unfold valV at e
        obtain ⟨q, hq, _⟩ := Option.map_eq_some_iff.mp e
        have h1 := List.mem_of_find?_eq_some hq
        have h2' := List.find?_some hq
        have h2 : q.1 = p.1 := of_decide_eq_true h2'
        rw [List.map_append, List.nodup_append] at h
        exact absurd h2 (h.2.2 q.1 (List.mem_map.mpr ⟨q, h1, rfl⟩) p.1 (by simp))
    show mergeK (putK kvs p.1 p.2) r = _
    rw [putK_new _ hn, merge_snoc r (k := k) (v := v) _ (by simpa using h)]
    simp
end
end K14



set_option Elab.async false
set_option linter.all false
set_option maxRecDepth 100000
set_option maxHeartbeats 4000000
namespace K14
open PySem L2 Nd Bk
/-- a def of the program, as it is called -/
structure Df (P : Program) (w : World) (K : PySem.W.Frag) (mg : Str → Option Value) (base : Heap) (k : Nat) (x : Str) (ps : List Str) (sp : Sp) : Prop where
  ok : ∃ (f : Addr) (fd : FuncData), mg x = some (.ref f) ∧ PySem.W.keepIn K (.ref f) = true ∧ Binds K fd ps [] ∧ FnOk P w K mg base CX0 k f fd ps sp
theorem u9 {k : Nat} {A : Around} (hr : Room k A) : A.units + 9 < cLine := by
  have := hr.un
  omega
section
variable {P : Program} {w : World} {K : PySem.W.Frag} {mg : Str → Option Value} {base : Heap}
end
end K14



set_option Elab.async false
set_option linter.all false
set_option maxRecDepth 100000
set_option maxHeartbeats 4000000
namespace K14
open PySem L2 Nd Bk
/-- a pair whose first is a tuple that is known to be without a dict -/
def PlP (K : PySem.W.Frag) (H : Hp) (x : V) (t : Mono × Int) : Prop := ∃ U a, x = .ref U ∧ SqT K H U [.ref a, .int t.2] ∧ PlainT H a ∧ Dp K H (.ref a) (bD t.1)
theorem PlP.same {K : PySem.W.Frag} {H H' : Hp} {x : V} {t : Mono × Int} (s : Same H H') (h : PlP K H x t) : PlP K H' x t := let ⟨U, a, h1, h2, h3, h4⟩ := h; ⟨U, a, h1, sqT_same s h2, h3.same s, dp_same s h4⟩
theorem PlP.put {K : PySem.W.Frag} {H : Hp} {D : Addr} {o : HO} {x : V} {t : Mono × Int} (n : NotT (H D)) (h : PlP K H x t) : PlP K (upd H D o) x t :=
  let ⟨U, a, h1, h2, h3, h4⟩ := h; ⟨U, a, h1, sqT_put n h2, h3.put n, dp_put n (tu_bD (κ := Str) t.1) h4⟩
structure Fz (K : PySem.W.Frag) (H : Hp) (T : Addr) (xs : List V) (p : Poly) : Prop where
  sq : SqT K H T xs
  all : DpAll K H xs (p.map encP)
  pl : Paired (PlP K H) xs p
theorem Fz.same {K : PySem.W.Frag} {H H' : Hp} {T : Addr} {xs : List V} {p : Poly} (s : Same H H') (h : Fz K H T xs p) : Fz K H' T xs p := ⟨sqT_same s h.sq, dpAll_same s h.all, Paired.mapP h.pl fun _ _ q => q.same s⟩
theorem Fz.put {K : PySem.W.Frag} {H : Hp} {D : Addr} {o : HO} {T : Addr} {xs : List V} {p : Poly} (n : NotT (H D)) (h : Fz K H T xs p) : Fz K (upd H D o) T xs p :=
  ⟨sqT_put n h.sq, dpAll_put n (tupOnlyAll_of (tu_encPs p)) h.all, Paired.mapP h.pl fun _ _ q => q.put n⟩
theorem Fz.len {K : PySem.W.Frag} {H : Hp} {T : Addr} {xs : List V} {p : Poly} (h : Fz K H T xs p) : xs.length = p.length := by rw [dpAll_len h.all, List.length_map]
def rTupF (K : PySem.W.Frag) : List V → Hp → VK → Prop := fun xs H Q => ∃ p ys, xs = [.ref p] ∧ SqL K H p ys ∧ ∀ l o, H l = none → o.dict = none → Q (.ref l) (upd H l (.frz o (.tup ys)))
def Szd (p : Poly) : Prop := p.length ≤ 1000 ∧ ∀ t ∈ p, t.1.length ≤ 1000
section
variable {P : Program} {w : World} {K : PySem.W.Frag} {mg : Str → Option Value} {base : Heap}
end
end K14



set_option Elab.async false
set_option linter.all false
set_option maxRecDepth 100000
set_option maxHeartbeats 4000000
namespace K14
open PySem L2 Nd Bk
/-! tuples stay -/
def KeepT (H H' : Hp) : Prop := (∀ a xs, H a = some (.tup xs) → H' a = some (.tup xs)) ∧ ∀ a o xs, H a = some (.frz o (.tup xs)) → H' a = some (.frz o (.tup xs))
theorem KeepT.trans {H H1 H2 : Hp} (x : KeepT H H1) (y : KeepT H1 H2) : KeepT H H2 := ⟨fun a xs h => y.1 a xs (x.1 a xs h), fun a o xs h => y.2 a o xs (x.2 a o xs h)⟩
theorem KeepT.same {H H' : Hp} (s : Same H H') : KeepT H H' := ⟨fun a xs h => s _ _ h, fun a o xs h => s _ _ h⟩
theorem KeepT.but {H H' : Hp} {d : Addr} (n : NotT (H d)) (s : But d H H') : KeepT H H' := ⟨fun a xs h => s _ _ h (fun e => n.1 xs (by rw [← e]; exact h)), fun a o xs h => s _ _ h (fun e => n.2 o xs (by rw [← e]; exact h))⟩
theorem KeepT.upd {H : Hp} {d : Addr} {o : HO} (n : NotT (H d)) : KeepT H (upd H d o) := .but n But.upd
theorem sqT_kt {K : PySem.W.Frag} {H H' : Hp} (k : KeepT H H') {a : Addr} {xs : List V} (h : SqT K H a xs) : SqT K H' a xs := by
  rcases h with (h | ⟨o, h⟩) | h
  · exact .inl (.inl (k.1 _ _ h))
  · exact .inl (.inr ⟨o, k.2 _ _ _ h⟩)
  · exact .inr h
mutual
theorem dp_kt0 {K : PySem.W.Frag} {H H' : Hp} (k : KeepT H H') : ∀ {v : V} {d : PyData}, Dp K H v d → tupOnly d = true → Dp K H' v d
  | _, _, .non => fun _ => .non
  | _, _, .bl b => fun _ => .bl b
  | _, _, .int i => fun _ => .int i
  | _, _, .str x => fun _ => .str x
  | _, _, .lst h a => fun t => by simp [tupOnly] at t
  | _, _, .tup h a => fun t => .tup (sqT_kt k h) (dpAll_kt0 k a (by simpa [tupOnly] using t))
theorem dpAll_kt0 {K : PySem.W.Frag} {H H' : Hp} (k : KeepT H H') : ∀ {v : List V} {d : List PyData}, DpAll K H v d → tupOnlyAll d = true → DpAll K H' v d
  | _, _, .nil => fun _ => .nil
  | _, _, .cons h r => fun t => by
    simp only [tupOnlyAll, Bool.and_eq_true] at t
    exact .cons (dp_kt0 k h t.1) (dpAll_kt0 k r t.2)
end
theorem bD_kt {K : PySem.W.Frag} {H H' : Hp} {κ : Type} [DecidableEq κ] [Ky κ] [Tu κ] (k : KeepT H H') {v : V} {l : Bag κ} (h : Dp K H v (bD l)) : Dp K H' v (bD l) := dp_kt0 k h (tu_bD l)
theorem bA_kt {K : PySem.W.Frag} {H H' : Hp} {κ : Type} [DecidableEq κ] [Ky κ] [Tu κ] (k : KeepT H H') {v : List V} {l : Bag κ} (h : DpAll K H v (l.map encP)) : DpAll K H' v (l.map encP) := dpAll_kt0 k h (tupOnlyAll_of (tu_encPs l))
theorem PlP.kt {K : PySem.W.Frag} {H H' : Hp} {x : V} {t : Mono × Int} (k : KeepT H H') (h : PlP K H x t) : PlP K H' x t := let ⟨U, a, h1, h2, ⟨o, xs, h3, h5⟩, h4⟩ := h; ⟨U, a, h1, sqT_kt k h2, ⟨o, xs, k.2 _ _ _ h3, h5⟩, bD_kt (κ := Str) k h4⟩
theorem Fz.kt {K : PySem.W.Frag} {H H' : Hp} (k : KeepT H H') {T : Addr} {xs : List V} {p : Poly} (h : Fz K H T xs p) : Fz K H' T xs p := ⟨sqT_kt k h.sq, bA_kt k h.all, Paired.mapP h.pl fun _ _ q => q.kt k⟩
/-! sizes -/
section
variable {κ : Type} [DecidableEq κ] [Ky κ]
end
section
variable {P : Program} {w : World} {K : PySem.W.Frag} {mg : Str → Option Value} {base : Heap}
end
end K14



set_option Elab.async false
set_option linter.all false
set_option maxRecDepth 100000
set_option maxHeartbeats 4000000
namespace K14
open PySem L2 Nd Bk
/-! a dict of tokens -/
section
variable {κ : Type} [DecidableEq κ] [Ky κ]
end
section
variable {P : Program} {w : World} {K : PySem.W.Frag} {mg : Str → Option Value} {base : Heap}
theorem u1 {k : Nat} {A : Around} (hr : Room k A) : A.units + 1 < cLine := by
  have := hr.un
  omega
end
end K14



set_option Elab.async false
set_option linter.all false
set_option maxRecDepth 100000
set_option maxHeartbeats 4000000
namespace K14
open PySem L2 Nd Bk
theorem BoxAt.notT {H : Hp} {b c : Addr} {ns : List Int} (x : BoxAt H b c ns) : NotT (H b) := by
  obtain ⟨d0, d1, at_, s, m, _, h⟩ := x.lst
  rw [h]
  exact notT_lst
theorem BoxAt.off {H : Hp} {b c d : Addr} {ns : List Int} (x : BoxAt H b c ns) (n : H d = none) : d ≠ b := by
  obtain ⟨d0, d1, at_, s, m, _, h⟩ := x.lst
  exact Ne.symm (ne_of_none h n)
/-- a thing of ours at d changes -/
theorem BoxAt.mine {H : Hp} {b c d : Addr} {ns : List Int} {o : HO} (x : BoxAt H b c ns) (h1 : b ≠ d) (h2 : c ≠ d) : BoxAt (upd H d o) b c ns := by
  obtain ⟨d0, d1, at_, s, m, h0, h⟩ := x.lst
  exact ⟨⟨d0, d1, at_, s, m, h0, by rw [upd_ne h1]; exact h⟩, by rw [upd_ne h2]; exact x.cells, x.len⟩
section
variable {P : Program} {w : World} {K : PySem.W.Frag} {mg : Str → Option Value} {base : Heap}
end
end K14



set_option Elab.async false
set_option linter.all false
set_option maxRecDepth 100000
set_option maxHeartbeats 2000000
/-! defs that are called where no repr is under way (so that they may ask for one) -/
namespace Gd
open PySem PySem.Spec PyProof.Rows L2
/-- nothing is being shown around the call -/
abbrev Still (A : Around) : Prop := A.guards = some []
structure FnG (P : Program) (w : World) (K : PySem.W.Frag) (mg : Str → Option Value) (base : Heap) (k : Nat) (f : Addr) (fd : FuncData) (ps : List Str) (sp : Sp) : Prop where
  len : ∀ vs H Q, sp vs H Q E0 → vs.length = ps.length
  go : ∀ {A : Around} {outer : List Env} {s : Shared} {H : Hp} {args : Args} {us : List Value} {vs : List V} {Q : VK}, Still A → Room k A →
    Env0 P w K mg base A outer s H → sp vs H Q E0 → Vals vs us → BindsTo s fd args (ps.zip us) → codeAny (model P w) A (.call (.ref f) args) (CR CX0 outer P w H s Q E0) s
section
variable {P : Program} {w : World} {K : PySem.W.Frag} {mg : Str → Option Value} {base : Heap} {k : Nat} {f : Addr} {fd : FuncData} {ps : List Str} {sp : Sp}
theorem FnG.of (F : FnOk P w K mg base CX0 k f fd ps sp) : FnG P w K mg base k f fd ps sp :=
  { len := fun vs H Q h => F.len vs H Q E0 h, go := fun _ room e0 want rel bind => F.run _ _ _ _ _ _ _ _ _ room e0 bind rel want }
/-- a def by its body: the body's reading may count on it that nothing is being shown -/
theorem ok_still {x qual : Str} {st : Stmt} {N : List Str} (D : Fun K x qual st f fd) (S : FnScope N ps (defScope st)) (len : ∀ vs H Q, sp vs H Q E0 → vs.length = ps.length)
    (body : ∀ (cdv : Value) (A : Around) (outer : List Env) (s : Shared) (H : Hp) (vs : List V) (Q : VK), Still A → Room k (A.deeper (envOfC qual (defScope st) s.heap.objs.size f cdv)) → sp vs H Q E0 →
      ∃ t, PSs (cxOf CX0 P w K mg base N qual (defScope st) f cdv A outer s H E0).nox (defBody st) t ∧ t { nx := fun _ J => Q .non J, rt := Q } (start N vs) H) : FnG P w K mg base (k + 1) f fd ps sp := by
  refine { len := len, go := ?_ }
  intro A outer s H args us vs Q still room e0 want rel bind
  obtain ⟨oc, od, kV, doc, pm, an, cdv, ct, osl, rfl, look, code⟩ := D.ex
  have old := fun (b : Addr) (o : Obj) (q : base.get? b = some o) => (e0.bs b o q).1
  have inK := e0.mod.kin.keeps old
  have kinds : ∀ y ∈ ps.zip us, (defScope st).names.lookup y.1 = some .local ∨ ((defScope st).names.lookup y.1 = some .cell ∧
      ((cellsFrom (s.heap.objs.size + 1) (defScope st).names []).lookup y.1).isSome = true) := by
    intro y hy
    rcases S.par y.1 (List.of_mem_zip (a := y.1) (b := y.2) hy).1 with q | q
    · exact .inl q
    · exact .inr ⟨q, PySem.W.cellsFrom_some _ _ _ (.inl q)⟩
  obtain ⟨t, block, reads⟩ := body cdv A outer s H vs Q still (room.deeper _) want
  refine codeAny_call_function room.depth (inK _ _ look) rfl S.co S.gen rfl
    (PySem.W.codeRec_of inK code) (bind _ _ _ _ ?_)
  apply wpAny_newFunctionEnv_cells S.kind kinds
  rintro _ rfl s1 laid
  have start := inv_start (CX := CX0) (E := E0) S room.hd e0 (len _ _ _ want) rel laid
  refine ⟨(e0.mod.nolimit.keeps old).keeps laid.toInCall.keep, codeAny_func ?_⟩
  refine wpAny_mono (block.nox.run [] s1 _ H _ start reads) ?_ fun _ _ q => q
  intro fl s' ends
  cases fl with
  | ret u =>
    obtain ⟨v, _, J, i, r, q⟩ := ends
    exact ⟨v, J, i.os, i.bare, i.base, i.hok, r, q⟩
  | next =>
    obtain ⟨_, J, i, q⟩ := ends
    exact ⟨.non, J, i.os, i.bare, i.base, i.hok, rfl, q⟩
  | brk => exact ends.choose_spec.choose_spec.2.elim
  | cont => exact ends.choose_spec.choose_spec.2.elim
end
section
variable {X : Cx} {k : Nat} {f : Addr} {fd : FuncData} {ps ks : List Str} {sp : Sp} {x : Str} {p pos : Pos} {e : Expr} {es : List Expr} {kws : List Keyword} {t tk : TA}
/-- a call where nothing is being shown -/
theorem run_still {pins : List (Addr × Obj)} {σ : L2.St} {H : Hp} {s : Shared} {Q : VK} {us zs : List Value} {kw : List (Str × Value)} {vs : List V} (F : FnG X.prog X.w X.K X.mg X.base k f fd ps sp)
    (still : Still X.A) (room : Room k X.A) (I : Inv X pins σ H s) (want : sp vs H Q E0) (rel : Vals vs zs) (bind : BindsTo s fd ⟨us, kw⟩ (ps.zip zs)) :
    wpAny (model X.prog X.w) X.A (call (.ref f) us kw) (EP X pins σ Q) X.xe s := by
  apply wpAny_call
  refine codeAny_mono (F.go still room I.env0 want rel bind) ?_
  rintro (_ | fl) s' q
  · exact q.elim
  · cases fl with
    | ret u => exact I.after q
    | next => exact q.elim
    | brk => exact q.elim
    | cont => exact q.elim
theorem pe_still (F : FnG X.prog X.w X.K X.mg X.base k f fd ps sp) (still : Still X.A) (room : Room k X.A) (g : Gl X x) (m : X.mg x = some (.ref f)) (kp : PySem.W.keepIn X.K (.ref f) = true) (b : Binds X.K fd ps []) (a : PA X (e :: es) t)
    (nd : (x == ("__debug__" : Str)) = false := by decide) (st : starEach (e :: es) X.env = (false, eval e X.env) :: starEach es X.env := by rfl) (pl : (backTo pos (starEach es X.env)).any (·.1) = false := by rfl) :
    PE X (.Call (.Name x p) (e :: es) [] pos) (tCall sp [] E0 t) := by
  constructor
  intro pins s σ H Q I h
  have args := a.run pos pins s σ H _ I h
  apply wpAny_Call_Name_kw
  refine ld_glob I g m (PySem.W.callWith_K (h₀ := X.base) I.ok.mod.kin kp (thn args ?_) st pl) nd
  rintro us s1 ⟨vs, J, i, r, q⟩
  have q' : sp vs J Q E0 := by
    have z : sp (vs ++ []) J Q E0 := q
    rw [List.append_nil] at z
    exact z
  have l : (us ++ []).length = ps.length := by
    rw [List.append_nil, ← r.length]
    exact F.len _ _ _ q'
  have bd := b s1 us i.kIn l
  rw [List.append_nil] at bd
  exact ⟨i.kIn, run_still F still room i q' r bd⟩
end
end Gd


set_option Elab.async false
set_option linter.all false
set_option maxRecDepth 100000
set_option maxHeartbeats 2000000
namespace Gd
open PySem PySem.Spec PyProof.Rows L2
theorem still_caller : Still callerA := rfl
section
variable {P : Program} {w : World} {K : PySem.W.Frag} {mg mb : Str → Option Value} {k : Nat} {fa a : Addr} {fd : FuncData} {x : Str} {sp : Sp} {s : Shared} {vs : List Value} {ns : List Int}
/-- the first call of all, from a heap in which the script alone is told -/
theorem first_call (inK : K.In s.heap) (top : s.heap.Ns mainGlobals mg) (bns : s.heap.Ns builtinsNs mb) (boot : ∀ y : Str, y ≠ "__name__" → mb y = bootBuiltins y) (free : s.heap.NoLimit) (gens : s.gens = #[])
    (obj : s.heap.get? a = some { cls := .type "list", data := .seq vs.toArray }) (room : Room k callerA)
    (F : ∀ base : Heap, K.In base → base.Ns mainGlobals mg → FnG P w K mg base k fa fd [x] sp) (bind : ∀ (t : Shared) (u : Value), BindsTo t fd ⟨[u], []⟩ [(x, u)])
    {H : Hp} (only : Only H) (want : sp [.ref a] H (fun v _ => v = .bl true) E0) (hok : HOk P w H s.heap) (alone : ∀ b, H b ≠ none → b = a ∧ K.lookup a = none) :
    codeAny (model P w) callerA (.call (.ref fa) ⟨[.ref a], []⟩) (fun r t => r = .ok (.ret (.bool true)) ∧ OldK s.heap t.heap ∧ t.os = s.os ∧ AllBare t.gens) s := by
  have away : ∀ b : Addr, b ≠ a → H b = none := fun b ne => Classical.byContradiction fun q => ne (alone b q).1
  have dicts : ∀ {b : Addr} {o : Obj} {es : Array DictEntry} {ep : Nat}, s.heap.get? b = some o → o.data = .dict es ep → H b = none := by
    intro b o es ep e d
    refine away b ?_
    rintro rfl
    rw [obj] at e
    cases e
    exact nomatch (show Data.seq vs.toArray _ = Data.dict es ep from d)
  have keepNs : ∀ {b : Addr} {m : Str → Option Value}, s.heap.Ns b m → (hidT s.heap H).Ns b m := by
    rintro b m ⟨o, es, ep, e, d, r⟩
    exact ⟨o, es, ep, hidT_get e (dicts e d), d, r⟩
  have hidK : K.In (hidT s.heap H) := by
    intro b o e
    refine hidT_get (inK b o e) (Classical.byContradiction fun q => ?_)
    obtain ⟨rfl, none_⟩ := alone b q
    rw [none_] at e
    cases e
  obtain ⟨ml, lim, lim'⟩ := free
  have env : Env0 P w K mg (hidT s.heap H) callerA [] s H :=
    { frames := rfl, mod := ⟨hidK, keepNs top, ⟨mb, keepNs bns, boot⟩, ⟨ml, keepNs lim, lim'⟩⟩, bs := fun b o e => of_hidT e, bsz := Nat.le_of_eq (hidT_size _ _), funs := trivial,
      frf := fun b q => absurd (show b ∈ ([] : List Addr) from q) (by simp), hok := hok, bare := .of_eq gens }
  have run := (F _ hidK (keepNs top)).go still_caller room env want (.cons rfl .nil) (bind s (.ref a))
  refine codeAny_mono run ?_
  rintro (_ | fl) t q
  · exact q.elim
  cases fl with
  | next => exact q.elim
  | brk => exact q.elim
  | cont => exact q.elim
  | ret u =>
    obtain ⟨v, J, os, bare, un, hok', rel, yes⟩ := q
    have yes' : v = .bl true := yes
    subst yes'
    obtain rfl : u = Value.bool true := rel
    refine ⟨rfl, OldK.of_keep ?_, os, bare⟩
    intro b o e
    cases c : H b with
    | none => exact un.keep b o e c (fun z => absurd (show b ∈ ([] : List Addr) from z) (by simp)) (by simp)
    | some ho =>
      rcases only b with z | ⟨ob, xs, z⟩
      · rw [c] at z
        cases z
      · have old := (hok b _ z).1
        have new := (hok' b _ (un.frzs b ob _ z)).1
        rw [e] at old
        cases old
        exact new
/-- .. whatever the script's list is: one of the module's own, or one that is told -/
theorem law_still (inK : K.In s.heap) (top : s.heap.Ns mainGlobals mg) (bns : s.heap.Ns builtinsNs mb) (boot : ∀ y : Str, y ≠ "__name__" → mb y = bootBuiltins y) (free : s.heap.NoLimit) (gens : s.gens = #[])
    (obj : s.heap.get? a = some { cls := .type "list", data := .seq vs.toArray }) (nums : IntsAre vs ns) (len : ns.length ≤ sizeLine) (room : Room k callerA)
    (F : ∀ base : Heap, K.In base → base.Ns mainGlobals mg → FnG P w K mg base k fa fd [x] sp) (bind : ∀ (t : Shared) (u : Value), BindsTo t fd ⟨[u], []⟩ [(x, u)])
    (want : ∀ H : Hp, SqL K H a (ns.map V.int) → sp [.ref a] H (fun v _ => v = .bl true) E0) :
    codeAny (model P w) callerA (.call (.ref fa) ⟨[.ref a], []⟩) (fun r t => r = .ok (.ret (.bool true)) ∧ OldK s.heap t.heap ∧ t.os = s.os ∧ AllBare t.gens) s := by
  have rel := vals_ints nums
  have size : vs.toArray.size ≤ sizeLine := by
    rw [List.size_toArray, nums.length]
    exact len
  rcases own : K.lookup a with _ | o
  · -- told by the heap
    let ob : Obj := { cls := .type "list", data := .seq vs.toArray }
    let H : Hp := fun b => if b = a then some (.frz ob (.lst (ns.map V.int))) else none
    have here : H a = some (.frz ob (.lst (ns.map V.int))) := if_pos rfl
    have there : ∀ {b u}, H b = some u → b = a ∧ u = .frz ob (.lst (ns.map V.int)) := by
      intro b u q
      by_cases c : b = a
      · rw [c, here] at q
        exact ⟨c, (Option.some.inj q).symm⟩
      · rw [show H b = none from if_neg c] at q
        cases q
    refine first_call inK top bns boot free gens obj room F bind (H := H) (fun b => ?_) (want H (.inl (.inr ⟨ob, here⟩))) (fun b u q => ?_) fun b q => ?_
    · by_cases c : b = a
      · exact .inr ⟨ob, ns.map V.int, by rw [c]; exact here⟩
      · exact .inl (if_neg c)
    · obtain ⟨rfl, rfl⟩ := there q
      exact ⟨obj, by rw [List.length_map]; exact len, vs, _, rel, obj⟩
    · obtain ⟨u, hu⟩ := Option.ne_none_iff_exists'.mp q
      exact ⟨(there hu).1, own⟩
  · -- one of the module's own
    have e := inK a o own
    rw [obj] at e
    cases e
    refine first_call inK top bns boot free gens obj room F bind (H := fun _ => none) (fun _ => .inl rfl) (want _ (.inr ⟨_, vs.toArray, _, own, rfl, rfl, rfl, size, by simpa using rel⟩)) ?_ fun b q => absurd rfl q
    intro b u q
    exact nomatch (show (none : Option HO) = some u from q)
end
/-- the head's goal, from the promise of the law's def, called where nothing is being shown -/
theorem walk_still {l : PySem.W.OpenLaw} {n k : Nat} {q : Program} {loose : List Str} {XP : (Str → Option Value) → Heap → Prop} {YP : World → Heap → Prop} {d : DefRec} {K : Params → PySem.W.Frag} {x : Str} {sp : PySem.W.Frag → Sp}
    (most : l.most = some n) (small : n ≤ sizeLine) (plain : d.params.defaults = []) (room : Room k callerA) (inK : ∀ (w : World) (h : Heap), YP w h → (K w.params).In h)
    (F : ∀ (w : World) (mg : Str → Option Value) (fa : Addr) (h : Heap), (K w.params).In h → h.Ns mainGlobals mg → mg d.name = some (.ref fa) → ∃ fd : FuncData, (∀ (t : Shared) (u : Value), BindsTo t fd ⟨[u], []⟩ [(x, u)]) ∧
      ∀ base : Heap, (K w.params).In base → base.Ns mainGlobals mg → FnG l.prog w (K w.params) mg base k fa fd [x] (sp (K w.params)))
    (want : ∀ (K : PySem.W.Frag) (H : Hp) (a : Addr) (ns : List Int), ns.length ≤ n → SqL K H a (ns.map V.int) → sp K [.ref a] H (fun v _ => v = .bl true) E0) : PySem.W.WalkO q loose XP YP l.row.toRowW d [] (fun f vs => PySem.call f vs) := by
  apply Att.attach_call most plain
  intro w s₀ s mg mb fa o pm cd doc a vs ns G Y _ _ _ named obj nums len gens
  have own := inK w _ Y
  obtain ⟨fd, bind, fn⟩ := F w mg fa _ own G.T.g named
  exact law_still own G.T.g G.T.b G.T.builtins G.T.nolimit gens obj nums (Nat.le_trans len small) room fn bind fun H sq => want _ H a ns len sq
end Gd


set_option Elab.async false
set_option linter.all false
set_option maxRecDepth 100000
set_option maxHeartbeats 2000000
namespace Gd
open PySem PySem.Spec PyProof.Rows L2
/-! how long a text of data may be -/
mutual
def cost : PyData → Nat
  | .list xs => costs xs + 3
  | .tuple xs => costs xs + 3
  | _ => 110
def costs : List PyData → Nat
  | [] => 0
  | x :: xs => cost x + 2 + costs xs
end
mutual
/-- lists and tuples of short texts and numbers below 10 ^ 105 -/
def shortD : PyData → Bool
  | .list xs => shortDs xs
  | .tuple xs => shortDs xs
  | .int i => decide (0 ≤ i) && decide (i < 10 ^ 105)
  | .str z => decide (z.length ≤ 10) && z.cps.toList.all fun c => decide (c < 16 ^ 8)
  | .none => true
  | .bool _ => true
  | _ => false
def shortDs : List PyData → Bool
  | [] => true
  | x :: xs => shortD x && shortDs xs
end
theorem piled_le : ∀ (ts : List Str), piled ts = (ts.map fun t => t.length + 2).sum
  | [] => by simp [piled]
  | t :: ts => by simp [piled, piled_le ts]
theorem join_le (ts : List Str) : (Str.join ", " ts).length ≤ (ts.map fun t => t.length + 2).sum := by
  by_cases h : ts = []
  · subst h
    exact Nat.le_of_eq (by decide +kernel)
  · have := join_length_add ts h
    rw [piled_le] at this
    omega
mutual
theorem shown_le : ∀ {d : PyData}, shortD d = true → d.shown.length ≤ cost d ∧ d.showable = true ∧ d.hasDict = false
  | .none, h => ⟨by decide +kernel, by simp only [PyData.showable], by simp only [PyData.hasDict]⟩
  | .bool b, h => ⟨by cases b <;> decide +kernel, by simp only [PyData.showable], by simp only [PyData.hasDict]⟩
  | .dict _, h => by simp [shortD] at h
  | .int i, h => by
    simp only [shortD, Bool.and_eq_true, decide_eq_true_eq] at h
    refine ⟨?_, ?_, by simp only [PyData.hasDict]⟩
    · rw [PyData.shown_int]
      have := toString_length_le h.1 (k := 105) (by decide) h.2
      simp only [cost]
      omega
    · simp only [PyData.showable, decide_eq_true_eq]
      have hn : i.natAbs < 2 ^ 1000 := by
        have e : (i.natAbs : Int) = i := Int.natAbs_of_nonneg h.1
        have hb : ((10 : Int) ^ 105) ≤ ((2 ^ 1000 : Nat) : Int) := by decide +kernel
        omega
      by_cases z : i.natAbs = 0
      · rw [z]
        decide
      · exact Nat.lt_of_lt_of_le ((Nat.log2_lt z).mpr hn) (by decide)
  | .str z, h => by
    simp only [shortD, Bool.and_eq_true, decide_eq_true_eq, List.all_eq_true] at h
    refine ⟨?_, by simp only [PyData.showable], by simp only [PyData.hasDict]⟩
    rw [PyData.shown_str]
    have := PySem.StrLaws.reprText_len z h.2
    simp only [cost]
    omega
  | .list xs, h => by
    obtain ⟨h1, h2, h3⟩ := showns_le (by simpa [shortD] using h)
    refine ⟨?_, by simp only [PyData.showable, h2], by simp only [PyData.hasDict, h3]⟩
    rw [PyData.shown_list, Str.length_append, Str.length_append]
    have := join_le (PyData.shownAll xs)
    simp only [cost]
    have e1 : Str.length "[" = 1 := by decide +kernel
    have e2 : Str.length "]" = 1 := by decide +kernel
    omega
  | .tuple xs, h => by
    obtain ⟨h1, h2, h3⟩ := showns_le (by simpa [shortD] using h)
    refine ⟨?_, by simp only [PyData.showable, h2], by simp only [PyData.hasDict, h3]⟩
    rw [PyData.shown_tuple, Str.length_append, Str.length_append]
    have := join_le (PyData.shownAll xs)
    simp only [cost]
    have e1 : Str.length "(" = 1 := by decide +kernel
    have e2 : Str.length (Str.ofString (if (xs.length == 1) = true then ",)" else ")")) ≤ 2 := by
      split <;> decide +kernel
    omega
theorem showns_le : ∀ {ds : List PyData}, shortDs ds = true → ((PyData.shownAll ds).map fun t => t.length + 2).sum ≤ costs ds ∧ PyData.showableAll ds = true ∧ PyData.hasDictAll ds = false
  | [], _ => by simp [PyData.shownAll, PyData.showableAll, PyData.hasDictAll, costs]
  | d :: ds, h => by
    simp only [shortDs, Bool.and_eq_true] at h
    obtain ⟨h1, h2, h3⟩ := shown_le h.1
    obtain ⟨g1, g2, g3⟩ := showns_le h.2
    refine ⟨?_, by simp [PyData.showableAll, h2, g2], by simp [PyData.hasDictAll, h3, g3]⟩
    rw [PyData.shownAll_cons, List.map_cons, List.sum_cons]
    simp only [costs]
    omega
end
section
variable {X : Cx}
/-- repr(x) of a list or tuple of short data -/
def rRepr (K : PySem.W.Frag) : List V → Hp → VK → Prop := fun xs H Q => ∃ (a : Addr) (d : PyData), xs = [.ref a] ∧ Dp K H (.ref a) d ∧ shortD d = true ∧ cost d ≤ 1000000 ∧ d.depth ≤ 20 ∧ Q (.str d.shown) H
theorem cr_repr (still : Still X.A) (hu : X.A.units + 64 < cLine) : CallR X (.builtin "repr") (rRepr X.K) := by
  intro pins s σ H xs us Q I r h
  obtain ⟨a, d, rfl, hd, sh, sz, dep, q⟩ := h
  obtain ⟨u, rfl, rx⟩ := vals1 r
  cases rx
  obtain ⟨as, rd⟩ := Dp.reads I d _ _ hd rfl
  obtain ⟨h1, h2, h3⟩ := shown_le sh
  refine repr_of_reads' rd h2 (PyData.noDict_hsm h3) still (by omega) (fun _ _ e => e) (fun h' t tk hk => ?_) (by rw [sizeLine_eq]; omega)
  exact ⟨.str d.shown, H, I.kept (t' := tk) hk, ⟨t, rfl⟩, q⟩
end
section
variable {X : Cx} {k : Nat} {f : Addr} {fd : FuncData} {ps ks : List Str} {sp : Sp} {x : Str} {p pos : Pos} {kws : List Keyword} {tk : TA} {g : List Value → List Value → List Value} {gV : List V → List V → List V}
/-- f(a = .., b = ..): keywords alone -/
theorem pe_kws (F : FnG X.prog X.w X.K X.mg X.base k f fd ps sp) (still : Still X.A) (room : Room k X.A) (gl : Gl X x) (m : X.mg x = some (.ref f)) (kp : PySem.W.keepIn X.K (.ref f) = true) (b : KBinds X.K fd ps ks g gV) (kw : PK X kws tk)
    (all : (backToKw pos (keywordEach kws X.env)).all (·.1.isSome) = true := by rfl) (nms : (backToKw pos (keywordEach kws X.env)).filterMap (·.1) = ks := by rfl) (nd : (x == ("__debug__" : Str)) = false := by decide)
    (pl : ((backTo pos (starEach [] X.env)).any (·.1) || (backToKw pos (keywordEach kws X.env)).any (·.1.isNone)) = false := by rfl) : PE X (.Call (.Name x p) [] kws pos) (tCallK sp gV E0 tNil tk) := by
  constructor
  intro pins s σ H Q I h
  have kwargs := kw.run pos pins s σ H _ I h
  apply wpAny_Call_Name_kw
  refine ld_glob I gl m (PySem.W.callWith_KW0 (h₀ := X.base) I.ok.mod.kin kp all (thn kwargs ?_) pl) nd
  rintro ws s2 ⟨zs, J, i, r, q⟩
  have rr : Vals (gV [] zs) (g [] ws) := b.rel .nil r
  have l : (g [] ws).length = ps.length := by
    rw [← rr.length]
    exact F.len _ _ _ q
  rw [nms]
  exact ⟨i.kIn, run_still F still room i q rr (b.to s2 [] ws i.kIn l)⟩
end
end Gd


set_option Elab.async false
set_option linter.all false
set_option maxRecDepth 100000
set_option maxHeartbeats 2000000
/-! a, b = a list -/
namespace Gd
open PySem PySem.Spec PyProof.Rows L2
section
variable {prog : Program} {w : World} {A : Around} {E : Value → Shared → Prop}
/-- so many of a list, from the i-th on -/
theorem drawn_list {it l : Addr} {xs : Array Value} (ne : l ≠ it) (n : Nat) : ∀ {i : Nat} {s : Shared} {Q : List Value → Shared → Prop}, s.heap.IsListIter it l i → s.heap.IsList l xs → i + n ≤ xs.size →
    (∀ g, g.IsListIter it l (i + n) → Heap.SameBut it s.heap g → Q ((xs.toList.drop i).take n) { s with heap := g }) → wpAny (model prog w) A (draw (.ref it) n) Q E s := by
  induction n with
  | zero =>
    intro i s Q at_ _ _ q
    have q := q s.heap at_ (Heap.SameBut.refl ..)
    rw [List.take_zero] at q
    exact wpAny_pure q
  | succ n ih =>
    intro i s Q at_ here le q
    have lt : i < xs.size := by omega
    have step : xs.toList.drop i = xs[i] :: xs.toList.drop (i + 1) := by
      simp [List.drop_eq_getElem_cons, lt]
    show wpAny _ _ (pyNext (.ref it) >>= _) Q E s
    apply wpAny_bind
    refine wpAny_pyNext_list_item at_ here (x := xs[i]) (by simp [lt]) ?_
    intro g at1 same1
    apply wpAny_bind
    apply wpAny_holding
    refine ih at1 (here.at fun o e => same1.extBut l o ne e) (by omega) ?_
    intro g2 at2 same2
    have q := q g2 (by rw [← Nat.add_assoc, Nat.add_right_comm]; exact at2) (same1.trans same2)
    rw [step, List.take_succ_cons] at q
    exact wpAny_pure q
theorem unpacked_list {l : Addr} {xs : Array Value} {s : Shared} {targets : List (Bool × (Value → Sem Unit))} {Q : Unit → Shared → Prop} (calm : A.handled = none) (here : s.heap.IsList l xs) (count : targets.length = xs.size) (plain : targets.findIdx? (·.1) = none)
    (k : ∀ g, (∀ b o, s.heap.get? b = some o → g.get? b = some o) → wpAny (model prog w) A (assignInOrder (targets.map (·.2)) xs.toList) Q E { s with heap := g }) : wpAny (model prog w) A (unpack (.ref l) targets) Q E s := by
  have ne : l ≠ s.heap.objs.size := by
    obtain ⟨o, e, _⟩ := here
    exact Nat.ne_of_lt (Heap.lt_size e)
  unfold unpack
  rw [count, plain]
  apply wpAny_bind
  apply wpAny_holding
  unfold unpackItems notIterableAtAll
  refine wpAny_bind (wpAny_bind (wpAny_specialOf here.typeIs slot_list_iter.lookup (wpAny_pure ?_)))
  show wpAny _ _ (holding _ (pyIter (.ref l)) >>= _) _ _ _
  refine wpAny_bind (wpAny_holding (wpAny_pyIter_list here ?_))
  have fresh : (s.heap.push { cls := .type "list_iterator", data := .fields #[.ref l, .int 0 0] }).IsListIter s.heap.objs.size l 0 := ⟨_, Heap.get?_push_size _ rfl, rfl, rfl⟩
  refine wpAny_bind (wpAny_holding (drawn_list ne xs.size fresh (here.push _) (by omega) ?_))
  intro g at_ same
  rw [List.drop_zero, List.take_of_length_le (by simp)]
  rw [if_neg (by simp)]
  have here2 : g.IsList l xs := (here.push _).at fun o e => same.extBut l o ne e
  refine wpAny_bind (wpAny_holding (wpAny_pyNext_list_end calm at_ here2 (by simp) ?_))
  intro g2 ext
  show wpAny _ _ (pure xs.toList) _ _ _
  refine wpAny_pure (k g2 fun b o e => ?_)
  have off : b ≠ s.heap.objs.size := Nat.ne_of_lt (Heap.lt_size e)
  exact ext b o off (same.extBut b o off (Heap.get?_push_of_some _ e))
end
section
variable {X : Cx} {pos : Pos}
def gSeq (K : PySem.W.Frag) (n : Nat) (t : TGs) : TG := fun v σ H Q => ∃ a xs, v = .ref a ∧ (SqL K H a xs ∨ SqT K H a xs) ∧ xs.length = n ∧ t xs σ H Q
/-- (a, b, ..) = a list or a tuple of that length -/
theorem pg_seq {es : List Expr} {k : Nat} {t : TGs} {n : Nat} (calm : X.calm = true) (h : PGs X es t) (count : (assignEach es X.env).length = n := by rfl) (plain : (assignEach es X.env).findIdx? (·.1) = none := by rfl) :
    PG X (.Tuple es k pos) (gSeq X.K n t) := by
  constructor
  rintro pins s σ H v u Q I r ⟨a, xs, rfl, sq, len, q⟩
  rcases sq with sq | sq
  · obtain rfl : u = Value.ref a := r
    obtain ⟨its, rel, here, _⟩ := I.list sq
    rw [assign_Tuple]
    apply wpAny_bind
    apply wpAny_standAt
    refine unpacked_list (I.ok.hd calm) here.isList (by rw [count, ← len, rel.length, List.size_toArray]) plain ?_
    intro g keep
    have I1 : Inv X pins σ H { s with heap := g } := I.kept (t' := s.toks) keep
    exact h.run pins _ σ H xs _ Q I1 (by simpa using rel) q
  · exact (pg_tup (pos := pos) (k := k) calm h count plain).run pins s σ H _ u Q I r ⟨a, xs, rfl, sq, len, q⟩
def iSeq (K : PySem.W.Frag) (tl : TE) : TI := fun σ H R => iList K tl σ H R ∨ iTup K tl σ H R
/-- walked: a list or a tuple -/
theorem pi_seq {tg e : Expr} {tl : TE} (h : PE X e tl) : PI X tg e (iSeq X.K tl) := by
  constructor
  rintro pins s σ H R I (q | q)
  · exact (pi_list h).run pins s σ H R I q
  · exact (pi_tup h).run pins s σ H R I q
end
end Gd


set_option Elab.async false
set_option linter.all false
set_option maxRecDepth 100000
set_option maxHeartbeats 4000000
namespace K14
open PySem L2 Nd Bk
/-! forms of data: some of its tuples as lists, apart from what is going to change -/
mutual
def flat : PyData → PyData
  | .list xs => .tuple (flats xs)
  | .tuple xs => .tuple (flats xs)
  | d => d
def flats : List PyData → List PyData
  | [] => []
  | x :: xs => flat x :: flats xs
end
theorem flats_map : ∀ xs : List PyData, flats xs = xs.map flat
  | [] => by simp [flats]
  | x :: xs => by simp [flats, flats_map xs]
mutual
theorem flat_tup : ∀ {d : PyData}, tupOnly d = true → flat d = d
  | .int _, _ => by simp [flat]
  | .str _, _ => by simp [flat]
  | .tuple ds, h => by
    simp only [flat]
    rw [flats_tup (by simpa [tupOnly] using h)]
  | .none, _ => by simp [flat]
  | .bool _, _ => by simp [flat]
  | .list _, h => by simp [tupOnly] at h
  | .dict _, h => by simp [tupOnly] at h
theorem flats_tup : ∀ {ds : List PyData}, tupOnlyAll ds = true → flats ds = ds
  | [], _ => by simp [flats]
  | d :: ds, h => by
    simp only [tupOnlyAll, Bool.and_eq_true] at h
    simp only [flats]
    rw [flat_tup h.1, flats_tup h.2]
end
mutual
inductive Fp (K : PySem.W.Frag) (H : Hp) (av : List Addr) : V → PyData → Prop
  | non : Fp K H av .non .none
  | bl (b : Bool) : Fp K H av (.bl b) (.bool b)
  | int (i : Int) : Fp K H av (.int i) (.int i)
  | str (x : Str) : Fp K H av (.str x) (.str x)
  | lst {a : Addr} {xs : List V} {ds : List PyData} : H a = some (.lst xs) → a ∉ av → FpAll K H av xs ds → Fp K H av (.ref a) (.list ds)
  | tup {a : Addr} {xs : List V} {ds : List PyData} : SqT K H a xs → FpAll K H av xs ds → Fp K H av (.ref a) (.tuple ds)
inductive FpAll (K : PySem.W.Frag) (H : Hp) (av : List Addr) : List V → List PyData → Prop
  | nil : FpAll K H av [] []
  | cons {v : V} {vs : List V} {d : PyData} {ds : List PyData} : Fp K H av v d → FpAll K H av vs ds → FpAll K H av (v :: vs) (d :: ds)
end
section
variable {K : PySem.W.Frag} {H H' : Hp} {av av' : List Addr}
mutual
theorem Fp.dp : ∀ {v : V} {d : PyData}, Fp K H av v d → Dp K H v d
  | _, _, .non => .non
  | _, _, .bl b => .bl b
  | _, _, .int i => .int i
  | _, _, .str x => .str x
  | _, _, .lst h _ a => .lst (SqL.of h) (FpAll.dp a)
  | _, _, .tup h a => .tup h (FpAll.dp a)
theorem FpAll.dp : ∀ {v : List V} {d : List PyData}, FpAll K H av v d → DpAll K H v d
  | _, _, .nil => .nil
  | _, _, .cons h t => .cons (Fp.dp h) (FpAll.dp t)
end
mutual
theorem Fp.of : ∀ {v : V} {d : PyData}, Dp K H v d → tupOnly d = true → Fp K H av v d
  | _, _, .non => fun _ => .non
  | _, _, .bl b => fun _ => .bl b
  | _, _, .int i => fun _ => .int i
  | _, _, .str x => fun _ => .str x
  | _, _, .lst h a => fun t => by simp [tupOnly] at t
  | _, _, .tup h a => fun t => .tup h (FpAll.of a (by simpa [tupOnly] using t))
theorem FpAll.of : ∀ {v : List V} {d : List PyData}, DpAll K H v d → tupOnlyAll d = true → FpAll K H av v d
  | _, _, .nil => fun _ => .nil
  | _, _, .cons h r => fun t => by
    simp only [tupOnlyAll, Bool.and_eq_true] at t
    exact .cons (Fp.of h t.1) (FpAll.of r t.2)
end
/-- the tuples stay, and the lists that aren't to be avoided; what is to be avoided is told anew -/
theorem fp_move (kt : KeepT H H') (kl : ∀ a xs, H a = some (.lst xs) → a ∉ av → H' a = some (.lst xs) ∧ a ∉ av') : (∀ {v : V} {d : PyData}, Fp K H av v d → Fp K H' av' v d) ∧ ∀ {v : List V} {d : List PyData}, FpAll K H av v d → FpAll K H' av' v d := by
  have key : ∀ n : Nat, (∀ (v : V) (d : PyData), sizeOf d ≤ n → Fp K H av v d → Fp K H' av' v d) ∧ ∀ (v : List V) (d : List PyData), sizeOf d ≤ n → FpAll K H av v d → FpAll K H' av' v d := by
    intro n
    induction n with
    | zero =>
      refine ⟨fun v d hs => ?_, fun v d hs => ?_⟩
      · cases d <;> simp at hs
      · cases d <;> simp at hs
    | succ n ih =>
      refine ⟨fun v d hs h => ?_, fun v d hs h => ?_⟩
      · cases h with
        | non => exact .non
        | bl b => exact .bl b
        | int i => exact .int i
        | str x => exact .str x
        | lst h1 h2 h3 =>
          obtain ⟨g1, g2⟩ := kl _ _ h1 h2
          exact .lst g1 g2 (ih.2 _ _ (by simp at hs; omega) h3)
        | tup h1 h2 => exact .tup (sqT_kt kt h1) (ih.2 _ _ (by simp at hs; omega) h2)
      · cases h with
        | nil => exact .nil
        | cons h1 h2 => exact .cons (ih.1 _ _ (by simp at hs; omega) h1) (ih.2 _ _ (by simp at hs; omega) h2)
  exact ⟨fun {v d} h => (key _).1 v d (Nat.le_refl _) h, fun {v d} h => (key _).2 v d (Nat.le_refl _) h⟩
theorem Fp.same {v : V} {d : PyData} (s : Same H H') (h : Fp K H av v d) : Fp K H' av v d := (fp_move (.same s) fun a xs h1 h2 => ⟨s _ _ h1, h2⟩).1 h
theorem FpAll.same {v : List V} {d : List PyData} (s : Same H H') (h : FpAll K H av v d) : FpAll K H' av v d := (fp_move (.same s) fun a xs h1 h2 => ⟨s _ _ h1, h2⟩).2 h
theorem Fp.but {b : Addr} {v : V} {d : PyData} (m : b ∈ av) (n : NotT (H b)) (s : But b H H') (h : Fp K H av v d) : Fp K H' av v d := (fp_move (.but n s) fun a xs h1 h2 => ⟨s _ _ h1 fun e => h2 (by rw [e]; exact m), h2⟩).1 h
theorem FpAll.but {b : Addr} {v : List V} {d : List PyData} (m : b ∈ av) (n : NotT (H b)) (s : But b H H') (h : FpAll K H av v d) : FpAll K H' av v d := (fp_move (.but n s) fun a xs h1 h2 => ⟨s _ _ h1 fun e => h2 (by rw [e]; exact m), h2⟩).2 h
theorem Fp.less {v : V} {d : PyData} (m : ∀ x ∈ av', x ∈ av) (h : Fp K H av v d) : Fp K H av' v d := (fp_move (.same sm_refl) fun a xs h1 h2 => ⟨h1, fun q => h2 (m a q)⟩).1 h
theorem FpAll.less {v : List V} {d : List PyData} (m : ∀ x ∈ av', x ∈ av) (h : FpAll K H av v d) : FpAll K H av' v d := (fp_move (.same sm_refl) fun a xs h1 h2 => ⟨h1, fun q => h2 (m a q)⟩).2 h
theorem Fp.more {x : Addr} {v : V} {d : PyData} (n : H x = none) (h : Fp K H av v d) : Fp K H (x :: av) v d := (fp_move (.same sm_refl) fun a xs h1 h2 => ⟨h1, fun q => (List.mem_cons.mp q).elim (fun e => by rw [e, n] at h1; cases h1) h2⟩).1 h
theorem FpAll.snoc : ∀ {vs : List V} {ds : List PyData} {v : V} {d : PyData}, FpAll K H av vs ds → Fp K H av v d → FpAll K H av (vs ++ [v]) (ds ++ [d])
  | _, _, _, _, .nil, h => .cons h .nil
  | _, _, _, _, .cons h t, h2 => .cons h (FpAll.snoc t h2)
theorem FpAll.len : ∀ {vs : List V} {ds : List PyData}, FpAll K H av vs ds → vs.length = ds.length
  | _, _, .nil => rfl
  | _, _, .cons _ t => by simp [FpAll.len t]
end
end K14



set_option Elab.async false
set_option linter.all false
set_option maxRecDepth 100000
set_option maxHeartbeats 4000000
namespace K14
open PySem L2 Nd Bk
/-- a number, a truth value, none -/
inductive Sc : PyData → Prop
  | int (i : Int) : Sc (.int i)
  | non : Sc .none
  | bl (b : Bool) : Sc (.bool b)
/-- numbers, texts, tuples of them, so many deep -/
def Okd : Nat → PyData → Prop
  | 0, d => Sc d ∨ ∃ z, d = .str z
  | n + 1, d => Sc d ∨ (∃ z, d = .str z) ∨ ∃ ds, d = .tuple ds ∧ ds.length ≤ 1000 ∧ ∀ e ∈ ds, Okd n e
theorem Okd.tu : ∀ {n : Nat} {d : PyData}, Okd n d → tupOnly d = true
  | 0, _, h => by
    rcases h with h | ⟨z, rfl⟩
    · cases h <;> rfl
    · rfl
  | n + 1, _, h => by
    rcases h with h | ⟨z, rfl⟩ | ⟨ds, rfl, _, h⟩
    · cases h <;> rfl
    · rfl
    · show tupOnlyAll ds = true
      exact tupOnlyAll_of fun e he => (h e he).tu
/-- a form that is a tuple is known to be without a dict -/
def Top (H : Hp) (v : V) (d' : PyData) : Prop := ∀ ds, d' = .tuple ds → ∃ T, v = .ref T ∧ PlainT H T
theorem PlainT.kt {H H' : Hp} {a : Addr} (k : KeepT H H') (h : PlainT H a) : PlainT H' a := let ⟨o, xs, h1, h2⟩ := h; ⟨o, xs, k.2 _ _ _ h1, h2⟩
def spLs (K : PySem.W.Frag) (n : Nat) : Sp := fun vs H Q _ => ∃ (b c : Addr) (ns : List Int) (av : List Addr) (v : V) (d : PyData), vs = [.ref b, v] ∧ BoxAt H b c ns ∧ Dp K H v d ∧ Okd n d ∧ b ∈ av ∧ (∀ x ∈ av, H x ≠ none) ∧
  ∀ (v' : V) (d' : PyData) (H' : Hp), flat d' = d → BoxAt H' b c ns → But b H H' → Fp K H' av v' d' → Top H' v' d' → Q v' H'
def sps (K : PySem.W.Frag) : Nat → Sp
  | 0 => fun _ _ _ _ => False
  | n + 1 => spLs K n
section
variable {P : Program} {w : World} {K : PySem.W.Frag} {mg : Str → Option Value} {base : Heap}
end
end K14



set_option Elab.async false
set_option linter.all false
set_option maxRecDepth 100000
set_option maxHeartbeats 4000000
namespace K14
open PySem L2 Nd Bk Gd
/-- at v: a form of the data -/
def FD (K : PySem.W.Frag) (H : Hp) (v : V) (d : PyData) : Prop := ∃ d', Dp K H v d' ∧ flat d' = d
section
variable {K : PySem.W.Frag} {H H' : Hp} {v : V}
theorem FD.same {d : PyData} (s : Same H H') (h : FD K H v d) : FD K H' v d := let ⟨d', h1, h2⟩ := h; ⟨d', dp_same s h1, h2⟩
theorem FD.of {d : PyData} (h : Dp K H v d) (t : tupOnly d = true) : FD K H v d := ⟨d, h, flat_tup t⟩
theorem Fp.fd {av : List Addr} {d d' : PyData} (h : Fp K H av v d') (e : flat d' = d) : FD K H v d := ⟨d', h.dp, e⟩
theorem fd_int {i : Int} (h : FD K H v (.int i)) : v = .int i := by
  obtain ⟨d', h, e⟩ := h
  cases d' <;> simp [flat] at e
  subst e
  exact dp_int h
theorem fd_str {z : Str} (h : FD K H v (.str z)) : v = .str z := by
  obtain ⟨d', h, e⟩ := h
  cases d' <;> simp [flat] at e
  subst e
  exact dp_str h
theorem fd_seq {ds : List PyData} (h : FD K H v (.tuple ds)) : ∃ a xs, v = .ref a ∧ (SqL K H a xs ∨ SqT K H a xs) ∧ xs.length = ds.length ∧ ∀ (i : Nat) (x : V), xs[i]? = some x → ∃ d, ds[i]? = some d ∧ FD K H x d := by
  obtain ⟨d', h, e⟩ := h
  have key : ∀ {a : Addr} {xs : List V} {es : List PyData}, DpAll K H xs es → flats es = ds → xs.length = ds.length ∧ ∀ (i : Nat) (x : V), xs[i]? = some x → ∃ d, ds[i]? = some d ∧ FD K H x d := by
    intro a xs es ha hes
    rw [flats_map] at hes
    refine ⟨by rw [dpAll_len ha, ← hes, List.length_map], fun i x hx => ?_⟩
    obtain ⟨d, h1, h2⟩ := dpAll_get ha hx
    exact ⟨flat d, by rw [← hes, List.getElem?_map, h1]; rfl, d, h2, rfl⟩
  cases h with
  | non => simp [flat] at e
  | bl => simp [flat] at e
  | int => simp [flat] at e
  | str => simp [flat] at e
  | lst h1 h2 =>
    simp only [flat, PyData.tuple.injEq] at e
    obtain ⟨k1, k2⟩ := key (a := 0) h2 e
    exact ⟨_, _, rfl, .inl h1, k1, k2⟩
  | tup h1 h2 =>
    simp only [flat, PyData.tuple.injEq] at e
    obtain ⟨k1, k2⟩ := key (a := 0) h2 e
    exact ⟨_, _, rfl, .inr h1, k1, k2⟩
/-- a bag's form -/
theorem fd_bag {κ : Type} [DecidableEq κ] [Ky κ] {l : Bag κ} (h : FD K H v (bD l)) : ∃ a xs, v = .ref a ∧ (SqL K H a xs ∨ SqT K H a xs) ∧ xs.length = l.length ∧ ∀ (i : Nat) (x : V), xs[i]? = some x → ∃ p, l[i]? = some p ∧ FD K H x (encP p) := by
  obtain ⟨a, xs, rfl, sq, len, get⟩ := fd_seq h
  refine ⟨a, xs, rfl, sq, by rw [len, List.length_map], fun i x hx => ?_⟩
  obtain ⟨d, h1, h2⟩ := get i x hx
  rw [List.getElem?_map] at h1
  obtain ⟨p, hp, rfl⟩ := Option.map_eq_some_iff.mp h1
  exact ⟨p, hp, h2⟩
theorem fd_pair {κ : Type} [DecidableEq κ] [Ky κ] {p : κ × Int} (h : FD K H v (encP p)) : ∃ T k, v = .ref T ∧ (SqL K H T [k, .int p.2] ∨ SqT K H T [k, .int p.2]) ∧ FD K H k (Ky.enc p.1) := by
  obtain ⟨a, xs, rfl, sq, len, get⟩ := fd_seq h
  match xs, len with
  | [x, y], _ =>
    obtain ⟨d, h1, h2⟩ := get 0 x rfl
    obtain ⟨e, h3, h4⟩ := get 1 y rfl
    simp only [List.getElem?_cons_zero, Option.some.injEq] at h1
    simp only [List.getElem?_cons_succ, List.getElem?_cons_zero, Option.some.injEq] at h3
    subst h1 h3
    cases fd_int h4
    exact ⟨a, x, rfl, sq, h2⟩
end
/-- a walk over a list or a tuple that a name holds -/
theorem seq_go {K : PySem.W.Frag} {σ : L2.St} {i : Nat} {H : Hp} {a : Addr} {xs : List V} {R : It → Hp → Prop} (hv : σ[i]? = some (some (.ref a))) (h : SqL K H a xs ∨ SqT K H a xs)
    (k : ∀ (J : It) (G : Hp → Prop), Walk J xs.length G (YAt xs) → (∀ H', (SqL K H a xs → SqL K H' a xs) → (SqT K H a xs → SqT K H' a xs) → G H') → R J H) : iSeq K (tVar i) σ H R := by
  rcases h with h | h
  · exact .inl ⟨_, hv, a, rfl, ⟨_, h⟩, k _ _ walk_list fun H' f _ => f h⟩
  · exact .inr ⟨_, hv, a, rfl, ⟨_, h⟩, k _ _ walk_tup fun H' _ f => f h⟩
theorem sq_same {K : PySem.W.Frag} {H H' : Hp} {a : Addr} {xs : List V} (s : Same H H') (h : SqL K H a xs ∨ SqT K H a xs) : SqL K H' a xs ∨ SqT K H' a xs := h.imp s.seq (sqT_same s)
def spFroz2 (K : PySem.W.Frag) : Sp := fun vs H Q _ => ∃ (v : V) (p : Poly), vs = [v] ∧ FD K H v (bD p) ∧ Szd p ∧ ∀ (T : Addr) (xs : List V) (H' : Hp), Same H H' → Fz K H' T xs p → Q (.ref T) H'
section
variable {P : Program} {w : World} {K : PySem.W.Frag} {mg : Str → Option Value} {base : Heap}
end
end K14



set_option Elab.async false
set_option linter.all false
set_option maxRecDepth 100000
set_option maxHeartbeats 2000000
/-! own exception classes over one own base that is over Exception, each with an __init__ that keeps its argument in a field -/
namespace PySem
namespace ExE
open PySem.W PySem.Calls PyProof.Rows Builtin Builtin.ObjectAttr
abbrev eTail : List Value := [.type "Exception", .type "BaseException", .type "object"]
/-- the class at C: what the written part says of it; T its own base, f its field, fI its __init__ -/
structure EC (K : Frag) (C : Addr) (T : Addr) (f : Str) (fI : Addr) : Prop where
  cls : ∃ nm q N bs sn sub ab col dd k0 k1 k2 k3 k5, K.lookup C = some (excClassObj nm q C N bs (.ref T :: eTail) true sn sub ab col dd k0 k1 k2 k3 k5 "Exception.__new__")
  sa : findIn K (.ref C) "__setattr__" = some (some (.builtin "object.__setattr__"))
  ga : findIn K (.ref C) "__getattribute__" = some (some (.builtin "BaseException.__getattribute__"))
  gg : findIn K (.ref C) "__getattr__" = some none
  ca : findIn K (.ref C) "__class__" = some (some (.builtin "object.__class__"))
  no : findIn K (.ref C) f = some none
  ini : findIn K (.ref C) "__init__" = some (some (.ref fI))
  tI : typeIn K (.ref fI) = some (.type "function")
  kC : keepIn K (.ref C) = true
  tyC : typeIn K (.ref C) = some (.type "type")
section
variable {K : Frag} {C T fI : Addr} {f : Str}
theorem EC.clsIn (e : EC K C T f fI) : ∃ cd, clsIn K C = some cd ∧ cd.mro = .ref C :: .ref T :: eTail ∧ cd.hasDict = true := by
  obtain ⟨nm, q, N, bs, sn, sub, ab, col, dd, k0, k1, k2, k3, k5, h⟩ := e.cls
  refine ⟨{ name := nm, bases := bs, mro := .ref C :: .ref T :: eTail, ns := N, qualname := q, hasDict := true, slotNames := sn, subclasses := sub, abstract := ab, collection := col, hasDel := false }, ?_, rfl, rfl⟩
  unfold W.clsIn
  rw [h] <;> rfl
theorem EC.isCls (e : EC K C T f fI) : (PySem.W.clsIn K C).isSome = true := by
  obtain ⟨cd, h, _⟩ := e.clsIn
  rw [h]
  rfl
theorem EC.hd (e : EC K C T f fI) : hasDictIn K C = true := by
  obtain ⟨cd, h, _, h2⟩ := e.clsIn
  unfold hasDictIn
  rw [h]
  exact h2
theorem EC.ovr (e : EC K C T f fI) : excOver K C eTail = true := by
  obtain ⟨cd, h, h1, _⟩ := e.clsIn
  unfold excOver
  rw [h, Option.any_some, h1]
  show (C == C && excTail eTail eTail) = true
  rw [beq_self_eq_true]
  rfl
theorem EC.mro (e : EC K C T f fI) (b : Value) : mroIn K C b = some ((Value.ref C :: .ref T :: eTail).contains b) := by
  obtain ⟨cd, h, h1, _⟩ := e.clsIn
  unfold mroIn
  rw [h, Option.bind_some, h1]
  rfl
theorem EC.sub (e : EC K C T f fI) (b : Value) : subIn K (.ref C) b = some ((Value.ref C :: .ref T :: eTail).contains b) := e.mro b
theorem EC.exC (e : EC K C T f fI) : subIn K (.ref C) (.type "BaseException") = some true := by
  rw [e.sub, List.contains_cons, List.contains_cons]
  rfl
theorem EC.has (e : EC K C T f fI) {X : String} (h : eTail.contains (.type X) = true) : subIn K (.ref C) (.type X) = some true := by
  rw [e.sub, List.contains_cons, List.contains_cons, h, Bool.or_true, Bool.or_true]
theorem EC.lacks (e : EC K C T f fI) {X : String} (h : eTail.contains (.type X) = false) : subIn K (.ref C) (.type X) = some false := by
  rw [e.sub, List.contains_cons, List.contains_cons, h]
  rfl
theorem EC.self (e : EC K C T f fI) : subIn K (.ref C) (.ref C) = some true := by
  rw [e.sub, List.contains_cons, beq_self_eq_true, Bool.true_or]
theorem EC.base (e : EC K C T f fI) : subIn K (.ref C) (.ref T) = some true := by
  rw [e.sub, List.contains_cons, List.contains_cons, beq_self_eq_true, Bool.true_or, Bool.or_true]
theorem EC.other (e : EC K C T f fI) {D : Addr} (h1 : D ≠ C) (h2 : D ≠ T) : subIn K (.ref C) (.ref D) = some false := by
  have q1 : (Value.ref D == Value.ref C) = false := by simp [h1]
  have q2 : (Value.ref D == Value.ref T) = false := by simp [h2]
  rw [e.sub, List.contains_cons, List.contains_cons, q1, q2]
  rfl
theorem EC.taker (e : EC K C T f fI) : takerIn K C f = some none := by
  unfold takerIn
  rw [e.no] <;> rfl
end
/-- the first store into an exception -/
theorem store1 {prog : Program} {w : World} {A : Around} {R : Result → Shared → Prop} {hp : Heap} {g : Array GenState} {d : Drawn} {t : Nat} {os : OsState} {K : Frag} {C T fI x t0 : Addr} {f : Str} {tk : Tok} {v : Value}
    (X : K.In hp) (e : EC K C T f fI) (hx : hp.get? x = some (HandSPX.excO C t0))
    (hq : ∀ h' tk' dx, (∀ b o, b ≠ x → hp.get? b = some o → h'.get? b = some o) → hp.objs.size ≤ dx → dx ≠ x →
      h'.get? x = some { cls := .ref C, dict := some dx, data := .fields #[.ref t0, .none, .none, .none, .bool false, .none] } →
      h'.Ns1 dx (fun y => if y = f then some v else none) → R (.ok (.ret .none)) ⟨h', g, d, tk', os⟩) :
    codeAny (model prog w) A (.call (.builtin "object.__setattr__") ⟨[.ref x, .str f tk, v], []⟩) R ⟨hp, g, d, t, os⟩ := by
  have ne : x ≠ hp.objs.size := Nat.ne_of_lt (Heap.lt_size hx)
  obtain ⟨cd, hcd, hmro, hdict⟩ := e.clsIn
  have look : Looks (model prog w) hp (classData C) cd := looks_clsIn X hcd
  refine osa_openX (s := ⟨hp, g, d, t, os⟩) (od := none) F.store_Exception X ⟨hx, rfl, rfl, trivial⟩ e.ovr e.taker fun b => ?_
  obtain ⟨nm, bs, mro, ns, qn, hd, sn, sb, ab, col, del⟩ := cd
  dsimp only at hdict
  subst hdict
  show wpAny _ _ (storeInOwnDict (.ref x) (.ref C) (.str f tk) f v b) _ _ _
  unfold storeInOwnDict
  unfold ownDictForStores
  repeat (first | with_reducible refine HandSPX.store_in_new ?_ ?_ | with_reducible refine wpAny_loadPart_at hx ?_ | with_reducible refine look.at ?_ | wp_step)
  · exact ⟨_, #[], _, (Heap.get?_update_ne _ _ _ _ ne.symm).trans (Heap.get?_push_at rfl rfl), rfl, fun u hu => absurd hu (by simp), fun _ => rfl⟩
  · intro h' tk' hn hs
    have hx1 : (hp.push { cls := .type "dict", data := .dict #[] }).get? x = some (HandSPX.excO C t0) := Heap.get?_push_of_some _ hx
    refine hq h' tk' hp.objs.size (fun b o hb ho => ?_) (Nat.le_refl _) ne.symm ?_ hn
    · refine (hs.2 b (Nat.ne_of_lt (Heap.lt_size ho))).trans ?_
      exact (Heap.get?_update_ne _ _ _ _ hb).trans (Heap.get?_push_of_some _ ho)
    · refine (hs.2 x ne).trans ?_
      exact Heap.get?_update_self _ hx1 rfl

/-- what the call of such a class leaves: the exception at e, its dict at d -/
structure Made (f : Str) (h h' : Heap) (e C d : Addr) (v : Value) : Prop where
  keep : ∀ b o, h.get? b = some o → h'.get? b = some o
  new : h.objs.size ≤ e
  obj : ∃ t1 : Addr, h'.get? e = some { cls := .ref C, dict := some d, data := .fields #[.ref t1, .none, .none, .none, .bool false, .none] }
  dbig : h.objs.size ≤ d
  dne : d ≠ e
  ns : h'.Ns1 d (fun y => if y = f then some v else none)
/-- the class, called with one argument: asked of each class -/
def Makes (K : Frag) (C : Addr) (f : Str) : Prop := ∀ {prog : Program} {w : World} {A : Around} {R : Result → Shared → Prop} {s : Shared} {v : Value}, K.In s.heap → s.heap.NoLimit → A.depth + 1 < recursionLimit →
  (∀ h' tk e d, Made f s.heap h' e C d v → R (.ok (.ret (.ref e))) { s with heap := h', toks := tk }) → codeAny (model prog w) A (.call (.ref C) ⟨[v], []⟩) R s
theorem lineOne (v : Value) : [v].length ≤ sizeLine := by
  rw [sizeLine_eq]
  exact (by decide : 1 ≤ 16777216)
theorem ldName {M : Model} {s : Shared} {A : Around} {E : Value → Shared → Prop} {name : Str} {scope : Scope} {L a : Addr} {cd : Value} {m : Str → Option Value} {x : Str} {pos : Pos} {v : Value} {Q : Value → Shared → Prop}
    (hn : s.heap.Ns L m) (hv : m x = some v) (h : Q v s) (hk : scope.kind = .function := by rfl) (hl : (envOfC name scope L a cd).kindOf x = some .local := by rfl) (hd : (x == ("__debug__" : Str)) = false := by decide) :
    wpAny M A (eval (.Name x pos) (envOfC name scope L a cd)) Q E s := wpAny_Name (wpAny_loadName_local hk hl hn hv h) hd

namespace Iat
def ia (p1 p2 : Pos) : Arguments := { posonlyargs := [], args := [{ arg := "self", annotation := none, pos := p1 }, { arg := "at", annotation := none, pos := p2 }], vararg := none, kwonlyargs := [], kw_defaults := [], kwarg := none, defaults := [] }
def ib (q1 q2 q3 q4 : Pos) : List Stmt := [.Assign [.Attribute (.Name "self" q1) "at" q2] (.Name "at" q3) q4]
def isc : Scope := { kind := .function, names := [(PySem.Str.ofString "self", .local), (PySem.Str.ofString "at", .local)], isGenerator := false, isCoroutine := false, more := [] }
/-- the function __init__ at fI -/
def FnI (K : Frag) (fI : Addr) (qn : Str) : Prop := ∃ (oc : Value) (od : Option Addr) (doc pm : Value) (an : Option Addr) (cdv ct : Value) (osl : Array (Option Value)) (p1 p2 q1 q2 q3 q4 : Pos),
    K.lookup fI = some ⟨oc, od, .func (fnOf "__init__" qn (ia p1 p2) (ib q1 q2 q3 q4) isc .none .none doc pm an cdv ct), osl⟩ ∧ codeIn K cdv qn = true
section
variable {K : Frag} {C T fI : Addr} {qn : Str}
theorem init {prog : Program} {w : World} {A : Around} {R : Result → Shared → Prop} {s : Shared} (e : EC K C T "at" fI) (fn : FnI K fI qn) {x t0 : Addr} {v : Value} (X : K.In s.heap) (hlim : s.heap.NoLimit) (hx : s.heap.get? x = some (HandSPX.excO C t0)) (hroom : A.depth < recursionLimit)
    (hq : ∀ h' tk dx, (∀ b o, b ≠ x → s.heap.get? b = some o → h'.get? b = some o) → s.heap.objs.size ≤ dx → dx ≠ x →
      h'.get? x = some { cls := .ref C, dict := some dx, data := .fields #[.ref t0, .none, .none, .none, .bool false, .none] } →
      h'.Ns1 dx (fun y => if y = "at" then some v else none) → R (.ok (.ret .none)) { s with heap := h', toks := tk }) :
    codeAny (model prog w) A (.call (.ref fI) ⟨[.ref x, v], []⟩) R s := by
  obtain ⟨oc, od, doc, pm, an, cdv, ct, osl, p1, p2, q1, q2, q3, q4, ho, hcd⟩ := fn
  refine Att.call_fn (binds := [("self", .ref x), ("at", v)]) X hlim ho hcd hroom (BindsTo.of_eq (by first | rfl | with_unfolding_all rfl)) (by first | rfl | decide | with_unfolding_all rfl) (fun s₁ IC => ?_) rfl rfl rfl
  obtain ⟨h₁, tk₁, rfl⟩ := IC.toInCall.same
  have kp : ∀ b o, s.heap.get? b = some o → h₁.get? b = some o := IC.toInCall.keep
  have hn := IC.toInCall.ns
  have X₁ : K.In h₁ := X.keeps kp
  have hx₁ := kp _ _ hx
  show wpAny _ _ (execs _ _) _ _ _
  refine wpAny_execs_cons (plainObj_wpAny_Assign_Attribute ?_)
  refine ldName (v := v) hn (by first | rfl | with_unfolding_all rfl | kernel_rfl) (ldName (v := .ref x) hn (by first | rfl | with_unfolding_all rfl | kernel_rfl) ?_)
  refine set_plain X₁ (ox := HandSPX.excO C t0) (od := none) ⟨hx₁, rfl, rfl, trivial⟩ e.sa ?_
  refine store1 X₁ e hx₁ fun h₃ tk₃ dx k₃ dn dne hx₃ hn₃ => ?_
  show wpAny _ _ (execs _ _) _ _ _
  have big : s.heap.objs.size ≤ dx := Nat.le_of_lt (Nat.lt_of_lt_of_le hn.lt dn)
  exact wpAny_execs_nil (hq h₃ tk₃ dx (fun b o hb ho => k₃ b o hb (kp b o ho)) big dne hx₃ hn₃)
theorem makes (e : EC K C T "at" fI) (fn : FnI K fI qn) : Makes K C "at" := fun {prog w A R s v} X hlim hroom hq => by
  obtain ⟨nm, q, N, bs, sn, sub, ab, col, dd, k0, k1, k2, k3, k5, hC⟩ := e.cls
  obtain ⟨hp, g, dr, tk, os⟩ := s
  have kp : ∀ b o, hp.get? b = some o → ((hp.push (kdv_tup [v])).push (HandSPX.excO C hp.objs.size)).get? b = some o := fun b o z => Heap.get?_push_of_some _ (Heap.get?_push_of_some _ z)
  have hget : ((hp.push (kdv_tup [v])).push (HandSPX.excO C hp.objs.size)).get? (hp.objs.size + 1) = some (HandSPX.excO C hp.objs.size) := by heap_get
  have tails : ∀ Y : String, (Value.ref T :: eTail).contains (.type Y) = eTail.contains (.type Y) := fun Y => by rw [List.contains_cons]; rfl
  refine HandSPX.call_own F.excBase_Exception tails (X _ _ hC) (looks_findIn X e.ini) (fun self => bind_fn X self e.tI) (lineOne v) ?_
  refine init (s := ⟨(hp.push (kdv_tup [v])).push (HandSPX.excO C hp.objs.size), g, dr, tk, os⟩) e fn (X.keeps kp) (hlim.keeps kp) hget ?_ fun h' tk' dx k' dn dne hx' hns => ?_
  · show A.depth + 1 < recursionLimit
    exact hroom
  · have old : ∀ b o, hp.get? b = some o → h'.get? b = some o := fun b o z => k' b o (Nat.ne_of_lt (Nat.lt_succ_of_lt (Heap.lt_size z))) (kp b o z)
    have z : hp.objs.size + 1 + 1 ≤ dx := by
      have q := dn
      simp only [Heap.size_push] at q
      exact q
    exact ⟨rfl, hq h' tk' (hp.objs.size + 1) dx ⟨old, Nat.le_succ _, ⟨_, hx'⟩, Nat.le_trans (Nat.le_trans (Nat.le_succ _) (Nat.le_succ _)) z, dne, hns⟩⟩
end
end Iat

namespace Iname
def ia (p1 p2 : Pos) : Arguments := { posonlyargs := [], args := [{ arg := "self", annotation := none, pos := p1 }, { arg := "name", annotation := none, pos := p2 }], vararg := none, kwonlyargs := [], kw_defaults := [], kwarg := none, defaults := [] }
def ib (q1 q2 q3 q4 : Pos) : List Stmt := [.Assign [.Attribute (.Name "self" q1) "name" q2] (.Name "name" q3) q4]
def isc : Scope := { kind := .function, names := [(PySem.Str.ofString "self", .local), (PySem.Str.ofString "name", .local)], isGenerator := false, isCoroutine := false, more := [] }
/-- the function __init__ at fI -/
def FnI (K : Frag) (fI : Addr) (qn : Str) : Prop := ∃ (oc : Value) (od : Option Addr) (doc pm : Value) (an : Option Addr) (cdv ct : Value) (osl : Array (Option Value)) (p1 p2 q1 q2 q3 q4 : Pos),
    K.lookup fI = some ⟨oc, od, .func (fnOf "__init__" qn (ia p1 p2) (ib q1 q2 q3 q4) isc .none .none doc pm an cdv ct), osl⟩ ∧ codeIn K cdv qn = true
section
variable {K : Frag} {C T fI : Addr} {qn : Str}
theorem init {prog : Program} {w : World} {A : Around} {R : Result → Shared → Prop} {s : Shared} (e : EC K C T "name" fI) (fn : FnI K fI qn) {x t0 : Addr} {v : Value} (X : K.In s.heap) (hlim : s.heap.NoLimit) (hx : s.heap.get? x = some (HandSPX.excO C t0)) (hroom : A.depth < recursionLimit)
    (hq : ∀ h' tk dx, (∀ b o, b ≠ x → s.heap.get? b = some o → h'.get? b = some o) → s.heap.objs.size ≤ dx → dx ≠ x →
      h'.get? x = some { cls := .ref C, dict := some dx, data := .fields #[.ref t0, .none, .none, .none, .bool false, .none] } →
      h'.Ns1 dx (fun y => if y = "name" then some v else none) → R (.ok (.ret .none)) { s with heap := h', toks := tk }) :
    codeAny (model prog w) A (.call (.ref fI) ⟨[.ref x, v], []⟩) R s := by
  obtain ⟨oc, od, doc, pm, an, cdv, ct, osl, p1, p2, q1, q2, q3, q4, ho, hcd⟩ := fn
  refine Att.call_fn (binds := [("self", .ref x), ("name", v)]) X hlim ho hcd hroom (BindsTo.of_eq (by first | rfl | with_unfolding_all rfl)) (by first | rfl | decide | with_unfolding_all rfl) (fun s₁ IC => ?_) rfl rfl rfl
  obtain ⟨h₁, tk₁, rfl⟩ := IC.toInCall.same
  have kp : ∀ b o, s.heap.get? b = some o → h₁.get? b = some o := IC.toInCall.keep
  have hn := IC.toInCall.ns
  have X₁ : K.In h₁ := X.keeps kp
  have hx₁ := kp _ _ hx
  show wpAny _ _ (execs _ _) _ _ _
  refine wpAny_execs_cons (plainObj_wpAny_Assign_Attribute ?_)
  refine ldName (v := v) hn (by first | rfl | with_unfolding_all rfl | kernel_rfl) (ldName (v := .ref x) hn (by first | rfl | with_unfolding_all rfl | kernel_rfl) ?_)
  refine set_plain X₁ (ox := HandSPX.excO C t0) (od := none) ⟨hx₁, rfl, rfl, trivial⟩ e.sa ?_
  refine store1 X₁ e hx₁ fun h₃ tk₃ dx k₃ dn dne hx₃ hn₃ => ?_
  show wpAny _ _ (execs _ _) _ _ _
  have big : s.heap.objs.size ≤ dx := Nat.le_of_lt (Nat.lt_of_lt_of_le hn.lt dn)
  exact wpAny_execs_nil (hq h₃ tk₃ dx (fun b o hb ho => k₃ b o hb (kp b o ho)) big dne hx₃ hn₃)
theorem makes (e : EC K C T "name" fI) (fn : FnI K fI qn) : Makes K C "name" := fun {prog w A R s v} X hlim hroom hq => by
  obtain ⟨nm, q, N, bs, sn, sub, ab, col, dd, k0, k1, k2, k3, k5, hC⟩ := e.cls
  obtain ⟨hp, g, dr, tk, os⟩ := s
  have kp : ∀ b o, hp.get? b = some o → ((hp.push (kdv_tup [v])).push (HandSPX.excO C hp.objs.size)).get? b = some o := fun b o z => Heap.get?_push_of_some _ (Heap.get?_push_of_some _ z)
  have hget : ((hp.push (kdv_tup [v])).push (HandSPX.excO C hp.objs.size)).get? (hp.objs.size + 1) = some (HandSPX.excO C hp.objs.size) := by heap_get
  have tails : ∀ Y : String, (Value.ref T :: eTail).contains (.type Y) = eTail.contains (.type Y) := fun Y => by rw [List.contains_cons]; rfl
  refine HandSPX.call_own F.excBase_Exception tails (X _ _ hC) (looks_findIn X e.ini) (fun self => bind_fn X self e.tI) (lineOne v) ?_
  refine init (s := ⟨(hp.push (kdv_tup [v])).push (HandSPX.excO C hp.objs.size), g, dr, tk, os⟩) e fn (X.keeps kp) (hlim.keeps kp) hget ?_ fun h' tk' dx k' dn dne hx' hns => ?_
  · show A.depth + 1 < recursionLimit
    exact hroom
  · have old : ∀ b o, hp.get? b = some o → h'.get? b = some o := fun b o z => k' b o (Nat.ne_of_lt (Nat.lt_succ_of_lt (Heap.lt_size z))) (kp b o z)
    have z : hp.objs.size + 1 + 1 ≤ dx := by
      have q := dn
      simp only [Heap.size_push] at q
      exact q
    exact ⟨rfl, hq h' tk' (hp.objs.size + 1) dx ⟨old, Nat.le_succ _, ⟨_, hx'⟩, Nat.le_trans (Nat.le_trans (Nat.le_succ _) (Nat.le_succ _)) z, dne, hns⟩⟩
end
end Iname

namespace Iword
def ia (p1 p2 : Pos) : Arguments := { posonlyargs := [], args := [{ arg := "self", annotation := none, pos := p1 }, { arg := "word", annotation := none, pos := p2 }], vararg := none, kwonlyargs := [], kw_defaults := [], kwarg := none, defaults := [] }
def ib (q1 q2 q3 q4 : Pos) : List Stmt := [.Assign [.Attribute (.Name "self" q1) "word" q2] (.Name "word" q3) q4]
def isc : Scope := { kind := .function, names := [(PySem.Str.ofString "self", .local), (PySem.Str.ofString "word", .local)], isGenerator := false, isCoroutine := false, more := [] }
/-- the function __init__ at fI -/
def FnI (K : Frag) (fI : Addr) (qn : Str) : Prop := ∃ (oc : Value) (od : Option Addr) (doc pm : Value) (an : Option Addr) (cdv ct : Value) (osl : Array (Option Value)) (p1 p2 q1 q2 q3 q4 : Pos),
    K.lookup fI = some ⟨oc, od, .func (fnOf "__init__" qn (ia p1 p2) (ib q1 q2 q3 q4) isc .none .none doc pm an cdv ct), osl⟩ ∧ codeIn K cdv qn = true
section
variable {K : Frag} {C T fI : Addr} {qn : Str}
theorem init {prog : Program} {w : World} {A : Around} {R : Result → Shared → Prop} {s : Shared} (e : EC K C T "word" fI) (fn : FnI K fI qn) {x t0 : Addr} {v : Value} (X : K.In s.heap) (hlim : s.heap.NoLimit) (hx : s.heap.get? x = some (HandSPX.excO C t0)) (hroom : A.depth < recursionLimit)
    (hq : ∀ h' tk dx, (∀ b o, b ≠ x → s.heap.get? b = some o → h'.get? b = some o) → s.heap.objs.size ≤ dx → dx ≠ x →
      h'.get? x = some { cls := .ref C, dict := some dx, data := .fields #[.ref t0, .none, .none, .none, .bool false, .none] } →
      h'.Ns1 dx (fun y => if y = "word" then some v else none) → R (.ok (.ret .none)) { s with heap := h', toks := tk }) :
    codeAny (model prog w) A (.call (.ref fI) ⟨[.ref x, v], []⟩) R s := by
  obtain ⟨oc, od, doc, pm, an, cdv, ct, osl, p1, p2, q1, q2, q3, q4, ho, hcd⟩ := fn
  refine Att.call_fn (binds := [("self", .ref x), ("word", v)]) X hlim ho hcd hroom (BindsTo.of_eq (by first | rfl | with_unfolding_all rfl)) (by first | rfl | decide | with_unfolding_all rfl) (fun s₁ IC => ?_) rfl rfl rfl
  obtain ⟨h₁, tk₁, rfl⟩ := IC.toInCall.same
  have kp : ∀ b o, s.heap.get? b = some o → h₁.get? b = some o := IC.toInCall.keep
  have hn := IC.toInCall.ns
  have X₁ : K.In h₁ := X.keeps kp
  have hx₁ := kp _ _ hx
  show wpAny _ _ (execs _ _) _ _ _
  refine wpAny_execs_cons (plainObj_wpAny_Assign_Attribute ?_)
  refine ldName (v := v) hn (by first | rfl | with_unfolding_all rfl | kernel_rfl) (ldName (v := .ref x) hn (by first | rfl | with_unfolding_all rfl | kernel_rfl) ?_)
  refine set_plain X₁ (ox := HandSPX.excO C t0) (od := none) ⟨hx₁, rfl, rfl, trivial⟩ e.sa ?_
  refine store1 X₁ e hx₁ fun h₃ tk₃ dx k₃ dn dne hx₃ hn₃ => ?_
  show wpAny _ _ (execs _ _) _ _ _
  have big : s.heap.objs.size ≤ dx := Nat.le_of_lt (Nat.lt_of_lt_of_le hn.lt dn)
  exact wpAny_execs_nil (hq h₃ tk₃ dx (fun b o hb ho => k₃ b o hb (kp b o ho)) big dne hx₃ hn₃)
theorem makes (e : EC K C T "word" fI) (fn : FnI K fI qn) : Makes K C "word" := fun {prog w A R s v} X hlim hroom hq => by
  obtain ⟨nm, q, N, bs, sn, sub, ab, col, dd, k0, k1, k2, k3, k5, hC⟩ := e.cls
  obtain ⟨hp, g, dr, tk, os⟩ := s
  have kp : ∀ b o, hp.get? b = some o → ((hp.push (kdv_tup [v])).push (HandSPX.excO C hp.objs.size)).get? b = some o := fun b o z => Heap.get?_push_of_some _ (Heap.get?_push_of_some _ z)
  have hget : ((hp.push (kdv_tup [v])).push (HandSPX.excO C hp.objs.size)).get? (hp.objs.size + 1) = some (HandSPX.excO C hp.objs.size) := by heap_get
  have tails : ∀ Y : String, (Value.ref T :: eTail).contains (.type Y) = eTail.contains (.type Y) := fun Y => by rw [List.contains_cons]; rfl
  refine HandSPX.call_own F.excBase_Exception tails (X _ _ hC) (looks_findIn X e.ini) (fun self => bind_fn X self e.tI) (lineOne v) ?_
  refine init (s := ⟨(hp.push (kdv_tup [v])).push (HandSPX.excO C hp.objs.size), g, dr, tk, os⟩) e fn (X.keeps kp) (hlim.keeps kp) hget ?_ fun h' tk' dx k' dn dne hx' hns => ?_
  · show A.depth + 1 < recursionLimit
    exact hroom
  · have old : ∀ b o, hp.get? b = some o → h'.get? b = some o := fun b o z => k' b o (Nat.ne_of_lt (Nat.lt_succ_of_lt (Heap.lt_size z))) (kp b o z)
    have z : hp.objs.size + 1 + 1 ≤ dx := by
      have q := dn
      simp only [Heap.size_push] at q
      exact q
    exact ⟨rfl, hq h' tk' (hp.objs.size + 1) dx ⟨old, Nat.le_succ _, ⟨_, hx'⟩, Nat.le_trans (Nat.le_trans (Nat.le_succ _) (Nat.le_succ _)) z, dne, hns⟩⟩
end
end Iword
end ExE
end PySem


set_option Elab.async false
set_option linter.all false
set_option maxRecDepth 100000
set_option maxHeartbeats 2000000
namespace L2
open PySem PySem.Spec PyProof.Rows PySem.ExE
/-- an exception of the class at C, at e, its dict at d, its field f holding v -/
def EAt (H : Hp) (C : Addr) (f : Str) (e : Addr) (v : V) : Prop := ∃ d : Addr, H e = some (exo e C (some d)) ∧ H d = some (.xd [(f, v)])
theorem EAt.keep {H H' : Hp} {C e : Addr} {f : Str} {v : V} (h : EAt H C f e v) (k : ∀ b o, H b = some o → (∀ xs, o ≠ .lst xs) → H' b = some o) : EAt H' C f e v := by
  obtain ⟨d, h1, h2⟩ := h
  exact ⟨d, k _ _ h1 (fun xs z => by have z' : HO.ext _ = HO.lst xs := z; cases z'), k _ _ h2 (fun xs z => nomatch z)⟩
section
variable {X : Cx} {C : Addr} {f : Str}
/-- C(e) in a raise -/
def tMkX (C : Addr) (f : Str) (ta : TA) : St → Hp → XK → Prop := fun σ H Q => ta σ H fun vs H1 => ∃ v, vs = [v] ∧ ∀ d, H1 d = none → Q (.ref C) (some d) (upd H1 d (.xd [(f, v)]))
/-- C(e) as a value -/
def tMkV (C : Addr) (f : Str) (ta : TA) : TE := fun σ H Q => ta σ H fun vs H1 => ∃ v, vs = [v] ∧ ∀ d e, H1 d = none → H1 e = none → e ≠ d → Q (.ref e) (upd (upd H1 d (.xd [(f, v)])) e (exo e C (some d)))
/-- the state behind the making: what lies without the exception, what lies with it -/
theorem made_inv {pins : List (Addr × Obj)} {σ : St} {H1 : Hp} {hp h' : Heap} {g : Array GenState} {dr : Drawn} {tk tk' : Nat} {os : OsState} {e d : Addr} {v : V} {v' : Value}
    (I1 : Inv X pins σ H1 ⟨hp, g, dr, tk, os⟩) (rv : RelV v v') (M : Made f hp h' e C d v') :
    ∃ (G : Heap) (t1 : Addr), Inv X pins σ (upd H1 d (.xd [(f, v)])) ⟨G, g, dr, tk', os⟩ ∧ (∀ b o, G.get? b = some o → h'.get? b = some o) ∧ G.get? e = none ∧
      h'.get? e = some { cls := .ref C, dict := some d, data := .fields #[.ref t1, .none, .none, .none, .bool false, .none] } ∧ H1 d = none ∧ H1 e = none := by
  obtain ⟨t1, hoe⟩ := M.obj
  obtain ⟨G, keepG, goneG⟩ := restrict h' fun b => decide (b ≠ e)
  have gk : ∀ b, b ≠ e → G.get? b = h'.get? b := fun b hb => keepG b (decide_eq_true hb)
  have ge : G.get? e = none := goneG e (by simp)
  have old : ∀ b o, hp.get? b = some o → G.get? b = some o := fun b o q => by
    rw [gk b (Nat.ne_of_lt (Nat.lt_of_lt_of_le (Heap.lt_size q) M.new))]
    exact M.keep b o q
  have nsG : G.Ns1 d (fun y => if y = f then some v' else none) := M.ns.at fun o q => (gk d M.dne).trans q
  have ob : ObjOk X.prog X.w (upd H1 d (.xd [(f, v)])) G d (.xd [(f, v)]) := ⟨_, nsG, fun y => relO_put (fs := []) (mA := fun _ => none) rv (fun _ => True.intro) y⟩
  refine ⟨G, t1, I1.laid (t' := tk') old M.dbig ob, fun b o q => ?_, ge, hoe, I1.hok.fresh M.dbig, I1.hok.fresh M.new⟩
  by_cases hb : b = e
  · rw [hb, ge] at q
    cases q
  · rw [← gk b hb]
    exact q
theorem pmk_mk {x : Str} {a : Expr} {ta : TA} {p pos : Pos} {k : Nat} {T fI : Addr} (E : EC X.K C T f fI) (mk : Makes X.K C f) (hm : X.mg x = some (.ref C)) (hr : Room k X.A) (ha : PA X [a] ta) (hg : Gl X x)
    (hdb : (x == ("__debug__" : Str)) = false := by decide) (he : starEach (a :: []) X.env = (false, eval a X.env) :: starEach [] X.env := by rfl) (hpl : (backTo pos (starEach [] X.env)).any (·.1) = false := by rfl) :
    PMk X (.Call (.Name x p) [a] [] pos) (tMkX C f ta) := by
  intro pins s σ H Q I h
  refine wpAny_Call_Name_kw (ld_glob I hg hm ?_ hdb)
  refine PySem.W.callWith_K (h₀ := X.base) I.ok.mod.kin E.kC (thn (ha.run pos pins s σ H _ I h) fun us s1 hh => ?_) he hpl
  obtain ⟨vs, H1, I1, r1, v, ev, q1⟩ := hh
  subst ev
  refine ⟨I1.kIn, ?_⟩
  cases r1 with
  | cons rv rn =>
    rename_i v' us'
    cases rn
    show wpAny _ _ (call (.ref C) [v']) _ _ _
    have hlim := I1.nolimit
    obtain ⟨hp, g, dr, tk, os⟩ := s1
    refine wpAny_call (mk I1.kIn hlim (by have := hr.dp; show X.A.depth + 1 < _; omega) fun h' tk' e d M => ?_)
    obtain ⟨G, t1, J, kG, ge, hoe, nd, ne⟩ := made_inv (tk' := tk') I1 rv M
    refine ⟨e, _, _, ⟨G, g, dr, tk', os⟩, _, .ref C, some d, rfl, J, kG, ge, hoe, ⟨rfl, rfl⟩, rfl, rfl, ?_, rfl, I1.bare, raises_own E.exC E.tyC, q1 d nd⟩
    rw [upd_ne (Ne.symm M.dne)]
    exact ne
theorem pe_mk {x : Str} {a : Expr} {ta : TA} {p pos : Pos} {k : Nat} {T fI : Addr} (E : EC X.K C T f fI) (mk : Makes X.K C f) (hm : X.mg x = some (.ref C)) (hr : Room k X.A) (ha : PA X [a] ta) (hg : Gl X x)
    (hdb : (x == ("__debug__" : Str)) = false := by decide) (he : starEach (a :: []) X.env = (false, eval a X.env) :: starEach [] X.env := by rfl) (hpl : (backTo pos (starEach [] X.env)).any (·.1) = false := by rfl) :
    PE X (.Call (.Name x p) [a] [] pos) (tMkV C f ta) := by
  refine ⟨fun pins s σ H Q I h => ?_⟩
  refine wpAny_Call_Name_kw (ld_glob I hg hm ?_ hdb)
  refine PySem.W.callWith_K (h₀ := X.base) I.ok.mod.kin E.kC (thn (ha.run pos pins s σ H _ I h) fun us s1 hh => ?_) he hpl
  obtain ⟨vs, H1, I1, r1, v, ev, q1⟩ := hh
  subst ev
  refine ⟨I1.kIn, ?_⟩
  cases r1 with
  | cons rv rn =>
    rename_i v' us'
    cases rn
    show wpAny _ _ (call (.ref C) [v']) _ _ _
    have hlim := I1.nolimit
    obtain ⟨hp, g, dr, tk, os⟩ := s1
    refine wpAny_call (mk I1.kIn hlim (by have := hr.dp; show X.A.depth + 1 < _; omega) fun h' tk' e d M => ?_)
    obtain ⟨G, t1, J, kG, ge, hoe, nd, ne⟩ := made_inv (tk' := tk') I1 rv M
    have ne' : (upd H1 d (.xd [(f, v)])) e = none := by
      rw [upd_ne (Ne.symm M.dne)]
      exact ne
    exact ⟨.ref e, _, J.laidN (h' := h') (t' := tk') kG ge ne' (exo_ok hoe), rfl, q1 d e nd ne (Ne.symm M.dne)⟩
/-- what stands at an exception's address in the heap -/
theorem EAt.inst {H : Hp} {h : Heap} {e : Addr} {v : V} (ok : HOk X.prog X.w H h) (a : EAt H C f e v) : ∃ (ox od : Obj) (u : Value), PySem.W.InstAt h e ox C (some od) ∧ PySem.W.lookIn f od = some (some u) ∧ RelV v u := by
  obtain ⟨d, h1, h2⟩ := a
  obtain ⟨t1, ho⟩ := exo_at ok h1
  obtain ⟨mA, hns, hr⟩ : ObjOk X.prog X.w H h d (.xd [(f, v)]) := ok d _ h2
  obtain ⟨od, hod, hl⟩ := lookIn_ns hns
  have l : List.lookup f [(f, v)] = some v := by simp [List.lookup]
  obtain ⟨u, hu, ru⟩ := RelO.some_of (v := v) (o := mA f) (by rw [← l]; exact hr f)
  exact ⟨_, od, u, ⟨ho, rfl, rfl, hod⟩, by rw [hl, hu], ru⟩
/-- e.f -/
def tFldE (K : PySem.W.Frag) (f : Str) (to : TE) : TE := fun σ H Q => to σ H fun x H1 => ∃ (e C T fI : Addr) (v : V), x = .ref e ∧ EC K C T f fI ∧ EAt H1 C f e v ∧ Q v H1
theorem pe_fldE {o : Expr} {to : TE} {pos : Pos} (ho : PE X o to) (hb : attributeBase o f X.env (eval o X.env) = eval o X.env := by rfl) : PE X (.Attribute o f pos) (tFldE X.K f to) := by
  refine ⟨fun pins s σ H Q I h => ?_⟩
  refine attr_of hb (thn (ho.run pins s σ H _ I h) fun u s1 hh => ?_)
  obtain ⟨x, H1, I1, rx, e, C, T, fI, v, ex, Ec, ea, q⟩ := hh
  subst ex
  obtain rfl : u = Value.ref e := rx
  obtain ⟨ox, od, w, J, hl, rw'⟩ := ea.inst I1.hok
  exact HandSPX.exc_get I1.kIn J Ec.ga Ec.gg Ec.exC (PySem.W.findObj_own Ec.hd Ec.no rfl hl) (handed_of rw') ⟨v, H1, I1.tok _, rw', q⟩
/-- isinstance(e, c) -/
structure HasCls (K : PySem.W.Frag) : Prop where
  hn : PySem.W.specialIn K (.builtin "object.__class__") "__get__" = some (some (.builtin "getset_descriptor.__get__"))
  ht : PySem.W.takesIn K (.builtin "object.__class__") = some true
def rIsV (K : PySem.W.Frag) : List V → Hp → VK → Prop := fun xs H Q => ∃ (e C T fI : Addr) (f : Str) (v c : V) (u : Value) (b : Bool), xs = [.ref e, c] ∧ ClsV c u ∧ EC K C T f fI ∧ EAt H C f e v ∧ PySem.W.kitOne K (.ref C) u = some b ∧ Q (.bl b) H
theorem call_isV (Z : HasCls X.K) : CallR X (.builtin "isinstance") (rIsV X.K) := by
  intro pins s σ H xs us Q I r h
  obtain ⟨e, C, T, fI, f, v, c, u, b, rfl, k, Ec, ea, hk, q⟩ := h
  obtain ⟨u1, u2, rfl, r1, r2⟩ := vals2 r
  have e2 := k.eq r2
  subst e2
  cases (show u1 = Value.ref e from r1)
  obtain ⟨ox, od, w, J, _, _⟩ := ea.inst I.hok
  have hob : PySem.W.mroIn X.K C (.type "object") = some true := Ec.has (by decide)
  exact PySem.W.kia_one (PySem.W.kitx_exc Ec.isCls Ec.ga Ec.gg Ec.exC Ec.ca Z.hn Z.ht hob) I.kIn J hk (fun z => nomatch z) fun tk => ⟨.bl b, H, I.tok tk, rfl, q⟩
end
/-! the answers -/
section
open PySem.W
variable {K : PySem.W.Frag} {C T fI D T2 fJ : Addr} {f f2 : Str}
theorem kit_self : kitOne K (.ref C) (.ref C) = some true := by
  unfold kitOne
  rw [if_pos (beq_self_eq_true _)]
theorem kit_own (E : EC K C T f fI) {D : Addr} {b : Bool} (hD : (clsIn K D).isSome = true) (tD : typeIn K (.ref D) = some (.type "type")) (h : subIn K (.ref C) (.ref D) = some b) (hne : D ≠ C) : kitOne K (.ref C) (.ref D) = some b := by
  have q : ((clsIn K D).isSome && typeIn K (.ref D) == some (.type "type")) = true := by rw [hD, tD]; rfl
  unfold kitOne
  rw [if_neg (by simp [Ne.symm hne])]
  unfold kitCls
  dsimp only
  rw [if_pos q]
  exact h
theorem kit_bi (E : EC K C T f fI) {n : String} {b : Bool} (hm : kitMeta n = true) (h : subIn K (.ref C) (.type n) = some b) : kitOne K (.ref C) (.type n) = some b := by
  unfold kitOne
  rw [if_neg (by simp)]
  unfold kitCls
  dsimp only
  rw [if_pos hm]
  exact h
end
/-! try with clauses, each with a name -/
/-- what the clauses wish, one behind the other; each: its class, the slot of its name, its suite -/
def wClauses (K : PySem.W.Frag) (Wout : WX) (D : Ends) : List (Value × Nat × (Addr → Value → Option Addr → TS)) → WX
  | [] => Wout
  | (c, i, ts) :: r => fun cls d σ H => ∃ b, PySem.W.exmOne K cls c = some b ∧
      (b = true → ∀ a, H a = none → ts a cls d { nx := fun σ' H' => D.nx (σ'.set i none) H', rt := D.rt, bk := fun σ' H' => D.bk (σ'.set i none) H', ct := fun σ' H' => D.ct (σ'.set i none) H' } (σ.set i (some (.ref a))) H) ∧
      (b = false → wClauses K Wout D r cls d σ H)
inductive Clauses (X : Cx) : List ExceptHandler → List (Value × Nat × (Addr → Value → Option Addr → TS)) → Prop
  | nil : Clauses X [] []
  | cons {x n : Str} {i : Nat} {c : Value} {ts : Addr → Value → Option Addr → TS} {b₀ : Stmt} {suite : List Stmt} {np pos' : Pos} {hds : List ExceptHandler} {l : List (Value × Nat × (Addr → Value → Option Addr → TS))}
      (hc : Names X x c) (hi : X.N[i]? = some n) (hln : X.env.kindOf n = some .local)
      (hsu : ∀ (a : Addr) (oe : Obj) (cls : Value) (d : Option Addr) (pn : List (Addr × Obj)), Zc cls d oe → (∃ vs, oe.data = .fields vs) → PSs (X.suite a ((a, oe) :: pn)) (b₀ :: suite) (ts a cls d))
      (r : Clauses X hds l) : Clauses X (.ExceptHandler (some (.Name x np)) (some n) (b₀ :: suite) pos' :: hds) ((c, i, ts) :: l)
section
variable {X : Cx} {body : List Stmt} {h₀ : ExceptHandler} {hds : List ExceptHandler} {l : List (Value × Nat × (Addr → Value → Option Addr → TS))} {pos : Pos} {tb : WX → TS} {Wout : WX}
/-- the suite's end: its name goes -/
theorem suite_end {pins : List (Addr × Obj)} {D : Ends} {i : Nat} {n : Str} {a : Addr} {q : Addr × Obj} {p : Pos} {fl : Flow} {s6 : Shared} (ok : X.Ok) (hN : X.N.Nodup) (hi : X.N[i]? = some n) (hln : X.env.kindOf n = some .local)
    (hsp : SP (X.suite a (q :: (X.pn ++ pins))) [] { nx := fun σ' H' => D.nx (σ'.set i none) H', rt := D.rt, bk := fun σ' H' => D.bk (σ'.set i none) H', ct := fun σ' H' => D.ct (σ'.set i none) H' } fl s6) :
    wpAny (model X.prog X.w) X.A (do bindName X.env n .none; unbindBehindTheSuite X.env n p) (fun _ s7 => SP X pins D fl s7) X.xe s6 := by
  cases fl with
  | next =>
    obtain ⟨σ6, H6, S6, w6⟩ := hsp
    exact gone_ok (S6.unsuite ok) hN hi hln fun s7 J7 => ⟨_, _, J7, w6⟩
  | brk =>
    obtain ⟨σ6, H6, S6, w6⟩ := hsp
    exact gone_ok (S6.unsuite ok) hN hi hln fun s7 J7 => ⟨_, _, J7, w6⟩
  | cont =>
    obtain ⟨σ6, H6, S6, w6⟩ := hsp
    exact gone_ok (S6.unsuite ok) hN hi hln fun s7 J7 => ⟨_, _, J7, w6⟩
  | ret u =>
    obtain ⟨v6, σ6, H6, S6, r6, w6⟩ := hsp
    exact gone_ok (S6.unsuite ok) hN hi hln fun s7 J7 => ⟨_, _, _, J7, r6, w6⟩
theorem ps_try_named (hs : X.stack = X.env :: X.outer) (hf : X.env.frame = some X.env.locals) (hN : X.N.Nodup) (tk : Takes X Wout)
    (hb : ∀ (W : WX) (pn : List (Addr × Obj)) (xe : Value → Shared → Prop), Takes (X.tr pn xe) W → PassesOwn (model X.prog X.w) X.A X.env xe → PSs (X.tr pn xe) body (tb W))
    (hh : Clauses X (h₀ :: hds) l) : PS X (.Try body (h₀ :: hds) [] [] pos) (fun D σ H => tb (wClauses X.K Wout D l) D σ H) := by
  refine ⟨fun pins s σ H D I h => ?_⟩
  have ok := I.ok
  have hfr : X.A.frames = some (X.env :: X.outer) := by rw [ok.frames, hs]
  refine wpAny_Try_except ?_
  refine wpAny_mono ((hb (wClauses X.K Wout D l) (X.pn ++ pins) (fun e s₁ => wpAny (model X.prog X.w) X.A (noteFrame e X.env) (fun _ s₂ =>
    wpAny (model X.prog X.w) X.A (setFlight e none) (fun _ s₃ => wpAny (model X.prog X.w) X.A (handleBy e X.env (h₀ :: hds)) (SP X pins D) X.xe s₃) X.xe s₂) X.xe s₁)
    (fun u s' xx => ?_) PassesOwn.looking).run [] s σ H D (I.toTry _) h) (fun fl s1 hsp => ?_) (fun e s1 he => he)
  · obtain ⟨a, B, sI, pins', σ', H', cls, d, rfl, J', nb, up, sky, na, os, ag, w⟩ := xx
    have J : Inv X pins σ' H' sI := J'.ofTry ok
    have sky' : Sky B (X.env :: X.outer) a (Zc cls d) X.env.locals s'.heap := by
      rw [← hs]
      exact sky
    refine Sky.land Zc.steady hfr hf sky' fun h3 fl3 up3 => ?_
    have J3 : Inv X pins σ' H' { s' with heap := h3 } := J.landed nb fl3.1 (up.trans up3) os ag
    obtain ⟨oe3, vs3, he3, hz3, hd3⟩ := fl3.there
    have nfr : a ∉ frs (X.env :: X.outer) := fun hm => by
      obtain ⟨_, o', e', hnf⟩ := fl3.2.2.1.mem hm
      rw [he3] at e'
      cases e'
      exact hnf _ hd3
    have nL : a ≠ X.env.locals := fun z => nfr (List.mem_filterMap.mpr ⟨X.env, List.mem_cons_self, by rw [hf, z]⟩)
    have nF : a ∉ X.fs := fun hm => by
      obtain ⟨e, he, q⟩ := List.mem_filterMap.mp hm
      exact nfr (List.mem_filterMap.mpr ⟨e, List.mem_cons_of_mem _ he, q⟩)
    have S3 := J3.suite he3 hd3 na nL nF
    have LT : PySem.W.Looks (model X.prog X.w) h3 (typeOf (.ref a)) cls := fun A Q E s k q => wpAny_typeOf_ref (k _ _ he3) (by rw [hz3.1]; exact q)
    have go : ∀ {hs' : List ExceptHandler} {l' : List (Value × Nat × (Addr → Value → Option Addr → TS))}, Clauses X hs' l' → wClauses X.K Wout D l' cls d σ' H' →
        wpAny (model X.prog X.w) X.A (handleBy (.ref a) X.env hs') (SP X pins D) X.xe { s' with heap := h3 } := by
      intro hs' l' hk
      induction hk with
      | nil =>
        intro w
        refine wpAny_handleBy_nil ?_
        obtain ⟨k1, k2, k3, oe, vs, T, oT, ts', he, hz, hd, h1, hr⟩ := id fl3
        have fin : wpAny (model X.prog X.w) X.A (setFlight (.ref a) X.env.frame) (fun _ s4 => wpAny (model X.prog X.w) X.A (throw (.ref a) : Sem Flow) (SP X pins D) X.xe s4) X.xe { s' with heap := h3 } := by
          rw [hf]
          refine HandSPX.setFlight_upZ fl3 fun h4 hh4 up4 => wpAny_throw (tk _ _ ?_)
          refine ⟨a, B, sI, pins, σ', H', cls, d, rfl, J, nb, (up.trans up3).trans up4, .inr (.inr ?_), na, os, ag, w⟩
          rw [hs]
          exact hh4
        unfold PySem.passOn
        refine wpAny_bind (wpAny_field he hd h1 ?_)
        rw [if_neg (show ¬ ((Value.ref T == Value.none) = true) from by simp)]
        first
          | exact wpAny_bind (wpAny_pure (wpAny_bind fin))
          | exact wpAny_bind fin
      | @cons x n i c ts b₀ suite np pos' hds2 l2 hc hi hln hsu r ih =>
        intro w
        obtain ⟨b, hb1, hyes, hno⟩ := w
        refine wpAny_handleBy_cons (codeAny_handlers_test ?_) (by intro q; cases q)
        have LM := PySem.W.exm_one (M := model X.prog X.w) (J3.kIn) LT hb1
        have test : ∀ {Q : Value → Shared → Prop} {E : Value → Shared → Prop}, Q c { s' with heap := h3 } → wpAny (model X.prog X.w) (X.A.mark (some (.ref a))) (eval (.Name x np) X.env) Q E { s' with heap := h3 } := fun {Q E} q => by
          obtain ⟨hg, hdbg, hm | ⟨hm, hv, hnn⟩⟩ := hc
          · exact ld_glob (X := X.suite a ((a, oe3) :: (X.pn ++ pins))) S3 hg hm q hdbg
          · exact ld_blt (X := X.suite a ((a, oe3) :: (X.pn ++ pins))) S3 hg hm hv q hnn hdbg
        refine test (LM.here ?_)
        cases b with
        | false =>
          show wpAny _ X.A (handleBy (.ref a) X.env hds2) _ _ _
          exact ih (hno rfl)
        | true =>
          refine codeAny_handlers_suite_as ?_
          refine HandSPX.lands_againZ fl3 fun h4 fl4 up4 => ?_
          have J4 : Inv X pins σ' H' { s' with heap := h4 } := J.landed nb fl4.1 ((up.trans up3).trans up4) os ag
          obtain ⟨oe4, vs4, he4, hz4, hd4⟩ := fl4.there
          have S4 := J4.suite he4 hd4 na nL nF
          refine store_ok (X := X.suite a ((a, oe4) :: (X.pn ++ pins))) (v := .ref a) S4 hN hi (.inl hln) rfl (fun s5 S5 => ?_) (.inr hln)
          refine wpAny_mono ((hsu a oe4 cls d (X.pn ++ pins) hz4 ⟨_, hd4⟩).run [] s5 _ H' _ S5 (hyes rfl a na)) (fun fl s6 hsp => ?_) (fun _ _ z => False.elim z)
          exact suite_end ok hN hi hln hsp
    exact go hh w
  · cases fl with
    | next =>
      obtain ⟨σ', H', J', q⟩ := hsp
      exact wpAny_execs_nil ⟨σ', H', J'.ofTry ok, q⟩
    | brk =>
      obtain ⟨σ', H', J', q⟩ := hsp
      exact ⟨σ', H', J'.ofTry ok, q⟩
    | cont =>
      obtain ⟨σ', H', J', q⟩ := hsp
      exact ⟨σ', H', J'.ofTry ok, q⟩
    | ret u =>
      obtain ⟨v, σ', H', J', r, q⟩ := hsp
      exact ⟨v, σ', H', J'.ofTry ok, r, q⟩
end
end L2


set_option Elab.async false
set_option linter.all false
set_option maxRecDepth 100000
set_option maxHeartbeats 4000000
/-! sorted(xs, key=f), f a def of the program, its keys data that are alike -/
namespace Sk
open PySem PySem.Spec PyProof.Rows PySem.W L2 Nd
section
variable {X : Cx} {pins : List (Addr × Obj)} {σ : L2.St} {H : Hp} {s : Shared}
/-- two untracked objects of our own change, one of them is from now on known as a list -/
theorem track {h' : Heap} {tk : Nat} {a c : Addr} {ys : List V} {out : List Value} {n : Nat} (I : Inv X pins σ H s) (fa : FpOk X pins H a) (fc : FpOk X pins H c)
    (k : ∀ b o, b ≠ a → b ≠ c → s.heap.get? b = some o → h'.get? b = some o) (hz : ys.length ≤ sizeLine) (rv : Vals ys out)
    (at_ : h'.get? a = some { cls := .type "list", data := .seq out.toArray n }) : Inv X pins σ (upd H a (.lst ys)) { s with heap := h', toks := tk } := by
  have na := fa.1
  have nc := fc.1
  have nin : ∀ b, b ∉ [a, c] → b ≠ a ∧ b ≠ c := fun b hb => ⟨fun e => hb (by simp [e]), fun e => hb (by simp [e])⟩
  refine I.step (g' := s.gens) (d' := s.drawn) (ch := [a, c]) ?_ ?_ ?_ ?_ ?_ ?_ ?_ ?_ ?_ ?_ I.bare
  · intro b hb
    simp only [List.mem_cons, List.not_mem_nil, or_false] at hb
    rcases hb with rfl | rfl
    · exact ⟨fa.2.2.2.1, fa.2.1, fa.2.2.2.2.1, fa.2.2.2.2.2⟩
    · exact ⟨fc.2.2.2.1, fc.2.1, fc.2.2.2.2.1, fc.2.2.2.2.2⟩
  · exact fun b o _ _ hb e _ => k b o (nin b hb).1 (nin b hb).2 e
  · exact fun b o _ _ hb e _ => ⟨o.slots, k b o (nin b hb).1 (nin b hb).2 e⟩
  · exact fun b o hb _ q => by rw [upd_ne (nin b hb).1]; exact q
  · exact fun b o hb e => ⟨o, k b o (nin b hb).1 (nin b hb).2 e⟩
  · exact fun b xs q => by rw [upd_ne (ne_of_none q na)]; exact q
  · exact fun b o u q => by rw [upd_ne (ne_of_none q na)]; exact q
  · exact fun b ps q => ⟨#[], by rw [upd_ne (ne_of_none q na), q]; simp⟩
  · rintro m ⟨o, es, ep, ho, r⟩
    exact ⟨o, es, ep, k _ o (Ne.symm fa.2.1) (Ne.symm fc.2.1) ho, r⟩
  · intro b u e
    by_cases q : b = a
    · subst q
      rw [upd_same] at e
      cases e
      exact ⟨hz, out, n, rv, at_⟩
    · rw [upd_ne q] at e
      refine (I.hok b u e).stay (fun d v hd g => ?_) (fun d g => by rw [upd_ne (ne_of_none g na)]; exact g) fun d xs g => by rw [upd_ne (ne_of_none g na)]; exact g
      have ne : ∀ z, H z = none → d ≠ z := fun z hz' e2 => by
        subst e2
        rcases hd with rfl | hd
        · rw [hz'] at e; cases e
        · rw [hz'] at hd; cases hd
      exact k d v (ne a na) (ne c nc) g
theorem reads_each {ks : List V} {us : List Value} {ds : List PyData} (I : Inv X pins σ H s) (h : DpAll X.K H ks ds) (r : Vals ks us) : EachIs (fun v k => ∃ as, Reads s.heap v k as) us ds := by
  induction r generalizing ds with
  | nil => cases h; exact .nil
  | cons rv _ ih => cases h with
    | cons h1 h2 => exact .cons (Dp.reads I _ _ _ h1 rv) (ih h2)
theorem each_pairs : ∀ {xs : List V} {us : List Value} (ds : List PyData), Vals xs us → ds.length = xs.length → EachIs (fun (u : Value) (b : V × PyData) => RelV b.1 u) us (xs.zip ds)
  | _, _, [], .nil, _ => .nil
  | _, _, _ :: _, .nil, h => by cases h
  | _, _, [], .cons _ _, h => by cases h
  | _, _, d :: ds, .cons r t, h => .cons r (each_pairs ds t (Nat.succ.inj h))
theorem vals_each : ∀ {us : List Value} {bs : List (V × PyData)}, EachIs (fun (u : Value) (b : V × PyData) => RelV b.1 u) us bs → Vals (bs.map (·.1)) us
  | _, _, .nil => .nil
  | _, _, .cons r t => .cons r (vals_each t)
/-- what the sorting by keys gives -/
def sortBy (xs : List V) (ds : List PyData) : List V := ((xs.zip ds).mergeSort (PySem.W.dataLe false (·.2))).map (·.1)
theorem sortBy_len {xs : List V} {ds : List PyData} (h : ds.length = xs.length) : (sortBy xs ds).length = xs.length := by
  unfold sortBy
  rw [List.length_map, List.length_mergeSort, List.length_zip, h, Nat.min_self]
end
section
variable {X : Cx} {pins : List (Addr × Obj)} {σ : L2.St} {H : Hp} {s : Shared} {CX' : CXT} {k : Nat} {kf a : Addr} {fd : FuncData} {x0 : Str} {sp : Sp} {A : Around} {us : List Value} {xs : List V} {ds : List PyData}
/-- what is known of the state while the keys are made: j of them -/
structure Mid (X : Cx) (pins : List (Addr × Obj)) (σ : L2.St) (H : Hp) (a c : Addr) (e1 : Nat) (dj : List PyData) (H' : Hp) (s' : Shared) (kA : Array Value) (e : Nat) : Prop where
  inv : Inv X pins σ H' s'
  up : Same H H'
  fa : FpOk X pins H' a
  fc : FpOk X pins H' c
  at_ : s'.heap.get? a = some (seqObj "list" #[] e1)
  keys : s'.heap.get? c = some (seqObj "list" kA e)
  told : ∃ ks, Vals ks kA.toList ∧ DpAll X.K H' ks dj
theorem fpOn {H' : Hp} {b : Addr} (h : FpOk X pins H b) (n : H' b = none) : FpOk X pins H' b := ⟨n, h.2⟩
theorem dpl {K : PySem.W.Frag} : ∀ {ks : List V} {dj : List PyData}, DpAll K H ks dj → ks.length = dj.length
  | _, _, .nil => rfl
  | _, _, .cons _ b => congrArg (· + 1) (dpl b)
theorem dpAll_snoc {K : PySem.W.Frag} {v : V} {d : PyData} : ∀ {ks : List V} {dj : List PyData}, DpAll K H ks dj → Dp K H v d → DpAll K H (ks ++ [v]) (dj ++ [d])
  | _, _, .nil, h => .cons h .nil
  | _, _, .cons a b, h => .cons a (dpAll_snoc b h)
/-- the list's items by the keys that the def gives -/
theorem key_run {n : Nat} {P : PySem.Fin → Shared → Prop} {E' : Value → Shared → Prop} (I : Inv X pins σ H s) (hfr : A.frames = some X.stack) (F : FnOk X.prog X.w X.K X.mg X.base CX0 k kf fd [x0] sp) (hr : Room k A) (hb : Binds X.K fd [x0] [])
    (ho : s.heap.get? a = some (seqObj "list" us.toArray n)) (fa : FpOk X pins H a) (rv : Vals xs us) (hlen : ds.length = xs.length) (hz : xs.length ≤ sizeLine) (hal : AllAlike ds) (hsk : Sortable ds) (hu : ∀ d ∈ ds, A.units + d.depth < cLine)
    (turn : ∀ (i : Nat) x d, xs[i]? = some x → ds[i]? = some d → ∀ H', Same H H' → sp [x] H' (fun v H'' => Same H' H'' ∧ Dp X.K H'' v d) E0)
    (done : ∀ s' H', Same H H' → H' a = none → Inv X pins σ (upd H' a (.lst (sortBy xs ds))) s' → P (.done (.ret .none)) s') :
    wpAny (model X.prog X.w) A (ksk_tree a (.ref kf) false) P E' s := by
  have ul : us.length = xs.length := rv.length.symm
  have hz' : us.length ≤ sizeLine := by omega
  have al : a < s.heap.objs.size := Heap.lt_size ho
  have kept := Heap.SameBut.update s.heap a (Obj.mapSeq fun _ => (#[] : Array Value))
  obtain ⟨e1, ho1⟩ : ∃ e1, (s.heap.update a (Obj.mapSeq fun _ => (#[] : Array Value))).get? a = some (seqObj "list" #[] e1) := ⟨_, get?_update_seq ho _⟩
  have sz1 : (s.heap.update a (Obj.mapSeq fun _ => (#[] : Array Value))).objs.size = s.heap.objs.size := Heap.size_update ..
  unfold ksk_tree
  refine wpAny_bind (listItems_at ho rfl (wpAny_bind (listUpdate_at ho rfl ?_ (by rw [List.size_toArray]; omega) (Nat.zero_le _))))
  generalize s.heap.update a (Obj.mapSeq fun _ => (#[] : Array Value)) = g1 at kept ho1 sz1 ⊢
  refine wpAny_bind (seqEpoch_at ho1 rfl (wpAny_bind (wpAny_newTuple (wpAny_bind (wpAny_newList (wpAny_holding ?_) (Nat.zero_le _))) hz')))
  have c_ : (g1.push (seqObj "tuple" us.toArray 0)).objs.size = s.heap.objs.size + 1 := by rw [size_push', sz1]
  have up2 : ∀ b o, g1.get? b = some o → ((g1.push (seqObj "tuple" us.toArray 0)).push (seqObj "list" #[] 0)).get? b = some o := fun b o q => Heap.get?_push_of_some _ (Heap.get?_push_of_some _ q)
  have atc : ((g1.push (seqObj "tuple" us.toArray 0)).push (seqObj "list" #[] 0)).get? (g1.push (seqObj "tuple" us.toArray 0)).objs.size = some (seqObj "list" #[] 0) := Heap.get?_push_size _ rfl
  have sz3 : s.heap.objs.size ≤ (g1.push (seqObj "tuple" us.toArray 0)).objs.size := by omega
  generalize hc : (g1.push (seqObj "tuple" us.toArray 0)).objs.size = c at c_ atc sz3
  generalize hg : (g1.push (seqObj "tuple" us.toArray 0)).push (seqObj "list" #[] 0) = g3 at up2 atc
  have I3 : Inv X pins σ H { s with heap := g3 } := I.turnedL (ch := [a]) (t' := s.toks) (fun b o nb q => up2 b o ((kept.2 b fun e => nb (by simp [e])).trans q)) fun b hb => by rw [List.mem_singleton.mp hb]; exact fa
  have fc : FpOk X pins H c := I.fpOk sz3 (I.hok.fresh sz3)
  have ca : c ≠ a := Nat.ne_of_gt (by rw [c_]; exact Nat.lt_succ_of_lt al)
  show wpAny (model X.prog X.w) A (ksk_rest a (.ref kf) false us.toArray e1 (.ref _)) P E' { s with heap := _ }
  clear hc hg
  unfold ksk_rest
  refine wpAny_bind (wpAny_rule ?_)
  rw [← Array.forIn_toList]
  refine wpAny_bind (ksk_fold (fun j s' => ∃ H' kA e, Mid X pins σ H a c e1 (ds.take j) H' s' kA e) us 0 _ ⟨H, #[], 0, I3, fun _ _ q => q, fa, fc, up2 _ _ ho1, atc, [], .nil, by rw [List.take_zero]; exact .nil⟩ ?_ ?_)
  · rintro j u s' hj ⟨H', kA, e, M⟩
    rw [Nat.zero_add] at M ⊢
    have jl : j < us.length := (List.getElem?_eq_some_iff.mp hj).1
    obtain ⟨d, hd⟩ : ∃ d, ds[j]? = some d := ⟨_, List.getElem?_eq_getElem (by omega)⟩
    obtain ⟨x, hx⟩ : ∃ x, xs[j]? = some x := ⟨_, List.getElem?_eq_getElem (by omega)⟩
    obtain ⟨u', hu', rx⟩ := rv.get hx
    rw [hj] at hu'
    cases hu'
    have run : wpAny (model X.prog X.w) A (call (.ref kf) [u]) (fun v s'' => CE X.stack X.prog X.w H' s' (fun v H'' => Same H' H'' ∧ Dp X.K H'' v d) v s'') (fun _ _ => False) s' := by
      refine wpAny_call (codeAny_mono (F.run A X.stack s' H' ⟨[u], []⟩ [u] [x] _ E0 hr { M.inv.env0 with frames := hfr } (hb s' [u] M.inv.kIn rfl) (.cons rx .nil) (turn j x d hx hd H' M.up)) fun r s'' hq => ?_)
      cases r with
      | error _ => exact hq.elim
      | ok fl => cases fl with
        | ret _ => exact hq
        | next => exact hq.elim
        | brk => exact hq.elim
        | cont => exact hq.elim
    refine wpAny_bind (wpAny_attempt (wpAny_mono run (fun kv s2 he => ?_) fun _ _ z => z.elim))
    obtain ⟨vk, H2, os, bare, un, hok, rk, s2H, dk⟩ := he
    have off : ∀ b, FpOk X pins H' b → b ∉ frs X.stack := fun b fb hm => by
      rcases List.mem_cons.mp (M.inv.stkSub b hm) with z | z
      · exact fb.2.1 z
      · exact fb.2.2.1 z
    have at2 := un.keep _ _ M.at_ M.fa.1 (off _ M.fa) (by simp)
    have ky2 := un.keep _ _ M.keys M.fc.1 (off _ M.fc) (by simp)
    have na2 := un.free _ _ M.at_ M.fa.1 (by simp)
    have nc2 := un.free _ _ M.keys M.fc.1 (by simp)
    obtain ⟨g, gn, dr, tk, os'⟩ := s2
    obtain rfl : os' = s'.os := os
    have I2 : Inv X pins σ H2 ⟨g, gn, dr, tk, s'.os⟩ := M.inv.call (h' := g) (g' := gn) (d' := dr) (t' := tk) (ch := []) un hok bare (fun b z => absurd z (by simp))
    obtain ⟨ks, rks, dks⟩ := M.told
    have kl : kA.size ≤ us.length := by
      have e1 := rks.length
      have e2 := dpl dks
      rw [List.length_take] at e2
      have e3 : kA.toList.length = kA.size := Array.length_toList
      omega
    have kept2 := Heap.SameBut.update g c (Obj.mapSeq (·.push kv))
    obtain ⟨e2, he2⟩ : ∃ e2, (g.update c (Obj.mapSeq (·.push kv))).get? c = some (seqObj "list" (kA.push kv) e2) := ⟨_, get?_update_seq ky2 (·.push kv)⟩
    refine wpAny_bind (listUpdate_at ky2 rfl (wpAny_pure ⟨rfl, H2, kA.push kv, e2, ?_, M.up.trans s2H, fpOn M.fa na2, fpOn M.fc nc2, (kept2.2 a (Ne.symm ca)).trans at2, he2, ks ++ [vk], ?_, ?_⟩) (by omega) (by rw [Array.size_push]; omega))
    · exact I2.turnedL (ch := [c]) (t' := tk) (fun b o nb q => (kept2.2 b fun e => nb (by simp [e])).trans q) fun b hb' => by rw [List.mem_singleton.mp hb']; exact fpOn M.fc nc2
    · rw [Array.toList_push]
      exact rks.append (.cons rk .nil)
    · rw [List.take_succ, hd]
      exact dpAll_snoc (dpAll_same s2H dks) dk
  · rintro s' ⟨H', kA, e, M⟩
    rw [Nat.zero_add, List.take_of_length_le (by omega)] at M
    obtain ⟨ks, rks, dks⟩ := M.told
    have rd := reads_each M.inv dks rks
    have kl : kA.size = us.length := by
      have e1 := rks.length
      have e2 := dpl dks
      have e3 : kA.toList.length = kA.size := Array.length_toList
      omega
    obtain ⟨h1, r1, r2⟩ := L2.restrict s'.heap fun b => decide (b ≠ c)
    have kp : KeepsBut a h1 s'.heap := fun b o _ q => by
      by_cases e : b = c
      · rw [r2 b (by simp [e])] at q; cases q
      · rw [← r1 b (by simp [e])]; exact q
    have bs : (xs.zip ds).map (·.2) = ds := List.map_snd_zip (by omega)
    refine wpAny_bind (listItems_at M.keys rfl ?_)
    refine keyH_end (κ := dataKind s'.heap ds) kp (r2 c (by simp)) M.keys M.at_ ca (SortsAt.data rd hal hsk hu) kl hz' fun h3 tk3 n3 k3 at3 => ?_
    have ko : KeyedOut false ((xs.zip ds).map (·.2)) us (sortVals (dataKind s'.heap ds) false kA.toList us) := by
      rw [bs]
      exact ⟨s'.heap, kA.toList, hal, rfl, rd⟩
    have out := vals_each (keyedOut_each (·.2) ko (each_pairs ds rv hlen))
    refine done _ H' M.up M.fa.1 (track M.inv M.fa M.fc (fun b o na nc q => k3 b o na ((r1 b (by simp [nc])).trans q)) ?_ out at3)
    show (sortBy xs ds).length ≤ sizeLine
    rw [sortBy_len hlen]; exact hz
end
end Sk


set_option Elab.async false
set_option linter.all false
set_option maxRecDepth 100000
set_option maxHeartbeats 4000000
/-! data that can be compared up to the first place where they differ: (0, 5) and (1, "a") -/
namespace Dw
open PySem PySem.W PySem.SeqAt PyProof.Rows
mutual
def lk : PyData → PyData → Bool
  | .none, d => (match d with | .none => true | _ => false)
  | .bool _, d => (match d with | .bool _ => true | _ => false)
  | .int _, d => (match d with | .int _ => true | _ => false)
  | .str _, d => (match d with | .str _ => true | _ => false)
  | .list xs, d => (match d with | .list ys => lkAll xs ys | _ => false)
  | .tuple xs, d => (match d with | .tuple ys => lkAll xs ys | _ => false)
  | .dict _, _ => false
def lkAll : List PyData → List PyData → Bool
  | [], _ => true
  | x :: xs, ds => (match ds with | [] => true | y :: ys => lk x y && (!PyData.eqv x y || lkAll xs ys))
end
theorem lk_cons {x y : PyData} {xs ys : List PyData} (h : lkAll (x :: xs) (y :: ys) = true) : lk x y = true ∧ (PyData.eqv x y = true → lkAll xs ys = true) := by
  rw [lkAll, Bool.and_eq_true] at h
  refine ⟨h.1, fun e => ?_⟩
  have h2 := h.2
  rw [e] at h2
  exact h2
theorem lk_tup {xs ys : List PyData} : lk (.tuple xs) (.tuple ys) = lkAll xs ys := by rw [lk]
theorem lk_lst {xs ys : List PyData} : lk (.list xs) (.list ys) = lkAll xs ys := by rw [lk]
abbrev lx := PyProof.Rows.lexLt itemOrd
mutual
theorem tok_lk : ∀ (x y : PyData), lk x y = true → (PyData.eqv x y = true → keyToks x = keyToks y) ∧ (PyData.eqv x y = false → ∀ l m, lx (keyToks x ++ l) (keyToks y ++ m) = lx (keyToks x) (keyToks y))
  | .list xs, y, h => by
    cases y with
    | list ys =>
      rw [lk_lst] at h
      simp only [keyToks, PyData.eqv]
      exact toks_lk xs ys h
    | _ => simp [lk] at h
  | .tuple xs, y, h => by
    cases y with
    | tuple ys =>
      rw [lk_tup] at h
      simp only [keyToks, PyData.eqv]
      exact toks_lk xs ys h
    | _ => simp [lk] at h
  | .none, y, h => (by cases y <;> first | (exfalso; simp [lk] at h; done) | exact toks_eqv _ _ (by simp [alike]))
  | .bool a, y, h => (by cases y <;> first | (exfalso; simp [lk] at h; done) | exact toks_eqv _ _ (by simp [alike]))
  | .int a, y, h => (by cases y <;> first | (exfalso; simp [lk] at h; done) | exact toks_eqv _ _ (by simp [alike]))
  | .str a, y, h => (by cases y <;> first | (exfalso; simp [lk] at h; done) | exact toks_eqv _ _ (by simp [alike]))
  | .dict _, y, h => (by simp [lk] at h)
theorem toks_lk : ∀ (xs ys : List PyData), lkAll xs ys = true → (PyData.eqvAll xs ys = true → keyToksAll xs = keyToksAll ys) ∧ (PyData.eqvAll xs ys = false → ∀ l m, lx (keyToksAll xs ++ l) (keyToksAll ys ++ m) = lx (keyToksAll xs) (keyToksAll ys))
  | [], [], _ => toksAll_eqv [] [] (by simp [alikeAll])
  | [], y :: ys, _ => toksAll_eqv [] (y :: ys) (by simp [alikeAll])
  | x :: xs, [], _ => toksAll_eqv (x :: xs) [] (by simp [alikeAll])
  | x :: xs, y :: ys, h => by
    obtain ⟨p, q⟩ := lk_cons h
    obtain ⟨u1, u2⟩ := tok_lk x y p
    have cut : ∀ (k a b : List (Int ⊕ List Nat)), lx ((.inl 1 : Int ⊕ List Nat) :: (k ++ a)) (.inl 1 :: (k ++ b)) = lx a b := fun k a b => (lex_self (O := itemOrd) _ _ _).trans (lex_pre k a b)
    have one : ∀ (a b : List (Int ⊕ List Nat)), lx ((.inl 1 : Int ⊕ List Nat) :: a) (.inl 1 :: b) = lx a b := fun a b => lex_self (O := itemOrd) _ _ _
    rw [eqv_all_cons, toks_all_cons, toks_all_cons]
    cases e : PyData.eqv x y with
    | true =>
      obtain ⟨v1, v2⟩ := toks_lk xs ys (q e)
      rw [u1 e, Bool.true_and]
      refine ⟨fun w => by rw [v1 w], fun w l m => ?_⟩
      simp only [List.cons_append, List.append_assoc]
      rw [cut, cut]
      exact v2 w l m
    | false =>
      rw [Bool.false_and]
      refine ⟨fun w => absurd w Bool.false_ne_true, fun _ l m => ?_⟩
      simp only [List.cons_append, List.append_assoc]
      rw [one, one, u2 e, u2 e]
end
theorem lt_same {x y : PyData} {xs ys : List PyData} (h : lk x y = true) (e : PyData.eqv x y = true) : lx (keyToksAll (x :: xs)) (keyToksAll (y :: ys)) = lx (keyToksAll xs) (keyToksAll ys) := by
  rw [toks_all_cons, toks_all_cons, (tok_lk x y h).1 e]
  exact (lex_self (O := itemOrd) _ _ _).trans (lex_pre _ _ _)
theorem lt_diff {x y : PyData} {xs ys : List PyData} (h : lk x y = true) (e : PyData.eqv x y = false) : lx (keyToksAll (x :: xs)) (keyToksAll (y :: ys)) = dataLt x y := by
  rw [toks_all_cons, toks_all_cons]
  exact (lex_self (O := itemOrd) _ _ _).trans ((tok_lk x y h).2 e _ _)
/-- the first place that differs -/
theorem first_lk : ∀ (xs ys : List PyData), lkAll xs ys = true →
    firstLt (pairEq xs ys) (fun j => dataLt (xs.getD j .none) (ys.getD j .none)) (decide (xs.length < ys.length)) (List.range (min xs.length ys.length)) = lx (keyToksAll xs) (keyToksAll ys)
  | [], [], _ => firstLt_toks [] [] (by simp [alikeAll])
  | [], y :: ys, _ => firstLt_toks [] (y :: ys) (by simp [alikeAll])
  | x :: xs, [], _ => firstLt_toks (x :: xs) [] (by simp [alikeAll])
  | x :: xs, y :: ys, h => by
    obtain ⟨p, q⟩ := lk_cons h
    have lm : min (x :: xs).length (y :: ys).length = min xs.length ys.length + 1 := by simp only [List.length_cons]; omega
    have ld : decide ((x :: xs).length < (y :: ys).length) = decide (xs.length < ys.length) := decide_eq_decide.mpr (by simp only [List.length_cons]; omega)
    rw [lm, ld, List.range_succ_eq_map]
    cases e : PyData.eqv x y with
    | true =>
      rw [lt_same p e, ← first_lk xs ys (q e), firstLt_yes (show pairEq (x :: xs) (y :: ys) 0 = true from e), firstLt_map]
      rfl
    | false =>
      rw [lt_diff p e, firstLt_no (show pairEq (x :: xs) (y :: ys) 0 = false from e)]
      rfl
theorem ne_non {x y : PyData} (h : lk x y = true) (e : PyData.eqv x y = false) : x ≠ .none := by
  rintro rfl
  cases y with
  | none => exact absurd e (by simp [PyData.eqv])
  | _ => simp [lk] at h
end Dw


set_option Elab.async false
set_option linter.all false
set_option maxRecDepth 100000
set_option maxHeartbeats 4000000
/-! a < b for tuples and lists whose items can be compared up to the first place that differs -/
namespace Dw
open PySem PySem.W PySem.SeqAt PyProof.Rows
open AutoSeq1 (wpAny_loadPart')
open MeetsSeq MeetsSeq2 MeetsSeq3 SeqRoads2
/-- == everywhere, < at the first place that differs -/
structure Fst (A : Around) (s : Shared) (us ws : Array Value) (e r : Nat → Bool) : Prop where
  eq : ∀ j (p : j < us.size) (q : j < ws.size), EqAt A.in1 s us[j] ws[j] (e j)
  lt : ∀ j (p : j < us.size) (q : j < ws.size), (∀ i, i < j → e i = true) → e j = false → RcLt A.in1 s us[j] ws[j] (r j)
abbrev fl (us ws : Array Value) (e r : Nat → Bool) (i : Nat) : Bool := firstLt e r (decide (us.size < ws.size)) ((List.range (min us.size ws.size)).drop i)
theorem fl_step {us ws : Array Value} {e r : Nat → Bool} {i : Nat} (h : i < min us.size ws.size) : fl us ws e r i = if e i = true then fl us ws e r (i + 1) else r i := by
  have d : (List.range (min us.size ws.size)).drop i = i :: (List.range (min us.size ws.size)).drop (i + 1) := by simp [List.drop_eq_getElem_cons, h]
  show firstLt e r _ _ = _
  rw [d]
  rfl
theorem fl_end {us ws : Array Value} {e r : Nat → Bool} {i : Nat} (h : min us.size ws.size ≤ i) : fl us ws e r i = decide (us.size < ws.size) := by
  have d : (List.range (min us.size ws.size)).drop i = [] := List.drop_of_length_le (by simpa using h)
  show firstLt e r _ _ = _
  rw [d]
  rfl
theorem tup_lt1 (a c : Addr) (us ws : Array Value) (n m : Nat) (du dw : Option Addr) (su sw : Array (Option Value)) (e r : Nat → Bool) :
    Meets (Builtin.«tuple.__lt__» ⟨[.ref a, .ref c], []⟩)
      (fun A R s => s.heap.get? a = some { cls := .type "tuple", dict := du, data := .seq us n, slots := su } ∧ s.heap.get? c = some { cls := .type "tuple", dict := dw, data := .seq ws m, slots := sw } ∧
        Fst A s us ws e r ∧ R (.ok (.ret (.bool (fl us ws e r 0)))) s) :=
  .of_wp fun prog w A R s h => by
    obtain ⟨hh, gg, dd, kk, oo⟩ := s
    obtain ⟨ha, hc, F, fin⟩ := h
    have sub := AutoSeq1.sub_tuple_tuple
    have zl : (us.toList.zip ws.toList).length = min us.size ws.size := by simp
    wp_walk using wpAny_loadPart' ha, wpAny_loadPart' hc, wpAny_forIn_list _ (fun left acc now => acc.1 = none ∧ now = ⟨hh, gg, dd, kk, oo⟩ ∧ ∃ i, left = (us.toList.zip ws.toList).drop i ∧ (∀ j, j < i → e j = true) ∧
      R (.ok (.ret (.bool (fl us ws e r i)))) ⟨hh, gg, dd, kk, oo⟩) _
    case turn =>
      rintro ⟨y, x⟩ left acc now ⟨ha', rfl, i, hz, pre, fin⟩
      have il : i < (us.toList.zip ws.toList).length := by
        rcases Nat.lt_or_ge i (us.toList.zip ws.toList).length with q | q
        · exact q
        · rw [List.drop_of_length_le q] at hz
          cases hz
      have im : i < min us.size ws.size := zl ▸ il
      have i1 : i < us.size := Nat.lt_of_lt_of_le im (Nat.min_le_left _ _)
      have i2 : i < ws.size := Nat.lt_of_lt_of_le im (Nat.min_le_right _ _)
      rw [List.drop_eq_getElem_cons il] at hz
      injection hz with hyx hl
      obtain rfl : y = us[i] := by have q := congrArg Prod.fst hyx; simpa using q
      obtain rfl : x = ws[i] := by have q := congrArg Prod.snd hyx; simpa using q
      rw [fl_step im] at fin
      refine wpAny_bind (F.eq i i1 i2 prog w _ _ ?_)
      cases ei : e i with
      | true =>
        rw [if_pos ei] at fin
        wp_walk
        refine ⟨rfl, rfl, i + 1, hl, fun j hj => ?_, fin⟩
        rcases Nat.lt_succ_iff_lt_or_eq.mp hj with q | q
        · exact pre j q
        · rw [q]; exact ei
      | false =>
        rw [if_neg (by rw [ei]; decide)] at fin
        rw [if_pos (by rfl)]
        refine wpAny_bind (wpAny_rule (wpAny_bind (F.lt i i1 i2 pre ei prog w _ _ ?_)))
        wp_walk
        exact ⟨_, rfl, fin⟩
    case fin =>
      rintro ⟨b1, b2⟩ now ⟨ha', rfl, i, hz, pre, fin⟩
      simp only at ha'
      subst ha'
      have ge : min us.size ws.size ≤ i := by
        rcases Nat.lt_or_ge i (us.toList.zip ws.toList).length with q | q
        · rw [List.drop_eq_getElem_cons q] at hz
          cases hz
        · exact zl ▸ q
      rw [fl_end ge] at fin
      wp_walk
      exact ⟨_, rfl, by simpa [Builtin.Tuple.tupleCompareSizes] using fin⟩
    case h =>
      exact ⟨rfl, rfl, 0, rfl, fun j hj => absurd hj (Nat.not_lt_zero _), fin⟩
theorem lst_loop1 (a c : Addr) (us ws : Array Value) (n m : Nat) (du dw : Option Addr) (su sw : Array (Option Value)) (e r : Nat → Bool) (k : Nat) :
    ∀ i : Nat, min us.size ws.size - i = k → (∀ j, j < i → e j = true) → Meets (Builtin.«list.__eq__.loop» ⟨[.ref a, .ref c, rawInt i, rawInt 0], []⟩)
      (fun A R s => s.heap.get? a = some { cls := .type "list", dict := du, data := .seq us n, slots := su } ∧ s.heap.get? c = some { cls := .type "list", dict := dw, data := .seq ws m, slots := sw } ∧
        Fst A s us ws e r ∧ R (.ok (.ret (.bool (fl us ws e r i)))) s) := by
  induction k with
  | zero =>
    intro i hk pre prog w A R s h
    obtain ⟨hh, gg, dd, kk, oo⟩ := s
    obtain ⟨ha, hc, F, fin⟩ := h
    rw [fl_end (by omega)] at fin
    wp_walk using wpAny_loadPart' ha, wpAny_loadPart' hc
    by_cases q : us.size ≤ i
    · have hn : us[((i : Nat) : Int).toNat]? = none := by simp; omega
      rw [hn]
      wp_walk using wpAny_loadPart' ha, wpAny_loadPart' hc
      exact fin
    · have il : i < us.size := by omega
      have e1 : us[((i : Nat) : Int).toNat]? = some us[i] := by simp [il]
      have e2 : ws[((i : Nat) : Int).toNat]? = none := by simp; omega
      rw [e1, e2]
      wp_walk using wpAny_loadPart' ha, wpAny_loadPart' hc
      exact fin
  | succ k ih =>
    intro i hk pre prog w A R s h
    obtain ⟨hh, gg, dd, kk, oo⟩ := s
    obtain ⟨ha, hc, F, fin⟩ := h
    wp_walk using wpAny_loadPart' ha, wpAny_loadPart' hc
    have im : i < min us.size ws.size := by omega
    have i1 : i < us.size := Nat.lt_of_lt_of_le im (Nat.min_le_left _ _)
    have i2 : i < ws.size := Nat.lt_of_lt_of_le im (Nat.min_le_right _ _)
    have e1 : us[((i : Nat) : Int).toNat]? = some us[i] := by simp [i1]
    have e2 : ws[((i : Nat) : Int).toNat]? = some ws[i] := by simp [i2]
    have up : ((i : Int) + 1) = ((i + 1 : Nat) : Int) := by push_cast; rfl
    rw [fl_step im] at fin
    rw [e1, e2]
    refine wpAny_bind (F.eq i i1 i2 prog w _ _ ?_)
    cases ei : e i with
    | true =>
      rw [if_pos ei] at fin
      wp_walk
      rw [up]
      exact ⟨plainId_quiet plain_eq_loop _, codeAny_builtin entry_eq_loop (by
        rw [Around.under_plainId plain_eq_loop _]
        exact ih (i + 1) (by omega) (fun j hj => (Nat.lt_succ_iff_lt_or_eq.mp hj).elim (pre j) fun q => by rw [q]; exact ei) prog w A R _ ⟨ha, hc, F, fin⟩)⟩
    | false =>
      rw [if_neg (by rw [ei]; decide)] at fin
      rw [if_neg (by decide)]
      refine wpAny_bind (listItems_at ha rfl (wpAny_bind (listItems_at hc rfl ?_)))
      rw [e1, e2]
      refine wpAny_bind (F.lt i i1 i2 pre ei prog w _ _ ?_)
      wp_walk
      exact fin
theorem lst_lt1 (a c : Addr) (us ws : Array Value) (n m : Nat) (du dw : Option Addr) (su sw : Array (Option Value)) (e r : Nat → Bool) :
    Meets (Builtin.«list.__lt__» ⟨[.ref a, .ref c], []⟩)
      (fun A R s => s.heap.get? a = some { cls := .type "list", dict := du, data := .seq us n, slots := su } ∧ s.heap.get? c = some { cls := .type "list", dict := dw, data := .seq ws m, slots := sw } ∧
        Fst A s us ws e r ∧ R (.ok (.ret (.bool (fl us ws e r 0)))) s) := by
  intro prog w A R s h
  obtain ⟨hh, gg, dd, kk, oo⟩ := s
  obtain ⟨ha, hc, F, fin⟩ := h
  have sub := AutoSeq1.sub_list_list
  wp_walk using wpAny_loadPart' ha, wpAny_loadPart' hc
  exact ⟨plainId_quiet plain_eq_loop _, codeAny_builtin entry_eq_loop (by
    rw [Around.under_plainId plain_eq_loop _]
    exact lst_loop1 a c us ws n m du dw su sw e r _ 0 rfl (fun j hj => absurd hj (Nat.not_lt_zero _)) prog w A R _ ⟨ha, hc, F, fin⟩)⟩
section
variable {A : Around} {s : Shared} {a c : Addr} {us ws : Array Value} {e r : Nat → Bool}
theorem rc_tups (h1 : s.heap.IsTuple a us) (h2 : s.heap.IsTuple c ws) (hu : A.units < cLine) (G : Fst A s us ws e r) : RcLt A s (.ref a) (.ref c) (fl us ws e r 0) := fun prog w E Q h => by
  obtain ⟨⟨k1, p1, q1, l1⟩, o1, z1, n1, y1⟩ := id h1
  obtain ⟨⟨k2, p2, q2, l2⟩, o2, z2, n2, y2⟩ := id h2
  simp only at z1 y1 z2 y2
  subst z1 y1 z2 y2
  exact richCompare_meets_room (op := .Lt) ⟨_, o1, rfl⟩ ⟨_, o2, rfl⟩ F.slot_tuple_lt F.entry_tuple_lt (F.args_tuple_lt_2 _ _) (tup_lt1 a c us ws n1 n2 p1 p2 l1 l2 e r) ⟨o1, o2, G, ⟨(fun x => nomatch x), h⟩⟩ hu
theorem rc_lsts (h1 : s.heap.IsList a us) (h2 : s.heap.IsList c ws) (hu : A.units < cLine) (G : Fst A s us ws e r) : RcLt A s (.ref a) (.ref c) (fl us ws e r 0) := fun prog w E Q h => by
  obtain ⟨⟨k1, p1, q1, l1⟩, o1, z1, n1, y1⟩ := id h1
  obtain ⟨⟨k2, p2, q2, l2⟩, o2, z2, n2, y2⟩ := id h2
  simp only at z1 y1 z2 y2
  subst z1 y1 z2 y2
  exact richCompare_meets_room (op := .Lt) ⟨_, o1, rfl⟩ ⟨_, o2, rfl⟩ F.slot_list_lt F.entry_list_lt (F.args_list_lt_2 _ _) (lst_lt1 a c us ws n1 n2 p1 p2 l1 l2 e r) ⟨o1, o2, G, ⟨(fun x => nomatch x), h⟩⟩ hu
end
end Dw


set_option Elab.async false
set_option linter.all false
set_option maxRecDepth 100000
set_option maxHeartbeats 4000000
/-! sorting such data -/
namespace Dw
open PySem PySem.W PySem.SeqAt PyProof.Rows
theorem plain_cons {x : PyData} {xs : List PyData} (h : PyData.plainAll (x :: xs) = true) : x.plain = true ∧ PyData.plainAll xs = true := by simpa [PyData.plainAll] using h
mutual
theorem rc_lk : ∀ (p q : PyData) (A : Around) (s : Shared) (u v : Value) (as bs : List Addr), Reads s.heap u p as → Reads s.heap v q bs → lk p q = true → p.plain = true → q.plain = true → p ≠ .none → A.units + min p.depth q.depth < cLine → RcLt A s u v (dataLt p q)
  | .list xs, q, A, s, u, v, as, bs, ru, rv, h, g1, g2, nn, hu => by
    cases q with
    | list ys =>
      rw [lk_lst] at h
      cases ru with
      | @list l1 o1 us n1 _ t1 h1 h2 h3 h4 =>
        cases rv with
        | @list l2 o2 ws n2 _ t2 k1 k2 k3 k4 =>
          have z1 : us.size = xs.length := by simpa using ReadsAll.length _ _ _ h4
          have z2 : ws.size = ys.length := by simpa using ReadsAll.length _ _ _ k4
          have both : Fst A s us ws (pairEq xs ys) (fun j => dataLt (xs.getD j .none) (ys.getD j .none)) := rcs_fst xs ys A s us ws _ _ h4 k4 h (by simpa [PyData.plain] using g1) (by simpa [PyData.plain] using g2) (room_in hu)
          have r := rc_lsts ⟨_, h1, h2, _, h3⟩ ⟨_, k1, k2, _, k3⟩ (room_here hu) both
          rw [fl, z1, z2, List.drop_zero, first_lk xs ys h] at r
          rw [dataLt_list]
          exact r
    | _ => simp [lk] at h
  | .tuple xs, q, A, s, u, v, as, bs, ru, rv, h, g1, g2, nn, hu => by
    cases q with
    | tuple ys =>
      rw [lk_tup] at h
      cases ru with
      | @tuple l1 o1 us n1 _ t1 h1 h2 h3 h4 =>
        cases rv with
        | @tuple l2 o2 ws n2 _ t2 k1 k2 k3 k4 =>
          have z1 : us.size = xs.length := by simpa using ReadsAll.length _ _ _ h4
          have z2 : ws.size = ys.length := by simpa using ReadsAll.length _ _ _ k4
          have both : Fst A s us ws (pairEq xs ys) (fun j => dataLt (xs.getD j .none) (ys.getD j .none)) := rcs_fst xs ys A s us ws _ _ h4 k4 h (by simpa [PyData.plain] using g1) (by simpa [PyData.plain] using g2) (room_in hu)
          have r := rc_tups ⟨_, h1, h2, _, h3⟩ ⟨_, k1, k2, _, k3⟩ (room_here hu) both
          rw [fl, z1, z2, List.drop_zero, first_lk xs ys h] at r
          rw [dataLt_tuple]
          exact r
    | _ => simp [lk] at h
  | .none, _, _, _, _, _, _, _, _, _, _, _, _, nn, _ => absurd rfl nn
  | .bool x, q, A, s, u, v, as, bs, ru, rv, h, _, _, nn, hu => (by cases q <;> first | (exfalso; simp [lk] at h; done) | exact rcLt_alike _ _ A s u v _ _ ru rv (by simp [alike]) nn hu)
  | .int x, q, A, s, u, v, as, bs, ru, rv, h, _, _, nn, hu => (by cases q <;> first | (exfalso; simp [lk] at h; done) | exact rcLt_alike _ _ A s u v _ _ ru rv (by simp [alike]) nn hu)
  | .str x, q, A, s, u, v, as, bs, ru, rv, h, _, _, nn, hu => (by cases q <;> first | (exfalso; simp [lk] at h; done) | exact rcLt_alike _ _ A s u v _ _ ru rv (by simp [alike]) nn hu)
  | .dict _, _, _, _, _, _, _, _, _, _, h, _, _, _, _ => (by simp [lk] at h)
theorem rcs_fst (xs ys : List PyData) (A : Around) (s : Shared) (us ws : Array Value) (as bs : List Addr) (ru : ReadsAll s.heap us.toList xs as) (rv : ReadsAll s.heap ws.toList ys bs) (h : lkAll xs ys = true) (g1 : PyData.plainAll xs = true) (g2 : PyData.plainAll ys = true)
    (hu : A.units + 1 + min (PyData.depthAll xs) (PyData.depthAll ys) < cLine) : Fst A s us ws (pairEq xs ys) (fun j => dataLt (xs.getD j .none) (ys.getD j .none)) := by
  refine ⟨fun j p q => ?_, fun j p q pre e => ?_⟩
  · have := eqAt_plainAll xs ys A.in1 s us.toList ws.toList _ _ ru rv g1 g2 hu j (by simpa using p) (by simpa using q)
    simpa using this
  · have := rcs_lk xs ys A.in1 s us.toList ws.toList _ _ ru rv h g1 g2 hu j (by simpa using p) (by simpa using q) pre e
    simpa using this
theorem rcs_lk : ∀ (xs ys : List PyData) (A : Around) (s : Shared) (us ws : List Value) (as bs : List Addr), ReadsAll s.heap us xs as → ReadsAll s.heap ws ys bs → lkAll xs ys = true → PyData.plainAll xs = true → PyData.plainAll ys = true →
    A.units + min (PyData.depthAll xs) (PyData.depthAll ys) < cLine → ∀ j (p : j < us.length) (q : j < ws.length), (∀ i, i < j → pairEq xs ys i = true) → pairEq xs ys j = false → RcLt A s us[j] ws[j] (dataLt (xs.getD j .none) (ys.getD j .none))
  | [], _, _, _, _, _, _, _, ru, _, _, _, _, _, j, p, _, _, _ => by cases ru; exact absurd p (Nat.not_lt_zero _)
  | _ :: _, [], _, _, _, _, _, _, _, rv, _, _, _, _, j, _, q, _, _ => by cases rv; exact absurd q (Nat.not_lt_zero _)
  | x :: xs, y :: ys, A, s, _, _, _, _, ru, rv, h, g1, g2, hu, j, p, q, pre, e => by
    cases ru with
    | cons r1 r2 =>
      cases rv with
      | cons t1 t2 =>
        obtain ⟨h1, h2⟩ := lk_cons h
        cases j with
        | zero => exact rc_lk x y A s _ _ _ _ r1 t1 h1 (plain_cons g1).1 (plain_cons g2).1 (ne_non h1 e) (room_head hu)
        | succ j =>
          have e0 : PyData.eqv x y = true := pre 0 (Nat.succ_pos _)
          exact rcs_lk xs ys A s _ _ _ _ r2 t2 (h2 e0) (plain_cons g1).2 (plain_cons g2).2 (room_tail hu) j (Nat.lt_of_succ_lt_succ p) (Nat.lt_of_succ_lt_succ q) (fun i hi => pre (i + 1) (Nat.succ_lt_succ hi)) e
end
/-- what may stand at a tuple's head -/
def hd : PyData → Bool
  | .bool _ => true
  | .int _ => true
  | .str _ => true
  | .tuple _ => true
  | _ => false
section
variable {prog : Program} {w : World} {A : Around} {E : Value → Shared → Prop} {s : Shared}
theorem one_lk {f : Bool} {p q : PyData} {u v : Value} {as bs : List Addr} {Q : Bool → Shared → Prop} (hf : f = true → hd p = true ∧ ∀ xs, p ≠ .tuple xs) (ru : Reads s.heap u p as) (rv : Reads s.heap v q bs) (h : lk p q = true) (g1 : p.plain = true) (g2 : q.plain = true) (nn : p ≠ .none)
    (hu : A.units + min p.depth q.depth < cLine) (hq : Q (dataLt p q) s) : wpAny (model prog w) A (oneLt' f u v) Q E s := by
  cases f with
  | false =>
    rw [oneLt'_eq, if_neg (by decide)]
    exact wpAny_bind (rc_lk p q A s u v as bs ru rv h g1 g2 nn hu prog w E _ (wpAny_truthy_bool hq))
  | true =>
    obtain ⟨k1, k2⟩ := hf rfl
    have a : alike p q = true := by
      cases p with
      | tuple xs => exact absurd rfl (k2 xs)
      | bool _ => cases q <;> first | (exfalso; simp [lk] at h; done) | simp [alike]
      | int _ => cases q <;> first | (exfalso; simp [lk] at h; done) | simp [alike]
      | str _ => cases q <;> first | (exfalso; simp [lk] at h; done) | simp [alike]
      | none => cases k1
      | list _ => cases k1
      | dict _ => cases k1
    exact oneLt_alike (fun _ => k2) ru rv a nn hu hq
theorem kat_lk {b fin : Bool} {Q : Bool → Shared → Prop} : ∀ (xs ys : List PyData) (i : Nat) (us ws : List Value) (as bs : List Addr), ReadsAll s.heap us xs as → ReadsAll s.heap ws ys bs → lkAll xs ys = true → PyData.plainAll xs = true → PyData.plainAll ys = true →
    A.units + min (PyData.depthAll xs) (PyData.depthAll ys) < cLine → (b = true → i = 0 → ∀ x r, xs = x :: r → hd x = true ∧ ∀ t, x ≠ .tuple t) → fin = decide (xs.length < ys.length) → Q (lx (keyToksAll xs) (keyToksAll ys)) s → KatLex prog w A b fin Q (us.zip ws) i s
  | [], [], i, _, _, _, _, ru, rv, _, _, _, hu, _, hf, hq => katLex_alike [] [] i _ _ _ _ ru rv (by simp [alikeAll]) hu (fun _ _ x r t z => nomatch z) hf hq
  | [], y :: ys, i, _, _, _, _, ru, rv, _, _, _, hu, _, hf, hq => katLex_alike [] (y :: ys) i _ _ _ _ ru rv (by simp [alikeAll]) hu (fun _ _ x r t z => nomatch z) hf hq
  | x :: xs, [], i, _, _, _, _, ru, rv, _, _, _, hu, hb, hf, hq => katLex_alike (x :: xs) [] i _ _ _ _ ru rv (by simp [alikeAll]) hu (fun c d y r t z => (hb c d y r z).2 t) hf hq
  | x :: xs, y :: ys, i, _, _, _, _, ru, rv, h, g1, g2, hu, hb, hf, hq => by
    obtain ⟨h1, h2⟩ := lk_cons h
    have hf' : fin = decide (xs.length < ys.length) := by
      rw [hf]
      exact decide_eq_decide.mpr (by simp only [List.length_cons]; omega)
    cases ru with
    | cons r1 r2 =>
      cases rv with
      | cons t1 t2 =>
        rw [List.zip_cons_cons]
        refine kat_cons (eqAt_plain x y A s _ _ _ _ r1 t1 (plain_cons g1).1 (plain_cons g2).1 (room_head hu) prog w _ _ ?_)
        cases e : PyData.eqv x y with
        | true =>
          rw [lt_same h1 e] at hq
          exact kat_yes (kat_lk xs ys (i + 1) _ _ _ _ r2 t2 (h2 e) (plain_cons g1).2 (plain_cons g2).2 (room_tail hu) (fun _ z => absurd z (Nat.succ_ne_zero i)) hf' hq)
        | false =>
          rw [lt_diff h1 e] at hq
          refine kat_no (one_lk (fun z => ?_) r1 t1 h1 (plain_cons g1).1 (plain_cons g2).1 (ne_non h1 e) (room_head hu) hq)
          rw [Bool.and_eq_true] at z
          exact hb z.1 (by simpa using z.2) x xs rfl
/-- every two of them can be compared; no dict lies within -/
structure AllLk (ds : List PyData) : Prop where
  lk : ∀ d ∈ ds, ∀ d' ∈ ds, Dw.lk d d' = true
  plain : ∀ d ∈ ds, d.plain = true
/-- tuples; if there are two, not empty ones -/
structure SortT (ds : List PyData) : Prop where
  tup : ∀ d ∈ ds, ∃ xs, d = .tuple xs
  head : 2 ≤ ds.length → ∀ d ∈ ds, ∃ x r, d = .tuple (x :: r) ∧ hd x = true
theorem kind_some {h : Heap} {ds : List PyData} (hal : AllLk ds) {v : Value} {d : PyData} {as : List Addr} (hd : d ∈ ds) (r : Reads h v d as) : (dataKind h ds).keyOf v = some (keyToks d) := by
  have q : ∃ d, d ∈ ds ∧ ∃ as, Reads h v d as := ⟨d, hd, as, r⟩
  cases e : (dataKind h ds).keyOf v with
  | none =>
    have e' : (dataKind h ds).keyOf v = some (keyToks q.choose) := dif_pos q
    rw [e'] at e
    cases e
  | some k =>
    obtain ⟨d2, as2, m2, r2, rfl⟩ := dataKind_inv e
    exact congrArg (fun z => some (keyToks z)) (plain_unique d2 d v _ _ (hal.plain d2 m2) r2 r)
theorem type_lk {x y : PyData} (h : lk x y = true) : dataType x = dataType y := by
  cases x <;> cases y <;> first | rfl | (exfalso; simp [lk] at h; done)
theorem sorts_lk {vs : List Value} {ds : List PyData} (e : EachIs (fun v d => ∃ as, Reads s.heap v d as) vs ds) (hal : AllLk ds) (hk : SortT ds) (hu : ∀ d, d ∈ ds → A.units + d.depth < cLine) : SortsAt prog w A s (dataKind s.heap ds) vs := by
  have room : ∀ {d d' : PyData}, d ∈ ds → A.units + min d.depth d'.depth < cLine := fun {d d'} hd => Nat.lt_of_le_of_lt (Nat.add_le_add_left (Nat.min_le_left _ _) _) (hu d hd)
  have lt_ : ∀ b : Bool, (b = true → ∀ x r, PyData.tuple (x :: r) ∈ ds → hd x = true ∧ ∀ t, x ≠ .tuple t) → H.LtAt prog w A s (dataKind s.heap ds) (tuples' b) := by
    intro b hb E x y p q Q hp hq hh
    obtain ⟨d, as, hd1, ra, rfl⟩ := dataKind_inv hp
    obtain ⟨d', as', hd2, rb, rfl⟩ := dataKind_inv hq
    have l := hal.lk d hd1 d' hd2
    have g1 := hal.plain d hd1
    have g2 := hal.plain d' hd2
    have rm := room (d' := d') hd1
    obtain ⟨xs, rfl⟩ := hk.tup d hd1
    obtain ⟨ys, rfl⟩ := hk.tup d' hd2
    have hh' : Q (dataLt (.tuple xs) (.tuple ys)) s := hh
    rw [dataLt_tuple] at hh'
    rw [lk_tup] at l
    cases ra with
    | @tuple l1 o1 us n1 _ _ h1 h2 h3 h4 =>
      cases rb with
      | @tuple l2 o2 ws n2 _ _ k1 k2 k3 k4 =>
        have z1 : us.size = xs.length := by simpa using ReadsAll.length _ _ _ h4
        have z2 : ws.size = ys.length := by simpa using ReadsAll.length _ _ _ k4
        have ri := room_in rm
        exact kat_lt h1 h3 k1 k3 (kat_lk xs ys 0 _ _ _ _ h4 k4 l (by simpa [PyData.plain] using g1) (by simpa [PyData.plain] using g2) (by omega) (fun c _ x r z => hb c x r (by rw [← z]; exact hd1)) (by rw [z1, z2]) hh')
  refine ⟨fun v hv => ?_, ?_⟩
  · obtain ⟨d, hd, as, r⟩ := e.left v hv
    exact ⟨_, kind_some hal hd r⟩
  · by_cases two : 2 ≤ ds.length
    · have hh := hk.head two
      obtain ⟨d0, hd0⟩ : ∃ d, d ∈ ds := by
        cases ds with
        | nil => exact absurd two (by simp)
        | cons d _ => exact ⟨d, List.mem_cons_self⟩
      obtain ⟨x0, r0, e0, _⟩ := hh d0 hd0
      have same : ∀ x r, PyData.tuple (x :: r) ∈ ds → dataType x = dataType x0 := fun x r hm => by
        have q := hal.lk _ hm d0 hd0
        rw [e0, lk_tup] at q
        exact type_lk (lk_cons q).1
      refine ⟨tuples' (dataType x0 != Value.type "tuple"), lt_ _ fun hb x r hm => ?_, fun h2 E Q hq => ?_⟩
      · obtain ⟨x', r', e', hx'⟩ := hh _ hm
        cases e'
        refine ⟨hx', fun t => ?_⟩
        rw [← same x r hm] at hb
        exact dataType_tuple hb t
      · obtain ⟨fs, t1, t2, t3⟩ := each_katTups e fun d hd => let ⟨x, r, q, _⟩ := hh d hd; ⟨x, r, q⟩
        refine kat_kind (T := dataType x0) t1 (by omega) (fun f hf => ?_) (beq_self_eq_true _) hq
        obtain ⟨x, r, as, m1, m2⟩ := t3 f hf
        rw [← same x r m1]
        exact looks_reads m2
    · refine ⟨tuples' false, lt_ false fun z => absurd z (by decide), fun h2 => ?_⟩
      have := e.length
      omega
end
end Dw


set_option Elab.async false
set_option linter.all false
set_option maxRecDepth 100000
set_option maxHeartbeats 4000000
/-! sorted(d, key=f) of a dict whose keys are tuples; sorted(xs, key=f) of a list -/
namespace Sk
open PySem PySem.Spec PyProof.Rows PySem.W L2 Nd
section
variable {X : Cx} {k : Nat} {kf : Addr} {fd : FuncData} {x0 : Str} {sp : Sp}
/-- what is asked of the keys: ds, data that are alike, each what the def gives of its item -/
structure Keyed' (X : Cx) (sp : Sp) (H : Hp) (xs : List V) (ds : List PyData) : Prop where
  len : ds.length = xs.length
  alike : AllAlike ds
  srt : Sortable ds
  dep : ∀ d ∈ ds, d.depth ≤ 50
  turn : ∀ (i : Nat) x d, xs[i]? = some x → ds[i]? = some d → ∀ H', Same H H' → sp [x] H' (fun v H'' => Same H' H'' ∧ Dp X.K H'' v d) E0
/-- a list of our own, untracked, is sorted in place and is from then on known -/
theorem own_sort {pins : List (Addr × Obj)} {σ : L2.St} {H : Hp} {s : Shared} {us : List Value} {xs : List V} {ds : List PyData} {Q : VK} {E' : Value → Shared → Prop} (I : Inv X pins σ H s) (F : FnOk X.prog X.w X.K X.mg X.base CX0 k kf fd [x0] sp) (hr : Room (k + 2) X.A) (hb : Binds X.K fd [x0] [])
    (rv : Vals xs us) (hz : xs.length ≤ sizeLine) (kd : Keyed' X sp H xs ds) (done : ∀ p H', Same H H' → H' p = none → Q (.ref p) (upd H' p (.lst (sortBy xs ds)))) :
    wpAny (model X.prog X.w) X.A.in1.in1 (ksk_tree s.heap.objs.size (.ref kf) false) (fun f s' => f = .done (.ret .none) ∧ EP X pins σ Q (.ref s.heap.objs.size) s') E' { s with heap := s.heap.push (seqObj "list" us.toArray 0) } := by
  have fr := I.hok.fresh (Nat.le_refl s.heap.objs.size)
  have I2 : Inv X pins σ H { s with heap := s.heap.push (seqObj "list" us.toArray 0) } := I.turnedL (ch := []) (t' := s.toks) (fun b o _ q => Heap.get?_push_of_some _ q) fun b hb => nomatch hb
  have fa : FpOk X pins H s.heap.objs.size := I.fpOk (Nat.le_refl _) fr
  refine key_run (A := X.A.in1.in1) I2 I.ok.frames F hr.in1.in1 hb (Heap.get?_push_size _ rfl) fa rv kd.len hz kd.alike kd.srt (fun d hd => ?_) kd.turn fun s' H' up na J => ⟨rfl, .ref s.heap.objs.size, _, J, rfl, done _ H' up na⟩
  have h1 := hr.un
  have h2 := kd.dep d hd
  show X.A.units + 2 + d.depth < cLine
  omega
theorem cr_sortKeyD (hc : X.calm = true) (F : FnOk X.prog X.w X.K X.mg X.base CX0 k kf fd [x0] sp) (hr : Room (k + 2) X.A) (hb : Binds X.K fd [x0] []) : CallRK X (.builtin "sorted") [Str.ofString "key"]
    (fun vs zs H Q => ∃ (d : Addr) (kvs : List (List Key × V)) (ds : List PyData), vs = [.ref d] ∧ zs = [.ref kf] ∧ Rd H d (.dT kvs) ∧ ∀ bs, IsKeys H kvs bs → Keyed' X sp H (bs.map V.ref) ds ∧ ∀ p H', Same H H' → H' p = none → Q (.ref p) (upd H' p (.lst (sortBy (bs.map V.ref) ds)))) := by
  intro pins s σ H vs zs us ws Q I rv rz h
  obtain ⟨d, kvs, ds, rfl, rfl, hd, h⟩ := h
  obtain ⟨u, rfl, rx⟩ := vals1 rv
  cases rx
  obtain ⟨u2, rfl, ry⟩ := vals1 rz
  cases ry
  obtain ⟨z, hs, ks, pr, o, es, ep, ho, hx, hdt, he, hn⟩ := (show ObjOk X.prog X.w H s.heap d (.dT kvs) from hd.ok I.hok)
  have l1 : es.size = ks.length := size_of_entries he
  have l2 : kvs.length = ks.length := Paired.length pr
  obtain ⟨kd, done⟩ := h _ (isKeys_of pr)
  refine call_function_entry_kw kind_sorted plain_sorted entry_sorted (ksk_s1 _ _) ?_
  unfold Builtin.«sorted»
  refine wpAny_bind (m := checkCount "sorted" 1 1 _) (wpAny_pure (wpAny_bind (kdu_collect (A := X.A.in1) (kdl_raw hs hx hdt) (I.ok.hd hc) ho (by omega) fun h' tk acc kp it => ?_)))
  have ea : acc.toList = ks.map fun x => Value.ref x.2.1 := by
    refine List.ext_getElem (by rw [Array.length_toList, it.1, List.length_map]; exact l1) fun j h1 h2 => ?_
    obtain ⟨en, hen, hv⟩ := it.2 j _ (by rw [← Array.getElem?_toList]; exact List.getElem?_eq_getElem h1)
    rw [hv, List.getElem_map]
    have qe := entry_at he j
    rw [hen, List.getElem?_eq_getElem (by rw [List.length_map] at h2; exact h2)] at qe
    rw [Option.some.inj qe]
    rfl
  have I2 : Inv X pins σ H { s with heap := h', toks := tk } := I.turnedL (ch := []) (t' := tk) (fun b o _ q => kp b o q) fun b hb => nomatch hb
  have rvs : Vals ((ks.map fun x => x.2.1).map V.ref) acc.toList := by
    rw [ea, show (ks.map fun x => Value.ref x.2.1) = (ks.map fun x => x.2.1).map Value.ref by rw [List.map_map]; rfl]
    exact vals_refs _
  have sz : ((ks.map fun x => x.2.1).map V.ref).length ≤ sizeLine := by rw [List.length_map, List.length_map]; omega
  refine wpAny_bind (wpAny_newList (wpAny_bind (wpAny_holding (wpAny_call_entry_kw slot_list_sort ⟨_, Heap.get?_push_size _ rfl, rfl⟩ entry_list_sort ?_ (ksk_l1 _ _)))) (by rw [← rvs.length]; exact sz))
  show wpAny (model X.prog X.w) X.A.in1.in1 (Builtin.«list.sort» ⟨[.ref h'.objs.size], [(Str.ofString "key", .ref kf)]⟩) _ _ _
  rw [ksk_t1]
  refine wpAny_mono (own_sort (s := { s with heap := h', toks := tk }) (us := acc.toList) (Q := Q) I2 F hr hb rvs sz kd done) (fun f s2 hq => ?_) fun _ _ z => z
  obtain ⟨rfl, hq⟩ := hq
  exact ⟨_, rfl, wpAny_pure ⟨_, rfl, hq⟩⟩
theorem cr_sortKeyL (F : FnOk X.prog X.w X.K X.mg X.base CX0 k kf fd [x0] sp) (hr : Room (k + 2) X.A) (hb : Binds X.K fd [x0] []) : CallRK X (.builtin "sorted") [Str.ofString "key"]
    (fun vs zs H Q => ∃ (a : Addr) (xs : List V) (ds : List PyData), vs = [.ref a] ∧ zs = [.ref kf] ∧ SqL X.K H a xs ∧ Keyed' X sp H xs ds ∧ ∀ p H', Same H H' → H' p = none → Q (.ref p) (upd H' p (.lst (sortBy xs ds)))) := by
  intro pins s σ H vs zs us ws Q I rv rz h
  obtain ⟨a, xs, ds, rfl, rfl, hs, kd, done⟩ := h
  obtain ⟨u, rfl, rx⟩ := vals1 rv
  cases rx
  obtain ⟨u2, rfl, ry⟩ := vals1 rz
  cases ry
  obtain ⟨its, rvs, hl, hz⟩ := I.list hs
  refine sorted_of_sort hl.isList (by rw [← rvs.length]; exact hz) (ksk_s1 _ _) (fun _ => ksk_l1 _ _) fun E' => ?_
  rw [show ([Str.ofString "key"].zip [Value.ref kf]) = [(Str.ofString "key", Value.ref kf)] from rfl, ksk_t1]
  have fr : H (s.heap.objs.size + 1) = none := I.hok.fresh (Nat.le_succ _)
  have I2 : Inv X pins σ H { s with heap := copyHeap s.heap its } := I.turnedL (ch := []) (t' := s.toks) (fun b o _ q => copyHeap_old q) fun b hb => nomatch hb
  have fa : FpOk X pins H (s.heap.objs.size + 1) := I.fpOk (Nat.le_succ _) fr
  refine key_run (A := X.A.in1.in1) I2 I.ok.frames F hr.in1.in1 hb (copyHeap_at s.heap its) fa rvs kd.len hz kd.alike kd.srt (fun d hd => ?_) kd.turn fun s' H' up na J => ⟨rfl, .ref (s.heap.objs.size + 1), _, J, rfl, done _ H' up na⟩
  have h1 := hr.un
  have h2 := kd.dep d hd
  show X.A.units + 2 + d.depth < cLine
  omega
end
end Sk


set_option Elab.async false
set_option linter.all false
set_option maxRecDepth 100000
set_option maxHeartbeats 4000000
/-! sorted(.., key=f) where f's keys can be compared up to the first place that differs -/
namespace Sk
open PySem PySem.Spec PyProof.Rows PySem.W L2 Nd
section
variable {X : Cx} {pins : List (Addr × Obj)} {σ : L2.St} {H : Hp} {s : Shared} {CX' : CXT} {k : Nat} {kf a : Addr} {fd : FuncData} {x0 : Str} {sp : Sp} {A : Around} {us : List Value} {xs : List V} {ds : List PyData}
/-- the list's items by the keys that the def gives -/
theorem key_runG {n : Nat} {P : PySem.Fin → Shared → Prop} {E' : Value → Shared → Prop} (I : Inv X pins σ H s) (hfr : A.frames = some X.stack) (F : FnOk X.prog X.w X.K X.mg X.base CX0 k kf fd [x0] sp) (hr : Room k A) (hb : Binds X.K fd [x0] [])
    (ho : s.heap.get? a = some (seqObj "list" us.toArray n)) (fa : FpOk X pins H a) (rv : Vals xs us) (hlen : ds.length = xs.length) (hz : xs.length ≤ sizeLine) (hS : ∀ (s' : Shared) (us' : List Value), EachIs (fun v d => ∃ as, Reads s'.heap v d as) us' ds → SortsAt X.prog X.w A s' (dataKind s'.heap ds) us' ∧ EachIs (fun v d => (dataKind s'.heap ds).keyOf v = some (keyToks d)) us' ds) 
    (turn : ∀ (i : Nat) x d, xs[i]? = some x → ds[i]? = some d → ∀ H', Same H H' → sp [x] H' (fun v H'' => Same H' H'' ∧ Dp X.K H'' v d) E0)
    (done : ∀ s' H', Same H H' → H' a = none → Inv X pins σ (upd H' a (.lst (sortBy xs ds))) s' → P (.done (.ret .none)) s') :
    wpAny (model X.prog X.w) A (ksk_tree a (.ref kf) false) P E' s := by
  have ul : us.length = xs.length := rv.length.symm
  have hz' : us.length ≤ sizeLine := by omega
  have al : a < s.heap.objs.size := Heap.lt_size ho
  have kept := Heap.SameBut.update s.heap a (Obj.mapSeq fun _ => (#[] : Array Value))
  obtain ⟨e1, ho1⟩ : ∃ e1, (s.heap.update a (Obj.mapSeq fun _ => (#[] : Array Value))).get? a = some (seqObj "list" #[] e1) := ⟨_, get?_update_seq ho _⟩
  have sz1 : (s.heap.update a (Obj.mapSeq fun _ => (#[] : Array Value))).objs.size = s.heap.objs.size := Heap.size_update ..
  unfold ksk_tree
  refine wpAny_bind (listItems_at ho rfl (wpAny_bind (listUpdate_at ho rfl ?_ (by rw [List.size_toArray]; omega) (Nat.zero_le _))))
  generalize s.heap.update a (Obj.mapSeq fun _ => (#[] : Array Value)) = g1 at kept ho1 sz1 ⊢
  refine wpAny_bind (seqEpoch_at ho1 rfl (wpAny_bind (wpAny_newTuple (wpAny_bind (wpAny_newList (wpAny_holding ?_) (Nat.zero_le _))) hz')))
  have c_ : (g1.push (seqObj "tuple" us.toArray 0)).objs.size = s.heap.objs.size + 1 := by rw [size_push', sz1]
  have up2 : ∀ b o, g1.get? b = some o → ((g1.push (seqObj "tuple" us.toArray 0)).push (seqObj "list" #[] 0)).get? b = some o := fun b o q => Heap.get?_push_of_some _ (Heap.get?_push_of_some _ q)
  have atc : ((g1.push (seqObj "tuple" us.toArray 0)).push (seqObj "list" #[] 0)).get? (g1.push (seqObj "tuple" us.toArray 0)).objs.size = some (seqObj "list" #[] 0) := Heap.get?_push_size _ rfl
  have sz3 : s.heap.objs.size ≤ (g1.push (seqObj "tuple" us.toArray 0)).objs.size := by omega
  generalize hc : (g1.push (seqObj "tuple" us.toArray 0)).objs.size = c at c_ atc sz3
  generalize hg : (g1.push (seqObj "tuple" us.toArray 0)).push (seqObj "list" #[] 0) = g3 at up2 atc
  have I3 : Inv X pins σ H { s with heap := g3 } := I.turnedL (ch := [a]) (t' := s.toks) (fun b o nb q => up2 b o ((kept.2 b fun e => nb (by simp [e])).trans q)) fun b hb => by rw [List.mem_singleton.mp hb]; exact fa
  have fc : FpOk X pins H c := I.fpOk sz3 (I.hok.fresh sz3)
  have ca : c ≠ a := Nat.ne_of_gt (by rw [c_]; exact Nat.lt_succ_of_lt al)
  show wpAny (model X.prog X.w) A (ksk_rest a (.ref kf) false us.toArray e1 (.ref _)) P E' { s with heap := _ }
  clear hc hg
  unfold ksk_rest
  refine wpAny_bind (wpAny_rule ?_)
  rw [← Array.forIn_toList]
  refine wpAny_bind (ksk_fold (fun j s' => ∃ H' kA e, Mid X pins σ H a c e1 (ds.take j) H' s' kA e) us 0 _ ⟨H, #[], 0, I3, fun _ _ q => q, fa, fc, up2 _ _ ho1, atc, [], .nil, by rw [List.take_zero]; exact .nil⟩ ?_ ?_)
  · rintro j u s' hj ⟨H', kA, e, M⟩
    rw [Nat.zero_add] at M ⊢
    have jl : j < us.length := (List.getElem?_eq_some_iff.mp hj).1
    obtain ⟨d, hd⟩ : ∃ d, ds[j]? = some d := ⟨_, List.getElem?_eq_getElem (by omega)⟩
    obtain ⟨x, hx⟩ : ∃ x, xs[j]? = some x := ⟨_, List.getElem?_eq_getElem (by omega)⟩
    obtain ⟨u', hu', rx⟩ := rv.get hx
    rw [hj] at hu'
    cases hu'
    have run : wpAny (model X.prog X.w) A (call (.ref kf) [u]) (fun v s'' => CE X.stack X.prog X.w H' s' (fun v H'' => Same H' H'' ∧ Dp X.K H'' v d) v s'') (fun _ _ => False) s' := by
      refine wpAny_call (codeAny_mono (F.run A X.stack s' H' ⟨[u], []⟩ [u] [x] _ E0 hr { M.inv.env0 with frames := hfr } (hb s' [u] M.inv.kIn rfl) (.cons rx .nil) (turn j x d hx hd H' M.up)) fun r s'' hq => ?_)
      cases r with
      | error _ => exact hq.elim
      | ok fl => cases fl with
        | ret _ => exact hq
        | next => exact hq.elim
        | brk => exact hq.elim
        | cont => exact hq.elim
    refine wpAny_bind (wpAny_attempt (wpAny_mono run (fun kv s2 he => ?_) fun _ _ z => z.elim))
    obtain ⟨vk, H2, os, bare, un, hok, rk, s2H, dk⟩ := he
    have off : ∀ b, FpOk X pins H' b → b ∉ frs X.stack := fun b fb hm => by
      rcases List.mem_cons.mp (M.inv.stkSub b hm) with z | z
      · exact fb.2.1 z
      · exact fb.2.2.1 z
    have at2 := un.keep _ _ M.at_ M.fa.1 (off _ M.fa) (by simp)
    have ky2 := un.keep _ _ M.keys M.fc.1 (off _ M.fc) (by simp)
    have na2 := un.free _ _ M.at_ M.fa.1 (by simp)
    have nc2 := un.free _ _ M.keys M.fc.1 (by simp)
    obtain ⟨g, gn, dr, tk, os'⟩ := s2
    obtain rfl : os' = s'.os := os
    have I2 : Inv X pins σ H2 ⟨g, gn, dr, tk, s'.os⟩ := M.inv.call (h' := g) (g' := gn) (d' := dr) (t' := tk) (ch := []) un hok bare (fun b z => absurd z (by simp))
    obtain ⟨ks, rks, dks⟩ := M.told
    have kl : kA.size ≤ us.length := by
      have e1 := rks.length
      have e2 := dpl dks
      rw [List.length_take] at e2
      have e3 : kA.toList.length = kA.size := Array.length_toList
      omega
    have kept2 := Heap.SameBut.update g c (Obj.mapSeq (·.push kv))
    obtain ⟨e2, he2⟩ : ∃ e2, (g.update c (Obj.mapSeq (·.push kv))).get? c = some (seqObj "list" (kA.push kv) e2) := ⟨_, get?_update_seq ky2 (·.push kv)⟩
    refine wpAny_bind (listUpdate_at ky2 rfl (wpAny_pure ⟨rfl, H2, kA.push kv, e2, ?_, M.up.trans s2H, fpOn M.fa na2, fpOn M.fc nc2, (kept2.2 a (Ne.symm ca)).trans at2, he2, ks ++ [vk], ?_, ?_⟩) (by omega) (by rw [Array.size_push]; omega))
    · exact I2.turnedL (ch := [c]) (t' := tk) (fun b o nb q => (kept2.2 b fun e => nb (by simp [e])).trans q) fun b hb' => by rw [List.mem_singleton.mp hb']; exact fpOn M.fc nc2
    · rw [Array.toList_push]
      exact rks.append (.cons rk .nil)
    · rw [List.take_succ, hd]
      exact dpAll_snoc (dpAll_same s2H dks) dk
  · rintro s' ⟨H', kA, e, M⟩
    rw [Nat.zero_add, List.take_of_length_le (by omega)] at M
    obtain ⟨ks, rks, dks⟩ := M.told
    have rd := reads_each M.inv dks rks
    have kl : kA.size = us.length := by
      have e1 := rks.length
      have e2 := dpl dks
      have e3 : kA.toList.length = kA.size := Array.length_toList
      omega
    obtain ⟨h1, r1, r2⟩ := L2.restrict s'.heap fun b => decide (b ≠ c)
    have kp : KeepsBut a h1 s'.heap := fun b o _ q => by
      by_cases e : b = c
      · rw [r2 b (by simp [e])] at q; cases q
      · rw [← r1 b (by simp [e])]; exact q
    have bs : (xs.zip ds).map (·.2) = ds := List.map_snd_zip (by omega)
    refine wpAny_bind (listItems_at M.keys rfl ?_)
    refine keyH_end (κ := dataKind s'.heap ds) kp (r2 c (by simp)) M.keys M.at_ ca (hS s' kA.toList rd).1 kl hz' fun h3 tk3 n3 k3 at3 => ?_
    have ek : EachIs (fun v (b : V × PyData) => (dataKind s'.heap ds).keyOf v = some (keyToks b.2)) kA.toList (xs.zip ds) := each_of_map (α := Value) (R := fun v d => (dataKind s'.heap ds).keyOf v = some (keyToks d)) (fun b : V × PyData => b.2) (by rw [bs]; exact (hS s' kA.toList rd).2)
    have out := vals_each (sortVals_each (κ := dataKind s'.heap ds) (rev := false) (fun b : V × PyData => keyToks b.2) (each_pairs ds rv hlen) ek)
    refine done _ H' M.up M.fa.1 (track M.inv M.fa M.fc (fun b o na nc q => k3 b o na ((r1 b (by simp [nc])).trans q)) ?_ out at3)
    show (sortBy xs ds).length ≤ sizeLine
    rw [sortBy_len hlen]; exact hz
end
section
variable {X : Cx} {k : Nat} {kf : Addr} {fd : FuncData} {x0 : Str} {sp : Sp}
/-- what is asked of the keys: ds, data that are alike, each what the def gives of its item -/
structure KeyedW (X : Cx) (sp : Sp) (H : Hp) (xs : List V) (ds : List PyData) : Prop where
  len : ds.length = xs.length
  alk : Dw.AllLk ds
  srt : Dw.SortT ds
  dep : ∀ d ∈ ds, d.depth ≤ 50
  turn : ∀ (i : Nat) x d, xs[i]? = some x → ds[i]? = some d → ∀ H', Same H H' → sp [x] H' (fun v H'' => Same H' H'' ∧ Dp X.K H'' v d) E0
theorem KeyedW.sorts {A : Around} {H : Hp} {xs : List V} {ds : List PyData} (kd : KeyedW X sp H xs ds) (hu : ∀ d ∈ ds, A.units + d.depth < cLine) (s' : Shared) (us' : List Value) (e : EachIs (fun v d => ∃ as, Reads s'.heap v d as) us' ds) :
    SortsAt X.prog X.w A s' (dataKind s'.heap ds) us' ∧ EachIs (fun v d => (dataKind s'.heap ds).keyOf v = some (keyToks d)) us' ds :=
  ⟨Dw.sorts_lk e kd.alk kd.srt hu, (each_mem e).mono fun _ _ ⟨⟨_, r⟩, hd⟩ => Dw.kind_some kd.alk hd r⟩
/-- a list of our own, untracked, is sorted in place and is from then on known -/
theorem own_sortW {pins : List (Addr × Obj)} {σ : L2.St} {H : Hp} {s : Shared} {us : List Value} {xs : List V} {ds : List PyData} {Q : VK} {E' : Value → Shared → Prop} (I : Inv X pins σ H s) (F : FnOk X.prog X.w X.K X.mg X.base CX0 k kf fd [x0] sp) (hr : Room (k + 2) X.A) (hb : Binds X.K fd [x0] [])
    (rv : Vals xs us) (hz : xs.length ≤ sizeLine) (kd : KeyedW X sp H xs ds) (done : ∀ p H', Same H H' → H' p = none → Q (.ref p) (upd H' p (.lst (sortBy xs ds)))) :
    wpAny (model X.prog X.w) X.A.in1.in1 (ksk_tree s.heap.objs.size (.ref kf) false) (fun f s' => f = .done (.ret .none) ∧ EP X pins σ Q (.ref s.heap.objs.size) s') E' { s with heap := s.heap.push (seqObj "list" us.toArray 0) } := by
  have fr := I.hok.fresh (Nat.le_refl s.heap.objs.size)
  have I2 : Inv X pins σ H { s with heap := s.heap.push (seqObj "list" us.toArray 0) } := I.turnedL (ch := []) (t' := s.toks) (fun b o _ q => Heap.get?_push_of_some _ q) fun b hb => nomatch hb
  have fa : FpOk X pins H s.heap.objs.size := I.fpOk (Nat.le_refl _) fr
  refine key_runG (A := X.A.in1.in1) I2 I.ok.frames F hr.in1.in1 hb (Heap.get?_push_size _ rfl) fa rv kd.len hz (kd.sorts fun d hd => ?_) kd.turn fun s' H' up na J => ⟨rfl, .ref s.heap.objs.size, _, J, rfl, done _ H' up na⟩
  have h1 := hr.un
  have h2 := kd.dep d hd
  show X.A.units + 2 + d.depth < cLine
  omega
theorem cr_sortKeyDW (hc : X.calm = true) (F : FnOk X.prog X.w X.K X.mg X.base CX0 k kf fd [x0] sp) (hr : Room (k + 2) X.A) (hb : Binds X.K fd [x0] []) : CallRK X (.builtin "sorted") [Str.ofString "key"]
    (fun vs zs H Q => ∃ (d : Addr) (kvs : List (List Key × V)) (ds : List PyData), vs = [.ref d] ∧ zs = [.ref kf] ∧ Rd H d (.dT kvs) ∧ ∀ bs, IsKeys H kvs bs → KeyedW X sp H (bs.map V.ref) ds ∧ ∀ p H', Same H H' → H' p = none → Q (.ref p) (upd H' p (.lst (sortBy (bs.map V.ref) ds)))) := by
  intro pins s σ H vs zs us ws Q I rv rz h
  obtain ⟨d, kvs, ds, rfl, rfl, hd, h⟩ := h
  obtain ⟨u, rfl, rx⟩ := vals1 rv
  cases rx
  obtain ⟨u2, rfl, ry⟩ := vals1 rz
  cases ry
  obtain ⟨z, hs, ks, pr, o, es, ep, ho, hx, hdt, he, hn⟩ := (show ObjOk X.prog X.w H s.heap d (.dT kvs) from hd.ok I.hok)
  have l1 : es.size = ks.length := size_of_entries he
  have l2 : kvs.length = ks.length := Paired.length pr
  obtain ⟨kd, done⟩ := h _ (isKeys_of pr)
  refine call_function_entry_kw kind_sorted plain_sorted entry_sorted (ksk_s1 _ _) ?_
  unfold Builtin.«sorted»
  refine wpAny_bind (m := checkCount "sorted" 1 1 _) (wpAny_pure (wpAny_bind (kdu_collect (A := X.A.in1) (kdl_raw hs hx hdt) (I.ok.hd hc) ho (by omega) fun h' tk acc kp it => ?_)))
  have ea : acc.toList = ks.map fun x => Value.ref x.2.1 := by
    refine List.ext_getElem (by rw [Array.length_toList, it.1, List.length_map]; exact l1) fun j h1 h2 => ?_
    obtain ⟨en, hen, hv⟩ := it.2 j _ (by rw [← Array.getElem?_toList]; exact List.getElem?_eq_getElem h1)
    rw [hv, List.getElem_map]
    have qe := entry_at he j
    rw [hen, List.getElem?_eq_getElem (by rw [List.length_map] at h2; exact h2)] at qe
    rw [Option.some.inj qe]
    rfl
  have I2 : Inv X pins σ H { s with heap := h', toks := tk } := I.turnedL (ch := []) (t' := tk) (fun b o _ q => kp b o q) fun b hb => nomatch hb
  have rvs : Vals ((ks.map fun x => x.2.1).map V.ref) acc.toList := by
    rw [ea, show (ks.map fun x => Value.ref x.2.1) = (ks.map fun x => x.2.1).map Value.ref by rw [List.map_map]; rfl]
    exact vals_refs _
  have sz : ((ks.map fun x => x.2.1).map V.ref).length ≤ sizeLine := by rw [List.length_map, List.length_map]; omega
  refine wpAny_bind (wpAny_newList (wpAny_bind (wpAny_holding (wpAny_call_entry_kw slot_list_sort ⟨_, Heap.get?_push_size _ rfl, rfl⟩ entry_list_sort ?_ (ksk_l1 _ _)))) (by rw [← rvs.length]; exact sz))
  show wpAny (model X.prog X.w) X.A.in1.in1 (Builtin.«list.sort» ⟨[.ref h'.objs.size], [(Str.ofString "key", .ref kf)]⟩) _ _ _
  rw [ksk_t1]
  refine wpAny_mono (own_sortW (s := { s with heap := h', toks := tk }) (us := acc.toList) (Q := Q) I2 F hr hb rvs sz kd done) (fun f s2 hq => ?_) fun _ _ z => z
  obtain ⟨rfl, hq⟩ := hq
  exact ⟨_, rfl, wpAny_pure ⟨_, rfl, hq⟩⟩
theorem cr_sortKeyLW (F : FnOk X.prog X.w X.K X.mg X.base CX0 k kf fd [x0] sp) (hr : Room (k + 2) X.A) (hb : Binds X.K fd [x0] []) : CallRK X (.builtin "sorted") [Str.ofString "key"]
    (fun vs zs H Q => ∃ (a : Addr) (xs : List V) (ds : List PyData), vs = [.ref a] ∧ zs = [.ref kf] ∧ SqL X.K H a xs ∧ KeyedW X sp H xs ds ∧ ∀ p H', Same H H' → H' p = none → Q (.ref p) (upd H' p (.lst (sortBy xs ds)))) := by
  intro pins s σ H vs zs us ws Q I rv rz h
  obtain ⟨a, xs, ds, rfl, rfl, hs, kd, done⟩ := h
  obtain ⟨u, rfl, rx⟩ := vals1 rv
  cases rx
  obtain ⟨u2, rfl, ry⟩ := vals1 rz
  cases ry
  obtain ⟨its, rvs, hl, hz⟩ := I.list hs
  refine sorted_of_sort hl.isList (by rw [← rvs.length]; exact hz) (ksk_s1 _ _) (fun _ => ksk_l1 _ _) fun E' => ?_
  rw [show ([Str.ofString "key"].zip [Value.ref kf]) = [(Str.ofString "key", Value.ref kf)] from rfl, ksk_t1]
  have fr : H (s.heap.objs.size + 1) = none := I.hok.fresh (Nat.le_succ _)
  have I2 : Inv X pins σ H { s with heap := copyHeap s.heap its } := I.turnedL (ch := []) (t' := s.toks) (fun b o _ q => copyHeap_old q) fun b hb => nomatch hb
  have fa : FpOk X pins H (s.heap.objs.size + 1) := I.fpOk (Nat.le_succ _) fr
  refine key_runG (A := X.A.in1.in1) I2 I.ok.frames F hr.in1.in1 hb (copyHeap_at s.heap its) fa rvs kd.len hz (kd.sorts fun d hd => ?_) kd.turn fun s' H' up na J => ⟨rfl, .ref (s.heap.objs.size + 1), _, J, rfl, done _ H' up na⟩
  have h1 := hr.un
  have h2 := kd.dep d hd
  show X.A.units + 2 + d.depth < cLine
  omega
end
end Sk


set_option Elab.async false
set_option linter.all false
set_option maxRecDepth 100000
set_option maxHeartbeats 4000000
namespace Dw
open PySem PySem.W PySem.SeqAt PyProof.Rows L2
section
variable {X : Cx}
/-- a < b, data that can be compared -/
def rLtW (K : PySem.W.Frag) : R2 := fun x y H Q => ∃ d e, Dp K H x d ∧ Dp K H y e ∧ Dw.lk d e = true ∧ d.plain = true ∧ e.plain = true ∧ d ≠ .none ∧ d.depth ≤ 60 ∧ Q (.bl (dataLt d e)) H
theorem op_ltW (hu : X.A.units + 64 < cLine) : OpR X (compareOp .Lt) (rLtW X.K) := by
  intro pins s σ H x y v u Q I rx ry h
  obtain ⟨d, e, hd, he, hl, g1, g2, nn, dp, q⟩ := h
  obtain ⟨as, r1⟩ := Dp.reads I d x v hd rx
  obtain ⟨bs, r2⟩ := Dp.reads I e y u he ry
  exact rc_lk d e X.A s v u as bs r1 r2 hl g1 g2 nn (by omega) X.prog X.w _ _ ⟨.bl _, H, I, rfl, q⟩
def rEqP (K : PySem.W.Frag) : R2 := fun x y H Q => ∃ d e, Dp K H x d ∧ Dp K H y e ∧ d.plain = true ∧ e.plain = true ∧ d.depth ≤ 60 ∧ Q (.bl (PyData.eqv d e)) H
def rNeP (K : PySem.W.Frag) : R2 := fun x y H Q => ∃ d e, Dp K H x d ∧ Dp K H y e ∧ d.plain = true ∧ e.plain = true ∧ d.depth ≤ 60 ∧ Q (.bl (!PyData.eqv d e)) H
theorem op_eqP (hu : X.A.units + 64 < cLine) : OpR X (compareOp .Eq) (rEqP X.K) := by
  intro pins s σ H x y v u Q I rx ry h
  obtain ⟨d, e, hd, he, g1, g2, dp, q⟩ := h
  obtain ⟨as, r1⟩ := Dp.reads I d x v hd rx
  obtain ⟨bs, r2⟩ := Dp.reads I e y u he ry
  exact eq_plain r1 r2 g1 g2 (by omega) ⟨.bl _, H, I, rfl, q⟩
theorem op_neP (hu : X.A.units + 64 < cLine) : OpR X (compareOp .NotEq) (rNeP X.K) := by
  intro pins s σ H x y v u Q I rx ry h
  obtain ⟨d, e, hd, he, g1, g2, dp, q⟩ := h
  obtain ⟨as, r1⟩ := Dp.reads I d x v hd rx
  obtain ⟨bs, r2⟩ := Dp.reads I e y u he ry
  exact ne_plain r1 r2 g1 g2 (by omega) ⟨.bl _, H, I, rfl, q⟩
end
end Dw


set_option Elab.async false
set_option linter.all false
set_option maxRecDepth 100000
set_option maxHeartbeats 4000000
/-! walked: what an expression gives, a list or a tuple, known as soon as it is there -/
namespace Gd
open PySem PySem.Spec PyProof.Rows L2
def anyS (K : PySem.W.Frag) (R : It → Hp → Prop) (a : Addr) (H1 : Hp) : Prop := ((∃ xs, SqL K H1 a xs) ∧ R (Itl K a) H1) ∨ ((∃ xs, SqT K H1 a xs) ∧ R (Itt K a) H1)
def iAny (K : PySem.W.Frag) (tl : TE) : TI := fun σ H R => tl σ H fun x H1 => ∃ a, x = .ref a ∧ anyS K R a H1
theorem pi_any {X : Cx} {tg e : Expr} {tl : TE} (he : PE X e tl) : PI X tg e (iAny X.K tl) := by
  constructor
  intro pins s σ H R I h
  refine thn (he.run pins s σ H _ I h) fun v s1 ⟨x, H1, I1, rx, a, ex, q⟩ => ?_
  subst ex
  cases rx
  have fresh : ∀ b ∈ [s1.heap.objs.size], FpOk X pins H1 b := fun b hb => by
    rw [List.mem_singleton.mp hb]
    exact I1.fpOk (Nat.le_refl _) (I1.hok.fresh (Nat.le_refl _))
  rcases q with ⟨⟨xs, hq⟩, q⟩ | ⟨⟨xs, hq⟩, q⟩
  · obtain ⟨us, ru, pl, zl⟩ := I1.list hq
    exact wpAny_pyIter_list pl.isList ⟨s1.heap.objs.size, [s1.heap.objs.size], _, _, H1, rfl, I1.kept (t' := s1.toks) fun b o z => Heap.get?_push_of_some _ z, turn_list a _, ⟨_, Heap.get?_push_size _ rfl, rfl, rfl⟩, fresh, q⟩
  · obtain ⟨us, ru, pl, zl⟩ := I1.tuple hq
    exact wpAny_pyIter_tuple (show s1.heap.IsTuple a us.toArray from pl) ⟨s1.heap.objs.size, [s1.heap.objs.size], _, _, H1, rfl, I1.kept (t' := s1.toks) fun b o z => Heap.get?_push_of_some _ z, turn_tuple a _, ⟨_, Heap.get?_push_size _ rfl, rfl, rfl⟩, fresh, q⟩
def YAtA (xs : List V) : Nat → Hp → V → Hp → Prop := fun i H x H' => H' = H ∧ xs[i]? = some x
theorem any_go {K : PySem.W.Frag} {H : Hp} {a : Addr} {xs : List V} {R : It → Hp → Prop} (h : SqL K H a xs ∨ SqT K H a xs)
    (k : ∀ (J : It) (G : Hp → Prop), Walk J xs.length G (YAtA xs) → (∀ H', (SqL K H a xs → SqL K H' a xs) → (SqT K H a xs → SqT K H' a xs) → G H') → R J H) :
    ∃ a', V.ref a = .ref a' ∧ anyS K R a' H := by
  rcases h with h | h
  · exact ⟨a, rfl, .inl ⟨⟨_, h⟩, k _ _ walk_list fun H' f _ => f h⟩⟩
  · exact ⟨a, rfl, .inr ⟨⟨_, h⟩, k _ _ walk_tup fun H' _ f => f h⟩⟩
end Gd


set_option Elab.async false
set_option linter.all false
set_option maxRecDepth 100000
set_option maxHeartbeats 4000000
namespace K14
open PySem L2 Nd Bk Gd
/-! what a comprehension has laid so far -/
structure Stay {α : Type} (R : Hp → V → α → Prop) : Prop where
  kt : ∀ {H H' : Hp} {y : V} {x : α}, KeepT H H' → R H y x → R H' y x
structure AccL {α : Type} (R : Hp → V → α → Prop) (H1 : Hp) (D : Addr) (l : List α) (H2 : Hp) : Prop where
  sm : Same H1 H2
  at_ : ∃ ys, H2 D = some (.lst ys) ∧ Paired (R H2) ys l
section
variable {α : Type} {R : Hp → V → α → Prop} {H1 H2 H4 : Hp} {D : Addr} {l : List α} {x : α} {y : V}
theorem accL_zero (n : H1 D = none) : AccL R H1 D [] (upd H1 D (.lst [])) := ⟨sm_new sm_refl n, [], upd_same, .nil⟩
theorem AccL.same (a : AccL R H1 D l H2) (t : Stay R) (s : Same H2 H4) : AccL R H1 D l H4 := by
  obtain ⟨s1, ys, hD, hy⟩ := a
  exact ⟨s1.trans s, ys, s _ _ hD, Paired.mapP hy fun _ _ q => t.kt (.same s) q⟩
theorem accL_step (t : Stay R) (a : AccL R H1 D l H2) (n : H1 D = none) (hl : l.length ≤ 1000000) (s : Same H2 H4) (h : R H4 y x) :
    ∃ acc, H4 D = some (.lst acc) ∧ acc.length < sizeLine ∧ AccL R H1 D (l ++ [x]) (upd H4 D (.lst (acc ++ [y]))) := by
  obtain ⟨s1, ys, hD, hy⟩ := a
  have hD4 := s _ _ hD
  have k : KeepT H4 (upd H4 D (.lst (ys ++ [y]))) := .upd (by rw [hD4]; exact notT_lst)
  refine ⟨ys, hD4, ?_, sm_new (s1.trans s) n, _, upd_same, ?_⟩
  · have : ys.length = l.length := Paired.length hy
    rw [sizeLine_eq]
    omega
  · exact Paired.snoc (Paired.mapP hy fun _ _ q => t.kt k (t.kt (.same s) q)) (t.kt k h)
theorem AccL.fin (a : AccL R H1 D l H2) : ∃ ys, Same H1 H2 ∧ H2 D = some (.lst ys) ∧ Paired (R H2) ys l := let ⟨s, ys, h1, h2⟩ := a; ⟨ys, s, h1, h2⟩
end
/-! cells -/
def rTupO (K : PySem.W.Frag) : List V → Hp → VK → Prop := fun xs H Q => ∃ p ys, xs = [.ref p] ∧ ((SqL K H p ys ∧ ∀ l, H l = none → Q (.ref l) (upd H l (.tup ys))) ∨ SqT K H p ys ∧ Q (.ref p) H)
def rLenQ (K : PySem.W.Frag) : List V → Hp → VK → Prop := fun xs H Q => ∃ p ys, xs = [V.ref p] ∧ (SqL K H p ys ∨ SqT K H p ys) ∧ Q (.int ys.length) H
inductive Kd (K : PySem.W.Frag) (H : Hp) : V → String → Prop
  | non : Kd K H .non "NoneType"
  | bl (b : Bool) : Kd K H (.bl b) "bool"
  | int (i : Int) : Kd K H (.int i) "int"
  | str (z : Str) : Kd K H (.str z) "str"
  | tup {a : Addr} {xs : List V} : SqT K H a xs → Kd K H (.ref a) "tuple"
  | lst {a : Addr} {xs : List V} : SqL K H a xs → Kd K H (.ref a) "list"
theorem Kd.ty {K : PySem.W.Frag} {H : Hp} {v : V} {t : String} : Kd K H v t → TyX K H v (.type t)
  | .non => .base .non
  | .bl b => .base (.bl b)
  | .int i => .base (.int i)
  | .str z => .base (.str z)
  | .tup h => tyX_T h
  | .lst h => tyX_L h
theorem Kd.same {K : PySem.W.Frag} {H H' : Hp} {v : V} {t : String} (s : Same H H') : Kd K H v t → Kd K H' v t
  | .non => .non
  | .bl b => .bl b
  | .int i => .int i
  | .str z => .str z
  | .tup h => .tup (sqT_same s h)
  | .lst h => .lst (s.seq h)
theorem isi_go {K : PySem.W.Frag} {H : Hp} {v : V} {t T : String} {b : Bool} {Q : VK} (h : Kd K H v t) (k : kitB t T = some b) (q : Q (.bl b) H) : rIsi K [v, .ty T] H Q := ⟨_, _, _, _, b, rfl, .ty _, h.ty, kit_ty k, q⟩
/-- the signs of a word -/
def lettersB (z : Str) : Bool := decide (z ≠ ("" : Str)) && z.cps.toList.all fun c => decide (97 ≤ c) && decide (c ≤ 122)
theorem lettersB_eq (z : Str) : lettersB z = (decide (z ≠ ("" : Str)) && z.cps.toList.all fun c => decide (97 ≤ c) && decide (c ≤ 122)) := rfl
def wordB (z : Str) : Bool := lettersB z && decide (z.length ≤ 8)
def isIntV : V → Bool
  | .int _ => true
  | _ => false
def letV : V → Bool
  | .str z => lettersB z
  | _ => false
def wordV : V → Bool
  | .str z => wordB z
  | _ => false
def cellV : V → Bool
  | .int i => decide (-9999 ≤ i) && decide (i ≤ 9999)
  | .str z => wordB z
  | _ => false
theorem one_lt (a b : Nat) : decide (([a] : List Nat) < [b]) = decide (a < b) := by
  rw [Bool.eq_iff_iff]
  simp [List.cons_lt_cons_iff]
theorem lo_c (c : Nat) : (!decide ((⟨#[c]⟩ : Str).cps.toList < ("a" : Str).cps.toList)) = decide (97 ≤ c) := by
  show (!decide (([c] : List Nat) < [97])) = _
  rw [one_lt, Bool.eq_iff_iff]
  simp
theorem hi_c (c : Nat) : (!decide (("z" : Str).cps.toList < (⟨#[c]⟩ : Str).cps.toList)) = decide (c ≤ 122) := by
  show (!decide (([122] : List Nat) < [c])) = _
  rw [one_lt, Bool.eq_iff_iff]
  simp
def okC (c : Nat) : Bool := decide (97 ≤ c) && decide (c ≤ 122)
structure Ncl (mg : Str → Option Value) : Prop where
  all : mg "all" = none
  ml : ∃ t, mg "MOST_LETTERS" = some (.int 8 t)
  gc : ∃ t, mg "GREATEST_CELL" = some (.int 9999 t)
def spIsInt (K : PySem.W.Frag) : Sp := fun vs H Q _ => ∃ v t, vs = [v] ∧ Kd K H v t ∧ Q (.bl (isIntV v)) H
def spIsSeq (K : PySem.W.Frag) : Sp := fun vs H Q _ => ∃ v t, vs = [v] ∧ Kd K H v t ∧ ∀ H', Same H H' → Q (.bl (decide (t = "tuple" ∨ t = "list"))) H'
def spLet (K : PySem.W.Frag) : Sp := fun vs H Q _ => ∃ v t, vs = [v] ∧ Kd K H v t ∧ (∀ z, v = .str z → z.length ≤ 16000000) ∧ ∀ H', Same H H' → Q (.bl (letV v)) H'
def spWord (K : PySem.W.Frag) : Sp := fun vs H Q _ => ∃ v t, vs = [v] ∧ Kd K H v t ∧ (∀ z, v = .str z → z.length ≤ 16000000) ∧ ∀ H', Same H H' → Q (.bl (wordV v)) H'
def spCell (K : PySem.W.Frag) : Sp := fun vs H Q _ => ∃ v t, vs = [v] ∧ Kd K H v t ∧ (∀ z, v = .str z → z.length ≤ 16000000) ∧ ∀ H', Same H H' → Q (.bl (cellV v)) H'
section
variable {P : Program} {w : World} {K : PySem.W.Frag} {mg : Str → Option Value} {base : Heap}
theorem scIsInt : FnScope ["value"] ["value"] (defScope t_is_integer) := ⟨rfl, rfl, rfl, by decide +kernel, rfl, by decide +kernel, by decide +kernel⟩
theorem scIsSeq : FnScope ["value"] ["value"] (defScope t_is_sequence) := ⟨rfl, rfl, rfl, by decide +kernel, rfl, by decide +kernel, by decide +kernel⟩
abbrev letN : List Str := ["value", "sign"]
theorem scLet : FnScope letN ["value"] (defScope t_is_letters) := ⟨rfl, rfl, rfl, by decide +kernel, rfl, by decide +kernel, by decide +kernel⟩
theorem scWord : FnScope ["value"] ["value"] (defScope t_is_word) := ⟨rfl, rfl, rfl, by decide +kernel, rfl, by decide +kernel, by decide +kernel⟩
theorem scCell : FnScope ["value"] ["value"] (defScope t_is_cell) := ⟨rfl, rfl, rfl, by decide +kernel, rfl, by decide +kernel, by decide +kernel⟩
theorem ok_isInt {f : Addr} {fd : FuncData} (F : Fun K "is_integer" "is_integer" t_is_integer f fd) (N : Nm mg) : FnOk P w K mg base CX0 1 f fd ["value"] (spIsInt K) := by
  refine F.ok scIsInt (fun vs H Q E h => ?_) (fun cdv A outer s H vs Q E hr h => ?_)
  · obtain ⟨v, t, rfl, _⟩ := h
    rfl
  · obtain ⟨v, t, rfl, hk, q⟩ := h
    --BODYA
    refine ⟨_, pss_one (ps_ret (pe_and (pe_callB (show CallR _ _ (rIsi K) from call_isi) (by rfl) N.isi (by decide +kernel) (pa_cons (pv 0) (pa_cons (pe_bltn (v := .ty "int") (by rfl) N.int (by decide +kernel) rfl) pa_nil))) (pe_one (pe_not (pe_callB (show CallR _ _ (rIsi K) from call_isi) (by rfl) N.isi (by decide +kernel) (pa_cons (pv 0) (pa_cons (pe_bltn (v := .ty "bool") (by rfl) N.bool (by decide +kernel) rfl) pa_nil))))))), ?_⟩
    --END
    cases id hk with
    | int i => exact ⟨_, rfl, _, _, _, _, true, rfl, .ty _, hk.ty, kit_ty (by decide +kernel), true, rfl, iteT ⟨_, rfl, _, _, _, _, false, rfl, .ty _, hk.ty, kit_ty (by decide +kernel), false, rfl, q⟩⟩
    | bl b => exact ⟨_, rfl, _, _, _, _, true, rfl, .ty _, hk.ty, kit_ty (by decide +kernel), true, rfl, iteT ⟨_, rfl, _, _, _, _, true, rfl, .ty _, hk.ty, kit_ty (by decide +kernel), true, rfl, q⟩⟩
    | _ => exact ⟨_, rfl, _, _, _, _, false, rfl, .ty _, hk.ty, kit_ty (by decide +kernel), false, rfl, iteF q⟩
theorem ok_isSeq {f : Addr} {fd : FuncData} (F : Fun K "is_sequence" "is_sequence" t_is_sequence f fd) (N : Nm mg) : FnOk P w K mg base CX0 1 f fd ["value"] (spIsSeq K) := by
  refine F.ok scIsSeq (fun vs H Q E h => ?_) (fun cdv A outer s H vs Q E hr h => ?_)
  · obtain ⟨v, t, rfl, _⟩ := h
    rfl
  · obtain ⟨v, t, rfl, hk, q⟩ := h
    --BODYB
    refine ⟨_, pss_one (ps_ret (pe_callB (show CallR _ _ (rIsiT K) from call_isiT) (by rfl) N.isi (by decide +kernel) (pa_cons (pv 0) (pa_cons (pe_tup (pa_cons (pe_bltn (v := .ty "list") (by rfl) N.lst (by decide +kernel) rfl) (pa_cons (pe_bltn (v := .ty "tuple") (by rfl) N.tup (by decide +kernel) rfl) pa_nil))) pa_nil)))), ?_⟩
    --END
    refine ⟨_, rfl, (by show 2 ≤ sizeLine; decide), fun p np => ?_⟩
    have sm : Same H (upd H p (.tup [.ty "list", .ty "tuple"])) := sm_new sm_refl np
    have q' := q _ sm
    have tT : TyX K (upd H p (.tup [.ty "list", .ty "tuple"])) v (.type t) := (hk.same sm).ty
    cases hk with
    | tup h => exact ⟨_, p, _, _, _, true, rfl, upd_same, .cons (.ty _) (.cons (.ty _) .nil), tT, kitAny_cons (b := false) (kit_ty (by decide +kernel)) (fun _ => kitAny_cons (b := true) (kit_ty (by decide +kernel)) (fun z => nomatch z) fun _ => rfl) (fun z => nomatch z), q'⟩
    | lst h => exact ⟨_, p, _, _, _, true, rfl, upd_same, .cons (.ty _) (.cons (.ty _) .nil), tT, kitAny_cons (b := true) (kit_ty (by decide +kernel)) (fun z => nomatch z) (fun _ => rfl), q'⟩
    | _ => exact ⟨_, p, _, _, _, false, rfl, upd_same, .cons (.ty _) (.cons (.ty _) .nil), tT, kitAny2 (by decide +kernel) (by decide +kernel), q'⟩
theorem ok_let {f : Addr} {fd : FuncData} (F : Fun K "is_letters" "is_letters" t_is_letters f fd) (N : Nm mg) (C : Ncl mg) : FnOk P w K mg base CX0 1 f fd ["value"] (spLet K) := by
  refine F.ok scLet (fun vs H Q E h => ?_) (fun cdv A outer s H vs Q E hr h => ?_)
  · obtain ⟨v, t, rfl, _⟩ := h
    rfl
  · obtain ⟨v, t, rfl, hk, hz, q⟩ := h
    --BODYC
    refine ⟨_, pss_one (ps_ret (pe_and (pe_callB (show CallR _ _ (rIsi K) from call_isi) (by rfl) N.isi (by decide +kernel) (pa_cons (pv 0) (pa_cons (pe_bltn (v := .ty "str") (by rfl) N.str (by decide +kernel) rfl) pa_nil))) (pe_and (pe_cmpR op_ne (pv 0) pe_str (nomark _)) (pe_one (pe_callB (show CallR _ _ (rAll K) from cr_all rfl) (by rfl) C.all (by rfl) (pa_cons (pe_lc (own := [("sign", 1)]) (g := gName 1) (tt := tYes) rfl scLet.nd (pi_str (pv 0)) (blkOk_by (N := letN) (sc := defScope t_is_letters) (by decide +kernel))
          (fun _ _ _ _ _ => (pg_name (i := 1) scLet.nd rfl (Or.inl rfl))) (fun _ _ _ _ _ => pts_nil) (fun _ _ _ _ _ => (pe_chain op_le_str op_le_str pe_str (pv 1) pe_str))) pa_nil)))))), ?_⟩
    --END
    cases id hk with
    | str z =>
      refine ⟨_, rfl, _, _, _, _, true, rfl, .ty _, hk.ty, kit_ty (by decide +kernel), true, rfl, iteT ?_⟩
      refine ⟨_, rfl, rfl, _, rfl, ?_⟩
      by_cases e : z = ("" : Str)
      · have e0 : letV (.str z) = false := by rw [e]; decide +kernel
        have q' := q H sm_refl
        rw [e0] at q'
        rw [show (!decide (V.str z = V.str ("" : Str))) = false by rw [e]; simp]
        exact iteF q'
      rw [show (!decide (V.str z = V.str ("" : Str))) = true by simp [e]]
      refine iteT ⟨_, rfl, z, rfl, fun D nD => ?_⟩
      refine lc_it walk_str (fun i H5 => Same H H5 ∧ H5 D = some (.lst (((z.cps.toList.take i).map okC).map V.bl))) ⟨sm_new sm_refl nD, upd_same⟩ (fun _ _ _ _ => trivial) ?_ ?_
      · rintro i x H5 H6 hi ⟨s5, hD⟩ ⟨rfl, c, hc, rfl⟩
        have hc' : z.cps.toList[i]? = some c := by rw [Array.getElem?_toList]; exact hc
        have fin : ∀ b : Bool, b = okC c → ∃ acc, H6 D = some (.lst acc) ∧ acc.length < sizeLine ∧ (Same H (upd H6 D (.lst (acc ++ [V.bl b]))) ∧ upd H6 D (.lst (acc ++ [V.bl b])) D = some (.lst (((z.cps.toList.take (i + 1)).map okC).map V.bl))) := fun b hb => by
          refine ⟨_, hD, ?_, sm_new s5 nD, ?_⟩
          · have zl := hz z rfl
            rw [List.length_map, List.length_map, List.length_take, sizeLine_eq]
            have : z.cps.toList.length = z.length := rfl
            omega
          · rw [upd_same, List.take_succ, hc', hb]
            simp
        refine ⟨rfl, _, rfl, _, _, rfl, rfl, _, rfl, ?_⟩
        rw [lo_c]
        refine ite2 (fun h1 => ?_) (fun h1 => ?_)
        · refine ⟨_, _, rfl, rfl, ?_⟩
          rw [hi_c]
          exact fin _ (by unfold okC; rw [h1]; rfl)
        · exact fin _ (by unfold okC; rw [show decide (97 ≤ c) = false by simpa using h1]; rfl)
      · rintro H5 ⟨s5, hD⟩
        have zs : z.cps.size = z.cps.toList.length := (Array.length_toList).symm
        rw [zs, List.take_length] at hD
        refine ⟨D, _, rfl, SqL.of hD, ?_⟩
        have e2 : letV (.str z) = ((z.cps.toList.map okC).all id) := by
          show lettersB z = _
          rw [lettersB_eq, decide_eq_true e, List.all_map]
          rfl
        rw [← e2]
        exact q H5 s5
    | _ => exact ⟨_, rfl, _, _, _, _, false, rfl, .ty _, hk.ty, kit_ty (by decide +kernel), false, rfl, iteF (q H sm_refl)⟩
theorem ok_word {f : Addr} {fd : FuncData} (F : Fun K "is_word" "is_word" t_is_word f fd) (N : Nm mg) (C : Ncl mg) (Gl : Df P w K mg base 1 "is_letters" ["value"] (spLet K)) : FnOk P w K mg base CX0 2 f fd ["value"] (spWord K) := by
  obtain ⟨fL, fdL, gL, kL, bL, GL⟩ := Gl.ok
  refine F.ok scWord (fun vs H Q E h => ?_) (fun cdv A outer s H vs Q E hr h => ?_)
  · obtain ⟨v, t, rfl, _⟩ := h
    rfl
  · obtain ⟨v, t, rfl, hk, hz, q⟩ := h
    have hr1 : Room 1 _ := hr.mono (by decide)
    obtain ⟨tm, hm⟩ := C.ml
    --BODYD
    refine ⟨_, pss_one (ps_ret (pe_and (pe_call GL hr1 rfl gL kL bL .nil pass0 (pa_cons (pv 0) pa_nil)) (pe_one (pe_cmpR op_le (pe_callB call_len_str (by rfl) N.len PySem.boot_len (pa_cons (pv 0) pa_nil)) (pe_glob (v := .int 8) (by rfl) hm ⟨_, rfl⟩) (nomark _))))), ?_⟩
    --END
    refine ⟨_, rfl, v, t, rfl, hk, hz, fun H1 s1 => ⟨_, rfl, ?_⟩⟩
    cases id hk with
    | str z =>
      have zl := hz z rfl
      refine ite2 (fun h1 => ?_) (fun h1 => ?_)
      · refine ⟨_, rfl, z, rfl, (by rw [sizeLine_eq]; omega), _, _, rfl, rfl, ?_⟩
        have e : wordV (.str z) = decide ((z.length : Int) ≤ 8) := by
          show (lettersB z && decide (z.length ≤ 8)) = _
          rw [show lettersB z = true from h1, Bool.true_and]
          exact decide_eq_decide.mpr (by omega)
        have q' := q H1 s1
        rw [e] at q'
        exact q'
      · have hf : lettersB z = false := by
          cases e : lettersB z with
          | true => exact absurd e h1
          | false => rfl
        have e : wordV (.str z) = false := by
          show (lettersB z && decide (z.length ≤ 8)) = _
          rw [hf]
          rfl
        have q' := q H1 s1
        rw [e] at q'
        exact q'
    | _ => exact iteF (q H1 s1)
theorem ok_cell {f : Addr} {fd : FuncData} (F : Fun K "is_cell" "is_cell" t_is_cell f fd) (C : Ncl mg) (Gi : Df P w K mg base 1 "is_integer" ["value"] (spIsInt K)) (Gw : Df P w K mg base 2 "is_word" ["value"] (spWord K)) : FnOk P w K mg base CX0 3 f fd ["value"] (spCell K) := by
  obtain ⟨fI, fdI, gI, kI, bI, GI⟩ := Gi.ok
  obtain ⟨fW, fdW, gW, kW, bW, GW⟩ := Gw.ok
  refine F.ok scCell (fun vs H Q E h => ?_) (fun cdv A outer s H vs Q E hr h => ?_)
  · obtain ⟨v, t, rfl, _⟩ := h
    rfl
  · obtain ⟨v, t, rfl, hk, hz, q⟩ := h
    have hr1 : Room 1 _ := hr.mono (by decide)
    have hr2 : Room 2 _ := hr.mono (by decide)
    obtain ⟨tm, hm⟩ := C.gc
    --BODYE
    refine ⟨_, pss_cons (ps_if (pt_val (pe_call GI hr1 rfl gI kI bI .nil pass0 (pa_cons (pv 0) pa_nil))) (pss_one (ps_ret (pe_chain op_le op_le (pe_un un_neg (pe_glob (v := .int 9999) (by rfl) hm ⟨_, rfl⟩)) (pv 0) (pe_glob (v := .int 9999) (by rfl) hm ⟨_, rfl⟩)))) pss_nil)
      (pss_one (ps_ret (pe_call GW hr2 rfl gW kW bW .nil pass0 (pa_cons (pv 0) pa_nil)))), ?_⟩
    --END
    refine ⟨_, rfl, v, t, rfl, hk, _, rfl, ?_⟩
    cases id hk with
    | int i =>
      refine iteT ?_
      refine ⟨_, rfl, _, rfl, _, _, rfl, rfl, _, rfl, ?_⟩
      have q' := q H sm_refl
      refine ite2 (fun h1 => ?_) (fun h1 => ?_)
      · refine ⟨_, _, rfl, rfl, ?_⟩
        have e : cellV (.int i) = decide (i ≤ 9999) := by
          show (decide (-9999 ≤ i) && decide (i ≤ 9999)) = _
          rw [show decide ((-9999 : Int) ≤ i) = true from h1, Bool.true_and]
        rw [e] at q'
        exact q'
      · have e : cellV (.int i) = false := by
          show (decide (-9999 ≤ i) && decide (i ≤ 9999)) = _
          rw [show decide ((-9999 : Int) ≤ i) = false by simpa using h1, Bool.false_and]
        rw [e] at q'
        exact q'
    | str z => exact iteF ⟨_, rfl, _, _, rfl, hk, hz, fun H1 s1 => q H1 s1⟩
    | _ => exact iteF ⟨_, rfl, _, _, rfl, hk, hz, fun H1 s1 => q H1 s1⟩
end
end K14



set_option Elab.async false
set_option linter.all false
set_option maxRecDepth 100000
set_option maxHeartbeats 4000000
namespace K14
open PySem L2 Nd Bk Gd
/-! the order of cells and rows -/
abbrev Row := List Key
def ordD : Key → PyData
  | .inl i => .tuple [.int 0, .int i]
  | .inr z => .tuple [.int 1, .str z]
def rowO (r : Row) : PyData := .tuple (r.map ordD)
section
variable {P : Program} {w : World} {K : PySem.W.Frag} {mg : Str → Option Value} {base : Heap}
end
end K14



set_option Elab.async false
set_option linter.all false
set_option maxRecDepth 100000
set_option maxHeartbeats 4000000
namespace K14
open PySem L2 Nd Bk Gd
/-! the pairs of a dict by rows, in the rows' order -/
/-- the key at R, tracked -/
def RowK (H : Hp) (R : Addr) (r : Row) : Prop := H R = some (.tup (r.map kV))
/-- by rows -/
def srtR {α : Type} (kvs : List (Row × α)) : List (Row × α) := kvs.mergeSort (PySem.W.dataLe false fun p => rowO p.1)
section
variable {P : Program} {w : World} {K : PySem.W.Frag} {mg : Str → Option Value} {base : Heap}
end
end K14



set_option Elab.async false
set_option linter.all false
set_option maxRecDepth 100000
set_option maxHeartbeats 4000000
/-! xs.extend(t), t a tuple -/
namespace Dw
open PySem PySem.W PySem.SeqAt PyProof.Rows L2
open AutoSeq1 (wpAny_loadPart')
open MeetsSeq MeetsSeq2 MeetsSeq3 SeqRoads2
theorem ext_tup (a : Addr) (us : Array Value) (n : Nat) (t : Addr) (ws : Array Value) (m : Nat) (dw : Option Addr) (sw : Array (Option Value)) (short : ¬(!us.isEmpty && Builtin.List.listTooLong (us.size + ws.size)) = true) (z1 : us.size ≤ sizeLine) (z2 : us.size + ws.size ≤ sizeLine + 1) :
    Meets (Builtin.«list.extend» ⟨[.ref a, .ref t], []⟩) (fun _ R s => s.heap.get? a = some { cls := .type "list", dict := none, data := .seq us n, slots := #[] } ∧ s.heap.get? t = some { cls := .type "tuple", dict := dw, data := .seq ws m, slots := sw } ∧
      R (.ok (.ret Value.none)) { s with heap := s.heap.update a (Obj.mapSeq fun x => x ++ ws), toks := s.toks }) :=
  .of_wp fun prog w A R s h => by
    obtain ⟨hh, gg, dd, kk, oo⟩ := s
    obtain ⟨ha, ht, fin⟩ := h
    have q1 := AutoSeq1.idx_int
    have q2 := AutoSeq1.sub_tuple_tuple
    have q3 := AutoSeq1.sub_list_list
    have q4 := AutoSeq1.sub_tuple_list
    have q5 := AutoSeq1.sub_list_tuple
    have z3 : (us ++ ws).size ≤ sizeLine + 1 := by rw [Array.size_append]; exact z2
    wp_walk using (wpAny_updateSeq ha rfl (hz := z1) (_hz' := z3)), wpAny_loadPart' ha, wpAny_loadPart' ht
    exact ⟨_, rfl, fin⟩
section
variable {X : Cx}
def rExtendT (K : PySem.W.Frag) : V → List V → Hp → VK → Prop := fun x vs H Q => ∃ l b xs zs, x = .ref l ∧ vs = [.ref b] ∧ H l = some (.lst xs) ∧ SqT K H b zs ∧ xs.length + zs.length ≤ sizeLine ∧ Q .non (upd H l (.lst (xs ++ zs)))
theorem mt_extendT : MtR X "list.extend" (rExtendT X.K) := by
  intro pins s σ H x vs v us Q I rx rv h
  obtain ⟨l, b, xs, zs, rfl, rfl, hH, hB, hz, q⟩ := h
  cases rx
  obtain ⟨u, rfl, ru⟩ := rv.one
  cases ru
  obtain ⟨z, its, n, r, hl, e⟩ := I.lstM hH
  obtain ⟨its2, r2, ht, z2⟩ := I.tuple hB
  obtain ⟨⟨k2, p2, d2, s2⟩, o2, c2, n2, y2⟩ := id ht
  simp only at c2 y2
  subst c2 y2
  have l2 := r2.length
  have hsz : its.toArray.size + its2.toArray.size ≤ sizeLine := by rw [List.size_toArray, List.size_toArray]; omega
  have hlong : ¬ (!its.toArray.isEmpty && Builtin.List.listTooLong (its.toArray.size + its2.toArray.size)) = true := by
    rw [notLongL hsz, Bool.and_false]
    exact Bool.false_ne_true
  refine call_meets F.slot_list_extend ⟨_, e, rfl⟩ F.entry_list_extend (F.args_list_extend_2 _ _) (ext_tup l its.toArray n b its2.toArray n2 p2 s2 hlong (by rw [List.size_toArray]; omega) (by omega)) ⟨e, o2, ?_⟩
  refine ⟨.non, _, I.lset (its' := its ++ its2) hH e (by simp) (r.append r2) ?_, rfl, q⟩
  rw [List.length_append]
  omega
end
end Dw


set_option Elab.async false
set_option linter.all false
set_option maxRecDepth 100000
set_option maxHeartbeats 4000000
namespace K14
open PySem L2 Nd Bk Gd
/-! programs -/
inductive Side
  | col (i : Nat)
  | val (k : Key)
inductive Prog
  | take (n : Str)
  | keep (p : Prog) (l : Side) (g : Str) (r : Side)
  | pick (p : Prog) (cs : List Nat)
  | make (p : Prog) (k : Str) (i j : Nat)
  | both (p q : Prog)
  | join (p q : Prog) (ps : List (Nat × Nat))
def cellD : Key → PyData
  | .inl i => .int i
  | .inr z => .str z
def sT (s : String) : PyData := .str (Str.ofString s)
def sideD : Side → PyData
  | .col i => .tuple [sT "col", .int i]
  | .val k => .tuple [sT "val", cellD k]
def colsD (cs : List Nat) : PyData := .tuple (cs.map fun c => .int (c : Nat))
def prsD (ps : List (Nat × Nat)) : PyData := .tuple (ps.map fun p => .tuple [.int (p.1 : Nat), .int (p.2 : Nat)])
def cmpD (l : Side) (g : Str) (r : Side) : PyData := .tuple [sideD l, .str g, sideD r]
def mkgD (k : Str) (i j : Nat) : PyData := .tuple [.str k, .int (i : Nat), .int (j : Nat)]
def progD : Prog → PyData
  | .take n => .tuple [sT "take", .str n]
  | .keep p l g r => .tuple [sT "keep", progD p, cmpD l g r]
  | .pick p cs => .tuple [sT "pick", progD p, colsD cs]
  | .make p k i j => .tuple [sT "make", progD p, mkgD k i j]
  | .both p q => .tuple [sT "both", progD p, progD q]
  | .join p q ps => .tuple [sT "join", progD p, progD q, prsD ps]
def kindS : Prog → String
  | .take _ => "take"
  | .keep .. => "keep"
  | .pick .. => "pick"
  | .make .. => "make"
  | .both .. => "both"
  | .join .. => "join"
def partsP : Prog → List Prog
  | .take _ => []
  | .keep p .. => [p]
  | .pick p _ => [p]
  | .make p .. => [p]
  | .both p q => [p, q]
  | .join p q _ => [p, q]
def restD : Prog → List PyData
  | .take n => [.str n]
  | .keep _ l g r => [cmpD l g r]
  | .pick _ cs => [colsD cs]
  | .make _ k i j => [mkgD k i j]
  | .both .. => []
  | .join _ _ ps => [prsD ps]
theorem progD_eq (p : Prog) : progD p = .tuple (sT (kindS p) :: (partsP p).map progD ++ restD p) := by cases p <;> rfl
def nodesP : Prog → Nat
  | .take _ => 1
  | .keep p .. => nodesP p + 1
  | .pick p _ => nodesP p + 1
  | .make p .. => nodesP p + 1
  | .both p q => nodesP p + nodesP q + 1
  | .join p q _ => nodesP p + nodesP q + 1
theorem nodesP_eq (p : Prog) : nodesP p = ((partsP p).map nodesP).sum + 1 := by cases p <;> simp [nodesP, partsP]
def deepP : Prog → Nat
  | .take _ => 1
  | .keep p .. => deepP p + 1
  | .pick p _ => deepP p + 1
  | .make p .. => deepP p + 1
  | .both p q => max (deepP p) (deepP q) + 1
  | .join p q _ => max (deepP p) (deepP q) + 1
theorem deep_part {p q : Prog} (h : q ∈ partsP p) : deepP q < deepP p := by
  cases p <;> simp only [partsP, List.mem_cons, List.not_mem_nil, or_false] at h <;> simp only [deepP]
  all_goals (first | exact h.elim | (subst h; omega) | (rcases h with rfl | rfl <;> omega))
theorem deep_le (p : Prog) : deepP p ≤ nodesP p := by
  induction p with
  | take n => exact Nat.le_refl _
  | keep p l g r ih => simp only [deepP, nodesP]; omega
  | pick p cs ih => simp only [deepP, nodesP]; omega
  | make p k i j ih => simp only [deepP, nodesP]; omega
  | both p q i1 i2 => simp only [deepP, nodesP]; omega
  | join p q ps i1 i2 => simp only [deepP, nodesP]; omega
def sideOk (w : Nat) : Side → Bool
  | .col i => decide (i < w)
  | .val k => cellV (kV k)
def signs : List Str := [Str.ofString "=", Str.ofString "<", Str.ofString "!"]
def makes_ : List Str := [Str.ofString "sum", Str.ofString "less", Str.ofString "least", Str.ofString "most"]
/-- the width of what a program makes, if it is one that fits -/
def widP (W : Str → Option Nat) : Prog → Option Nat
  | .take n => W n
  | .keep p l g r => (widP W p).bind fun w => if sideOk w l = true ∧ g ∈ signs ∧ sideOk w r = true then some w else none
  | .pick p cs => (widP W p).bind fun w => if 1 ≤ cs.length ∧ cs.length ≤ 6 ∧ ∀ c ∈ cs, c < w then some cs.length else none
  | .make p k i j => (widP W p).bind fun w => if k ∈ makes_ ∧ i < w ∧ j < w ∧ w < 6 then some (w + 1) else none
  | .both p q => (widP W p).bind fun w => (widP W q).bind fun v => if w = v then some w else none
  | .join p q ps => (widP W p).bind fun w => (widP W q).bind fun v => if (∀ x ∈ ps, x.1 < w ∧ x.2 < v) ∧ w + v ≤ 6 then some (w + v) else none
/-! as it stands in the heap -/
structure Npr (K : PySem.W.Frag) (w : World) (mg : Str → Option Value) : Prop where
  nodes : ∃ t, mg "MOST_NODES" = some (.int 20 t)
  cells : ∃ t, mg "MOST_CELLS" = some (.int 6 t)
  signs : ∃ a, mg "SIGNS" = some (.ref a) ∧ ∀ H, SqT K H a (signs.map V.str)
  makes : ∃ a, mg "MADE_CELLS" = some (.ref a) ∧ ∀ H, SqT K H a (makes_.map V.str)
  parts : ∃ a es n, mg "PARTS" = some (.ref a) ∧ KDict K w a es n ∧ ∀ p : Prog, KDct K w a (Str.ofString (kindS p)) (.int ((partsP p).length : Nat))
  lens : ∃ a, mg "LENGTHS" = some (.ref a) ∧ ∀ p : Prog, KDct K w a (Str.ofString (kindS p)) (.int (((partsP p).length + (restD p).length + 1 : Nat) : Nat))
def spNeed (K : PySem.W.Frag) : Sp := fun vs H Q _ => vs = [.bl true] ∧ Q .non H
def spParts (K : PySem.W.Frag) : Sp := fun vs H Q _ => ∃ v p H0, vs = [v] ∧ Same H0 H ∧ FD K H0 v (progD p) ∧ ∀ (a : Addr) (xs : List V) (H' : Hp), Same H H' → (H' a = some (.lst xs) ∨ SqT K H' a xs) → Paired (fun x q => FD K H0 x (progD q)) xs (partsP p) → Q (.ref a) H'
def spIsNode (K : PySem.W.Frag) : Sp := fun vs H Q _ => ∃ v p, vs = [v] ∧ FD K H v (progD p) ∧ ∀ H', Same H H' → Q (.bl true) H'
def spChkN (K : PySem.W.Frag) : Sp := fun vs H Q _ => ∃ v p, vs = [v] ∧ FD K H v (progD p) ∧ nodesP p ≤ 20 ∧ ∀ H', Same H H' → Q .non H'
def spIsMany (K : PySem.W.Frag) : Sp := fun vs H Q _ => ∃ v ds n, vs = [v, .int n] ∧ FD K H v (.tuple ds) ∧ ∀ H', Same H H' → Q (.bl (decide ((ds.length : Int) = n))) H'
def spIsCol (K : PySem.W.Frag) : Sp := fun vs H Q _ => ∃ i n : Int, vs = [.int i, .int n] ∧ Q (.bl (decide (0 ≤ i) && decide (i < n))) H
section
variable {P : Program} {w : World} {K : PySem.W.Frag} {mg : Str → Option Value} {base : Heap}
theorem paired_mk {α β : Type} {R : α → β → Prop} : ∀ {xs : List α} {ys : List β}, xs.length = ys.length → (∀ (i : Nat) (x : α), xs[i]? = some x → ∃ y, ys[i]? = some y ∧ R x y) → Paired R xs ys
  | [], [], _, _ => .nil
  | [], _ :: _, h, _ => by cases h
  | _ :: _, [], h, _ => by cases h
  | x :: xs, y :: ys, h, g => by
    obtain ⟨y', e, r⟩ := g 0 x rfl
    cases e
    exact .cons r (paired_mk (Nat.succ.inj h) fun i x hx => g (i + 1) x hx)
theorem fd_prog {H : Hp} {v : V} {p : Prog} (h : FD K H v (progD p)) : ∃ a xs, v = .ref a ∧ (SqL K H a xs ∨ SqT K H a xs) ∧ xs.length = (partsP p).length + (restD p).length + 1 ∧ xs[0]? = some (.str (Str.ofString (kindS p))) ∧
    (∀ i x, i < (partsP p).length → xs[i + 1]? = some x → ∃ q, (partsP p)[i]? = some q ∧ FD K H x (progD q)) ∧ ∀ i x, xs[(partsP p).length + 1 + i]? = some x → ∃ d, (restD p)[i]? = some d ∧ FD K H x d := by
  rw [progD_eq] at h
  obtain ⟨a, xs, rfl, hs, hl, hg⟩ := fd_seq h
  have hl' : xs.length = (partsP p).length + (restD p).length + 1 := by simp at hl; omega
  refine ⟨a, xs, rfl, hs, hl', ?_, fun i x hi hx => ?_, fun i x hx => ?_⟩
  · obtain ⟨x, hx⟩ : ∃ x, xs[0]? = some x := ⟨xs[0], List.getElem?_eq_getElem (by omega)⟩
    obtain ⟨d, hd, hf⟩ := hg 0 x hx
    simp only [List.cons_append, List.getElem?_cons_zero, Option.some.injEq] at hd
    rw [← hd] at hf
    rw [hx, fd_str hf]
  · obtain ⟨d, hd, hf⟩ := hg (i + 1) x hx
    rw [List.cons_append, List.getElem?_cons_succ, List.getElem?_append_left (by rw [List.length_map]; exact hi), List.getElem?_map] at hd
    obtain ⟨q, hq, rfl⟩ := Option.map_eq_some_iff.mp hd
    exact ⟨q, hq, hf⟩
  · obtain ⟨d, hd, hf⟩ := hg _ x hx
    rw [show (partsP p).length + 1 + i = ((partsP p).length + i) + 1 by omega, List.cons_append, List.getElem?_cons_succ, List.getElem?_append_right (by rw [List.length_map]; omega), List.length_map, show (partsP p).length + i - (partsP p).length = i by omega] at hd
    exact ⟨d, hd, hf⟩
theorem pick {H : Hp} {a : Addr} {xs : List V} (hs : SqL K H a xs ∨ SqT K H a xs) (i : Nat) {x : V} (hx : xs[i]? = some x) (Q' : VK) (q : Q' x H) : rIx K (.ref a) (.int (i : Int)) H Q' := by
  rcases hs with h | h
  · exact .inl ⟨a, xs, _, _, rfl, rfl, h, atI_nat hx, q⟩
  · exact .inr (.inl ⟨a, xs, _, _, rfl, rfl, h, atI_nat hx, q⟩)
theorem sq_go {H H' : Hp} {a : Addr} {xs : List V} (s : Same H H') (h : SqL K H a xs ∨ SqT K H a xs) : SqL K H' a xs ∨ SqT K H' a xs := h.imp s.seq (sqT_same s)
theorem Kd.sq {H : Hp} {a : Addr} {xs : List V} (h : SqL K H a xs ∨ SqT K H a xs) : ∃ t, Kd K H (.ref a) t ∧ (t = "tuple" ∨ t = "list") := by
  rcases h with h | h
  · exact ⟨_, .lst h, .inr rfl⟩
  · exact ⟨_, .tup h, .inl rfl⟩
theorem scNeed : FnScope ["holds"] ["holds"] (defScope t__need) := ⟨rfl, rfl, rfl, by decide +kernel, rfl, by decide +kernel, by decide +kernel⟩
theorem scParts : FnScope ["node"] ["node"] (defScope t_parts_of) := ⟨rfl, rfl, rfl, by decide +kernel, rfl, by decide +kernel, by decide +kernel⟩
theorem scIsNode : FnScope ["value"] ["value"] (defScope t__is_node) := ⟨rfl, rfl, rfl, by decide +kernel, rfl, by decide +kernel, by decide +kernel⟩
theorem scIsMany : FnScope ["value", "many"] ["value", "many"] (defScope t__is_many) := ⟨rfl, rfl, rfl, by decide +kernel, rfl, by decide +kernel, by decide +kernel⟩
theorem scIsCol : FnScope ["value", "width"] ["value", "width"] (defScope t_is_column) := ⟨rfl, rfl, rfl, by decide +kernel, rfl, by decide +kernel, by decide +kernel⟩
theorem ok_need {f : Addr} {fd : FuncData} (F : Fun K "_need" "_need" t__need f fd) : FnOk P w K mg base CX0 1 f fd ["holds"] (spNeed K) := by
  refine F.ok scNeed (fun vs H Q E h => ?_) (fun cdv A outer s H vs Q E hr h => ?_)
  · obtain ⟨rfl, _⟩ := h
    rfl
  · obtain ⟨rfl, q⟩ := h
    refine ⟨_, pss_one (ps_if (pt_not (pt_val (pv 0))) (pss_one ps_never) pss_nil), ?_⟩
    exact ⟨_, rfl, _, rfl, iteF q⟩
/-- a slice of a list or of a tuple -/
def rSlQ (K : PySem.W.Frag) : V → Option Int → Option Int → Hp → VK → Prop := fun x lo hi H Q => rSlL K x lo hi H Q ∨ L2.rSlA K x lo hi H Q
theorem ok_parts {f : Addr} {fd : FuncData} (F : Fun K "parts_of" "parts_of" t_parts_of f fd) (C : Npr K w mg) : FnOk P w K mg base CX0 1 f fd ["node"] (spParts K) := by
  refine F.ok scParts (fun vs H Q E h => ?_) (fun cdv A outer s H vs Q E hr h => ?_)
  · obtain ⟨v, p, H0, rfl, _⟩ := h
    rfl
  · obtain ⟨v, p, H0, rfl, s0, hf, q⟩ := h
    obtain ⟨aP, es, n, hP, hD, hK⟩ := C.parts
    --BODYA
    refine ⟨_, pss_one (ps_ret (pe_slice (SlR.or (show SlR _ (rSlL K) from sl_list) (show SlR _ (L2.rSlA K) from L2.sl_tupA)) (pv 0) (po_some pe_int) (po_some (pe_op op_add pe_int (pe_ix (show IxR _ (rIxD K w) from ix_kdict) (pe_glob (v := .ref aP) (by rfl) hP rfl) (pe_ix (show IxR _ (rIx K) from ix_seq) (pv 0) pe_int (fun _ _ => rfl)) (fun _ _ => rfl)))))), ?_⟩
    --END
    obtain ⟨a, xs, rfl, hs0, hl, h0, hp, _⟩ := fd_prog hf
    have hs := sq_go s0 hs0
    refine ⟨_, rfl, _, rfl, _, rfl, pick hs 0 h0 _ ⟨_, _, _, rfl, rfl, hK p, _, _, rfl, rfl, _, rfl, ?_⟩⟩
    have cut : cutV xs (some 1) (some (1 + ((partsP p).length : Int))) = (xs.drop 1).take (partsP p).length := by
      unfold cutV
      rw [show (some (1 : Int)) = some ((1 : Nat) : Int) from rfl, show (1 + ((partsP p).length : Int)) = ((1 + (partsP p).length : Nat) : Int) by omega, HT.sIx_nat, HT.sIx_nat]
      congr 1 <;> first | omega | (congr 1; omega)
    have all : Paired (fun x q => FD K H0 x (progD q)) ((xs.drop 1).take (partsP p).length) (partsP p) := by
      refine paired_mk (by rw [List.length_take, List.length_drop]; omega) fun i x hx => ?_
      have il : i < (partsP p).length := by
        have := (List.getElem?_eq_some_iff.mp hx).1
        rw [List.length_take] at this
        omega
      rw [List.getElem?_take_of_lt il, List.getElem?_drop, Nat.add_comm] at hx
      obtain ⟨q', hq', hf'⟩ := hp i x il hx
      exact ⟨q', hq', hf'⟩
    have notAll : ¬ (HT.sIx xs.length 0 (some 1) = 0 ∧ HT.sIx xs.length xs.length (some (1 + ((partsP p).length : Int))) = xs.length) := fun z => by
      have z1 := z.1
      rw [show (some (1 : Int)) = some ((1 : Nat) : Int) from rfl, HT.sIx_nat] at z1
      omega
    rcases hs with h | h
    · refine .inl ⟨a, xs, rfl, h, fun r nr => ?_⟩
      rw [cut]
      exact q r _ _ (sm_new sm_refl nr) (.inl upd_same) all
    · refine .inr ⟨a, xs, rfl, h, fun z => absurd z notAll, fun _ r nr => ?_⟩
      rw [cut]
      exact q r _ _ (sm_new sm_refl nr) (.inr (SqT.of upd_same)) all
theorem ok_isNode {f : Addr} {fd : FuncData} (F : Fun K "_is_node" "_is_node" t__is_node f fd) (N : Nm mg) (C : Npr K w mg) (Gs : Df P w K mg base 1 "is_sequence" ["value"] (spIsSeq K)) : FnOk P w K mg base CX0 2 f fd ["value"] (spIsNode K) := by
  obtain ⟨fS, fdS, gS, kS, bS, GS⟩ := Gs.ok
  refine F.ok scIsNode (fun vs H Q E h => ?_) (fun cdv A outer s H vs Q E hr h => ?_)
  · obtain ⟨v, p, rfl, _⟩ := h
    rfl
  · obtain ⟨v, p, rfl, hf, q⟩ := h
    have hr1 : Room 1 _ := hr.mono (by decide)
    obtain ⟨aP, es, n, hP, hD, hK⟩ := C.parts
    obtain ⟨aL, hL, hKL⟩ := C.lens
    --BODYB
    refine ⟨_, pss_cons (ps_if (PW.pt (pw_or (pt_not (pt_val (pe_call GS hr1 rfl gS kS bS .nil pass0 (pa_cons (pv 0) pa_nil)))) (pw_or (pt_cmpR op_eq (pe_callB (show CallR _ _ (rLenQ K) from call_len_seq) (by rfl) N.len PySem.boot_len (pa_cons (pv 0) pa_nil)) pe_int (nomark _)) (pw_or1 (pt_not (pt_val (pe_callB (show CallR _ _ (rIsi K) from call_isi) (by rfl) N.isi (by decide +kernel) (pa_cons (pe_ix (show IxR _ (rIx K) from ix_seq) (pv 0) pe_int (fun _ _ => rfl)) (pa_cons (pe_bltn (v := .ty "str") (by rfl) N.str (by decide +kernel) rfl) pa_nil))))))))) (pss_one (ps_ret pe_bl)) pss_nil)
      (pss_one (ps_ret (pe_and (pe_cmpR (op_in_kd hD) (pe_ix (show IxR _ (rIx K) from ix_seq) (pv 0) pe_int (fun _ _ => rfl)) (pe_glob (v := .ref aP) (by rfl) hP rfl) (by rfl)) (pe_one (pe_cmpR op_eq (pe_callB (show CallR _ _ (rLenQ K) from call_len_seq) (by rfl) N.len PySem.boot_len (pa_cons (pv 0) pa_nil)) (pe_ix (show IxR _ (rIxD K w) from ix_kdict) (pe_glob (v := .ref aL) (by rfl) hL rfl) (pe_ix (show IxR _ (rIx K) from ix_seq) (pv 0) pe_int (fun _ _ => rfl)) (fun _ _ => rfl)) (nomark _)))))), ?_⟩
    --END
    obtain ⟨a, xs, rfl, hs, hl, h0, _, _⟩ := fd_prog hf
    obtain ⟨t, kt, ht⟩ := Kd.sq hs
    refine ⟨_, rfl, _, t, rfl, kt, fun H1 s1 => ?_⟩
    have hs1 := sq_go s1 hs
    rw [decide_eq_true ht]
    refine ⟨_, rfl, ?_⟩
    refine iteF ⟨_, rfl, a, xs, rfl, hs1, rfl, _, rfl, ?_⟩
    rw [show decide (V.int (xs.length : Int) = V.int 0) = false by rw [decide_eq_false]; intro e; injection e; omega]
    refine iteF ⟨_, rfl, pick hs1 0 h0 _ ⟨_, _, _, _, true, rfl, .ty _, .base (.str _), kit_ty (by decide +kernel), ?_⟩⟩
    refine ⟨true, rfl, iteF ?_⟩
    obtain ⟨es2, n2, u, e1, e2, e3, e4⟩ := hK p
    refine ⟨_, rfl, pick hs1 0 h0 _ ⟨_, some u, rfl, rfl, e3, _, rfl, iteT ?_⟩⟩
    refine ⟨_, rfl, a, xs, rfl, hs1, _, rfl, pick hs1 0 h0 _ ⟨_, _, _, rfl, rfl, hKL p, rfl, ?_⟩⟩
    rw [hl, show ((((partsP p).length + (restD p).length + 1 : Nat) : Nat) : Int) = (((partsP p).length + (restD p).length + 1 : Nat) : Int) from rfl, decide_eq_true rfl]
    exact q H1 s1
theorem ok_isMany {f : Addr} {fd : FuncData} (F : Fun K "_is_many" "_is_many" t__is_many f fd) (N : Nm mg) (Gs : Df P w K mg base 1 "is_sequence" ["value"] (spIsSeq K)) : FnOk P w K mg base CX0 2 f fd ["value", "many"] (spIsMany K) := by
  obtain ⟨fS, fdS, gS, kS, bS, GS⟩ := Gs.ok
  refine F.ok scIsMany (fun vs H Q E h => ?_) (fun cdv A outer s H vs Q E hr h => ?_)
  · obtain ⟨v, ds, n, rfl, _⟩ := h
    rfl
  · obtain ⟨v, ds, n, rfl, hf, q⟩ := h
    have hr1 : Room 1 _ := hr.mono (by decide)
    --BODYC
    refine ⟨_, pss_one (ps_ret (pe_and (pe_call GS hr1 rfl gS kS bS .nil pass0 (pa_cons (pv 0) pa_nil)) (pe_one (pe_cmpR op_eq (pe_callB (show CallR _ _ (rLenQ K) from call_len_seq) (by rfl) N.len PySem.boot_len (pa_cons (pv 0) pa_nil)) (pv 1) (nomark _))))), ?_⟩
    --END
    obtain ⟨a, xs, rfl, hs, hl, _⟩ := fd_seq hf
    obtain ⟨t, kt, ht⟩ := Kd.sq hs
    refine ⟨_, rfl, _, t, rfl, kt, fun H1 s1 => ?_⟩
    have hs1 := sq_go s1 hs
    rw [decide_eq_true ht]
    refine ⟨_, rfl, iteT ⟨_, rfl, a, xs, rfl, hs1, _, rfl, rfl, ?_⟩⟩
    have e : decide (V.int (xs.length : Int) = V.int n) = decide ((ds.length : Int) = n) := by
      rw [hl]
      exact decide_eq_decide.mpr ⟨fun h => V.int.inj h, fun h => by rw [h]⟩
    rw [e]
    exact q H1 s1
theorem ok_isCol {f : Addr} {fd : FuncData} (F : Fun K "is_column" "is_column" t_is_column f fd) (Gi : Df P w K mg base 1 "is_integer" ["value"] (spIsInt K)) : FnOk P w K mg base CX0 2 f fd ["value", "width"] (spIsCol K) := by
  obtain ⟨fI, fdI, gI, kI, bI, GI⟩ := Gi.ok
  refine F.ok scIsCol (fun vs H Q E h => ?_) (fun cdv A outer s H vs Q E hr h => ?_)
  · obtain ⟨i, n, rfl, _⟩ := h
    rfl
  · obtain ⟨i, n, rfl, q⟩ := h
    have hr1 : Room 1 _ := hr.mono (by decide)
    --BODYD
    refine ⟨_, pss_one (ps_ret (pe_and (pe_call GI hr1 rfl gI kI bI .nil pass0 (pa_cons (pv 0) pa_nil)) (pe_one (pe_chain op_le op_lt pe_int (pv 0) (pv 1))))), ?_⟩
    --END
    refine ⟨_, rfl, _, _, rfl, .int i, _, rfl, iteT ⟨_, rfl, _, _, rfl, rfl, _, rfl, ?_⟩⟩
    refine ite2 (fun h => ?_) (fun h => ?_)
    · rw [show decide (0 ≤ i) = true from h, Bool.true_and] at q
      exact ⟨_, rfl, _, _, rfl, rfl, q⟩
    · rw [show decide (0 ≤ i) = false by simpa using h, Bool.false_and] at q
      exact q
end
end K14



set_option Elab.async false
set_option linter.all false
set_option maxRecDepth 100000
set_option maxHeartbeats 4000000
namespace K14
open PySem L2 Nd Bk Gd
/-! checking programs -/
def sumN (qs : List Prog) : Nat := (qs.map nodesP).sum
def rExtQ (K : PySem.W.Frag) : V → List V → Hp → VK → Prop := fun x vs H Q => rExtend x vs H Q ∨ Dw.rExtendT K x vs H Q
theorem paired_app {α β : Type} {R : α → β → Prop} : ∀ {xs : List α} {ys : List β} {us : List α} {ws : List β}, Paired R xs ys → Paired R us ws → Paired R (xs ++ us) (ys ++ ws)
  | _, _, _, _, .nil, h => h
  | _, _, _, _, .cons a t, h => .cons a (paired_app t h)
theorem paired_last {α β : Type} {R : α → β → Prop} {xs : List α} {ys : List β} (h : Paired R xs ys) (ne : xs ≠ []) : ∃ x y ys', xs[xs.length - 1]? = some x ∧ ys = ys' ++ [y] ∧ R x y ∧ Paired R xs.dropLast ys' := by
  have l := Paired.length h
  have : ∀ {xs : List α} {ys : List β}, Paired R xs ys → Paired R xs.dropLast ys.dropLast := by
    intro xs ys h
    induction h with
    | nil => exact .nil
    | @cons p q ps qs a t ih =>
      cases t with
      | nil => exact .nil
      | cons b u => exact .cons a ih
  have hl : xs.length - 1 < xs.length := by
    have := List.length_pos_iff.mpr ne
    omega
  obtain ⟨y, hy, r⟩ := paired_get h (List.getElem?_eq_getElem hl)
  refine ⟨_, y, ys.dropLast, List.getElem?_eq_getElem hl, ?_, r, this h⟩
  have ny : ys ≠ [] := fun e => by rw [e] at l; exact ne (List.length_eq_zero_iff.mp l)
  rw [l, ← List.getLast?_eq_getElem?] at hy
  obtain ⟨_, hy2⟩ := List.getLast?_eq_some_iff.mp hy
  rw [hy2]; simp
def kOf : List (Option V) → Nat
  | [_, _, some (.int k), _] => k.toNat
  | _ => 0
section
variable {P : Program} {w : World} {K : PySem.W.Frag} {mg : Str → Option Value} {base : Heap}
abbrev chkN : List Str := ["program", "waiting", "many", "node"]
theorem scChkN : FnScope chkN ["program"] (defScope t__check_nodes) := ⟨rfl, rfl, rfl, by decide +kernel, rfl, by decide +kernel, by decide +kernel⟩
theorem ok_chkN {f : Addr} {fd : FuncData} (F : Fun K "_check_nodes" "_check_nodes" t__check_nodes f fd) (C : Npr K w mg) (Gn : Df P w K mg base 1 "_need" ["holds"] (spNeed K)) (Gi : Df P w K mg base 2 "_is_node" ["value"] (spIsNode K))
    (Gp : Df P w K mg base 1 "parts_of" ["node"] (spParts K)) : FnOk P w K mg base CX0 3 f fd ["program"] (spChkN K) := by
  obtain ⟨fN, fdN, gN, kN, bN, GN⟩ := Gn.ok
  obtain ⟨fI, fdI, gI, kI, bI, GI⟩ := Gi.ok
  obtain ⟨fP, fdP, gP, kP, bP, GP⟩ := Gp.ok
  refine F.ok scChkN (fun vs H Q E h => ?_) (fun cdv A outer s H vs Q E hr h => ?_)
  · obtain ⟨v, p, rfl, _⟩ := h
    rfl
  · obtain ⟨v, p, rfl, hf, hn, q⟩ := h
    have hr1 : Room 1 _ := hr.mono (by decide)
    have hr2 : Room 2 _ := hr.mono (by decide)
    obtain ⟨tm, hm⟩ := C.nodes
    --BODYA
    refine ⟨_, pss_cons (ps_set (i := 1) scChkN.nd rfl (Or.inl rfl) (pe_lst (pa_cons (pv 0) pa_nil)))
      (pss_cons (ps_set (i := 2) scChkN.nd rfl (Or.inl rfl) pe_int)
      (pss_one (ps_while PassesOwn.never (pt_truth (pv 1) (fun _ => rfl))
      (pss_cons (ps_set (i := 3) scChkN.nd rfl (Or.inl rfl) (pe_bm0 PySem.F.plainAttrs_list PySem.F.slot_list_pop PySem.F.type_list_pop mt_pop (pv 1)))
      (pss_cons (ps_aug (i := 2) scChkN.nd rfl (Or.inl rfl) pe_int ip_add)
      (pss_cons (ps_expr (pe_call GN hr1 rfl gN kN bN .nil pass0 (pa_cons (pe_and (pe_cmpR op_le (pv 2) (pe_glob (v := .int 20) (by rfl) hm ⟨_, rfl⟩) (nomark _)) (pe_one (pe_call GI hr2 rfl gI kI bI .nil pass0 (pa_cons (pv 3) pa_nil)))) pa_nil)))
      (pss_one (ps_expr (pe_bm PySem.F.plainAttrs_list PySem.F.slot_list_extend PySem.F.type_list_extend (MtR.or mt_extend (show MtR _ _ (Dw.rExtendT K) from Dw.mt_extendT)) (pv 1) (pa_cons (pe_call GP hr1 rfl gP kP bP .nil pass0 (pa_cons (pv 3) pa_nil)) pa_nil)))))))))), ?_⟩
    --END
    refine ⟨_, rfl, (by show 1 ≤ sizeLine; decide), fun W nW => ?_⟩
    dsimp only [tSeq, tAsg, tC, gName]
    refine while_by (fun σ H4 => ∃ (k : Int) (nd : Option V) (xs : List V) (qs : List Prog), σ = [some v, some (.ref W), some (.int k), nd] ∧ Same H H4 ∧ H4 W = some (.lst xs) ∧ Paired (fun x q => FD K H x (progD q)) xs qs ∧ 0 ≤ k ∧ k + (sumN qs : Int) = nodesP p)
      (fun σ _ => nodesP p - kOf σ) ⟨0, none, [v], [p], rfl, sm_new sm_refl nW, upd_same, .cons hf .nil, Int.le_refl _, by simp [sumN]⟩ ?_ ?_
    · rintro σ H4 ⟨k, nd, xs, qs, rfl, s4, h4, pr, k0, ks⟩
      have hWn : ∀ H5, Same H4 H5 → H5 W = some (.lst xs) := fun H5 s5 => s5 _ _ h4
      refine ⟨_, rfl, !xs.isEmpty, .inl ⟨xs, SqL.of h4, rfl⟩, ?_⟩
      by_cases e : xs = []
      · subst e
        exact iteF (q H4 s4)
      obtain ⟨x, y, qs', hx, rfl, hxy, pr'⟩ := paired_last pr e
      rw [show (!xs.isEmpty) = true by cases xs with | nil => exact absurd rfl e | cons _ _ => rfl]
      have sn : sumN (qs' ++ [y]) = sumN qs' + nodesP y := by simp [sumN]
      have hy1 := nodesP_eq y
      refine iteT ⟨_, rfl, .inl ⟨rfl, _, .inl (.inl h4)⟩, W, xs, x, rfl, rfl, h4, hx, ?_⟩
      have s5 : Same H (upd H4 W (.lst xs.dropLast)) := fun a o ho => by
        rw [upd_ne (ne_of_none ho nW)]
        exact s4 _ _ ho
      have h5 : upd H4 W (.lst xs.dropLast) W = some (.lst xs.dropLast) := upd_same
      generalize upd H4 W (.lst xs.dropLast) = H5 at s5 h5 ⊢
      refine ⟨_, rfl, _, _, rfl, rfl, ?_⟩
      refine ⟨_, rfl, _, _, rfl, rfl, _, rfl, ?_⟩
      rw [show decide (k + 1 ≤ (20 : Int)) = true from decide_eq_true (by omega)]
      refine iteT ⟨_, rfl, _, y, rfl, hxy.same s5, fun H6 s6 => ⟨rfl, ?_⟩⟩
      have h6 := s6 _ _ h5
      refine ⟨_, rfl, .inl ⟨rfl, _, .inl (.inl h6)⟩, ?_⟩
      refine ⟨_, rfl, _, y, H, rfl, s5.trans s6, hxy, fun a us H7 s7 hus pus => ?_⟩
      have h7 := s7 _ _ h6
      have s57 := (s5.trans s6).trans s7
      have nW' : ∀ o, Same H (upd H7 W o) := fun o a o' ho => by
        rw [upd_ne (ne_of_none ho nW)]
        exact s57 _ _ ho
      have lz : xs.dropLast.length + us.length ≤ sizeLine := by
        have l1 := Paired.length pr'
        have l2 := Paired.length pus
        have e1 : ∀ l : List Prog, l.length ≤ sumN l := fun l => by
          induction l with
          | nil => exact Nat.le_refl _
          | cons a l ih =>
            have := nodesP_eq a
            simp only [sumN, List.map_cons, List.sum_cons, List.length_cons] at ih ⊢
            omega
        have e2 := e1 qs'
        have e3 := e1 (partsP y)
        have e4 : sumN (partsP y) = ((partsP y).map nodesP).sum := rfl
        rw [sizeLine_eq]
        omega
      have fin : (∃ (k' : Int) (nd : Option V) (xs' : List V) (qs : List Prog), [some v, some (V.ref W), some (.int (k + 1)), some x] = [some v, some (.ref W), some (.int k'), nd] ∧ Same H (upd H7 W (.lst (xs.dropLast ++ us))) ∧ upd H7 W (.lst (xs.dropLast ++ us)) W = some (.lst xs') ∧
          Paired (fun x q => FD K H x (progD q)) xs' qs ∧ 0 ≤ k' ∧ k' + (sumN qs : Int) = nodesP p) ∧ nodesP p - kOf [some v, some (V.ref W), some (.int (k + 1)), some x] < nodesP p - kOf [some v, some (.ref W), some (.int k), nd] := by
        refine ⟨⟨k + 1, _, _, qs' ++ partsP y, rfl, nW' _, upd_same, paired_app pr' pus, by omega, ?_⟩, ?_⟩
        · have : sumN (qs' ++ partsP y) = sumN qs' + ((partsP y).map nodesP).sum := by simp [sumN]
          omega
        · show nodesP p - (k + 1).toNat < nodesP p - k.toNat
          omega
      rcases hus with h | h
      · exact .inl ⟨W, a, _, us, rfl, rfl, h7, h, lz, fin⟩
      · exact .inr ⟨W, a, _, us, rfl, rfl, h7, h, lz, fin⟩
    · exact fun σ H Q Q' hq ⟨v, e, k, t, q⟩ => ⟨v, e, k, t, hq _ _ q⟩
end
end K14



set_option Elab.async false
set_option linter.all false
set_option maxRecDepth 100000
set_option maxHeartbeats 4000000
namespace K14
open PySem L2 Nd Bk Gd
/-! what stands in a node behind its parts -/
def spAreCols (K : PySem.W.Frag) : Sp := fun vs H Q _ => ∃ v cs, ∃ n : Nat, vs = [v, .int (n : Int)] ∧ FD K H v (colsD cs) ∧ (1 ≤ cs.length ∧ cs.length ≤ 6 ∧ ∀ c ∈ cs, c < n) ∧ ∀ H', Same H H' → Q (.bl true) H'
def spArePrs (K : PySem.W.Frag) : Sp := fun vs H Q _ => ∃ v ps, ∃ n m : Nat, vs = [v, .int (n : Int), .int (m : Int)] ∧ FD K H v (prsD ps) ∧ ps.length ≤ 1000000 ∧ (∀ x ∈ ps, x.1 < n ∧ x.2 < m) ∧ ∀ H', Same H H' → Q (.bl true) H'
def spIsSide (K : PySem.W.Frag) : Sp := fun vs H Q _ => ∃ v sd, ∃ n : Nat, vs = [v, .int (n : Int)] ∧ FD K H v (sideD sd) ∧ sideOk n sd = true ∧ ∀ H', Same H H' → Q (.bl true) H'
def spIsCmp (K : PySem.W.Frag) : Sp := fun vs H Q _ => ∃ v l g r, ∃ n : Nat, vs = [v, .int (n : Int)] ∧ FD K H v (cmpD l g r) ∧ (sideOk n l = true ∧ g ∈ signs ∧ sideOk n r = true) ∧ ∀ H', Same H H' → Q (.bl true) H'
def spIsMkg (K : PySem.W.Frag) : Sp := fun vs H Q _ => ∃ v k, ∃ i j n : Nat, vs = [v, .int (n : Int)] ∧ FD K H v (mkgD k i j) ∧ (k ∈ makes_ ∧ i < n ∧ j < n) ∧ ∀ H', Same H H' → Q (.bl true) H'
theorem fd_at {K : PySem.W.Frag} {H : Hp} {v : V} {ds : List PyData} (h : FD K H v (.tuple ds)) : ∃ (a : Addr) (xs : List V), v = .ref a ∧ (SqL K H a xs ∨ SqT K H a xs) ∧ xs.length = ds.length ∧ ∀ (i : Nat) (d : PyData), ds[i]? = some d → ∃ x : V, xs[i]? = some x ∧ FD K H x d := by
  obtain ⟨a, xs, rfl, hs, hl, hg⟩ := fd_seq h
  refine ⟨a, xs, rfl, hs, hl, fun i d hd => ?_⟩
  have il : i < xs.length := by rw [hl]; exact (List.getElem?_eq_some_iff.mp hd).1
  obtain ⟨d', hd', hf⟩ := hg i xs[i] (List.getElem?_eq_getElem il)
  rw [hd] at hd'
  cases hd'
  exact ⟨_, List.getElem?_eq_getElem il, hf⟩
theorem all_reps {K : PySem.W.Frag} {H : Hp} {D : Addr} {n : Nat} {Q : VK} (h : H D = some (.lst (List.replicate n (V.bl true)))) (q : Q (.bl true) H) : rAll K [.ref D] H Q := by
  refine ⟨D, List.replicate n true, rfl, SqL.of (by rw [List.map_replicate]; exact h), ?_⟩
  have : (List.replicate n true).all id = true := by
    rw [List.all_eq_true]
    exact fun x hx => (List.mem_replicate.mp hx).2
  rw [this]
  exact q
theorem rep_snoc (n : Nat) (v : V) : List.replicate n v ++ [v] = List.replicate (n + 1) v := by
  rw [List.replicate_succ']
section
variable {P : Program} {w : World} {K : PySem.W.Frag} {mg : Str → Option Value} {base : Heap}
abbrev colN : List Str := ["value", "width", "column"]
abbrev prsN : List Str := ["value", "width", "other", "pair"]
theorem scCols : FnScope colN ["value", "width"] (defScope t__are_columns) := ⟨rfl, rfl, rfl, by decide +kernel, rfl, by decide +kernel, by decide +kernel⟩
theorem scPrs : FnScope prsN ["value", "width", "other"] (defScope t__are_pairs) := ⟨rfl, rfl, rfl, by decide +kernel, rfl, by decide +kernel, by decide +kernel⟩
theorem scSide : FnScope ["value", "width"] ["value", "width"] (defScope t__is_side) := ⟨rfl, rfl, rfl, by decide +kernel, rfl, by decide +kernel, by decide +kernel⟩
theorem scCmp : FnScope ["value", "width"] ["value", "width"] (defScope t__is_comparison) := ⟨rfl, rfl, rfl, by decide +kernel, rfl, by decide +kernel, by decide +kernel⟩
theorem scMkg : FnScope ["value", "width"] ["value", "width"] (defScope t__is_making) := ⟨rfl, rfl, rfl, by decide +kernel, rfl, by decide +kernel, by decide +kernel⟩
theorem ok_cols {f : Addr} {fd : FuncData} (F : Fun K "_are_columns" "_are_columns" t__are_columns f fd) (N : Nm mg) (A0 : Ncl mg) (C : Npr K w mg) (Gs : Df P w K mg base 1 "is_sequence" ["value"] (spIsSeq K)) (Gc : Df P w K mg base 2 "is_column" ["value", "width"] (spIsCol K)) :
    FnOk P w K mg base CX0 3 f fd ["value", "width"] (spAreCols K) := by
  obtain ⟨fS, fdS, gS, kS, bS, GS⟩ := Gs.ok
  obtain ⟨fC, fdC, gC, kC, bC, GC⟩ := Gc.ok
  refine F.ok scCols (fun vs H Q E h => ?_) (fun cdv A outer s H vs Q E hr h => ?_)
  · obtain ⟨v, cs, n, rfl, _⟩ := h
    rfl
  · obtain ⟨v, cs, n, rfl, hf, ⟨c1, c2, c3⟩, q⟩ := h
    have hr1 : Room 1 _ := hr.mono (by decide)
    have hr2 : Room 2 _ := hr.mono (by decide)
    obtain ⟨tm, hm⟩ := C.cells
    --BODYA
    refine ⟨_, pss_cons (ps_if (PW.pt (pw_or (pt_not (pt_val (pe_call GS hr1 rfl gS kS bS .nil pass0 (pa_cons (pv 0) pa_nil)))) (pw_or1 (pt_not (pt_chain op_le op_le pe_int (pe_callB (show CallR _ _ (rLenQ K) from call_len_seq) (by rfl) N.len PySem.boot_len (pa_cons (pv 0) pa_nil)) (pe_glob (v := .int 6) (by rfl) hm ⟨_, rfl⟩)))))) (pss_one (ps_ret pe_bl)) pss_nil)
      (pss_one (ps_ret (pe_callB (show CallR _ _ (rAll K) from cr_all rfl) (by rfl) A0.all (by rfl) (pa_cons (pe_lc (own := [("column", 2)]) (g := gName 2) (tt := tYes) rfl scCols.nd (show PI _ _ _ (iAny K _) from pi_any (pv 0)) (blkOk_by (N := colN) (sc := defScope t__are_columns) (by decide +kernel))
          (fun _ _ _ _ _ => (pg_name (i := 2) scCols.nd rfl (Or.inl rfl))) (fun _ _ _ _ _ => pts_nil) (fun _ _ _ _ _ => (pe_call GC hr2 rfl gC kC bC .nil pass0 (pa_cons (pv 2) (pa_cons (pv 1) pa_nil))))) pa_nil)))), ?_⟩
    --END
    obtain ⟨a, xs, rfl, hs, hl, hg⟩ := fd_seq hf
    rw [List.length_map] at hl
    obtain ⟨t, kt, ht⟩ := Kd.sq hs
    refine ⟨_, rfl, _, t, rfl, kt, fun H1 s1 => ?_⟩
    have hs1 := sq_go s1 hs
    rw [decide_eq_true ht]
    refine ⟨_, rfl, iteF ⟨_, rfl, a, xs, rfl, hs1, _, _, rfl, rfl, _, rfl, ?_⟩⟩
    rw [show decide ((1 : Int) ≤ (xs.length : Int)) = true from decide_eq_true (by omega)]
    refine iteT ⟨_, _, rfl, rfl, _, rfl, ?_⟩
    rw [show decide ((xs.length : Int) ≤ 6) = true from decide_eq_true (by omega)]
    refine iteF ⟨_, rfl, any_go hs1 fun J G walk hG D nD => ?_⟩
    refine lc_it walk (fun i H2 => Same H1 H2 ∧ H2 D = some (.lst (List.replicate i (V.bl true)))) ⟨sm_new sm_refl nD, upd_same⟩ (fun i H2 _ ⟨s2, _⟩ => hG H2 s2.seq (sqT_same s2)) ?_ ?_
    · rintro i x _ H2 hi ⟨s2, hD⟩ ⟨rfl, hx⟩
      obtain ⟨d, hd, hxd⟩ := hg i x hx
      rw [List.getElem?_map] at hd
      obtain ⟨c, hc, rfl⟩ := Option.map_eq_some_iff.mp hd
      cases fd_int hxd
      have := c3 c (List.mem_of_getElem? hc)
      refine ⟨rfl, _, rfl, _, rfl, _, _, rfl, ?_⟩
      rw [show decide ((0 : Int) ≤ (c : Int)) = true from decide_eq_true (by omega), show decide ((c : Int) < (n : Int)) = true from decide_eq_true (by omega)]
      exact ⟨_, hD, by rw [List.length_replicate, sizeLine_eq]; omega, sm_new s2 nD, by rw [upd_same]; exact congrArg some (congrArg HO.lst (rep_snoc i _))⟩
    · rintro H2 ⟨s2, hD⟩
      exact all_reps hD (q H2 (s1.trans s2))
theorem ok_prs {f : Addr} {fd : FuncData} (F : Fun K "_are_pairs" "_are_pairs" t__are_pairs f fd) (N : Nm mg) (A0 : Ncl mg) (Gs : Df P w K mg base 1 "is_sequence" ["value"] (spIsSeq K)) (Gm : Df P w K mg base 2 "_is_many" ["value", "many"] (spIsMany K))
    (Gc : Df P w K mg base 2 "is_column" ["value", "width"] (spIsCol K)) : FnOk P w K mg base CX0 3 f fd ["value", "width", "other"] (spArePrs K) := by
  obtain ⟨fS, fdS, gS, kS, bS, GS⟩ := Gs.ok
  obtain ⟨fM, fdM, gM, kM, bM, GM⟩ := Gm.ok
  obtain ⟨fC, fdC, gC, kC, bC, GC⟩ := Gc.ok
  refine F.ok scPrs (fun vs H Q E h => ?_) (fun cdv A outer s H vs Q E hr h => ?_)
  · obtain ⟨v, ps, n, m, rfl, _⟩ := h
    rfl
  · obtain ⟨v, ps, n, m, rfl, hf, hl0, c3, q⟩ := h
    have hr1 : Room 1 _ := hr.mono (by decide)
    have hr2 : Room 2 _ := hr.mono (by decide)
    --BODYB
    refine ⟨_, pss_one (ps_ret (pe_and (pe_call GS hr1 rfl gS kS bS .nil pass0 (pa_cons (pv 0) pa_nil)) (pe_one (pe_callB (show CallR _ _ (rAll K) from cr_all rfl) (by rfl) A0.all (by rfl) (pa_cons (pe_lc (own := [("pair", 3)]) (g := gName 3) (tt := tYes) rfl scPrs.nd (show PI _ _ _ (iAny K _) from pi_any (pv 0)) (blkOk_by (N := prsN) (sc := defScope t__are_pairs) (by decide +kernel))
          (fun _ _ _ _ _ => (pg_name (i := 3) scPrs.nd rfl (Or.inl rfl))) (fun _ _ _ _ _ => pts_nil) (fun _ _ _ _ _ => (pe_and (pe_call GM hr2 rfl gM kM bM .nil pass0 (pa_cons (pv 3) (pa_cons pe_int pa_nil))) (pe_and (pe_call GC hr2 rfl gC kC bC .nil pass0 (pa_cons (pe_ix (show IxR _ (rIx K) from ix_seq) (pv 3) pe_int (fun _ _ => rfl)) (pa_cons (pv 1) pa_nil))) (pe_one (pe_call GC hr2 rfl gC kC bC .nil pass0 (pa_cons (pe_ix (show IxR _ (rIx K) from ix_seq) (pv 3) pe_int (fun _ _ => rfl)) (pa_cons (pv 2) pa_nil)))))))) pa_nil))))), ?_⟩
    --END
    obtain ⟨a, xs, rfl, hs, hl, hg⟩ := fd_seq hf
    rw [List.length_map] at hl
    obtain ⟨t, kt, ht⟩ := Kd.sq hs
    refine ⟨_, rfl, _, t, rfl, kt, fun H1 s1 => ?_⟩
    have hs1 := sq_go s1 hs
    rw [decide_eq_true ht]
    refine ⟨_, rfl, iteT ⟨_, rfl, any_go hs1 fun J G walk hG D nD => ?_⟩⟩
    refine lc_it walk (fun i H2 => Same H1 H2 ∧ H2 D = some (.lst (List.replicate i (V.bl true)))) ⟨sm_new sm_refl nD, upd_same⟩ (fun i H2 _ ⟨s2, _⟩ => hG H2 s2.seq (sqT_same s2)) ?_ ?_
    · rintro i x _ H2 hi ⟨s2, hD⟩ ⟨rfl, hx⟩
      obtain ⟨d, hd, hxd⟩ := hg i x hx
      rw [List.getElem?_map] at hd
      obtain ⟨c, hc, rfl⟩ := Option.map_eq_some_iff.mp hd
      have hc3 := c3 c (List.mem_of_getElem? hc)
      have s02 := s1.trans s2
      refine ⟨rfl, _, rfl, x, _, _, rfl, hxd.same s02, fun H3 s3 => ⟨_, rfl, ?_⟩⟩
      obtain ⟨b, us, rfl, hb, hbl, hbg⟩ := fd_at (hxd.same (s02.trans s3))
      obtain ⟨u0, e0, f0⟩ := hbg 0 _ rfl
      obtain ⟨u1, e1, f1⟩ := hbg 1 _ rfl
      cases fd_int f0
      cases fd_int f1
      rw [show decide (((([PyData.int (c.1 : Nat), PyData.int (c.2 : Nat)]).length : Nat) : Int) = 2) = true from rfl]
      refine iteT ⟨_, rfl, pick hb 0 e0 _ ⟨_, rfl, _, _, rfl, ?_⟩⟩
      rw [show decide ((0 : Int) ≤ (c.1 : Int)) = true from decide_eq_true (by omega), show decide ((c.1 : Int) < (n : Int)) = true from decide_eq_true (by omega)]
      refine ⟨_, rfl, iteT ⟨_, rfl, pick hb 1 e1 _ ⟨_, rfl, _, _, rfl, ?_⟩⟩⟩
      rw [show decide ((0 : Int) ≤ (c.2 : Int)) = true from decide_eq_true (by omega), show decide ((c.2 : Int) < (m : Int)) = true from decide_eq_true (by omega)]
      exact ⟨_, s3 _ _ hD, by rw [List.length_replicate, sizeLine_eq]; omega, sm_new (s2.trans s3) nD, by rw [upd_same]; exact congrArg some (congrArg HO.lst (rep_snoc i _))⟩
    · rintro H2 ⟨s2, hD⟩
      exact all_reps hD (q H2 (s1.trans s2))
theorem ok_side {f : Addr} {fd : FuncData} (F : Fun K "_is_side" "_is_side" t__is_side f fd) (Gm : Df P w K mg base 2 "_is_many" ["value", "many"] (spIsMany K))
    (Gc : Df P w K mg base 2 "is_column" ["value", "width"] (spIsCol K)) (Ge : Df P w K mg base 3 "is_cell" ["value"] (spCell K)) : FnOk P w K mg base CX0 4 f fd ["value", "width"] (spIsSide K) := by
  obtain ⟨fM, fdM, gM, kM, bM, GM⟩ := Gm.ok
  obtain ⟨fC, fdC, gC, kC, bC, GC⟩ := Gc.ok
  obtain ⟨fE, fdE, gE, kE, bE, GE⟩ := Ge.ok
  refine F.ok scSide (fun vs H Q E h => ?_) (fun cdv A outer s H vs Q E hr h => ?_)
  · obtain ⟨v, sd, n, rfl, _⟩ := h
    rfl
  · obtain ⟨v, sd, n, rfl, hf, hok, q⟩ := h
    have hr2 : Room 2 _ := hr.mono (by decide)
    have hr3 : Room 3 _ := hr.mono (by decide)
    --BODYC
    refine ⟨_, pss_cons (ps_if (pt_not (pt_val (pe_call GM hr2 rfl gM kM bM .nil pass0 (pa_cons (pv 0) (pa_cons pe_int pa_nil))))) (pss_one (ps_ret pe_bl)) pss_nil)
      (pss_one (ps_ret (pe_or (pe_and (pe_cmpR op_eq (pe_ix (show IxR _ (rIx K) from ix_seq) (pv 0) pe_int (fun _ _ => rfl)) pe_str (nomark _)) (pe_one (pe_call GC hr2 rfl gC kC bC .nil pass0 (pa_cons (pe_ix (show IxR _ (rIx K) from ix_seq) (pv 0) pe_int (fun _ _ => rfl)) (pa_cons (pv 1) pa_nil))))) (pe_one (pe_and (pe_cmpR op_eq (pe_ix (show IxR _ (rIx K) from ix_seq) (pv 0) pe_int (fun _ _ => rfl)) pe_str (nomark _)) (pe_one (pe_call GE hr3 rfl gE kE bE .nil pass0 (pa_cons (pe_ix (show IxR _ (rIx K) from ix_seq) (pv 0) pe_int (fun _ _ => rfl)) pa_nil)))))))), ?_⟩
    --END
    have hm : ∀ d0 d1, FD K H v (.tuple [d0, d1]) → ∃ a xs x0 x1, v = .ref a ∧ (SqL K H a xs ∨ SqT K H a xs) ∧ xs[0]? = some x0 ∧ xs[1]? = some x1 ∧ FD K H x0 d0 ∧ FD K H x1 d1 := fun d0 d1 h => by
      obtain ⟨b, us, rfl, hb, hbl, hbg⟩ := fd_at h
      obtain ⟨u0, e0, f0⟩ := hbg 0 _ rfl
      obtain ⟨u1, e1, f1⟩ := hbg 1 _ rfl
      exact ⟨b, us, u0, u1, rfl, hb, e0, e1, f0, f1⟩
    cases sd with
    | col i =>
      refine ⟨_, rfl, v, _, _, rfl, hf, fun H1 s1 => ⟨_, rfl, ?_⟩⟩
      obtain ⟨b, us, u0, u1, rfl, hb, e0, e1, f0, f1⟩ := hm _ _ hf
      have hb1 := sq_go s1 hb
      have il : i < n := of_decide_eq_true hok
      cases fd_str f0
      cases fd_int f1
      rw [show (!decide (((([sT "col", PyData.int (i : Nat)]).length : Nat) : Int) = 2)) = false from rfl]
      refine iteF ?_
      refine ⟨_, rfl, pick hb1 0 e0 _ ⟨rfl, _, rfl, ?_⟩⟩
      rw [decide_eq_true rfl]
      refine iteT ⟨_, rfl, pick hb1 1 e1 _ ⟨_, rfl, _, _, rfl, ?_⟩⟩
      rw [show decide ((0 : Int) ≤ (i : Int)) = true from decide_eq_true (by omega), show decide ((i : Int) < (n : Int)) = true from decide_eq_true (by omega)]
      exact ⟨_, rfl, iteT (q H1 s1)⟩
    | val k =>
      refine ⟨_, rfl, v, _, _, rfl, hf, fun H1 s1 => ⟨_, rfl, ?_⟩⟩
      obtain ⟨b, us, u0, u1, rfl, hb, e0, e1, f0, f1⟩ := hm _ _ hf
      have hb1 := sq_go s1 hb
      have kc : cellV (kV k) = true := hok
      cases fd_str f0
      have eu : u1 = kV k := by
        cases k with
        | inl i => exact fd_int f1
        | inr z => exact fd_str f1
      subst eu
      have kk : ∃ t, Kd K H1 (kV k) t := by
        cases k with
        | inl i => exact ⟨_, .int i⟩
        | inr z => exact ⟨_, .str z⟩
      obtain ⟨t, kk⟩ := kk
      have zl : ∀ z, kV k = V.str z → z.length ≤ 16000000 := fun z e => by
        cases k with
        | inl i => cases e
        | inr z' =>
          cases e
          have h2 : (lettersB z && decide (z.length ≤ 8)) = true := kc
          rw [Bool.and_eq_true] at h2
          have := of_decide_eq_true h2.2
          omega
      rw [show (!decide (((([sT "val", cellD k]).length : Nat) : Int) = 2)) = false from rfl]
      refine iteF ?_
      refine ⟨_, rfl, pick hb1 0 e0 _ ⟨rfl, _, rfl, ?_⟩⟩
      rw [decide_eq_false (fun e => by injection e with e; exact absurd e (by decide +kernel))]
      refine iteF ⟨_, rfl, iteF ⟨_, rfl, pick hb1 0 e0 _ ⟨rfl, _, rfl, ?_⟩⟩⟩
      rw [decide_eq_true rfl]
      refine iteT ⟨_, rfl, pick hb1 1 e1 _ ⟨_, _, rfl, kk, zl, fun H2 s2 => ?_⟩⟩
      rw [kc]
      exact q H2 (s1.trans s2)
end
end K14



set_option Elab.async false
set_option linter.all false
set_option maxRecDepth 100000
set_option maxHeartbeats 4000000
namespace K14
open PySem L2 Nd Bk Gd
/-! widths -/
def WidAt (H : Hp) (D : Addr) (W : Str → Option Nat) : Prop := ∃ kvs, H D = some (.dK kvs) ∧ ∀ z, valV kvs (.inr z) = (W z).map fun n => V.int (n : Nat)
/-- not very many pairs -/
def fewP : Prog → Prop
  | .take _ => True
  | .keep p .. => fewP p
  | .pick p _ => fewP p
  | .make p .. => fewP p
  | .both p q => fewP p ∧ fewP q
  | .join p q ps => fewP p ∧ fewP q ∧ ps.length ≤ 1000000
theorem few_part {p q : Prog} (h : fewP p) (hq : q ∈ partsP p) : fewP q := by
  cases p <;> simp only [partsP, List.mem_cons, List.not_mem_nil, or_false] at hq <;> simp only [fewP] at h
  case keep => subst hq; exact h
  case pick => subst hq; exact h
  case make => subst hq; exact h
  case both =>
    rcases hq with rfl | rfl
    · exact h.1
    · exact h.2
  case join =>
    rcases hq with rfl | rfl
    · exact h.1
    · exact h.2.1
def spWid (K : PySem.W.Frag) (d : Nat) : Sp := fun vs H Q _ => ∃ v D p, ∃ W : Str → Option Nat, ∃ n : Nat, vs = [v, .ref D] ∧ WidAt H D W ∧ FD K H v (progD p) ∧ widP W p = some n ∧ fewP p ∧ deepP p ≤ d ∧ ∀ H', Same H H' → Q (.int (n : Int)) H'
theorem flat_strs (l : List Str) : (l.map V.str).all flatV = true := by
  rw [List.all_eq_true]
  intro x hx
  obtain ⟨z, _, rfl⟩ := List.mem_map.mp hx
  rfl
theorem inV_strs (x : Str) (l : List Str) : (!inV (V.str x) (l.map V.str)) = decide (x ∉ l) := by
  have h : inV (V.str x) (l.map V.str) = decide (x ∈ l) := by
    unfold inV
    induction l with
    | nil => simp
    | cons y r ih =>
      rw [List.map_cons, List.any_cons, ih]
      have e : eqV (V.str y) (V.str x) = decide (y = x) := by
        show (y == x) = _
        by_cases q : y = x
        · rw [q, decide_eq_true rfl]
          exact beq_self_eq_true x
        · rw [decide_eq_false q]
          exact beq_eq_false_iff_ne.mpr q
      rw [e]
      by_cases q : y = x
      · simp [q]
      · have q' : x ≠ y := fun z => q z.symm
        simp [q, q']
  rw [h]
  by_cases q : x ∈ l <;> simp [q]
theorem inV_str {z : Str} {l : List Str} (h : z ∈ l) : inV (V.str z) (l.map V.str) = true := by
  have := inV_strs z l
  rw [decide_eq_false (fun q => q h)] at this
  simpa using this
section
variable {P : Program} {w : World} {K : PySem.W.Frag} {mg : Str → Option Value} {base : Heap}
theorem fd3 {H : Hp} {v : V} {d0 d1 d2 : PyData} (h : FD K H v (.tuple [d0, d1, d2])) : ∃ a xs x0 x1 x2, v = .ref a ∧ (SqL K H a xs ∨ SqT K H a xs) ∧ xs[0]? = some x0 ∧ xs[1]? = some x1 ∧ xs[2]? = some x2 ∧ FD K H x0 d0 ∧ FD K H x1 d1 ∧ FD K H x2 d2 := by
  obtain ⟨b, us, rfl, hb, hbl, hbg⟩ := fd_at h
  obtain ⟨u0, e0, f0⟩ := hbg 0 _ rfl
  obtain ⟨u1, e1, f1⟩ := hbg 1 _ rfl
  obtain ⟨u2, e2, f2⟩ := hbg 2 _ rfl
  exact ⟨b, us, u0, u1, u2, rfl, hb, e0, e1, e2, f0, f1, f2⟩
theorem ok_cmp {f : Addr} {fd : FuncData} (F : Fun K "_is_comparison" "_is_comparison" t__is_comparison f fd) (C : Npr K w mg) (Gm : Df P w K mg base 2 "_is_many" ["value", "many"] (spIsMany K))
    (Gs : Df P w K mg base 4 "_is_side" ["value", "width"] (spIsSide K)) : FnOk P w K mg base CX0 5 f fd ["value", "width"] (spIsCmp K) := by
  obtain ⟨fM, fdM, gM, kM, bM, GM⟩ := Gm.ok
  obtain ⟨fS, fdS, gS, kS, bS, GS⟩ := Gs.ok
  refine F.ok scCmp (fun vs H Q E h => ?_) (fun cdv A outer s H vs Q E hr h => ?_)
  · obtain ⟨v, l, g, r, n, rfl, _⟩ := h
    rfl
  · obtain ⟨v, l, g, r, n, rfl, hf, ⟨h1, h2, h3⟩, q⟩ := h
    have hr2 : Room 2 _ := hr.mono (by decide)
    have hr4 : Room 4 _ := hr.mono (by decide)
    obtain ⟨aS, hS, sS⟩ := C.signs
    --BODYA
    refine ⟨_, pss_cons (ps_if (PW.pt (pw_or (pt_not (pt_val (pe_call GM hr2 rfl gM kM bM .nil pass0 (pa_cons (pv 0) (pa_cons pe_int pa_nil))))) (pw_or1 (pt_cmpR (show OpR _ _ (rIn K true) from op_notIn_seq) (pe_ix (show IxR _ (rIx K) from ix_seq) (pv 0) pe_int (fun _ _ => rfl)) (pe_glob (v := .ref aS) (by rfl) hS rfl) (by rfl))))) (pss_one (ps_ret pe_bl)) pss_nil)
      (pss_one (ps_ret (pe_and (pe_call GS hr4 rfl gS kS bS .nil pass0 (pa_cons (pe_ix (show IxR _ (rIx K) from ix_seq) (pv 0) pe_int (fun _ _ => rfl)) (pa_cons (pv 1) pa_nil))) (pe_one (pe_call GS hr4 rfl gS kS bS .nil pass0 (pa_cons (pe_ix (show IxR _ (rIx K) from ix_seq) (pv 0) pe_int (fun _ _ => rfl)) (pa_cons (pv 1) pa_nil))))))), ?_⟩
    --END
    refine ⟨_, rfl, v, _, _, rfl, hf, fun H1 s1 => ⟨_, rfl, ?_⟩⟩
    obtain ⟨b, us, u0, u1, u2, rfl, hb, e0, e1, e2, f0, f1, f2⟩ := fd3 hf
    have hb1 := sq_go s1 hb
    cases fd_str f1
    rw [show (!decide (((([sideD l, PyData.str g, sideD r]).length : Nat) : Int) = 3)) = false from rfl]
    refine iteF ⟨_, rfl, pick hb1 1 e1 _ ⟨_, _, rfl, .inr (sS H1), rfl, flat_strs _, _, rfl, ?_⟩⟩
    rw [show (if true = true then !inV (V.str g) (signs.map V.str) else inV (V.str g) (signs.map V.str)) = false by rw [if_pos rfl, inV_str h2]; rfl]
    refine iteF ⟨_, rfl, pick hb1 0 e0 _ ⟨_, rfl, u0, l, n, rfl, f0.same s1, h1, fun H2 s2 => ⟨_, rfl, iteT ?_⟩⟩⟩
    exact ⟨_, rfl, pick (sq_go s2 hb1) 2 e2 _ ⟨_, rfl, u2, r, n, rfl, f2.same (s1.trans s2), h3, fun H3 s3 => q H3 ((s1.trans s2).trans s3)⟩⟩
theorem ok_mkg {f : Addr} {fd : FuncData} (F : Fun K "_is_making" "_is_making" t__is_making f fd) (C : Npr K w mg) (Gm : Df P w K mg base 2 "_is_many" ["value", "many"] (spIsMany K))
    (Gc : Df P w K mg base 2 "is_column" ["value", "width"] (spIsCol K)) : FnOk P w K mg base CX0 5 f fd ["value", "width"] (spIsMkg K) := by
  obtain ⟨fM, fdM, gM, kM, bM, GM⟩ := Gm.ok
  obtain ⟨fC, fdC, gC, kC, bC, GC⟩ := Gc.ok
  refine F.ok scMkg (fun vs H Q E h => ?_) (fun cdv A outer s H vs Q E hr h => ?_)
  · obtain ⟨v, k, i, j, n, rfl, _⟩ := h
    rfl
  · obtain ⟨v, k, i, j, n, rfl, hf, ⟨h1, h2, h3⟩, q⟩ := h
    have hr2 : Room 2 _ := hr.mono (by decide)
    obtain ⟨aS, hS, sS⟩ := C.makes
    --BODYB
    refine ⟨_, pss_cons (ps_if (PW.pt (pw_or (pt_not (pt_val (pe_call GM hr2 rfl gM kM bM .nil pass0 (pa_cons (pv 0) (pa_cons pe_int pa_nil))))) (pw_or1 (pt_cmpR (show OpR _ _ (rIn K true) from op_notIn_seq) (pe_ix (show IxR _ (rIx K) from ix_seq) (pv 0) pe_int (fun _ _ => rfl)) (pe_glob (v := .ref aS) (by rfl) hS rfl) (by rfl))))) (pss_one (ps_ret pe_bl)) pss_nil)
      (pss_one (ps_ret (pe_and (pe_call GC hr2 rfl gC kC bC .nil pass0 (pa_cons (pe_ix (show IxR _ (rIx K) from ix_seq) (pv 0) pe_int (fun _ _ => rfl)) (pa_cons (pv 1) pa_nil))) (pe_one (pe_call GC hr2 rfl gC kC bC .nil pass0 (pa_cons (pe_ix (show IxR _ (rIx K) from ix_seq) (pv 0) pe_int (fun _ _ => rfl)) (pa_cons (pv 1) pa_nil))))))), ?_⟩
    --END
    refine ⟨_, rfl, v, _, _, rfl, hf, fun H1 s1 => ⟨_, rfl, ?_⟩⟩
    obtain ⟨b, us, u0, u1, u2, rfl, hb, e0, e1, e2, f0, f1, f2⟩ := fd3 hf
    have hb1 := sq_go s1 hb
    cases fd_str f0
    cases fd_int f1
    cases fd_int f2
    rw [show (!decide (((([PyData.str k, PyData.int (i : Nat), PyData.int (j : Nat)]).length : Nat) : Int) = 3)) = false from rfl]
    refine iteF ⟨_, rfl, pick hb1 0 e0 _ ⟨_, _, rfl, .inr (sS H1), rfl, flat_strs _, _, rfl, ?_⟩⟩
    rw [show (if true = true then !inV (V.str k) (makes_.map V.str) else inV (V.str k) (makes_.map V.str)) = false by rw [if_pos rfl, inV_str h1]; rfl]
    refine iteF ⟨_, rfl, pick hb1 1 e1 _ ⟨_, rfl, _, _, rfl, ?_⟩⟩
    rw [show decide ((0 : Int) ≤ (i : Int)) = true from decide_eq_true (by omega), show decide ((i : Int) < (n : Int)) = true from decide_eq_true (by omega)]
    refine ⟨_, rfl, iteT ⟨_, rfl, pick hb1 2 e2 _ ⟨_, rfl, _, _, rfl, ?_⟩⟩⟩
    rw [show decide ((0 : Int) ≤ (j : Int)) = true from decide_eq_true (by omega), show decide ((j : Int) < (n : Int)) = true from decide_eq_true (by omega)]
    exact q H1 s1
end
end K14



set_option Elab.async false
set_option linter.all false
set_option maxRecDepth 100000
set_option maxHeartbeats 4000000
namespace K14
open PySem L2 Nd Bk Gd
/-! the width of a program -/
theorem WidAt.same {H H' : Hp} {D : Addr} {W : Str → Option Nat} (s : Same H H') (h : WidAt H D W) : WidAt H' D W := let ⟨k, h1, h2⟩ := h; ⟨k, s _ _ h1, h2⟩
theorem wid_parts {W : Str → Option Nat} {p q : Prog} {n : Nat} (h : widP W p = some n) (hq : q ∈ partsP p) : ∃ m, widP W q = some m := by
  cases p <;> simp only [partsP, List.mem_cons, List.not_mem_nil, or_false] at hq <;> simp only [widP] at h
  all_goals obtain ⟨m, hm, h⟩ := Option.bind_eq_some_iff.mp h
  case keep => subst hq; exact ⟨m, hm⟩
  case pick => subst hq; exact ⟨m, hm⟩
  case make => subst hq; exact ⟨m, hm⟩
  all_goals obtain ⟨k, hk, h⟩ := Option.bind_eq_some_iff.mp h
  all_goals rcases hq with rfl | rfl
  all_goals first | exact ⟨m, hm⟩ | exact ⟨k, hk⟩
section
variable {P : Program} {w : World} {K : PySem.W.Frag} {mg : Str → Option Value} {base : Heap}
abbrev widN : List Str := ["node", "widths", "kind", "part", "parts"]
theorem scWid : FnScope widN ["node", "widths"] (defScope t__width) := ⟨rfl, rfl, rfl, by decide +kernel, rfl, by decide +kernel, by decide +kernel⟩
theorem knd_f {a b : Str} (h : a ≠ b) : decide (V.str a = V.str b) = false := decide_eq_false fun e => h (V.str.inj e)
theorem knd_t (a : Str) : decide (V.str a = V.str a) = true := decide_eq_true rfl
theorem ok_wid {f : Addr} {fd : FuncData} (F : Fun K "_width" "_width" t__width f fd) (b : Binds K fd ["node", "widths"] []) (g : mg "_width" = some (.ref f)) (kp : PySem.W.keepIn K (.ref f) = true) (N : Nm mg) (C : Npr K w mg) (Gn : Df P w K mg base 1 "_need" ["holds"] (spNeed K)) (Gp : Df P w K mg base 1 "parts_of" ["node"] (spParts K))
    (Gj : Df P w K mg base 3 "_are_pairs" ["value", "width", "other"] (spArePrs K)) (Gc : Df P w K mg base 3 "_are_columns" ["value", "width"] (spAreCols K)) (Gk : Df P w K mg base 5 "_is_comparison" ["value", "width"] (spIsCmp K)) (Gm : Df P w K mg base 5 "_is_making" ["value", "width"] (spIsMkg K)) :
    ∀ d : Nat, FnOk P w K mg base CX0 (d + 5) f fd ["node", "widths"] (spWid K d) := by
  obtain ⟨fN, fdN, gN, kN, bN, GN⟩ := Gn.ok
  obtain ⟨fP, fdP, gP, kP, bP, GP⟩ := Gp.ok
  obtain ⟨fJ, fdJ, gJ, kJ, bJ, GJ⟩ := Gj.ok
  obtain ⟨fC, fdC, gC, kC, bC, GC⟩ := Gc.ok
  obtain ⟨fK, fdK, gK, kK, bK, GK⟩ := Gk.ok
  obtain ⟨fM, fdM, gM, kM, bM, GM⟩ := Gm.ok
  intro d
  induction d with
  | zero =>
    have no : ∀ {vs H Q E}, spWid K 0 vs H Q E → False := fun h => by
      obtain ⟨v, D, p, W, n, _, _, _, _, _, hd, _⟩ := h
      cases p <;> simp [deepP] at hd
    exact ⟨fun _ _ _ _ h => (no h).elim, fun _ _ _ _ _ _ _ _ _ _ _ _ _ h => (no h).elim⟩
  | succ d ih =>
    refine F.ok scWid (fun vs H Q E h => ?_) (fun cdv A outer s H vs Q E hr h => ?_)
    · obtain ⟨v, D, p, W, n, rfl, _⟩ := h
      rfl
    · obtain ⟨v, D, p, W, n, rfl, hW, hf, hp, hfew, hd, q⟩ := h
      have hr1 : Room 1 _ := hr.mono (by omega)
      have hr3 : Room 3 _ := hr.mono (by omega)
      have hr5 : Room 5 _ := hr.mono (by omega)
      obtain ⟨tm, hm⟩ := C.cells
      --BODYA
      refine ⟨_, pss_cons (ps_set (i := 2) scWid.nd rfl (Or.inl rfl) (pe_ix (show IxR _ (rIx K) from ix_seq) (pv 0) pe_int (fun _ _ => rfl)))
      (pss_cons (ps_if (pt_cmpR op_eq (pv 2) pe_str (nomark _)) (pss_cons (ps_expr (pe_call GN hr1 rfl gN kN bN .nil pass0 (pa_cons (pe_and (pe_callB (show CallR _ _ (rIsi K) from call_isi) (by rfl) N.isi (by decide +kernel) (pa_cons (pe_ix (show IxR _ (rIx K) from ix_seq) (pv 0) pe_int (fun _ _ => rfl)) (pa_cons (pe_bltn (v := .ty "str") (by rfl) N.str (by decide +kernel) rfl) pa_nil))) (pe_one (pe_cmp (pc_din (u1 hr) (pe_ix (show IxR _ (rIx K) from ix_seq) (pv 0) pe_int (fun _ _ => rfl)) (pv 1))))) pa_nil)))
      (pss_one (ps_ret (pe_dget (u1 hr) (pv 1) (pe_ix (show IxR _ (rIx K) from ix_seq) (pv 0) pe_int (fun _ _ => rfl)) (fun _ _ => rfl))))) pss_nil)
      (pss_cons (ps_setLc (i := 4) (own := [("part", 3)]) (g := gName 3) (tt := tYes) rfl scWid.nd rfl rfl (sw_true rfl rfl rfl (by decide +kernel)) (show PI _ _ _ (iAny K _) from pi_any (pe_call GP hr1 rfl gP kP bP .nil pass0 (pa_cons (pv 0) pa_nil))) (blkOk_by (N := widN) (sc := defScope t__width) (by decide +kernel))
          (fun _ _ _ _ _ => (pg_name (i := 3) scWid.nd rfl (Or.inl rfl))) (fun _ _ _ _ _ => pts_nil) (fun _ _ _ _ _ => (pe_call ih hr rfl g kp b .nil pass0 (pa_cons (pv 3) (pa_cons (pv 1) pa_nil)))))
      (pss_cons (ps_if (pt_cmpR op_eq (pv 2) pe_str (nomark _)) (pss_cons (ps_expr (pe_call GN hr1 rfl gN kN bN .nil pass0 (pa_cons (pe_and (pe_call GJ hr3 rfl gJ kJ bJ .nil pass0 (pa_cons (pe_ix (show IxR _ (rIx K) from ix_seq) (pv 0) pe_int (fun _ _ => rfl)) (pa_cons (pe_ix (show IxR _ (rIx K) from ix_seq) (pv 4) pe_int (fun _ _ => rfl)) (pa_cons (pe_ix (show IxR _ (rIx K) from ix_seq) (pv 4) pe_int (fun _ _ => rfl)) pa_nil)))) (pe_one (pe_cmpR op_le (pe_op op_add (pe_ix (show IxR _ (rIx K) from ix_seq) (pv 4) pe_int (fun _ _ => rfl)) (pe_ix (show IxR _ (rIx K) from ix_seq) (pv 4) pe_int (fun _ _ => rfl))) (pe_glob (v := .int 6) (by rfl) hm ⟨_, rfl⟩) (nomark _)))) pa_nil)))
      (pss_one (ps_ret (pe_op op_add (pe_ix (show IxR _ (rIx K) from ix_seq) (pv 4) pe_int (fun _ _ => rfl)) (pe_ix (show IxR _ (rIx K) from ix_seq) (pv 4) pe_int (fun _ _ => rfl)))))) pss_nil)
      (pss_cons (ps_if (pt_cmpR op_eq (pv 2) pe_str (nomark _)) (pss_cons (ps_expr (pe_call GN hr1 rfl gN kN bN .nil pass0 (pa_cons (pe_cmpR op_eq (pe_ix (show IxR _ (rIx K) from ix_seq) (pv 4) pe_int (fun _ _ => rfl)) (pe_ix (show IxR _ (rIx K) from ix_seq) (pv 4) pe_int (fun _ _ => rfl)) (nomark _)) pa_nil)))
      (pss_one (ps_ret (pe_ix (show IxR _ (rIx K) from ix_seq) (pv 4) pe_int (fun _ _ => rfl))))) pss_nil)
      (pss_cons (ps_if (pt_cmpR op_eq (pv 2) pe_str (nomark _)) (pss_cons (ps_expr (pe_call GN hr1 rfl gN kN bN .nil pass0 (pa_cons (pe_call GK hr5 rfl gK kK bK .nil pass0 (pa_cons (pe_ix (show IxR _ (rIx K) from ix_seq) (pv 0) pe_int (fun _ _ => rfl)) (pa_cons (pe_ix (show IxR _ (rIx K) from ix_seq) (pv 4) pe_int (fun _ _ => rfl)) pa_nil))) pa_nil)))
      (pss_one (ps_ret (pe_ix (show IxR _ (rIx K) from ix_seq) (pv 4) pe_int (fun _ _ => rfl))))) pss_nil)
      (pss_cons (ps_if (pt_cmpR op_eq (pv 2) pe_str (nomark _)) (pss_cons (ps_expr (pe_call GN hr1 rfl gN kN bN .nil pass0 (pa_cons (pe_call GC hr3 rfl gC kC bC .nil pass0 (pa_cons (pe_ix (show IxR _ (rIx K) from ix_seq) (pv 0) pe_int (fun _ _ => rfl)) (pa_cons (pe_ix (show IxR _ (rIx K) from ix_seq) (pv 4) pe_int (fun _ _ => rfl)) pa_nil))) pa_nil)))
      (pss_one (ps_ret (pe_callB (show CallR _ _ (rLenQ K) from call_len_seq) (by rfl) N.len PySem.boot_len (pa_cons (pe_ix (show IxR _ (rIx K) from ix_seq) (pv 0) pe_int (fun _ _ => rfl)) pa_nil))))) pss_nil)
      (pss_cons (ps_expr (pe_call GN hr1 rfl gN kN bN .nil pass0 (pa_cons (pe_and (pe_call GM hr5 rfl gM kM bM .nil pass0 (pa_cons (pe_ix (show IxR _ (rIx K) from ix_seq) (pv 0) pe_int (fun _ _ => rfl)) (pa_cons (pe_ix (show IxR _ (rIx K) from ix_seq) (pv 4) pe_int (fun _ _ => rfl)) pa_nil))) (pe_one (pe_cmpR op_lt (pe_ix (show IxR _ (rIx K) from ix_seq) (pv 4) pe_int (fun _ _ => rfl)) (pe_glob (v := .int 6) (by rfl) hm ⟨_, rfl⟩) (nomark _)))) pa_nil)))
      (pss_one (ps_ret (pe_op op_add (pe_ix (show IxR _ (rIx K) from ix_seq) (pv 4) pe_int (fun _ _ => rfl)) pe_int)))))))))), ?_⟩
      --END
      obtain ⟨a, xs, rfl, hs, hl, h0, hpt, hrs⟩ := fd_prog hf
      refine ⟨_, rfl, pick hs 0 h0 _ ?_⟩
      have rest : ∀ i d, (restD p)[i]? = some d → ∃ x, xs[(partsP p).length + 1 + i]? = some x ∧ FD K H x d := fun i d hdd => by
        have il : (partsP p).length + 1 + i < xs.length := by
          have := (List.getElem?_eq_some_iff.mp hdd).1
          omega
        obtain ⟨d', hd', hf'⟩ := hrs i xs[(partsP p).length + 1 + i] (List.getElem?_eq_getElem il)
        rw [hdd] at hd'
        cases hd'
        exact ⟨_, List.getElem?_eq_getElem il, hf'⟩
      by_cases isT : ∃ n', p = .take n'
      · obtain ⟨z, rfl⟩ := isT
        obtain ⟨x, hx, fx⟩ := rest 0 _ rfl
        cases fd_str fx
        obtain ⟨kvs, hD, hV⟩ := hW
        have hv : valV kvs (.inr z) = some (.int (n : Int)) := by rw [hV, show W z = some n from hp]; rfl
        have hg0 : DGet H D (.str z) (some (.int (n : Int))) := by rw [← hv]; exact DGet.k (k := Sum.inr z) hD
        refine ⟨_, rfl, rfl, _, rfl, ?_⟩
        rw [show decide (V.str (Str.ofString (kindS (Prog.take z))) = V.str (Str.ofString "take")) = true from knd_t _]
        refine iteT ⟨_, rfl, pick hs 1 hx _ ⟨_, _, _, _, true, rfl, .ty _, .base (.str z), kit_ty (by decide +kernel), true, rfl, iteT ?_⟩⟩
        refine ⟨_, rfl, pick hs 1 hx _ ⟨_, rfl, D, _, rfl, hg0, ⟨rfl, ?_⟩⟩⟩
        exact ⟨_, rfl, _, rfl, pick hs 1 hx _ ⟨D, _, rfl, hg0, q H sm_refl⟩⟩
      have nt : Str.ofString (kindS p) ≠ Str.ofString "take" := by
        cases p with
        | take z => exact absurd ⟨z, rfl⟩ isT
        | keep _ _ _ _ => show Str.ofString "keep" ≠ _; decide +kernel
        | pick _ _ => show Str.ofString "pick" ≠ _; decide +kernel
        | make _ _ _ _ => show Str.ofString "make" ≠ _; decide +kernel
        | both _ _ => show Str.ofString "both" ≠ _; decide +kernel
        | join _ _ _ => show Str.ofString "join" ≠ _; decide +kernel
      refine ⟨_, rfl, rfl, _, rfl, ?_⟩
      rw [knd_f nt]
      refine iteF ⟨_, rfl, _, p, H, rfl, sm_refl, hf, fun L ls H1 s1 hL pL => ?_⟩
      have hL' : SqL K H1 L ls ∨ SqT K H1 L ls := hL.imp SqL.of id
      refine any_go hL' fun J G walk hG R nR => ?_
      have lls : ls.length = (partsP p).length := Paired.length pL
      refine lc_it walk (fun i H2 => Same H1 H2 ∧ ∃ ms : List Nat, H2 R = some (.lst (ms.map fun m => V.int (m : Nat))) ∧ ((partsP p).take i).map (widP W) = ms.map some) ⟨sm_new sm_refl nR, [], upd_same, rfl⟩ (fun i H2 _ ⟨s2, _⟩ => hG H2 s2.seq (sqT_same s2)) ?_ ?_
      · rintro i x _ H2 hi ⟨s2, ms, hR, hms⟩ ⟨rfl, hx⟩
        obtain ⟨y, hy, fy⟩ := paired_get pL hx
        have ym : y ∈ partsP p := List.mem_of_getElem? hy
        obtain ⟨m, hm'⟩ := wid_parts hp ym
        have dy := deep_part ym
        refine ⟨rfl, _, rfl, _, rfl, x, D, y, W, m, rfl, hW.same (s1.trans s2), fy.same (s1.trans s2), hm', few_part hfew ym, by omega, fun H3 s3 => ?_⟩
        refine ⟨_, s3 _ _ hR, ?_, sm_new (s2.trans s3) nR, ms ++ [m], ?_, ?_⟩
        · have : ms.length ≤ i := by
            have := congrArg List.length hms
            rw [List.length_map, List.length_map, List.length_take] at this
            omega
          have l6 : (partsP p).length ≤ 2 := by cases p <;> simp [partsP]
          rw [List.length_map, sizeLine_eq]
          omega
        · rw [upd_same, List.map_append]; rfl
        · rw [List.take_succ, hy, List.map_append, List.map_append, hms]
          simp [hm']
      · rintro H2 ⟨s2, ms, hR, hms⟩
        rw [lls, List.take_length] at hms
        have hs2 := sq_go (s1.trans s2) hs
        have hRl : SqL K H2 R (ms.map fun m => V.int (m : Nat)) ∨ SqT K H2 R (ms.map fun m => V.int (m : Nat)) := .inl (SqL.of hR)
        have s12 := s1.trans s2
        have one : ∀ {q0 : Prog}, partsP p = [q0] → ∃ m, ms = [m] ∧ widP W q0 = some m := fun {q0} e => by
          rw [e] at hms
          cases ms with
          | nil => simp at hms
          | cons m ms =>
            cases ms with
            | nil => simp only [List.map_cons, List.map_nil, List.cons.injEq, and_true] at hms; exact ⟨m, rfl, hms⟩
            | cons _ _ => simp at hms
        have two : ∀ {q0 q1 : Prog}, partsP p = [q0, q1] → ∃ m k, ms = [m, k] ∧ widP W q0 = some m ∧ widP W q1 = some k := fun {q0 q1} e => by
          rw [e] at hms
          cases ms with
          | nil => simp at hms
          | cons m ms =>
            cases ms with
            | nil => simp at hms
            | cons k ms =>
              cases ms with
              | nil => simp only [List.map_cons, List.map_nil, List.cons.injEq, and_true] at hms; exact ⟨m, k, rfl, hms.1, hms.2⟩
              | cons _ _ => simp at hms
        cases p with
        | take z => exact absurd ⟨z, rfl⟩ isT
        | keep p0 l gg r =>
          obtain ⟨m, rfl, hm0⟩ := one rfl
          obtain ⟨x, hx, fx⟩ := rest 0 _ rfl
          have hx2 : xs[2]? = some x := hx
          simp only [widP, hm0, Option.bind_some] at hp
          split at hp
          · rename_i ok
            cases hp
            refine ⟨_, rfl, rfl, _, rfl, ?_⟩
            rw [show decide (V.str (Str.ofString (kindS (Prog.keep p0 l gg r))) = V.str (Str.ofString "join")) = false from knd_f (a := Str.ofString "keep") (by decide +kernel)]
            refine iteF ⟨_, rfl, rfl, _, rfl, ?_⟩
            rw [show decide (V.str (Str.ofString (kindS (Prog.keep p0 l gg r))) = V.str (Str.ofString "both")) = false from knd_f (a := Str.ofString "keep") (by decide +kernel)]
            refine iteF ⟨_, rfl, rfl, _, rfl, ?_⟩
            rw [show decide (V.str (Str.ofString (kindS (Prog.keep p0 l gg r))) = V.str (Str.ofString "keep")) = true from knd_t _]
            refine iteT ⟨_, rfl, pick hs2 2 hx2 _ ⟨_, rfl, pick hRl 0 rfl _ ⟨x, l, gg, r, _, rfl, fx.same s12, ok, fun H3 s3 => ⟨rfl, ?_⟩⟩⟩⟩
            exact ⟨_, rfl, pick (sq_go s3 hRl) 0 rfl _ (q H3 (s12.trans s3))⟩
          · cases hp
        | pick p0 cs =>
          obtain ⟨m, rfl, hm0⟩ := one rfl
          obtain ⟨x, hx, fx⟩ := rest 0 _ rfl
          have hx2 : xs[2]? = some x := hx
          simp only [widP, hm0, Option.bind_some] at hp
          split at hp
          · rename_i ok
            cases hp
            refine ⟨_, rfl, rfl, _, rfl, ?_⟩
            rw [show decide (V.str (Str.ofString (kindS (Prog.pick p0 cs))) = V.str (Str.ofString "join")) = false from knd_f (a := Str.ofString "pick") (by decide +kernel)]
            refine iteF ⟨_, rfl, rfl, _, rfl, ?_⟩
            rw [show decide (V.str (Str.ofString (kindS (Prog.pick p0 cs))) = V.str (Str.ofString "both")) = false from knd_f (a := Str.ofString "pick") (by decide +kernel)]
            refine iteF ⟨_, rfl, rfl, _, rfl, ?_⟩
            rw [show decide (V.str (Str.ofString (kindS (Prog.pick p0 cs))) = V.str (Str.ofString "keep")) = false from knd_f (a := Str.ofString "pick") (by decide +kernel)]
            refine iteF ⟨_, rfl, rfl, _, rfl, ?_⟩
            rw [show decide (V.str (Str.ofString (kindS (Prog.pick p0 cs))) = V.str (Str.ofString "pick")) = true from knd_t _]
            refine iteT ⟨_, rfl, pick hs2 2 hx2 _ ⟨_, rfl, pick hRl 0 rfl _ ⟨x, cs, m, rfl, fx.same s12, ok, fun H3 s3 => ⟨rfl, ?_⟩⟩⟩⟩
            obtain ⟨c, zs, rfl, hc, hcl, _⟩ := fd_seq (fx.same (s12.trans s3))
            rw [List.length_map] at hcl
            have q' := q H3 (s12.trans s3)
            rw [← hcl] at q'
            exact ⟨_, rfl, pick (sq_go s3 hs2) 2 hx2 _ ⟨c, zs, rfl, hc, q'⟩⟩
          · cases hp
        | make p0 k i j =>
          obtain ⟨m, rfl, hm0⟩ := one rfl
          obtain ⟨x, hx, fx⟩ := rest 0 _ rfl
          have hx2 : xs[2]? = some x := hx
          simp only [widP, hm0, Option.bind_some] at hp
          split at hp
          · rename_i ok
            obtain ⟨o1, o2, o3, o4⟩ := ok
            cases hp
            refine ⟨_, rfl, rfl, _, rfl, ?_⟩
            rw [show decide (V.str (Str.ofString (kindS (Prog.make p0 k i j))) = V.str (Str.ofString "join")) = false from knd_f (a := Str.ofString "make") (by decide +kernel)]
            refine iteF ⟨_, rfl, rfl, _, rfl, ?_⟩
            rw [show decide (V.str (Str.ofString (kindS (Prog.make p0 k i j))) = V.str (Str.ofString "both")) = false from knd_f (a := Str.ofString "make") (by decide +kernel)]
            refine iteF ⟨_, rfl, rfl, _, rfl, ?_⟩
            rw [show decide (V.str (Str.ofString (kindS (Prog.make p0 k i j))) = V.str (Str.ofString "keep")) = false from knd_f (a := Str.ofString "make") (by decide +kernel)]
            refine iteF ⟨_, rfl, rfl, _, rfl, ?_⟩
            rw [show decide (V.str (Str.ofString (kindS (Prog.make p0 k i j))) = V.str (Str.ofString "pick")) = false from knd_f (a := Str.ofString "make") (by decide +kernel)]
            refine iteF ⟨_, rfl, pick hs2 2 hx2 _ ⟨_, rfl, pick hRl 0 rfl _ ⟨x, k, i, j, m, rfl, fx.same s12, ⟨o1, o2, o3⟩, fun H3 s3 => ⟨_, rfl, iteT ?_⟩⟩⟩⟩
            have hR3 := sq_go s3 hRl
            refine ⟨_, rfl, pick hR3 0 rfl _ ⟨_, _, rfl, rfl, ?_⟩⟩
            rw [show ((fun i j : Int => V.bl (decide (i < j))) (m : Int) 6) = V.bl true from congrArg V.bl (decide_eq_true (by omega))]
            have q' := q H3 (s12.trans s3)
            rw [show (((m + 1 : Nat) : Nat) : Int) = (m : Int) + 1 by omega] at q'
            exact ⟨rfl, _, rfl, pick hR3 0 rfl _ ⟨_, _, rfl, rfl, q'⟩⟩
          · cases hp
        | both p0 p1 =>
          obtain ⟨m, k, rfl, hm0, hm1⟩ := two rfl
          simp only [widP, hm0, hm1, Option.bind_some] at hp
          split at hp
          · rename_i ok
            subst ok
            cases hp
            refine ⟨_, rfl, rfl, _, rfl, ?_⟩
            rw [show decide (V.str (Str.ofString (kindS (Prog.both p0 p1))) = V.str (Str.ofString "join")) = false from knd_f (a := Str.ofString "both") (by decide +kernel)]
            refine iteF ⟨_, rfl, rfl, _, rfl, ?_⟩
            rw [show decide (V.str (Str.ofString (kindS (Prog.both p0 p1))) = V.str (Str.ofString "both")) = true from knd_t _]
            refine iteT ⟨_, rfl, pick hRl 0 rfl _ ⟨_, rfl, pick hRl 1 rfl _ ⟨rfl, ?_⟩⟩⟩
            rw [decide_eq_true rfl]
            exact ⟨rfl, _, rfl, pick hRl 0 rfl _ (q H2 s12)⟩
          · cases hp
        | join p0 p1 ps =>
          obtain ⟨m, k, rfl, hm0, hm1⟩ := two rfl
          obtain ⟨x, hx, fx⟩ := rest 0 _ rfl
          have hx3 : xs[3]? = some x := hx
          simp only [widP, hm0, hm1, Option.bind_some] at hp
          split at hp
          · rename_i ok
            obtain ⟨o1, o2⟩ := ok
            cases hp
            refine ⟨_, rfl, rfl, _, rfl, ?_⟩
            rw [show decide (V.str (Str.ofString (kindS (Prog.join p0 p1 ps))) = V.str (Str.ofString "join")) = true from knd_t _]
            refine iteT ⟨_, rfl, pick hs2 3 hx3 _ ⟨_, rfl, pick hRl 0 rfl _ ⟨_, rfl, pick hRl 1 rfl _ ⟨x, ps, m, k, rfl, fx.same s12, ?_, o1, fun H3 s3 => ⟨_, rfl, iteT ?_⟩⟩⟩⟩⟩
            · exact hfew.2.2
            have hR3 := sq_go s3 hRl
            refine ⟨_, rfl, pick hR3 0 rfl _ ⟨_, rfl, pick hR3 1 rfl _ ⟨_, _, rfl, rfl, _, _, rfl, rfl, ?_⟩⟩⟩
            rw [show ((fun i j : Int => V.bl (decide (i ≤ j))) ((m : Int) + (k : Int)) 6) = V.bl true from congrArg V.bl (decide_eq_true (by omega))]
            have q' := q H3 (s12.trans s3)
            rw [show (((m + k : Nat) : Nat) : Int) = (m : Int) + (k : Int) by omega] at q'
            exact ⟨rfl, _, rfl, pick hR3 0 rfl _ ⟨_, rfl, pick hR3 1 rfl _ ⟨_, _, rfl, rfl, q'⟩⟩⟩
          · cases hp
end
end K14



set_option Elab.async false
set_option linter.all false
set_option maxRecDepth 100000
set_option maxHeartbeats 4000000
namespace K14
open PySem L2 Nd Bk PySem.Spec PyProof.Rows
/-! dict(list or tuple of pairs, each a list or a tuple), texts for keys -/
def PairV (K : PySem.W.Frag) (H : Hp) (x : V) (g : Str × V) : Prop := ∃ T, x = .ref T ∧ (SqL K H T [.str g.1, g.2] ∨ SqT K H T [.str g.1, g.2])
def kvG (gs : List (Str × V)) : List (Key × V) := gs.map fun g => (.inr g.1, g.2)
theorem kvG_nodup {gs : List (Str × V)} (h : (gs.map (·.1)).Nodup) : ((kvG gs).map (·.1)).Nodup := by
  unfold kvG
  rw [List.map_map]
  have e : ((fun kv : Key × V => kv.1) ∘ fun g : Str × V => ((Sum.inr g.1 : Key), g.2)) = (fun x : Str => (Sum.inr x : Key)) ∘ fun g : Str × V => g.1 := rfl
  rw [e, ← List.map_map]
  rw [List.Nodup, List.pairwise_map]
  exact h.imp fun {a b} hab e => hab (Sum.inr.inj e)
section
variable {X : Cx}
theorem pairs_ofG {pins : List (Addr × Obj)} {σ : L2.St} {H : Hp} {s : Shared} (I : Inv X pins σ H s) : ∀ {gs : List (Str × V)} {xs : List V} {us : List Value}, Paired (PairV X.K H) xs gs → Vals xs us →
    ∃ (as : List Addr) (ps : List (Value × Value)) (prs : List (Key × Value)), us = as.map Value.ref ∧ KV (kvG gs) prs ∧ as.length = gs.length ∧ ps.length = gs.length ∧
      ∀ (j : Nat) (k v : Value), ps[j]? = some (k, v) → (∃ a, as[j]? = some a ∧ PairAt s.heap a k v) ∧ ∃ key, prs[j]? = some (key, v) ∧ (mixKind X.prog X.w).is key k = true
  | _, _, _, .nil, r => by
    cases r
    exact ⟨[], [], [], rfl, .nil, rfl, rfl, fun j k v e => by simp at e⟩
  | g :: _, _, _, .cons h1 h2, r => by
    cases r with
    | cons r1 r2 =>
      obtain ⟨as, ps, prs, rfl, kv, la, lp, hh⟩ := pairs_ofG I h2 r2
      obtain ⟨T, rfl, hs⟩ := h1
      cases r1
      have key : ∃ u y, PairAt s.heap T u y ∧ RelV (.str g.1) u ∧ RelV g.2 y := by
        rcases hs with hs | hs
        · obtain ⟨its, rv, pl, _⟩ := I.list hs
          obtain ⟨u, y, ei, ru, ry⟩ := vals2 rv
          subst ei
          exact ⟨u, y, .inr pl.isList, ru, ry⟩
        · obtain ⟨its, rv, ht, _⟩ := I.tuple hs
          obtain ⟨u, y, ei, ru, ry⟩ := vals2 rv
          subst ei
          exact ⟨u, y, .inl ht, ru, ry⟩
      obtain ⟨u, y, hp, ru, ry⟩ := key
      refine ⟨T :: as, (u, y) :: ps, (.inr g.1, y) :: prs, rfl, .cons ⟨rfl, ry⟩ kv, by simp [la], by simp [lp], fun j k v e => ?_⟩
      cases j with
      | zero =>
        simp only [List.getElem?_cons_zero, Option.some.injEq, Prod.mk.injEq] at e
        obtain ⟨rfl, rfl⟩ := e
        exact ⟨⟨T, rfl, hp⟩, .inr g.1, rfl, kV_is (P := X.prog) (w := X.w) ru⟩
      | succ j =>
        simp only [List.getElem?_cons_succ] at e ⊢
        exact hh j k v e
def rDictG (K : PySem.W.Frag) : List V → Hp → VK → Prop := fun xs H Q => ∃ (a : Addr) (ys : List V) (gs : List (Str × V)), xs = [.ref a] ∧ (SqL K H a ys ∨ (PlainT H a ∧ SqT K H a ys)) ∧ Paired (PairV K H) ys gs ∧ (gs.map (·.1)).Nodup ∧
    ∀ p, H p = none → Q (.ref p) (upd H p (.dK (kvG gs)))
theorem paired_len {α β : Type} {R : α → β → Prop} : ∀ {xs : List α} {ys : List β}, Paired R xs ys → xs.length = ys.length
  | _, _, .nil => rfl
  | _, _, .cons _ t => by simp [paired_len t]
theorem call_dictG (hcalm : X.calm = true) : CallR X (.type "dict") (rDictG X.K) := by
  intro pins s σ H xs us Q I r q
  obtain ⟨a, ys, gs, ex, hp, hd, hnd, q⟩ := q
  subst ex
  obtain ⟨u, eu, rx⟩ := vals1 r
  subst eu
  cases rx
  have tl : (kvG gs).length = gs.length := List.length_map ..
  have hl := paired_len hd
  rcases hp with hp | ⟨hp, hs⟩
  · obtain ⟨its, rv, pl, hz⟩ := I.list hp
    obtain ⟨as, ps, prs, rfl, kv, la, lp, hh⟩ := pairs_ofG I hd rv
    have pl' : prs.length = gs.length := by rw [← tl, kv.length]
    obtain ⟨o, n, ho, hc, hdd0, hdat⟩ := pl
    refine PySem.call_dict_pairs (knd := mixKind X.prog X.w) (kvs := prs) (PairArg.list a (as.map Value.ref).toArray (fun j => as.getD j 0) ps) (I.ok.hd hcalm) ⟨⟨o, n, ho, hc, hdd0, hdat⟩, by simp [la, lp], fun j k v e => ?_⟩ ⟨by rw [pl', lp], fun i key v e => ?_⟩ (by rw [lp, ← hl]; exact hz) fun h' tk hdd hkk => ?_
    · obtain ⟨⟨b, hb, hpa⟩, _⟩ := hh j k v e
      have e2 : as.getD j 0 = b := by rw [List.getD_eq_getElem?_getD, hb]; rfl
      show (List.map Value.ref as).toArray[j]? = some (Value.ref (as.getD j 0)) ∧ PairAt s.heap (as.getD j 0) k v
      rw [e2]
      exact ⟨by simp [hb], hpa⟩
    · obtain ⟨_, key', h1, h2⟩ := hh i key v e
      exact ⟨key', h1, h2⟩
    · have hm : (s.heap.objs.size == sysModules) = false := beq_eq_false_iff_ne.mpr (Nat.ne_of_gt I.big)
      have em : mergeK [] (kvG gs) = kvG gs := merge_snoc (k := .inl 0) (v := .non) (kvG gs) [] (by rw [List.nil_append]; exact kvG_nodup hnd)
      have mr := KV.merge kv (kvs := []) (vs := []) .nil
      rw [em] at mr
      refine ⟨.ref s.heap.objs.size, upd H s.heap.objs.size (.dK (kvG gs)), I.laid (t' := tk) (fun b o e => hkk b o (by simp) e) (Nat.le_refl _) (show ObjOk X.prog X.w _ _ _ (.dK (kvG gs)) from ⟨?_, hm, merged [] prs, mr, hdd⟩), rfl, q _ (I.hok.fresh (Nat.le_refl _))⟩
      rw [tl, ← hl]
      exact hz
  · obtain ⟨its, rv, ht, hz⟩ := I.tuple hs
    obtain ⟨as, ps, prs, rfl, kv, la, lp, hh⟩ := pairs_ofG I hd rv
    have pl' : prs.length = gs.length := by rw [← tl, kv.length]
    obtain ⟨o, zs, hH, ho⟩ := hp
    have hk : s.heap.get? a = some o := (show ObjOk X.prog X.w H s.heap a (.frz o (.tup zs)) from I.hok a _ hH).1
    obtain ⟨o', ho', hc', n', hd'⟩ := ht
    rw [hk] at ho'
    cases ho'
    refine PySem.call_dict_pairs (knd := mixKind X.prog X.w) (kvs := prs) (PairArg.tuple a (as.map Value.ref).toArray (fun j => as.getD j 0) ps) (I.ok.hd hcalm) ⟨⟨o, n', hk, hc', ho, hd'⟩, by simp [la, lp], fun j k v e => ?_⟩ ⟨by rw [pl', lp], fun i key v e => ?_⟩ (by rw [lp, ← hl]; exact hz) fun h' tk hdd hkk => ?_
    · obtain ⟨⟨b, hb, hpa⟩, _⟩ := hh j k v e
      have e2 : as.getD j 0 = b := by rw [List.getD_eq_getElem?_getD, hb]; rfl
      show (List.map Value.ref as).toArray[j]? = some (Value.ref (as.getD j 0)) ∧ PairAt s.heap (as.getD j 0) k v
      rw [e2]
      exact ⟨by simp [hb], hpa⟩
    · obtain ⟨_, key', h1, h2⟩ := hh i key v e
      exact ⟨key', h1, h2⟩
    · have hm : (s.heap.objs.size == sysModules) = false := beq_eq_false_iff_ne.mpr (Nat.ne_of_gt I.big)
      have em : mergeK [] (kvG gs) = kvG gs := merge_snoc (k := .inl 0) (v := .non) (kvG gs) [] (by rw [List.nil_append]; exact kvG_nodup hnd)
      have mr := KV.merge kv (kvs := []) (vs := []) .nil
      rw [em] at mr
      refine ⟨.ref s.heap.objs.size, upd H s.heap.objs.size (.dK (kvG gs)), I.laid (t' := tk) (fun b o e => hkk b o (by simp) e) (Nat.le_refl _) (show ObjOk X.prog X.w _ _ _ (.dK (kvG gs)) from ⟨?_, hm, merged [] prs, mr, hdd⟩), rfl, q _ (I.hok.fresh (Nat.le_refl _))⟩
      rw [tl, ← hl]
      exact hz
end
end K14



set_option Elab.async false
set_option linter.all false
set_option maxRecDepth 100000
set_option maxHeartbeats 4000000
namespace K14
open PySem L2 Nd Bk Gd
def wof (ws : List (Str × Nat)) (z : Str) : Option Nat := (ws.find? fun g => decide (g.1 = z)).map (·.2)
def wgs (ws : List (Str × Nat)) : List (Str × V) := ws.map fun g => (g.1, V.int (g.2 : Nat))
theorem wgs_keys (ws : List (Str × Nat)) : (wgs ws).map (·.1) = ws.map (·.1) := by
  unfold wgs
  rw [List.map_map]
  rfl
theorem wof_val (ws : List (Str × Nat)) (z : Str) : valV (kvG (wgs ws)) (.inr z) = (wof ws z).map fun n => V.int (n : Nat) := by
  unfold wof
  induction ws with
  | nil => rfl
  | cons g ws ih =>
    unfold valV kvG wgs at ih ⊢
    rw [List.map_cons, List.map_cons, List.find?_cons, List.find?_cons]
    by_cases e : g.1 = z
    · rw [decide_eq_true e, show decide ((Sum.inr g.1 : Key) = .inr z) = true from decide_eq_true (by rw [e])]
      rfl
    · rw [decide_eq_false e, show decide ((Sum.inr g.1 : Key) = .inr z) = false from decide_eq_false fun q => e (Sum.inr.inj q)]
      exact ih
/-- pairs (name, width), for a dict -/
def WidsAt (K : PySem.W.Frag) (H : Hp) (u : V) (ws : List (Str × Nat)) : Prop := ∃ a ys, u = .ref a ∧ (SqL K H a ys ∨ (PlainT H a ∧ SqT K H a ys)) ∧ Paired (PairV K H) ys (wgs ws)
theorem PairV.same {K : PySem.W.Frag} {H H' : Hp} {x : V} {g : Str × V} (s : Same H H') (h : PairV K H x g) : PairV K H' x g := let ⟨T, e, q⟩ := h; ⟨T, e, sq_go s q⟩
theorem WidsAt.same {K : PySem.W.Frag} {H H' : Hp} {u : V} {ws : List (Str × Nat)} (s : Same H H') (h : WidsAt K H u ws) : WidsAt K H' u ws :=
  let ⟨a, ys, e, q, r⟩ := h; ⟨a, ys, e, q.imp s.seq fun ⟨x, y⟩ => ⟨x.same s, sqT_same s y⟩, Paired.mapP r fun _ _ z => z.same s⟩
def spWidOf (K : PySem.W.Frag) : Sp := fun vs H Q _ => ∃ v u p ws, ∃ n : Nat, vs = [v, u] ∧ FD K H v (progD p) ∧ WidsAt K H u ws ∧ (ws.map (·.1)).Nodup ∧ widP (wof ws) p = some n ∧ fewP p ∧ nodesP p ≤ 20 ∧ ∀ H', Same H H' → Q (.int (n : Int)) H'
structure Ndi (mg : Str → Option Value) : Prop where
  dict : mg "dict" = none
section
variable {P : Program} {w : World} {K : PySem.W.Frag} {mg : Str → Option Value} {base : Heap}
theorem scWidOf : FnScope ["program", "widths"] ["program", "widths"] (defScope t_width_of) := ⟨rfl, rfl, rfl, by decide +kernel, rfl, by decide +kernel, by decide +kernel⟩
theorem ok_widOf {f : Addr} {fd : FuncData} (F : Fun K "width_of" "width_of" t_width_of f fd) (D0 : Ndi mg) (Gc : Df P w K mg base 3 "_check_nodes" ["program"] (spChkN K)) (Gw : Df P w K mg base 25 "_width" ["node", "widths"] (spWid K 20)) :
    FnOk P w K mg base CX0 26 f fd ["program", "widths"] (spWidOf K) := by
  obtain ⟨fC, fdC, gC, kC, bC, GC⟩ := Gc.ok
  obtain ⟨fW, fdW, gW, kW, bW, GW⟩ := Gw.ok
  refine F.ok scWidOf (fun vs H Q E h => ?_) (fun cdv A outer s H vs Q E hr h => ?_)
  · obtain ⟨v, u, p, ws, n, rfl, _⟩ := h
    rfl
  · obtain ⟨v, u, p, ws, n, rfl, hf, hw, nd, hp, few, hn, q⟩ := h
    have hr3 : Room 3 _ := hr.mono (by decide)
    have hr25 : Room 25 _ := hr.mono (by decide)
    --BODYA
    refine ⟨_, pss_cons (ps_expr (pe_call GC hr3 rfl gC kC bC .nil pass0 (pa_cons (pv 0) pa_nil)))
      (pss_one (ps_ret (pe_call GW hr25 rfl gW kW bW .nil pass0 (pa_cons (pv 0) (pa_cons (pe_callTy (show CallR _ _ (rDictG K) from call_dictG rfl) (by rfl) D0.dict (by rfl) (pa_cons (pv 1) pa_nil)) pa_nil))))), ?_⟩
    --END
    refine ⟨_, rfl, v, p, rfl, hf, hn, fun H1 s1 => ?_⟩
    obtain ⟨a, ys, rfl, hq, pr⟩ := hw.same s1
    refine ⟨_, rfl, _, rfl, a, ys, wgs ws, rfl, hq, pr, by rw [wgs_keys]; exact nd, fun D nD => ?_⟩
    have s2 := sm_new sm_refl nD (o := .dK (kvG (wgs ws))) (H2 := H1)
    exact ⟨v, D, p, wof ws, n, rfl, ⟨_, upd_same, wof_val ws⟩, hf.same (s1.trans s2), hp, few, Nat.le_trans (deep_le p) hn, fun H3 s3 => q H3 ((s1.trans s2).trans s3)⟩
end
end K14



set_option Elab.async false
set_option linter.all false
set_option maxRecDepth 100000
set_option maxHeartbeats 4000000
namespace Nd
open PySem PySem.Spec PyProof.Rows L2
/-! ### sorted(d.items()) -/
section
variable {X : Cx}
def ItQ (K : PySem.W.Frag) (H : Hp) (prs : List (V × V)) (H' : Hp) (y : V) (dt : PyData) : Prop := ∃ b pr, pr ∈ prs ∧ y = .ref b ∧ H' b = some (.tup [pr.1, pr.2]) ∧ ∃ a c, dt = .tuple [a, c] ∧ Dp K H pr.1 a ∧ Dp K H pr.2 c
/-- sorted(d.items()): which pair each item of the list is -/
def rSortItemsQ (K : PySem.W.Frag) (P : Program) (w : World) : List V → Hp → VK → Prop := fun xs H Q => ∃ (p d : Addr) (prs : List (V × V)) (dts : List PyData), xs = [.ref p] ∧ H p = some (L2.DX.itemsO p d) ∧ DEnt K P w H d prs ∧ PrD K H prs dts ∧
  PySem.W.AllAlike dts ∧ (∀ t ∈ dts, t.depth ≤ 20) ∧ ∀ (l : Addr) (H' : Hp) (ys : List V), H l = none → Same H H' → H' l = some (.lst ys) → Paired (ItQ K H prs H') ys (dts.mergeSort (PySem.W.dataLe false id)) → Q (.ref l) H'
theorem pair_of {α β : Type} {R : α → β → Prop} : ∀ {xs : List α} {ys : List β}, xs.length = ys.length → (∀ (i : Nat) (x : α) (y : β), xs[i]? = some x → ys[i]? = some y → R x y) → Paired R xs ys
  | [], [], _, _ => .nil
  | [], _ :: _, h, _ => by cases h
  | _ :: _, [], h, _ => by cases h
  | x :: xs, y :: ys, h, g => .cons (g 0 x y rfl rfl) (pair_of (Nat.succ.inj h) fun i a b e1 e2 => g (i + 1) a b e1 e2)
/-- a made pair in the heap -/
def MadeQ (prs : List (V × V)) (K : PySem.W.Frag) (H : Hp) (h : Heap) (as : List Addr) (v : Value) (dt : PyData) : Prop := ∃ (b : Addr) (pr : V × V) (k u : Value), pr ∈ prs ∧ v = .ref b ∧ b ∈ as ∧ h.get? b = some { cls := .type "tuple", data := .seq #[k, u] } ∧
  L2.RelV pr.1 k ∧ L2.RelV pr.2 u ∧ ∃ a c, dt = .tuple [a, c] ∧ Dp K H pr.1 a ∧ Dp K H pr.2 c
theorem madeQ_refs {prs : List (V × V)} {K : PySem.W.Frag} {H : Hp} {h : Heap} {as : List Addr} : ∀ {vs : List Value} {ds : List PyData}, PySem.W.EachIs (MadeQ prs K H h as) vs ds → ∃ bs : List Addr, vs = bs.map Value.ref ∧ Vals (bs.map V.ref) vs ∧
    (∀ (j : Nat) (b : Addr) (dt : PyData), bs[j]? = some b → ds[j]? = some dt → MadeQ prs K H h as (.ref b) dt) ∧ bs.length = ds.length
  | _, _, .nil => ⟨[], rfl, .nil, fun j b dt h => (by simp at h), rfl⟩
  | _, _, .cons h t => by
    obtain ⟨bs, e, r, q, l⟩ := madeQ_refs t
    obtain ⟨b, pr, k, u, hm, rfl, hb⟩ := id h
    refine ⟨b :: bs, by rw [e]; rfl, .cons rfl r, fun j c dt h1 h2 => ?_, by simp [l]⟩
    cases j with
    | zero =>
      simp only [List.getElem?_cons_zero, Option.some.injEq] at h1 h2
      subst h1 h2
      exact h
    | succ j =>
      simp only [List.getElem?_cons_succ] at h1 h2
      exact q j c dt h1 h2
theorem cr_sortItemsQ (hc : X.calm = true) (hu : X.A.units + 64 < cLine) : CallR X (.builtin "sorted") (rSortItemsQ X.K X.prog X.w) := by
  intro pins s σ H xs us Q I r h
  obtain ⟨p, d, prs, dts, rfl, hp, hD, hP, hal, hdep, q⟩ := h
  obtain rfl := Vals.ref1 r
  have view : s.heap.IsItemsView p d := (show ObjOk X.prog X.w H s.heap p (L2.DX.itemsO p d) from I.hok p _ hp).1
  obtain ⟨hs, hz, ds, ep, hraw, hsz, hent⟩ := hD.raw I
  have hh : X.A.handled = none := I.ok.hd hc
  refine DT.sortedI (es := ds) (ep := ep) hh view hraw (by rw [hsz]; exact hz) fun h' tk as hk hlt hl hG => ?_
  have lp : prs.length = dts.length := Paired.length hP
  have nd : as.Nodup := List.Pairwise.imp (fun h => Nat.ne_of_lt h) hG.rise
  have hob : (h'.push { cls := .type "list", data := .seq (as.map Value.ref).toArray }).get? h'.objs.size = some (seqObj "list" (as.map Value.ref).toArray 0) := Heap.get?_push_size _ rfl
  have kb : ∀ b o, s.heap.get? b = some o → (h'.push { cls := .type "list", data := .seq (as.map Value.ref).toArray }).get? b = some o := fun b o e => Heap.get?_push_of_some _ (hk b o e)
  have ne0 : ∀ b o, h'.get? b = some o → b ≠ h'.objs.size := fun b o e => Nat.ne_of_lt (Heap.lt_size e)
  generalize hh2 : h'.push { cls := .type "list", data := .seq (as.map Value.ref).toArray } = h2 at hob kb ⊢
  have ka : ∀ b o, h'.get? b = some o → h2.get? b = some o := fun b o e => by rw [← hh2]; exact Heap.get?_push_of_some _ e
  have made : PySem.W.EachIs (MadeQ prs X.K H h' as) (as.map Value.ref) dts := by
    refine eachIs_of (by rw [List.length_map, hl, hsz, lp]) fun j v dt hj hd => ?_
    rw [List.getElem?_map] at hj
    cases qa : as[j]? with
    | none => rw [qa] at hj; cases hj
    | some b =>
      rw [qa] at hj
      cases hj
      obtain ⟨en, he, hg⟩ := hG.pairs j b qa
      have hjp : j < prs.length := by rw [lp]; exact (List.getElem?_eq_some_iff.mp hd).1
      obtain ⟨en', he', r1, r2⟩ := hent j _ (List.getElem?_eq_getElem hjp)
      rw [he] at he'
      cases he'
      obtain ⟨dt', hd', hpd⟩ := paired_get hP (List.getElem?_eq_getElem hjp)
      rw [hd] at hd'
      cases hd'
      exact ⟨b, prs[j], en.key, en.val, List.getElem_mem hjp, rfl, List.mem_of_getElem? qa, hg, r1, r2, hpd⟩
  have reads : PySem.W.EachIs (fun v dt => ∃ rs, Reads h2 v (id dt) rs ∧ h'.objs.size ∉ rs) (as.map Value.ref) dts := made.mono fun v dt ⟨b, pr, k, u, hm, ev, hb, hg, r1, r2, a, c, ed, d1, d2⟩ => by
    subst ev ed
    obtain ⟨as1, q1⟩ := Dp.reads I a _ _ d1 r1
    obtain ⟨as2, q2⟩ := Dp.reads I c _ _ d2 r2
    have q1' := PyProof.Rows.Reads.keeps kb q1
    have q2' := PyProof.Rows.Reads.keeps kb q2
    refine ⟨_, Reads.tuple (ka _ _ hg) rfl rfl (ReadsAll.cons q1' (ReadsAll.cons q2' ReadsAll.nil)), fun hm => ?_⟩
    have : h'.objs.size < s.heap.objs.size := by
      rcases List.mem_append.mp hm with hm | hm
      · exact reads_lt q1 _ hm
      · rcases List.mem_append.mp hm with hm | hm
        · exact reads_lt q2 _ hm
        · exact nomatch hm
    omega
  have hsort : PySem.W.Sortable (dts.map id) := .inl fun t ht => by
    rw [List.map_id] at ht
    obtain ⟨j, hj⟩ := List.mem_iff_getElem?.mp ht
    have hjp : j < prs.length := by rw [lp]; exact (List.getElem?_eq_some_iff.mp hj).1
    obtain ⟨dt', hd', a, c, e, _⟩ := paired_get hP (List.getElem?_eq_getElem hjp)
    rw [hj] at hd'
    cases hd'
    exact ⟨a, [c], e⟩
  refine PySem.W.list_sort_data (s := { s with heap := h2, toks := tk }) (R := MadeQ prs X.K H h' as) (enc := id) hob made reads (by rw [List.map_id]; exact hal) hsort (by rw [← lp]; exact hz) (fun b hb => ?_) fun out hlen hout => ?_
  · have := hdep b hb
    show X.A.in1.units + 1 + (id b).depth < cLine
    show X.A.units + 1 + 1 + b.depth < cLine
    omega
  show EP X pins σ Q (.ref h'.objs.size) { s with heap := sortedHeap h2 h'.objs.size (as.map Value.ref) out.toArray, toks := tk }
  have kF : ∀ b o, b ≠ h'.objs.size → h2.get? b = some o → (sortedHeap h2 h'.objs.size (as.map Value.ref) out.toArray).get? b = some o := fun b o hb e => (PyProof.Rows.sortedHeap_old hb (Heap.lt_size e)).trans e
  have kS : ∀ b o, s.heap.get? b = some o → (sortedHeap h2 h'.objs.size (as.map Value.ref) out.toArray).get? b = some o := fun b o e => kF b o (ne0 _ _ (hk b o e)) (kb b o e)
  obtain ⟨eF, heF⟩ := PyProof.Rows.sortedHeap_at (vs := as.map Value.ref) (out := out.toArray) hob
  have I1 : Inv X pins σ H { s with heap := sortedHeap h2 h'.objs.size (as.map Value.ref) out.toArray, toks := tk } := I.kept (t' := tk) kS
  have hn0 : H h'.objs.size = none := I.hok.fresh (Nat.le_of_lt hlt)
  obtain ⟨bs, eb, rv, hbs, lbs⟩ := madeQ_refs hout
  have hlen2 : (bs.map V.ref).length ≤ sizeLine := by
    rw [List.length_map, lbs, List.length_mergeSort, ← lp]
    exact hz
  have I2 : Inv X pins σ (upd H h'.objs.size (.lst (bs.map V.ref))) { s with heap := sortedHeap h2 h'.objs.size (as.map Value.ref) out.toArray, toks := tk } :=
    I1.take (h' := sortedHeap h2 h'.objs.size (as.map Value.ref) out.toArray) (t' := tk) (fun b ob _ e => e) (I.fpOk (Nat.le_of_lt hlt) hn0) ⟨hlen2, out, eF, rv, heF⟩
  obtain ⟨H2, I3, g, qt⟩ := L2.DX.takeT (P := fun b vs => ∃ (x y : V) (k u : Value), vs = [x, y] ∧ h'.get? b = some { cls := .type "tuple", data := .seq #[k, u] } ∧ L2.RelV x k ∧ L2.RelV y u) I as _ I2 nd fun b hb => by
    obtain ⟨j, hj⟩ := List.mem_iff_getElem?.mp hb
    obtain ⟨en, he, hg⟩ := hG.pairs j b hj
    have hjp : j < prs.length := by
      have := (Array.getElem?_eq_some_iff.mp he).1
      omega
    obtain ⟨en', he', r1, r2⟩ := hent j _ (List.getElem?_eq_getElem hjp)
    rw [he] at he'
    cases he'
    have hbl : s.heap.objs.size ≤ b := Nat.le_of_lt (hG.above b hb)
    refine ⟨hbl, ?_, [prs[j].1, prs[j].2], ⟨_, _, en.key, en.val, rfl, hg, r1, r2⟩, fun H3 => ⟨(by rw [sizeLine_eq]; show 2 ≤ 16777216; omega), [en.key, en.val], .cons r1 (.cons r2 .nil), ⟨_, kF _ _ (ne0 _ _ hg) (ka _ _ hg), rfl, 0, rfl⟩⟩⟩
    rw [upd_ne (ne0 _ _ hg)]
    exact I.hok.fresh hbl
  have gr : Same H H2 := fun b o e => g b o (by rw [upd_ne (ne_of_none e hn0)]; exact e)
  refine ⟨.ref h'.objs.size, H2, I3, rfl, q h'.objs.size H2 (bs.map V.ref) hn0 gr (g _ _ upd_same) ?_⟩
  refine pair_of (by rw [List.length_map]; exact lbs) fun j y dt hj hd => ?_
  rw [List.getElem?_map] at hj
  obtain ⟨b, hb0, rfl⟩ := Option.map_eq_some_iff.mp hj
  obtain ⟨b', pr, k, u, hm, eb', hb, hg, r1, r2, a, c, ed, d1, d2⟩ := hbs j b dt hb0 hd
  cases eb'
  obtain ⟨vs, ⟨x, y, k', u', ev, hg', r1', r2'⟩, hH⟩ := qt b hb
  rw [hg] at hg'
  cases hg'
  have ex : x = pr.1 := Option.some.inj (r1'.abs.symm.trans r1.abs)
  have ey : y = pr.2 := Option.some.inj (r2'.abs.symm.trans r2.abs)
  subst ev ed ex ey
  exact ⟨b, pr, hm, rfl, hH, a, c, rfl, d1, d2⟩
end
end Nd


set_option Elab.async false
set_option linter.all false
set_option maxRecDepth 100000
set_option maxHeartbeats 4000000
namespace K14
open PySem L2 Nd Bk Gd PySem.ExE
/-! what is done with polynomials in rows -/
abbrev Tbl := List (Row × Poly)
/-- a pair (row, polynomial) as it is kept -/
def MP (K : PySem.W.Frag) (H : Hp) (x : V) (p : Row × Poly) : Prop := ∃ U R T ys, x = .ref U ∧ SqT K H U [.ref R, .ref T] ∧ RowK H R p.1 ∧ Fz K H T ys p.2
theorem MP.kt {K : PySem.W.Frag} {H H' : Hp} {x : V} {p : Row × Poly} (k : KeepT H H') (h : MP K H x p) : MP K H' x p := let ⟨U, R, T, ys, e, h1, h2, h3⟩ := h; ⟨U, R, T, ys, e, sqT_kt k h1, k.1 _ _ h2, h3.kt k⟩
theorem MP.stay {K : PySem.W.Frag} : Stay (MP K) := ⟨fun k h => h.kt k⟩
theorem MP.same {K : PySem.W.Frag} {H H' : Hp} {x : V} {p : Row × Poly} (s : Same H H') (h : MP K H x p) : MP K H' x p := h.kt (.same s)
section
variable {P : Program} {w : World} {K : PySem.W.Frag} {mg : Str → Option Value} {base : Heap} {T C fI : Addr}
end
end K14



set_option Elab.async false
set_option linter.all false
set_option maxRecDepth 100000
set_option maxHeartbeats 4000000
/-! dicts whose keys are tuples: made of pairs, setdefault, walked by pairs -/
namespace Dt
open PySem PySem.Spec PyProof.Rows L2
theorem putK_new {κ : Type} [DecidableEq κ] {kvs : List (κ × V)} {k : κ} {v : V} (h : k ∉ kvs.map (·.1)) : putK kvs k v = kvs ++ [(k, v)] := by
  unfold putK
  rw [if_neg]
  intro e
  obtain ⟨x, hx, e⟩ := List.any_eq_true.mp e
  exact h (List.mem_map.mpr ⟨x, hx, of_decide_eq_true e⟩)
theorem fold_new {κ : Type} [DecidableEq κ] : ∀ (gs acc : List (κ × V)), ((acc ++ gs).map (·.1)).Nodup → gs.foldl (fun a g => putK a g.1 g.2) acc = acc ++ gs
  | [], acc, _ => by rw [List.append_nil]; rfl
  | g :: gs, acc, h => by
    have hn : g.1 ∉ acc.map (·.1) := fun m => by
      rw [List.map_append, List.nodup_append] at h
      exact h.2.2 _ m _ (List.mem_map.mpr ⟨g, List.mem_cons_self, rfl⟩) rfl
    rw [List.foldl_cons, putK_new hn, fold_new gs (acc ++ [(g.1, g.2)]) (by rw [List.append_assoc]; exact h), List.append_assoc]
    rfl
/-- a pair (tuple, value) -/
def PairT (K : PySem.W.Frag) (H : Hp) (x : V) (g : List Key × V) : Prop := ∃ U R, x = .ref U ∧ SqT K H U [.ref R, g.2] ∧ H R = some (.tup (g.1.map kV))
section
variable {X : Cx}
theorem kt_all {H : Hp} {gs : List (List Key × V)} : ∀ {acc : List (List Key × V)} {ps xs : List (List Key × Addr × Value)}, KT H gs ps → KT H acc xs → KT H (gs.foldl (fun a g => putK a g.1 g.2) acc) (storedAllH xs ps) := by
  induction gs with
  | nil =>
    intro acc ps xs h1 h2
    cases ps with
    | nil => exact h2
    | cons _ _ => exact nomatch (show Paired _ _ _ from h1)
  | cons g gs ih =>
    intro acc ps xs h1 h2
    cases ps with
    | nil => exact nomatch (show Paired _ _ _ from h1)
    | cons p ps =>
      obtain ⟨⟨e1, e2, e3⟩, t⟩ : (g.1 = p.1 ∧ H p.2.1 = some (.tup (g.1.map kV)) ∧ RelV g.2 p.2.2) ∧ KT H gs ps := by
        cases (show Paired _ _ _ from h1) with
        | cons a t => exact ⟨a, t⟩
      have q := KT.put h2 g.1 e2 e3
      have r := ih (acc := putK acc g.1 g.2) (xs := storedH xs g.1 p.2.1 p.2.2) t q
      rw [List.foldl_cons]
      show KT H _ (storedAllH (storedH xs p.1 p.2.1 p.2.2) ps)
      rw [← e1]
      exact r
theorem pairs_ofT {pins : List (Addr × Obj)} {σ : L2.St} {H : Hp} {s : Shared} (I : Inv X pins σ H s) : ∀ {gs : List (List Key × V)} {xs : List V} {us : List Value}, Paired (PairT X.K H) xs gs → Vals xs us →
    ∃ (as : List Addr) (ps : List (List Key × Addr × Value)), us = as.map Value.ref ∧ KT H gs ps ∧ as.length = gs.length ∧
      ∀ (j : Nat) (p : List Key × Addr × Value), ps[j]? = some p → ∃ a, as[j]? = some a ∧ PairAt s.heap a (.ref p.2.1) p.2.2
  | _, _, _, .nil, r => by
    cases r
    exact ⟨[], [], rfl, .nil, rfl, fun j p e => by simp at e⟩
  | g :: _, _, _, .cons h1 h2, r => by
    cases r with
    | cons r1 r2 =>
      obtain ⟨as, ps, rfl, kt, la, hh⟩ := pairs_ofT I h2 r2
      obtain ⟨U, R, rfl, hs, hR⟩ := h1
      cases r1
      obtain ⟨its, rv, ht, _⟩ := I.tuple hs
      obtain ⟨u, y, ei, ru, ry⟩ := vals2 rv
      subst ei
      cases ru
      refine ⟨U :: as, (g.1, R, y) :: ps, rfl, .cons ⟨rfl, hR, ry⟩ kt, by simp [la], fun j p e => ?_⟩
      cases j with
      | zero =>
        cases e
        exact ⟨U, rfl, .inl ht⟩
      | succ j => exact hh j p e
def rDictT (K : PySem.W.Frag) : List V → Hp → VK → Prop := fun xs H Q => ∃ (a : Addr) (ys : List V) (gs : List (List Key × V)), xs = [.ref a] ∧ SqL K H a ys ∧ Paired (PairT K H) ys gs ∧ (gs.map (·.1)).Nodup ∧
    ∀ p, H p = none → Q (.ref p) (upd H p (.dT gs))
theorem call_dictT2 (hcalm : X.calm = true) (hu : X.A.units + 64 < cLine) : CallR X (.type "dict") (rDictT X.K) := by
  intro pins s σ H xs us Q I r q
  obtain ⟨a, ys, gs, ex, hp, hd, hnd, q⟩ := q
  subst ex
  obtain ⟨u, eu, rx⟩ := vals1 r
  subst eu
  cases rx
  have hl : ys.length = gs.length := Paired.length hd
  obtain ⟨its, rv, pl, hz⟩ := I.list hp
  obtain ⟨as, ps, rfl, kt, la, hh⟩ := pairs_ofT I hd rv
  have lp : gs.length = ps.length := Paired.length kt
  obtain ⟨o, n, ho, hc, hdd0, hdat⟩ := pl
  refine PySem.call_dict_pairsH (knd := tupleKind (mixKind X.prog X.w)) (ps := ps) (PairArg.list a (as.map Value.ref).toArray (fun j => as.getD j 0) (ps.map fun p => (Value.ref p.2.1, p.2.2))) (I.ok.hd hcalm) ?_ ⟨⟨o, n, ho, hc, hdd0, hdat⟩, by simp [la, lp], fun j k v e => ?_⟩
    ⟨by rw [List.length_map], fun i key v e => ?_⟩ ?_ (by rw [List.length_map, ← lp, ← hl]; exact hz) fun h' tk hdd hkk => ?_
  · show X.A.in1.units + 1 < cLine
    have : X.A.in1.units = X.A.units + 1 := rfl
    omega
  · rw [List.getElem?_map] at e
    obtain ⟨p, hp', e2⟩ := Option.map_eq_some_iff.mp e
    cases e2
    obtain ⟨b, hb, hpa⟩ := hh j p hp'
    have e2 : as.getD j 0 = b := by rw [List.getD_eq_getElem?_getD, hb]; rfl
    show (List.map Value.ref as).toArray[j]? = some (Value.ref (as.getD j 0)) ∧ PairAt s.heap (as.getD j 0) _ _
    rw [e2]
    exact ⟨by simp [hb], hpa⟩
  · have e : (ps.map fun p => (Value.ref p.2.1, p.2.2))[i]? = some (key, v) := e
    rw [List.getElem?_map] at e
    obtain ⟨p, hp', e2⟩ := Option.map_eq_some_iff.mp e
    cases e2
    exact ⟨p.1, p.2.1, hp', rfl⟩
  · intro h' hk x hx
    obtain ⟨j, hj⟩ := List.getElem?_of_mem hx
    obtain ⟨g, hg⟩ : ∃ g, gs[j]? = some g := ⟨gs[j]'(by rw [lp]; exact (List.getElem?_eq_some_iff.mp hj).1), List.getElem?_eq_getElem _⟩
    obtain ⟨b, hb, e1, e2, _⟩ := paired_get kt hg
    rw [hj] at hb
    cases hb
    obtain ⟨o', its', n', q1, q2⟩ := key_of I.hok e2
    rw [← e1]
    exact ⟨o', its', n', hk _ _ (Nat.ne_of_lt (Heap.lt_size q1)) (by simp) q1, q2⟩
  · have hm : (s.heap.objs.size == sysModules) = false := beq_eq_false_iff_ne.mpr (Nat.ne_of_gt I.big)
    have kt2 := kt_all kt (acc := []) (xs := []) .nil
    rw [fold_new gs [] (by rw [List.nil_append]; exact hnd), List.nil_append] at kt2
    obtain ⟨o', es, ep, h1, h2, h3, h4, _, h5⟩ := hdd
    have hf : H s.heap.objs.size = none := I.hok.fresh (Nat.le_refl _)
    refine ⟨.ref s.heap.objs.size, upd H s.heap.objs.size (.dT gs), I.laid (t' := tk) (fun b o e => hkk b o (by simp) e) (Nat.le_refl _) (show ObjOk X.prog X.w _ _ _ (.dT gs) from ⟨?_, hm, _, kt2.keeps (fun b zs e => ?_), o', es, ep, h1, h2, h3, h4, h5⟩), rfl, q _ hf⟩
    · rw [← hl]
      exact hz
    · rw [upd_ne (ne_of_none e hf)]
      exact e
/-- d.setdefault(t, x), the keys tuples -/
def rSetdT : V → List V → Hp → VK → Prop := fun x xs H Q => ∃ (a : Addr) (kvs : List (List Key × V)) (k : List Key) (b : Addr) (d : V), x = .ref a ∧ xs = [.ref b, d] ∧ H a = some (.dT kvs) ∧ H b = some (.tup (k.map kV)) ∧ kvs.length < sizeLine ∧
  (∀ v, valV kvs k = some v → Q v H) ∧ (valV kvs k = none → Q d (upd H a (.dT (putK kvs k d))))
theorem mt_setdT (hu : X.A.units + 1 < cLine) : MtR X "dict.setdefault" rSetdT := by
  intro pins s σ H x xs v us Q I rx rxs h
  obtain ⟨a, kvs, k, b, d, rfl, rfl, ha, hb, hl, q1, q2⟩ := h
  cases rx
  obtain ⟨u1, u2, rfl, r1, r2⟩ := vals2 rxs
  cases r1
  obtain ⟨z, hd, xs', rel, dd⟩ := dt_of I.hok ha
  have hz : xs'.length ≤ sizeLine := by rw [← Paired.length rel]; exact z
  have r := rel.val k
  refine call_setdefault_heap (knd := tupleKind (mixKind X.prog X.w)) (k := k) (hsz := hz) (tupleKind_room_in1 hu) (key_of I.hok hb) hd dd (fun p hp => ?_) fun hn h' dd' hs => ?_
  · rw [hp] at r
    obtain ⟨v0, ev, rv⟩ : ∃ v0, valV kvs k = some v0 ∧ RelV v0 p.2 := by
      cases ev : valV kvs k with
      | none =>
        rw [ev] at r
        exact (show False from r).elim
      | some v0 =>
        rw [ev] at r
        exact ⟨v0, rfl, r⟩
    exact ⟨v0, H, I.tok _, rv, q1 v0 ev⟩
  · have e : valV kvs k = none := by
      rw [hn] at r
      cases ev : valV kvs k with
      | none => rfl
      | some v0 =>
        rw [ev] at r
        exact (show False from r).elim
    have hl2 : (putK kvs k d).length ≤ sizeLine := by
      have := length_putK kvs k d
      omega
    obtain ⟨o, es, ep, hq, h2, h3, h4, _, h5⟩ := dd'
    have I2 : Inv X pins σ (upd H a (.dT (putK kvs k d))) { s with heap := h', toks := s.toks + (tupleKind (mixKind X.prog X.w)).draws k } :=
      d_write I (by rw [ha]; exact True.intro) hs ⟨o, hq⟩ ⟨hl2, hd, _, (rel.put k hb r2).keeps (fun c ys ec => (by rw [upd_ne (ne_of ec ha (fun z => nomatch z))]; exact ec)), o, es, ep, hq, h2, h3, h4, h5⟩
    exact ⟨d, _, I2, r2, q2 e⟩
end
/-! for t, v in d.items() -/
section
variable {X : Cx} {pins : List (Addr × Obj)} {σ : L2.St} {H : Hp} {s : Shared} {d : Addr} {o : Obj}
theorem frzV {kvs : List (List Key × V)} (I : Inv X pins σ H s) (h : H d = some (.frz o (.dT kvs))) :
    (d == sysModules) = false ∧ s.heap.get? d = some o ∧ o.ExactDict ∧ ∃ (es : Array DictEntry) (ep : Nat), o.data = .dict es ep ∧ es.size = kvs.length ∧
      ∀ (i : Nat) (k : List Key) (v : V), kvs[i]? = some (k, v) → ∃ (en : DictEntry) (q : Addr), es[i]? = some en ∧ en.key = .ref q ∧ H q = some (.tup (k.map kV)) ∧ RelV v en.val := by
  obtain ⟨hd, z, hs, xs, pr, o', es, ep, ho, hx, hdt, he, _⟩ := I.hok d _ h
  rw [hd] at ho
  cases ho
  refine ⟨hs, hd, hx, es, ep, hdt, ?_, fun i k v e => ?_⟩
  · have l1 : es.size = xs.length := size_of_entries he
    have l2 : kvs.length = xs.length := Paired.length pr
    omega
  · obtain ⟨b, hb, e1, e2, e3⟩ := paired_get pr e
    have q := entry_at he i
    rw [hb] at q
    exact ⟨_, b.2.1, q, rfl, e2, e3⟩
end
def Itit (d : Addr) (o : Obj) (kvs : List (List Key × V)) : It :=
  ⟨fun i H => H d = some (.frz o (.dT kvs)) ∧ i < kvs.length, fun i H x H' => ∃ (T : Addr) (k : List Key) (v : V) (q : Addr), kvs[i]? = some (k, v) ∧ x = .ref T ∧ H T = none ∧ H q = some (.tup (k.map kV)) ∧ H' = upd H T (.tup [.ref q, v]),
    fun i H => H d = some (.frz o (.dT kvs)) ∧ kvs.length ≤ i⟩
section
variable {P : Program} {w : World} {K : PySem.W.Frag} {d : Addr} {o : Obj} {es : Array DictEntry} {ep : Nat}
theorem turn_itemsT {kvs : List (List Key × V)} {elts : List Expr} {kk : Nat} {tpos : Pos} (it : Addr) (hod : o.data = .dict es ep) :
    Turn P w K (.Tuple elts kk tpos) (Itit d o kvs) [it] it (fun i h => ∃ ok ov, IsItemIter h it d i kvs.length ep ok ov) where
  mem := by simp
  obj := fun i h st b hb => by
    obtain rfl : b = it := by simpa using hb
    obtain ⟨ok, ov, e⟩ := st
    exact ⟨_, e, fun v z => nomatch z⟩
  keep := fun i h h' ⟨ok, ov, e⟩ k => ⟨ok, ov, k it (by simp) _ e⟩
  item := by
    intro X hP hw hK hc i pins s σ H E I hf st hg
    subst hP hw hK
    obtain ⟨hd, hi⟩ := hg
    obtain ⟨hs, hgd, hx, es', ep', hdt, hsz, ent⟩ := frzV I hd
    obtain ⟨rfl, rfl⟩ := dict_ep hod hdt
    obtain ⟨⟨k, v⟩, hkv⟩ : ∃ p, kvs[i]? = some p := ⟨kvs[i], List.getElem?_eq_getElem hi⟩
    obtain ⟨en, q, hen, hkey, hq, rv⟩ := ent i k v hkv
    obtain ⟨ok, ov, he⟩ := st
    rw [← hsz] at he
    have hlt : it < s.heap.objs.size := Heap.lt_size he
    have hi' : i < es'.size := by rw [hsz]; exact hi
    have een : es'[i] = en := by
      have : es'[i]? = some es'[i] := Array.getElem?_eq_getElem hi'
      rw [hen] at this
      exact (Option.some.inj this).symm
    refine DT.nextI he ⟨o, hgd, hx, hdt⟩ hi' fun h' ho hT hz hk => ?_
    rw [een] at ho hT
    refine ⟨_, rfl, wpAny_letOwnedTupleGo_items (s := { s with heap := h' }) ho fun h'' he' sb => ?_⟩
    have hT2 : h''.get? s.heap.objs.size = some { cls := .type "tuple", data := .seq #[en.key, en.val] } := (sb.2 _ (Nat.ne_of_gt hlt)).trans hT
    have new : ObjOk X.prog X.w (upd H s.heap.objs.size (.tup [.ref q, v])) h'' s.heap.objs.size (.tup [.ref q, v]) :=
      ⟨by show 2 ≤ sizeLine; decide, [en.key, en.val], .cons hkey (.cons rv .nil), ⟨_, hT2, rfl, _, rfl⟩⟩
    have I1 : Inv X pins σ (upd H s.heap.objs.size (.tup [.ref q, v])) { s with heap := h'' } :=
      I.turnedNew (t' := s.toks) (ch := [it]) (fun b ob hb e => (sb.2 b (by simpa using hb)).trans (hk b ob (by simpa using hb) e)) hf (Nat.le_refl _) new
    refine ⟨.ref s.heap.objs.size, _, I1, rfl, ⟨_, k, v, q, hkv, rfl, I.hok.fresh (Nat.le_refl _), hq, rfl⟩, ⟨en.key, en.val, ?_⟩, fun b hb => ?_⟩
    · rw [← hsz]; exact he'
    · obtain rfl : b = it := by simpa using hb
      rw [upd_ne (Nat.ne_of_lt hlt)]
      exact (hf b (by simp)).1
  done := by
    intro X hP hw hK hc i pins s σ H E I hf st hg
    subst hP hw hK
    obtain ⟨hd, hi⟩ := hg
    obtain ⟨f0, f1, f2, f3, f4, f5⟩ := hf it (by simp)
    obtain ⟨hs, hgd, hx, es', ep', hdt, hsz, ent⟩ := frzV I hd
    obtain ⟨rfl, rfl⟩ := dict_ep hod hdt
    obtain ⟨ok, ov, he⟩ := st
    rw [← hsz] at he
    exact DT.endI (I.ok.hd hc) he ⟨o, hgd, hx, hdt⟩ (by rw [hsz]; exact hi) fun h' eb => ⟨rfl, I.turned (t' := s.toks) (fun b ob hb e => eb b ob hb e) f0 f1 f3 f4 f5⟩
  self := fun A i s Q E st h => let ⟨_, _, e⟩ := st; PySem.W.kcp_self e h
end
def iItemsT (td : TE) : TI := fun σ H R => td σ H fun x H1 => ∃ d o kvs, x = .ref d ∧ H1 d = some (.frz o (.dT kvs)) ∧ R (Itit d o kvs) H1
theorem pi_itemsT {X : Cx} {e : Expr} {td : TE} {apos cpos : Pos} {elts : List Expr} {kk : Nat} {tpos : Pos} (he : PE X e td) (hbase : attributeBase e "items" X.env (eval e X.env) = eval e X.env := by rfl) (hline : (apos.endLine == cpos.line) = true := by rfl) :
    PI X (.Tuple elts kk tpos) (.Call (.Attribute e "items" apos) [] [] cpos) (iItemsT td) := by
  refine ⟨fun pins s σ H R I h => ?_⟩
  refine wpAny_Call_method (T := "dict") (id := "dict.items") hbase rfl hline F.plainAttrs_dict F.slot_dict_items F.type_dict_items (thn (he.run pins s σ H _ I h) fun u s1 ⟨x, H1, I1, rx, d, o, kvs, ex, hd, q⟩ => ?_)
  subst ex
  obtain rfl : u = Value.ref d := rx
  obtain ⟨hs, hgd, hx, es, ep, hdt, hsz, ent⟩ := frzV I1 hd
  have raw : DT.Raw s1.heap d es ep := ⟨o, hgd, hx, hdt⟩
  have hnd : ∀ b, Value.ref d = .ref b → ∃ ob, s1.heap.get? b = some ob ∧ ob.dict = none := fun b e => by cases e; exact ⟨o, hgd, hx.2.1⟩
  refine ⟨raw.typeIs, hnd, ?_⟩
  have I2 : Inv X pins σ H1 { s1 with heap := s1.heap.push { cls := .type "dict_items", data := .fields #[.ref d] } } := I1.kept (t' := s1.toks) fun b ob q => Heap.get?_push_of_some _ q
  have fin : wpAny (model X.prog X.w) X.A (pyIter (.ref s1.heap.objs.size)) (PIE X pins σ (.Tuple elts kk tpos) R) X.xe { s1 with heap := s1.heap.push { cls := .type "dict_items", data := .fields #[.ref d] } } := by
    refine DT.iterI (d := d) ⟨_, Heap.get?_push_size _ rfl, rfl, rfl⟩ (raw.push _) (pi_one (tk := s1.toks) I2 _ (turn_itemsT _ hdt) ⟨.none, .none, ?_⟩ q)
    rw [hsz]
    exact Heap.get?_push_size _ rfl
  show wpAny _ _ (callWith cpos (.builtin "dict.items") [.ref d] [] []) _ X.xe s1
  exact method_meetsIn F.slot_dict_items F.entry_dict_items rfl (PySem.evalArgs_none ⟨rfl, raw.typeIs, F.args_dict_items_1 _, _, DT.meetsItems (es := es) (ep := ep) hs, raw, fin⟩)
theorem walk_itemsT {d : Addr} {o : Obj} {kvs : List (List Key × V)} : Walk (Itit d o kvs) kvs.length (fun H => H d = some (.frz o (.dT kvs)))
    (fun i H x H' => ∃ (T : Addr) (k : List Key) (v : V) (q : Addr), kvs[i]? = some (k, v) ∧ x = .ref T ∧ H T = none ∧ H q = some (.tup (k.map kV)) ∧ H' = upd H T (.tup [.ref q, v])) :=
  ⟨fun _ _ hi q => ⟨q, hi⟩, fun _ q => ⟨q, Nat.le_refl _⟩, fun _ _ _ _ _ _ y => y⟩
end Dt


set_option Elab.async false
set_option linter.all false
set_option maxRecDepth 100000
set_option maxHeartbeats 4000000
/-! C() of a class of the text without an __init__ of its own -/
namespace Gd
open PySem PySem.Spec PyProof.Rows L2
structure Mk0 (K : PySem.W.Frag) (C : Addr) : Prop where
  makes : PySem.W.makesIn K C = true
  init : PySem.W.findIn K (.ref C) "__init__" = some (some (.builtin "object.__init__"))
  kp : PySem.W.keepIn K (.ref C) = true
def tNew0 (C : Addr) : TE := fun _ H Q => ∀ x dx, H x = none → H dx = none → dx ≠ x → Q (.ref x) (upd (upd H dx (.own x)) x (.ins C dx []))
theorem pe_new0 {X : Cx} {C : Addr} {x : Str} {p pos : Pos} (M : Mk0 X.K C) (hg : Gl X x) (hm : X.mg x = some (.ref C)) (hdb : (x == ("__debug__" : Str)) = false := by decide) :
    PE X (.Call (.Name x p) [] [] pos) (tNew0 C) := by
  refine ⟨fun pins s σ H Q I h => ?_⟩
  refine wpAny_Call_Name_kw (ld_glob I hg hm ?_ hdb)
  refine PySem.W.callWith_K0 I.kIn M.kp ?_
  have hq := h (s.heap.objs.size + 1) s.heap.objs.size (I.hok.fresh (Nat.le_succ _)) (I.hok.fresh (Nat.le_refl _)) (Nat.ne_of_lt (Nat.lt_succ_self _))
  have I2 := Inv.made (C := C) I
  refine wpAny_call (make_map0 I.kIn M.makes M.init (fun self => PySem.W.Looks.of_pure (PySem.W.oi_bind _)) ?_)
  have hx : ((s.heap.push PySem.W.emptyDict).push (PySem.W.instObj C s.heap.objs.size)).get? (s.heap.objs.size + 1) = some (PySem.W.instObj C s.heap.objs.size) := by heap_get
  have t1 : PySem.W.Looks (model X.prog X.w) ((s.heap.push PySem.W.emptyDict).push (PySem.W.instObj C s.heap.objs.size)) (typeOf (.ref (s.heap.objs.size + 1))) (.ref C) := (PySem.W.Looks.ld hx).andThen .now
  have t2 : PySem.W.Looks (model X.prog X.w) ((s.heap.push PySem.W.emptyDict).push (PySem.W.instObj C s.heap.objs.size)) (isInstance (.ref (s.heap.objs.size + 1)) (.type "object")) true := t1.andThen ((PySem.W.makes_of (M := model X.prog X.w) I.kIn M.makes).top.keeps fun b o e => Heap.get?_push_of_some _ (Heap.get?_push_of_some _ e))
  refine codeAny_call_builtin PySem.W.oi_plain PySem.W.entry_oi (@PySem.W.check_slot (model X.prog X.w) _ _ _ "object.__init__" "object" "__init__" (.ref (s.heap.objs.size + 1)) [] [] _ PySem.W.oi_kind PySem.W.oi_split t2 (PySem.W.oi_args _) ?_)
  rw [PySem.W.oi_run]
  have fin : EP X pins σ Q (Value.ref (s.heap.objs.size + 1)) { s with heap := (s.heap.push PySem.W.emptyDict).push (PySem.W.instObj C s.heap.objs.size) } := ⟨V.ref (s.heap.objs.size + 1), _, I2, rfl, hq⟩
  exact wpAny_pure (And.intro rfl fin)
end Gd


set_option Elab.async false
set_option linter.all false
set_option maxRecDepth 100000
set_option maxHeartbeats 4000000
/-! a list comprehension whose element may raise -/
namespace L2
open PySem PySem.Spec PyProof.Rows PySem.HandSPX
section
variable {M : Model} {A : Around} {E : Value → Shared → Prop} {s : Shared} {env : Env} {outer : List Env} {L e : Addr} {base : Heap} {Z : Obj → Prop} {fl : Value}
/-- this frame notes the exception, whatever its flight says -/
theorem note_any {Q : Unit → Shared → Prop} (hZ : Steady Z) (hfr : A.frames = some (env :: outer)) (hf : env.frame = some L) (kb : base.StaysIn s.heap) (ne : base.get? e = none) (ff : s.heap.FunFrames base (env :: outer)) (t : TracedZ s.heap base e Z fl)
    (k : ∀ h', HeldZ base (env :: outer) e Z L h' → s.heap.UpToSlots h' → Q () { s with heap := h' }) : wpAny M A (noteFrame (.ref e) env) Q E s := by
  by_cases q : fl = rawInt L
  · subst q
    exact againZ hf t (k s.heap ⟨kb, ne, ff, t⟩ (Heap.UpToSlots.refl _))
  obtain ⟨oe, vs, T, oT, ts, g1, z1, d1, f1, nT, Te, g2, d2, f3⟩ := t
  have same : ∀ b, b ≠ T → (s.heap.update T (Obj.mapFields (·.setIfInBounds 3 .none))).get? b = s.heap.get? b := fun b nb => Heap.get?_update_other _ _ (Ne.symm nb)
  have noT : ∀ {b o}, s.heap.get? b = some o → (∀ vs, o.data ≠ .fields vs) → b ≠ T := fun {b o} gb nf eb => by
    subst eb
    rw [g2] at gb
    cases gb
    exact nf ts d2
  have inB : ∀ {b o}, base.get? b = some o → b ≠ T := fun {b o} gb eb => by subst eb; rw [nT] at gb; cases gb
  unfold noteFrame
  simp only [hf]
  refine wpAny_bind (wpAny_field g1 d1 f1 ?_)
  rw [if_pos (by simp)]
  refine wpAny_bind (wpAny_field g2 d2 f3 ?_)
  rw [if_neg (by simpa using q)]
  refine wpAny_bind (wpAny_setField g2 d2 (Array.getElem?_eq_some_iff.mp f3).1 (wpAny_entryZ hZ hfr (ff.of_keeps fun b o gb nf => ⟨o, (same b (noT gb nf)).trans gb, rfl⟩) hf ((same e (Ne.symm Te)).trans g1) (fun b o gb => (same b (inB gb)).trans (kb b o gb)) ne d1 (Array.getElem?_eq_some_iff.mp f1).1 z1 ?_))
  rintro h' ⟨y1, y2, y3, y4⟩
  exact k h' ⟨y1, ne, y2, y3⟩ fun b o gb nf => y4 b o ((same b (noT gb nf)).trans gb) nf
/-- a frame notes as its block does: both have one frame -/
theorem note_same {env' : Env} (h : env'.frame = env.frame) : noteFrame (.ref e) env' = noteFrame (.ref e) env := by
  unfold noteFrame PySem.frameOf
  rw [h]
end
theorem ff_on {h h' base base' : Heap} : ∀ {l : List Env}, h.FunFrames base l → (∀ L ∈ frs l, base'.get? L = none ∧ h'.get? L = h.get? L) → h'.FunFrames base' l
  | [], _, _ => trivial
  | env :: l, ⟨kd, ⟨L, o, e1, _, e3, e4⟩, r⟩, k => by
    obtain ⟨k1, k2⟩ := k L (List.mem_filterMap.mpr ⟨env, List.mem_cons_self, e1⟩)
    refine ⟨kd, ⟨L, o, e1, k1, k2.trans e3, e4⟩, ff_on r fun b hb => ?_⟩
    obtain ⟨e, he, q⟩ := List.mem_filterMap.mp hb
    exact k b (List.mem_filterMap.mpr ⟨e, List.mem_cons_of_mem _ he, q⟩)
section
variable {X : Cx} {pins : List (Addr × Obj)} {σ : St} {H : Hp} {sI s' : Shared} {B : Heap} {E : XK} {a : Addr} {cls : Value} {d : Option Addr} {fl : Value} {E₁ : Value → Shared → Prop}
/-- an exception leaves the def, whatever its flight says -/
theorem leave_any (hs : X.stack = X.env :: X.outer) (hf : X.env.frame = some X.env.locals) (hex : X.ex = []) (I : Inv X pins σ H sI) (nb : ∀ b o, sI.heap.get? b = some o → b ∉ frs X.stack → B.get? b = some o) (up : sI.heap.UpToSlots s'.heap)
    (kb : B.StaysIn s'.heap) (nB : B.get? a = none) (ff : s'.heap.FunFrames B X.stack) (t : TracedZ s'.heap B a (Zc cls d) fl) (na : H a = none) (os : s'.os = sI.os) (ag : AllBare s'.gens) (w : E cls d H) :
    wpAny (model X.prog X.w) X.A (leaving X.env (.ref a)) (fun _ s2 => CX X.prog X.w X.outer X.H_0 X.s_0 E (.ref a) s2) E₁ s' := by
  have frames : X.A.frames = some (X.env :: X.outer) := by rw [← hs]; exact I.ok.frames
  have nx : ∀ b, b ∉ X.ex := fun b h => by rw [hex] at h; cases h
  have low : ∀ {b o}, X.s_0.heap.get? b = some o → b ∉ X.fs → b ∉ frs X.stack := fun {b o} g h m => by
    rcases List.mem_cons.mp (I.stkSub b m) with z | z
    · have h1 := Heap.lt_size g
      rw [z] at h1
      exact Nat.lt_irrefl _ (Nat.lt_of_lt_of_le h1 I.ok.above)
    · exact h z
  rw [hs] at ff
  unfold leaving
  refine wpAny_bind (note_any Zc.steady frames hf kb nB ff t fun h1 hh up1 => landsZ hh fun h2 fz up2 => ?_)
  obtain ⟨y1, y2, ⟨_, _, y3⟩, y4⟩ := fz
  refine ⟨a, B, H, cls, d, rfl, ⟨y1, y2, y3, y4⟩, I.inGround nb, ⟨?_, ?_, ?_, ?_, I.base.tups, I.base.frzs, I.base.tbls⟩, na, os.trans I.os, ag, w⟩
  · exact fun b o g n h => nb b o (I.base.keep b o g n h (nx b)) (low g h)
  · intro b o g h
    obtain ⟨_, o0, g0, nf⟩ := I.ok.funs.mem h
    rw [g] at g0
    cases g0
    obtain ⟨l1, g1⟩ := I.base.slot b o g (I.ok.frf b h) h (nx b)
    obtain ⟨l2, g2⟩ := up b _ g1 nf
    obtain ⟨l3, g3⟩ := up1 b _ g2 nf
    obtain ⟨l4, g4⟩ := up2 b _ g3 nf
    exact ⟨l4, g4⟩
  · exact fun b o g n => I.base.free b o g n (nx b)
  · intro b o g h
    obtain ⟨o1, g1⟩ := I.base.there b o g (nx b)
    exact ⟨o1, nb b o1 g1 (low g h)⟩
/-- .. goes on out of a comprehension's block: the block's own dict at C goes -/
theorem pass_block {C : Addr} {what : String} {cenv : Env} {h' : Heap} (hs : X.stack = X.env :: X.outer) (hf : X.env.frame = some X.env.locals) (hex : X.ex = [])
    (hx : X.xe = fun e s' => wpAny (model X.prog X.w) X.A (leaving X.env e) (fun _ s2 => CX X.prog X.w X.outer X.H_0 X.s_0 E e s2) E₁ s')
    (I : Inv X pins σ H sI) (fC : FpOk X pins H C) (nb : ∀ b o, sI.heap.get? b = some o → b ∉ frs X.stack → B.get? b = some o) (up : sI.heap.UpToSlots s'.heap)
    (kb : B.StaysIn s'.heap) (nB : B.get? a = none) (ff : s'.heap.FunFrames B X.stack) (t : TracedZ s'.heap B a (Zc cls d) fl) (hC : ∃ o, B.get? C = some o) (na : H a = none) (os : s'.os = sI.os) (ag : AllBare s'.gens) (w : E cls d H) (sb : Heap.SameBut C s'.heap h') :
    wpAny (model X.prog X.w) X.A (PySem.passOn what (.ref a) cenv : Sem Value) (fun _ _ => False) X.xe { s' with heap := h' } := by
  obtain ⟨oC, gC⟩ := hC
  obtain ⟨oe, vs, T, oT, ts, g1, z1, d1, f1, nT, Te, g2, d2, f3⟩ := t
  have aC : a ≠ C := fun e => by subst e; rw [nB] at gC; cases gC
  have TC : T ≠ C := fun e => by subst e; rw [nT] at gC; cases gC
  obtain ⟨B1, r1, r2⟩ := restrict B fun b => decide (b ≠ C)
  have b1 : ∀ b o, B1.get? b = some o → b ≠ C ∧ B.get? b = some o := fun b o q => by
    by_cases e : b = C
    · rw [r2 b (by simp [e])] at q; cases q
    · exact ⟨e, (r1 b (by simp [e])) ▸ q⟩
  obtain ⟨G, q1, q2⟩ := restrict sI.heap fun b => decide (b ≠ C)
  have gG : ∀ b o, G.get? b = some o → b ≠ C ∧ sI.heap.get? b = some o := fun b o q => by
    by_cases e : b = C
    · rw [q2 b (by simp [e])] at q; cases q
    · exact ⟨e, (q1 b (by simp [e])) ▸ q⟩
  have none1 : ∀ {b}, B.get? b = none → B1.get? b = none := fun {b} n => by
    cases q : B1.get? b with
    | none => rfl
    | some o => rw [(b1 b o q).2] at n; cases n
  have J : Inv X pins σ H { sI with heap := G } := I.turned (t' := sI.toks) (fun b o nb' q => (q1 b (by simp [nb'])).trans q) fC.1 fC.2.1 fC.2.2.2.1 fC.2.2.2.2.1 fC.2.2.2.2.2
  have nS : C ∉ frs X.stack := fun m => by
    rcases List.mem_cons.mp (I.stkSub C m) with z | z
    · exact fC.2.1 z
    · exact fC.2.2.1 z
  have ff1 : h'.FunFrames B1 X.stack := ff_on ff fun L hL => ⟨none1 (ff.mem hL).1, sb.2 L fun e => nS (e ▸ hL)⟩
  have at1 : h'.get? a = some oe := (sb.2 a aC).trans g1
  have at2 : h'.get? T = some oT := (sb.2 T TC).trans g2
  unfold PySem.passOn
  refine wpAny_bind (wpAny_field at1 d1 f1 ?_)
  rw [if_neg (by simp)]
  refine wpAny_bind (setFlight_anyZ (base := B1) (l := X.stack) (fl := fl) (fun b o q => (sb.2 b (b1 b o q).1).trans (kb b o (b1 b o q).2)) ff1 ⟨oe, vs, T, oT, ts, at1, z1, d1, f1, none1 nT, Te, at2, d2, f3⟩ fun h3 k1 k2 k3 up3 => wpAny_throw ?_)
  rw [hx]
  refine leave_any hs hf hex J (B := B1) (fun b o q h => ?_) (fun b o q nf => ?_) k1 (none1 nB) k2 k3 na os ag w
  · obtain ⟨n1, n2⟩ := gG b o q
    exact (r1 b (by simp [n1])).trans (nb b o n2 h)
  · obtain ⟨n1, n2⟩ := gG b o q
    obtain ⟨l1, e1⟩ := up b o n2 nf
    obtain ⟨l2, e2⟩ := up3 b _ ((sb.2 b n1).trans e1) nf
    exact ⟨l2, e2⟩
end
/-! ### the comprehension -/
/-- the block with a wish about exceptions -/
abbrev Cx.blkX (X : Cx) (s : Shared) (H : Hp) (scope : Scope) (ce : Env) (fp : List Addr) (xe : Value → Shared → Prop) : Cx := { X.blk s H scope ce fp with xe := xe }
theorem inv_xe {Y : Cx} {pins : List (Addr × Obj)} {σ : St} {H : Hp} {s : Shared} (xe : Value → Shared → Prop) (I : Inv Y pins σ H s) : Inv { Y with xe := xe } pins σ H s :=
  have ok := I.ok
  ⟨⟨ok.mod, ok.kind, ok.glob, ok.blt, ok.above, ok.inj, ok.has, ok.cab, ok.hd, ok.frames, ok.stk, ok.exf, ok.bs, ok.bsz, ok.noex, ok.exfs, ok.funs, ok.frf⟩, I.os, I.bare, I.base, I.loc, I.cell, I.free, I.freeC, I.pin, I.hok, I.len⟩
theorem inv_ex {Y : Cx} {pins : List (Addr × Obj)} {σ : St} {H : Hp} {s : Shared} {xe : Value → Shared → Prop} (I : Inv { Y with xe := xe } pins σ H s) : Inv Y pins σ H s :=
  have ok := I.ok
  ⟨⟨ok.mod, ok.kind, ok.glob, ok.blt, ok.above, ok.inj, ok.has, ok.cab, ok.hd, ok.frames, ok.stk, ok.exf, ok.bs, ok.bsz, ok.noex, ok.exfs, ok.funs, ok.frf⟩, I.os, I.bare, I.base, I.loc, I.cell, I.free, I.freeC, I.pin, I.hok, I.len⟩
/-- what a block lets out -/
def xeOf (Y : Cx) (E : XK) : Value → Shared → Prop := fun u s' => XE Y (fun cls d _ H => E cls d H) u s'
theorem takes_xeOf {Y : Cx} {E : XK} : Takes { Y with xe := xeOf Y E } (fun cls d _ H => E cls d H) := fun u s' ⟨a, B, sI, pins, σ, H, cls, d, e, I, r⟩ => ⟨a, B, sI, pins, σ, H, cls, d, e, inv_ex I, r⟩
/-- [elt for target in iter]: D the new list; Pv by the turn; N turns at most -/
def tLcX (wi : TI) (g : TG) (te : TE) (vs : List Nat) : TE := fun σ H Q => wi σ H fun J H1 => ∀ D, H1 D = none → ∃ (N : Nat) (Pv : Nat → Hp → Prop), Pv 0 (upd H1 D (.lst [])) ∧ ∀ i H, Pv i H →
  (J.stop i H ∧ Q (.ref D) H) ∨ (i < N ∧ J.go i H ∧ ∀ x H', J.yld i H x H' → g x (wipe σ vs) H' fun σ2 H2 => wipe σ2 vs = wipe σ vs ∧ te σ2 H2 fun y H4 => ∃ acc, H4 D = some (.lst acc) ∧ acc.length < sizeLine ∧ Pv (i + 1) (upd H4 D (.lst (acc ++ [y]))))
section
variable {X : Cx} {pins : List (Addr × Obj)} {σ : St} {H3 : Hp} {s3 : Shared} {E : XK} {E₁ : Value → Shared → Prop} {scope : Scope} {ce : Env} {fp : List Addr} {Qf : Value → Shared → Prop} {acc : Value}
/-- an exception of the block goes on out of the comprehension -/
theorem block_lets (hs : X.stack = X.env :: X.outer) (hf : X.env.frame = some X.env.locals) (hex : X.ex = []) (hx : X.xe = fun e s' => wpAny (model X.prog X.w) X.A (leaving X.env e) (fun _ s2 => CX X.prog X.w X.outer X.H_0 X.s_0 E e s2) E₁ s')
    (I3 : Inv X pins σ H3 s3) (hfr : ce.frame = X.env.frame) (hC : s3.heap.objs.size ≤ ce.locals) (f3 : ∀ b ∈ fp, FpOk X pins H3 b) {u : Value} {s' : Shared} (x : xeOf (X.blk s3 H3 scope ce fp) E u s') :
    notedBy (model X.prog X.w) X.A ce (fun e s2 => compPost (model X.prog X.w) X.A X.xe none Qf acc ce.locals (.error e) s2) u s' := by
  obtain ⟨a, B, sI, pins', σ', H', cls, d, rfl, I', nb, up, sky, na, os, ag, w⟩ := x
  have frames : X.A.frames = some (X.env :: X.outer) := by rw [← hs]; exact I3.ok.frames
  have I : Inv X pins σ H' sI := I3.call' (ch := fp) I'.os I'.base I'.hok I'.bare fun b hb => ⟨(f3 b hb).2.2.2.1, (f3 b hb).2.1, (f3 b hb).2.2.2.2.1, (f3 b hb).2.2.2.2.2⟩
  have fC : FpOk X pins H' ce.locals := I3.fpOk hC I'.free
  have off : ce.locals ∉ frs X.stack := fun m => by
    rcases List.mem_cons.mp (I3.stkSub _ m) with z | z
    · exact fC.2.1 z
    · exact fC.2.2.1 z
  obtain ⟨m, ⟨o, es, ep, ho, r⟩, _⟩ := id I'.loc
  have hB : B.get? ce.locals = some o := nb _ _ ho off
  have fin : ∀ h1, HeldZ B X.stack a (Zc cls d) X.env.locals h1 → s'.heap.UpToSlots h1 → compPost (model X.prog X.w) X.A X.xe none Qf acc ce.locals (.error (.ref a)) { s' with heap := h1 } := fun h1 ⟨y1, y2, y3, y4⟩ up1 =>
    ⟨m, ⟨o, es, ep, y1 _ _ hB, r⟩, fun h2 sb cenv _ => pass_block hs hf hex hx I fC nb (up.trans up1) y1 y2 y3 y4 ⟨o, hB⟩ na os ag w sb⟩
  show wpAny _ _ (noteFrame (.ref a) ce) _ _ _
  rw [note_same hfr]
  have sky : Sky B (X.env :: X.outer) a (Zc cls d) ce.locals s'.heap := by rw [← hs]; exact sky
  rw [hs] at fin
  rcases sky with ⟨z1, z2, z3, oe, vs, z4, z5, z6, z7⟩ | ⟨z1, z2, z3, z4⟩ | ⟨z1, z2, z3, z4⟩
  · exact look_newZ Zc.steady frames z3 hf z4 z1 z2 z6 z7 z5 fin
  · exact note_any Zc.steady frames hf z1 z2 z3 z4 fin
  · exact note_any Zc.steady frames hf z1 z2 z3 z4 fin
theorem pe_lcX {elt tg iter : Expr} {own : List (Str × Nat)} {pos : Pos} {wi : TI} {g : TG} {te : TE} (hc : X.calm = true) (hN : X.N.Nodup) (hi : PI X tg iter wi) (ok : BlkOk X.N X.env.scope scope own) (hs : X.stack = X.env :: X.outer) (hf : X.env.frame = some X.env.locals) (hex : X.ex = [])
    (hx : X.xe = fun e s' => wpAny (model X.prog X.w) X.A (leaving X.env e) (fun _ s2 => CX X.prog X.w X.outer X.H_0 X.s_0 E e s2) E₁ s')
    (hg : ∀ (s : Shared) (H : Hp) (C : Addr) (cl : List (Str × Addr)) (fp : List Addr) (xe : Value → Shared → Prop), PG (X.blkX s H scope (compEnvC scope cl C X.env) fp xe) tg g)
    (he : ∀ (s : Shared) (H : Hp) (C : Addr) (cl : List (Str × Addr)) (fp : List Addr) (xe : Value → Shared → Prop), Takes (X.blkX s H scope (compEnvC scope cl C X.env) fp xe) (fun cls d _ H => E cls d H) → PE (X.blkX s H scope (compEnvC scope cl C X.env) fp xe) elt te)
    (hset : ∀ x, foldedSetIterable iter X.env x = pure x := by intro _; rfl) : PE X (.ListComp elt [⟨tg, iter, [], 0⟩] scope pos) (tLcX wi g te (own.map (·.2))) := by
  refine ⟨fun pins s σ H Q I h => ?_⟩
  have cells : ∀ y ∈ scope.names, y.2 = .free → ∃ c, X.env.cells.lookup y.1 = some c := fun y hy e => I.ok.has _ ((ok.free y hy e).imp id id)
  rw [eval_ListComp]
  refine wpAny_comprehension_free (use := none) rfl hset (closure_ok cells) ok.kind (fun y hy e => (ok.uniq y hy).trans (congrArg some e)) (thn (hi.run pins s σ H _ I h) fun _ _ h1 => thn h1 fun _ s2 h2 => ?_)
  obtain ⟨it, fp, tn, J, H2, rfl, I2, T, st2, f2, q⟩ := h2
  have D0 : H2 s2.heap.objs.size = none := I2.hok.fresh (Nat.le_refl _)
  obtain ⟨N, Pv, p0, turn⟩ := q _ D0
  refine wpAny_newObj_type (newEnv_comp ?_) (Nat.zero_le _)
  generalize hD : s2.heap.objs.size = D at D0 p0 turn ⊢
  generalize hs3 : ({ s2 with heap := s2.heap.push { cls := .type "list", data := .seq (#[] : Array Value) } } : Shared) = s3 at ⊢
  have e3 : s3.heap = s2.heap.push { cls := .type "list", data := .seq (#[] : Array Value) } := by rw [← hs3]
  have I3 : Inv X pins σ (upd H2 D (.lst [])) s3 := by
    rw [← hs3]
    exact I2.laid (t' := s2.toks) (fun b o e => Heap.get?_push_of_some _ e) (Nat.le_of_eq hD) ⟨Nat.zero_le _, [], 0, .nil, by rw [← hD]; exact Heap.get?_push_size _ rfl⟩
  have fp3 : ∀ b ∈ fp, FpOk X pins (upd H2 D (.lst [])) b ∧ b < s3.heap.objs.size := fun b hb => by
    obtain ⟨o, e, _⟩ := T.obj _ _ st2 b hb
    have lt := Heap.lt_size e
    refine ⟨⟨?_, (f2 b hb).2⟩, by rw [e3, Heap.size_push]; exact Nat.lt_succ_of_lt lt⟩
    rw [upd_ne (Nat.ne_of_lt (by rw [← hD]; exact lt))]
    exact (f2 b hb).1
  have st3 : tn 0 s3.heap := T.keep _ _ _ st2 fun b _ o e => by rw [e3]; exact Heap.get?_push_of_some _ e
  have I4 := block_start I3 ok hN fp3
  show codeAny _ _ (.compStart _ 0 (.ref it) (.ref D) (compEnvC scope (cellsFrom (s3.heap.objs.size + 1) scope.names (cloFrom X.env.cells scope.names [])) s3.heap.objs.size X.env)) (compPost _ _ _ none _ _ (compEnvC scope (cellsFrom (s3.heap.objs.size + 1) scope.names (cloFrom X.env.cells scope.names [])) s3.heap.objs.size X.env).locals) { s3 with heap := pushCells (s3.heap.push { cls := .type "dict", data := .dict #[] }) scope.names }
  have pg := hg s3 (upd H2 D (.lst [])) s3.heap.objs.size (cellsFrom (s3.heap.objs.size + 1) scope.names (cloFrom X.env.cells scope.names [])) fp
  have pe := he s3 (upd H2 D (.lst [])) s3.heap.objs.size (cellsFrom (s3.heap.objs.size + 1) scope.names (cloFrom X.env.cells scope.names [])) fp
  have eL : (compEnvC scope (cellsFrom (s3.heap.objs.size + 1) scope.names (cloFrom X.env.cells scope.names [])) s3.heap.objs.size X.env).locals = s3.heap.objs.size := rfl
  have eF : (compEnvC scope (cellsFrom (s3.heap.objs.size + 1) scope.names (cloFrom X.env.cells scope.names [])) s3.heap.objs.size X.env).frame = X.env.frame := rfl
  generalize compEnvC scope (cellsFrom (s3.heap.objs.size + 1) scope.names (cloFrom X.env.cells scope.names [])) s3.heap.objs.size X.env = ce at I4 pg pe eL eF ⊢
  have st4 : tn 0 ({ s3 with heap := pushCells (s3.heap.push { cls := .type "dict", data := .dict #[] }) scope.names } : Shared).heap := T.keep _ _ _ st3 fun b _ o e => pushCells_keeps _ _ _ _ (Heap.get?_push_of_some _ e)
  generalize ({ s3 with heap := pushCells (s3.heap.push { cls := .type "dict", data := .dict #[] }) scope.names } : Shared) = s4 at I4 st4 ⊢
  generalize hH3 : upd H2 D (.lst []) = H3 at I3 I4 pg pe p0 fp3
  have stat : ∀ {σ' : St} {H' : Hp} {s' : Shared}, Inv (X.blk s3 H3 scope ce fp) [] σ' H' s' → (∀ b ∈ fp, H' b = none) → ∀ b ∈ fp, FpOk (X.blk s3 H3 scope ce fp) [] H' b := fun J1 n b hb =>
    ⟨n b hb, (J1.ok.exf b hb).1, J1.ok.exfs b hb, .inl hb, fun x c e => (J1.ok.exf b hb).2 x c e, fun p hp => nomatch (show p ∈ ([] : List (Addr × Obj)) from hp)⟩
  have lets := fun u s' => @block_lets X pins σ H3 s3 E E₁ scope ce fp (EP X pins σ Q) (.ref D) hs hf hex hx I3 eF (Nat.le_of_eq eL.symm) (fun b hb => (fp3 b hb).1) u s'
  have loop : codeAny (model X.prog X.w) X.A (.compLoop (.ListComp elt [⟨tg, iter, [], 0⟩] scope pos) 0 (.ref it) (.ref D) ce) (compPost (model X.prog X.w) X.A X.xe none (EP X pins σ Q) (.ref D) ce.locals) s4 := by
    refine compLoop_any (fun n s' => ∃ i H', n = N - i ∧ Inv (X.blk s3 H3 scope ce fp) [] (wipe σ (own.map (·.2))) H' s' ∧ tn i s'.heap ∧ (∀ b ∈ fp, H' b = none) ∧ Pv i H') ?_ N ⟨0, H3, rfl, I4, st4, fun b hb => (fp3 b hb).1.1, p0⟩
    rintro n s5 ⟨i, H5, rfl, I5, st5, n5, v5⟩
    rcases turn i H5 v5 with ⟨stop, qq⟩ | ⟨lt, go, step⟩
    · refine wpAny_mono (T.done (X.blk s3 H3 scope ce fp) rfl rfl rfl hc i [] s5 _ H5 _ I5 (stat I5 n5) st5 stop) (fun r s6 hr => ?_) fun _ _ z => z
      obtain ⟨rfl, I6⟩ := hr
      obtain ⟨m, hn, _⟩ := id I6.loc
      have I7 : Inv X pins σ H5 s6 := I3.call' (ch := fp) I6.os I6.base I6.hok I6.bare fun b hb => ⟨(fp3 b hb).1.2.2.2.1, (fp3 b hb).1.2.1, (fp3 b hb).1.2.2.2.2.1, (fp3 b hb).1.2.2.2.2.2⟩
      obtain ⟨y0, y1, _, y3, y4, y5⟩ := I3.fpOk (H' := H5) (Nat.le_of_eq eL.symm) I6.free
      exact ⟨m, hn, fun h2 sb => ⟨.ref D, H5, I7.turned (t' := s6.toks) (fun b o nb e => (sb.2 b nb).trans e) y0 y1 y3 y4 y5, rfl, qq⟩⟩
    · refine wpAny_mono (T.item (X.blk s3 H3 scope ce fp) rfl rfl rfl hc i [] s5 _ H5 _ I5 (stat I5 n5) st5 go) (fun r s6 hr => ?_) fun _ _ z => z
      obtain ⟨u, rfl, h6⟩ := hr
      refine wpAny_mono h6 (fun _ s7 h7 => ?_) fun _ _ z => z
      obtain ⟨x, H7, I7, r7, y7, st7, n7⟩ := h7
      have P7 := inv_xe (xeOf (X.blk s3 H3 scope ce fp) E) (I7.pinned (stat I7 n7) (T.obj _ _ st7))
      refine wpAny_mono ((pg _).run _ s7 _ H7 x u _ P7 r7 (step x H7 y7)) (fun _ s8 h8 => ?_) lets
      obtain ⟨σ8, H8, I8, w8, q8⟩ := h8
      rw [List.forIn_nil]
      refine wpAny_pure ?_
      rw [if_pos rfl]
      refine wpAny_mono ((pe _ takes_xeOf).run _ s8 σ8 H8 _ I8 q8) (fun z s9 h9 => ?_) lets
      obtain ⟨yv, H9, I9, r9, acc, gD, az, nx⟩ := h9
      refine app_ok (X := X.blk s3 H3 scope ce fp) (inv_ex I9) gD az r9 fun s10 I10 => ?_
      have pin : ∀ b ∈ fp, ∀ o, s7.heap.get? b = some o → s10.heap.get? b = some o ∧ upd H9 D (.lst (acc ++ [yv])) b = none := fun b hb o e =>
        let z := I10.pin (b, o) (List.mem_append_right _ (List.mem_append_right _ (mem_pinsAt hb e)))
        ⟨z.1, z.2.1⟩
      refine ⟨N - (i + 1), by omega, i + 1, _, rfl, (I10.unpinned (pins := [])).weak (by rw [← w8, wipe_length]) fun j v e => ?_, T.keep _ _ _ st7 fun b hb o e => (pin b hb o e).1, fun b hb => ?_, nx⟩
      · rw [← w8] at e
        exact (wipe_some e).1
      · obtain ⟨o, e, _⟩ := T.obj _ _ st7 b hb
        exact (pin b hb o e).2
  exact codeAny_compStart_list loop (T.self X.A 0 _ _ _ st4 loop)
end
theorem lcx_it {J : It} {n : Nat} {G : Hp → Prop} {Y : Nat → Hp → V → Hp → Prop} (w : Walk J n G Y) {g : TG} {te : TE} {vs : List Nat} {σ : St} {H1 : Hp} {D : Addr} {Qd : Hp → Prop} (Pv : Nat → Hp → Prop) (h0 : Pv 0 (upd H1 D (.lst []))) (hG : ∀ i H, i ≤ n → Pv i H → G H)
    (hs : ∀ i x H H', i < n → Pv i H → Y i H x H' → g x (wipe σ vs) H' fun σ2 H2 => wipe σ2 vs = wipe σ vs ∧ te σ2 H2 fun y H4 => ∃ acc, H4 D = some (.lst acc) ∧ acc.length < sizeLine ∧ Pv (i + 1) (upd H4 D (.lst (acc ++ [y])))) (hd : ∀ H, Pv n H → Qd H) :
    ∃ (N : Nat) (W : Nat → Hp → Prop), W 0 (upd H1 D (.lst [])) ∧ ∀ i H, W i H → (J.stop i H ∧ Qd H) ∨ (i < N ∧ J.go i H ∧ ∀ x H', J.yld i H x H' → g x (wipe σ vs) H' fun σ2 H2 => wipe σ2 vs = wipe σ vs ∧ te σ2 H2 fun y H4 => ∃ acc, H4 D = some (.lst acc) ∧ acc.length < sizeLine ∧ W (i + 1) (upd H4 D (.lst (acc ++ [y])))) := by
  refine ⟨n, fun i H => i ≤ n ∧ Pv i H, ⟨Nat.zero_le _, h0⟩, fun i H ⟨le, p⟩ => ?_⟩
  have gH := hG i H le p
  rcases Nat.lt_or_ge i n with lt | ge
  · refine .inr ⟨lt, w.goes i H lt gH, fun x H' y => ?_⟩
    have r := hs i x H H' lt p (w.yields i H x H' lt gH y)
    have e : (fun (y : V) (H4 : Hp) => ∃ acc, H4 D = some (.lst acc) ∧ acc.length < sizeLine ∧ i + 1 ≤ n ∧ Pv (i + 1) (upd H4 D (.lst (acc ++ [y])))) = fun y H4 => ∃ acc, H4 D = some (.lst acc) ∧ acc.length < sizeLine ∧ Pv (i + 1) (upd H4 D (.lst (acc ++ [y]))) := by
      funext y H4
      exact propext ⟨fun ⟨a, b, c, _, d⟩ => ⟨a, b, c, d⟩, fun ⟨a, b, c, d⟩ => ⟨a, b, c, lt, d⟩⟩
    rw [e]
    exact r
  · have e : i = n := Nat.le_antisymm le ge
    subst e
    exact .inl ⟨w.stops H gH, hd H p⟩
end L2


set_option Elab.async false
set_option linter.all false
set_option maxRecDepth 100000
set_option maxHeartbeats 4000000
/-! name = [..], the element may raise -/
namespace L2
open PySem PySem.Spec PyProof.Rows PySem.HandSPX
section
variable {X : Cx} {pins : List (Addr × Obj)} {σ : St} {H3 : Hp} {s3 : Shared} {E : XK} {E₁ : Value → Shared → Prop} {scope : Scope} {ce : Env} {fp : List Addr} {Qf : Value → Shared → Prop} {acc : Value} {use : Option (Value → Sem Unit)}
/-- an exception of the block goes on out of the comprehension -/
theorem block_letsU (hs : X.stack = X.env :: X.outer) (hf : X.env.frame = some X.env.locals) (hex : X.ex = []) (hx : X.xe = fun e s' => wpAny (model X.prog X.w) X.A (leaving X.env e) (fun _ s2 => CX X.prog X.w X.outer X.H_0 X.s_0 E e s2) E₁ s')
    (I3 : Inv X pins σ H3 s3) (hfr : ce.frame = X.env.frame) (hC : s3.heap.objs.size ≤ ce.locals) (f3 : ∀ b ∈ fp, FpOk X pins H3 b) {u : Value} {s' : Shared} (x : xeOf (X.blk s3 H3 scope ce fp) E u s') :
    notedBy (model X.prog X.w) X.A ce (fun e s2 => compPost (model X.prog X.w) X.A X.xe use Qf acc ce.locals (.error e) s2) u s' := by
  obtain ⟨a, B, sI, pins', σ', H', cls, d, rfl, I', nb, up, sky, na, os, ag, w⟩ := x
  have frames : X.A.frames = some (X.env :: X.outer) := by rw [← hs]; exact I3.ok.frames
  have I : Inv X pins σ H' sI := I3.call' (ch := fp) I'.os I'.base I'.hok I'.bare fun b hb => ⟨(f3 b hb).2.2.2.1, (f3 b hb).2.1, (f3 b hb).2.2.2.2.1, (f3 b hb).2.2.2.2.2⟩
  have fC : FpOk X pins H' ce.locals := I3.fpOk hC I'.free
  have off : ce.locals ∉ frs X.stack := fun m => by
    rcases List.mem_cons.mp (I3.stkSub _ m) with z | z
    · exact fC.2.1 z
    · exact fC.2.2.1 z
  obtain ⟨m, ⟨o, es, ep, ho, r⟩, _⟩ := id I'.loc
  have hB : B.get? ce.locals = some o := nb _ _ ho off
  have fin : ∀ h1, HeldZ B X.stack a (Zc cls d) X.env.locals h1 → s'.heap.UpToSlots h1 → compPost (model X.prog X.w) X.A X.xe use Qf acc ce.locals (.error (.ref a)) { s' with heap := h1 } := fun h1 ⟨y1, y2, y3, y4⟩ up1 =>
    ⟨m, ⟨o, es, ep, y1 _ _ hB, r⟩, fun h2 sb cenv _ => pass_block hs hf hex hx I fC nb (up.trans up1) y1 y2 y3 y4 ⟨o, hB⟩ na os ag w sb⟩
  show wpAny _ _ (noteFrame (.ref a) ce) _ _ _
  rw [note_same hfr]
  have sky : Sky B (X.env :: X.outer) a (Zc cls d) ce.locals s'.heap := by rw [← hs]; exact sky
  rw [hs] at fin
  rcases sky with ⟨z1, z2, z3, oe, vs, z4, z5, z6, z7⟩ | ⟨z1, z2, z3, z4⟩ | ⟨z1, z2, z3, z4⟩
  · exact look_newZ Zc.steady frames z3 hf z4 z1 z2 z6 z7 z5 fin
  · exact note_any Zc.steady frames hf z1 z2 z3 z4 fin
  · exact note_any Zc.steady frames hf z1 z2 z3 z4 fin
theorem lcX_core {s : Shared} {H : Hp} {Q : VK} {pos' : Pos} {elt tg iter : Expr} {own : List (Str × Nat)} {pos : Pos} {wi : TI} {g : TG} {te : TE} (hc : X.calm = true) (hN : X.N.Nodup) (I : Inv X pins σ H s) (hi : PI X tg iter wi) (ok : BlkOk X.N X.env.scope scope own) (hs : X.stack = X.env :: X.outer) (hf : X.env.frame = some X.env.locals) (hex : X.ex = [])
    (hx : X.xe = fun e s' => wpAny (model X.prog X.w) X.A (leaving X.env e) (fun _ s2 => CX X.prog X.w X.outer X.H_0 X.s_0 E e s2) E₁ s')
    (hg : ∀ (s : Shared) (H : Hp) (C : Addr) (cl : List (Str × Addr)) (fp : List Addr) (xe : Value → Shared → Prop), PG (X.blkX s H scope (compEnvC scope cl C X.env) fp xe) tg g)
    (he : ∀ (s : Shared) (H : Hp) (C : Addr) (cl : List (Str × Addr)) (fp : List Addr) (xe : Value → Shared → Prop), Takes (X.blkX s H scope (compEnvC scope cl C X.env) fp xe) (fun cls d _ H => E cls d H) → PE (X.blkX s H scope (compEnvC scope cl C X.env) fp xe) elt te)
    (hset : ∀ x, foldedSetIterable iter X.env x = pure x)
    (h : tLcX wi g te (own.map (·.2)) σ H Q)
    (hRR : ∀ D C s' m H', Inv X pins σ H' s' → Q (.ref D) H' → s'.heap.Ns C m → FpOk X pins H' C → compPost (model X.prog X.w) X.A X.xe use Qf (.ref D) C (.ok .next) s') :
    wpAny (model X.prog X.w) X.A (comprehension (.ListComp elt [⟨tg, iter, [], 0⟩] scope pos) scope X.env pos' (newList []) false (eval iter X.env) use) Qf X.xe s := by
  have cells : ∀ y ∈ scope.names, y.2 = .free → ∃ c, X.env.cells.lookup y.1 = some c := fun y hy e => I.ok.has _ ((ok.free y hy e).imp id id)
  refine wpAny_comprehension_free (use := use) rfl hset (closure_ok cells) ok.kind (fun y hy e => (ok.uniq y hy).trans (congrArg some e)) (thn (hi.run pins s σ H _ I h) fun _ _ h1 => thn h1 fun _ s2 h2 => ?_)
  obtain ⟨it, fp, tn, J, H2, rfl, I2, T, st2, f2, q⟩ := h2
  have D0 : H2 s2.heap.objs.size = none := I2.hok.fresh (Nat.le_refl _)
  obtain ⟨N, Pv, p0, turn⟩ := q _ D0
  refine wpAny_newObj_type (newEnv_comp ?_) (Nat.zero_le _)
  generalize hD : s2.heap.objs.size = D at D0 p0 turn ⊢
  generalize hs3 : ({ s2 with heap := s2.heap.push { cls := .type "list", data := .seq (#[] : Array Value) } } : Shared) = s3 at ⊢
  have e3 : s3.heap = s2.heap.push { cls := .type "list", data := .seq (#[] : Array Value) } := by rw [← hs3]
  have I3 : Inv X pins σ (upd H2 D (.lst [])) s3 := by
    rw [← hs3]
    exact I2.laid (t' := s2.toks) (fun b o e => Heap.get?_push_of_some _ e) (Nat.le_of_eq hD) ⟨Nat.zero_le _, [], 0, .nil, by rw [← hD]; exact Heap.get?_push_size _ rfl⟩
  have fp3 : ∀ b ∈ fp, FpOk X pins (upd H2 D (.lst [])) b ∧ b < s3.heap.objs.size := fun b hb => by
    obtain ⟨o, e, _⟩ := T.obj _ _ st2 b hb
    have lt := Heap.lt_size e
    refine ⟨⟨?_, (f2 b hb).2⟩, by rw [e3, Heap.size_push]; exact Nat.lt_succ_of_lt lt⟩
    rw [upd_ne (Nat.ne_of_lt (by rw [← hD]; exact lt))]
    exact (f2 b hb).1
  have st3 : tn 0 s3.heap := T.keep _ _ _ st2 fun b _ o e => by rw [e3]; exact Heap.get?_push_of_some _ e
  have I4 := block_start I3 ok hN fp3
  show codeAny _ _ (.compStart _ 0 (.ref it) (.ref D) (compEnvC scope (cellsFrom (s3.heap.objs.size + 1) scope.names (cloFrom X.env.cells scope.names [])) s3.heap.objs.size X.env)) (compPost _ _ _ use _ _ (compEnvC scope (cellsFrom (s3.heap.objs.size + 1) scope.names (cloFrom X.env.cells scope.names [])) s3.heap.objs.size X.env).locals) { s3 with heap := pushCells (s3.heap.push { cls := .type "dict", data := .dict #[] }) scope.names }
  have pg := hg s3 (upd H2 D (.lst [])) s3.heap.objs.size (cellsFrom (s3.heap.objs.size + 1) scope.names (cloFrom X.env.cells scope.names [])) fp
  have pe := he s3 (upd H2 D (.lst [])) s3.heap.objs.size (cellsFrom (s3.heap.objs.size + 1) scope.names (cloFrom X.env.cells scope.names [])) fp
  have eL : (compEnvC scope (cellsFrom (s3.heap.objs.size + 1) scope.names (cloFrom X.env.cells scope.names [])) s3.heap.objs.size X.env).locals = s3.heap.objs.size := rfl
  have eF : (compEnvC scope (cellsFrom (s3.heap.objs.size + 1) scope.names (cloFrom X.env.cells scope.names [])) s3.heap.objs.size X.env).frame = X.env.frame := rfl
  generalize compEnvC scope (cellsFrom (s3.heap.objs.size + 1) scope.names (cloFrom X.env.cells scope.names [])) s3.heap.objs.size X.env = ce at I4 pg pe eL eF ⊢
  have st4 : tn 0 ({ s3 with heap := pushCells (s3.heap.push { cls := .type "dict", data := .dict #[] }) scope.names } : Shared).heap := T.keep _ _ _ st3 fun b _ o e => pushCells_keeps _ _ _ _ (Heap.get?_push_of_some _ e)
  generalize ({ s3 with heap := pushCells (s3.heap.push { cls := .type "dict", data := .dict #[] }) scope.names } : Shared) = s4 at I4 st4 ⊢
  generalize hH3 : upd H2 D (.lst []) = H3 at I3 I4 pg pe p0 fp3
  have stat : ∀ {σ' : St} {H' : Hp} {s' : Shared}, Inv (X.blk s3 H3 scope ce fp) [] σ' H' s' → (∀ b ∈ fp, H' b = none) → ∀ b ∈ fp, FpOk (X.blk s3 H3 scope ce fp) [] H' b := fun J1 n b hb =>
    ⟨n b hb, (J1.ok.exf b hb).1, J1.ok.exfs b hb, .inl hb, fun x c e => (J1.ok.exf b hb).2 x c e, fun p hp => nomatch (show p ∈ ([] : List (Addr × Obj)) from hp)⟩
  have lets := fun u s' => @block_letsU X pins σ H3 s3 E E₁ scope ce fp Qf (.ref D) use hs hf hex hx I3 eF (Nat.le_of_eq eL.symm) (fun b hb => (fp3 b hb).1) u s'
  have loop : codeAny (model X.prog X.w) X.A (.compLoop (.ListComp elt [⟨tg, iter, [], 0⟩] scope pos) 0 (.ref it) (.ref D) ce) (compPost (model X.prog X.w) X.A X.xe use Qf (.ref D) ce.locals) s4 := by
    refine compLoop_any (fun n s' => ∃ i H', n = N - i ∧ Inv (X.blk s3 H3 scope ce fp) [] (wipe σ (own.map (·.2))) H' s' ∧ tn i s'.heap ∧ (∀ b ∈ fp, H' b = none) ∧ Pv i H') ?_ N ⟨0, H3, rfl, I4, st4, fun b hb => (fp3 b hb).1.1, p0⟩
    rintro n s5 ⟨i, H5, rfl, I5, st5, n5, v5⟩
    rcases turn i H5 v5 with ⟨stop, qq⟩ | ⟨lt, go, step⟩
    · refine wpAny_mono (T.done (X.blk s3 H3 scope ce fp) rfl rfl rfl hc i [] s5 _ H5 _ I5 (stat I5 n5) st5 stop) (fun r s6 hr => ?_) fun _ _ z => z
      obtain ⟨rfl, I6⟩ := hr
      obtain ⟨m, hn, _⟩ := id I6.loc
      have I7 : Inv X pins σ H5 s6 := I3.call' (ch := fp) I6.os I6.base I6.hok I6.bare fun b hb => ⟨(fp3 b hb).1.2.2.2.1, (fp3 b hb).1.2.1, (fp3 b hb).1.2.2.2.2.1, (fp3 b hb).1.2.2.2.2.2⟩
      exact hRR D ce.locals s6 m H5 I7 qq hn (I3.fpOk (H' := H5) (Nat.le_of_eq eL.symm) I6.free)
    · refine wpAny_mono (T.item (X.blk s3 H3 scope ce fp) rfl rfl rfl hc i [] s5 _ H5 _ I5 (stat I5 n5) st5 go) (fun r s6 hr => ?_) fun _ _ z => z
      obtain ⟨u, rfl, h6⟩ := hr
      refine wpAny_mono h6 (fun _ s7 h7 => ?_) fun _ _ z => z
      obtain ⟨x, H7, I7, r7, y7, st7, n7⟩ := h7
      have P7 := inv_xe (xeOf (X.blk s3 H3 scope ce fp) E) (I7.pinned (stat I7 n7) (T.obj _ _ st7))
      refine wpAny_mono ((pg _).run _ s7 _ H7 x u _ P7 r7 (step x H7 y7)) (fun _ s8 h8 => ?_) lets
      obtain ⟨σ8, H8, I8, w8, q8⟩ := h8
      rw [List.forIn_nil]
      refine wpAny_pure ?_
      rw [if_pos rfl]
      refine wpAny_mono ((pe _ takes_xeOf).run _ s8 σ8 H8 _ I8 q8) (fun z s9 h9 => ?_) lets
      obtain ⟨yv, H9, I9, r9, acc, gD, az, nx⟩ := h9
      refine app_ok (X := X.blk s3 H3 scope ce fp) (inv_ex I9) gD az r9 fun s10 I10 => ?_
      have pin : ∀ b ∈ fp, ∀ o, s7.heap.get? b = some o → s10.heap.get? b = some o ∧ upd H9 D (.lst (acc ++ [yv])) b = none := fun b hb o e =>
        let z := I10.pin (b, o) (List.mem_append_right _ (List.mem_append_right _ (mem_pinsAt hb e)))
        ⟨z.1, z.2.1⟩
      refine ⟨N - (i + 1), by omega, i + 1, _, rfl, (I10.unpinned (pins := [])).weak (by rw [← w8, wipe_length]) fun j v e => ?_, T.keep _ _ _ st7 fun b hb o e => (pin b hb o e).1, fun b hb => ?_, nx⟩
      · rw [← w8] at e
        exact (wipe_some e).1
      · obtain ⟨o, e, _⟩ := T.obj _ _ st7 b hb
        exact (pin b hb o e).2
  exact codeAny_compStart_list loop (T.self X.A 0 _ _ _ st4 loop)
/-- name = [..] whose element may raise, on one line, the name a local -/
theorem ps_setLcX {i : Nat} {y : Str} {py : Pos} {elt tg iter : Expr} {own : List (Str × Nat)} {pos spos : Pos} {wi : TI} {g : TG} {te : TE} (hc : X.calm = true) (hN : X.N.Nodup) (hy : X.N[i]? = some y) (hyl : X.env.scope.names.lookup y = some .local)
    (hsw : swapsWith (.ListComp elt [⟨tg, iter, [], 0⟩] scope pos) (some (.Name y py)) spos.line X.env = pure true) (hi : PI X tg iter wi) (ok : BlkOk X.N X.env.scope scope own)
    (hs : X.stack = X.env :: X.outer) (hf : X.env.frame = some X.env.locals) (hex : X.ex = []) (hx : X.xe = fun e s' => wpAny (model X.prog X.w) X.A (leaving X.env e) (fun _ s2 => CX X.prog X.w X.outer X.H_0 X.s_0 E e s2) E₁ s')
    (hg : ∀ (s : Shared) (H : Hp) (C : Addr) (cl : List (Str × Addr)) (fp : List Addr) (xe : Value → Shared → Prop), PG (X.blkX s H scope (compEnvC scope cl C X.env) fp xe) tg g)
    (he : ∀ (s : Shared) (H : Hp) (C : Addr) (cl : List (Str × Addr)) (fp : List Addr) (xe : Value → Shared → Prop), Takes (X.blkX s H scope (compEnvC scope cl C X.env) fp xe) (fun cls d _ H => E cls d H) → PE (X.blkX s H scope (compEnvC scope cl C X.env) fp xe) elt te)
    (hset : ∀ x, foldedSetIterable iter X.env x = pure x := by intro _; rfl) :
    PS X (.Assign [.Name y py] (.ListComp elt [⟨tg, iter, [], 0⟩] scope pos) spos) (tAsg (tLcX wi g te (own.map (·.2))) (gName i)) := by
  refine ⟨fun pins s σ H D I h => ?_⟩
  rw [exec_Assign_Name_used _ _ _ _ hsw]
  refine wpAny_bind (wpAny_standAt (wpAny_bind ?_))
  show wpAny _ X.A (do let _ ← comprehension (.ListComp elt [⟨tg, iter, [], 0⟩] scope pos) scope X.env (firstIterPos [⟨tg, iter, [], 0⟩] pos) (newList []) false (eval iter X.env) (some (assign (.Name y py) X.env))) _ _ s
  have w : tLcX wi g te (own.map (·.2)) σ H (fun x H1 => gName i x σ H1 D.nx) := h
  refine wpAny_bind (thn (lcX_core (Qf := fun _ s' => SP X pins D .next s') hc hN I hi ok hs hf hex hx hg he hset w fun L C s' m H' I' q hn f => ?_) fun _ s' hq => wpAny_pure (wpAny_pure hq))
  show wpAny _ _ (assign (.Name y py) X.env (.ref L)) _ _ _
  refine wpAny_assign_Name (store_ok2 (v := V.ref L) I' hN hy (.inl hyl) rfl (fun s2 I2 ⟨a, sb, at_⟩ => ?_) (.inr hyl))
  obtain ⟨z0, z1, z2, z3, z4, z5⟩ := f
  have off : C ≠ a := by
    rcases at_ with q1 | q1
    · rw [q1]; exact z1
    · exact fun e => z4 y a q1 e.symm
  exact ⟨m, hn.sameBut sb off, fun h3 sb3 => ⟨_, H', I2.turned (t' := s2.toks) (fun b o nb e => (sb3.2 b nb).trans e) z0 z1 z3 z4 z5, q⟩⟩
end
end L2


set_option Elab.async false
set_option linter.all false
set_option maxRecDepth 100000
set_option maxHeartbeats 4000000
namespace K14
open PySem L2 Nd Bk Gd
/-! what a program makes of tables -/
inductive Res
  | bad (z : Str)
  | ok (t : Tbl)
def Res.bind (r : Res) (f : Tbl → Res) : Res := match r with
  | .bad z => .bad z
  | .ok t => f t
end K14



set_option Elab.async false
set_option linter.all false
set_option maxRecDepth 100000
set_option maxHeartbeats 2000000
/-! enumerate of a tuple -/
namespace Gd
open PySem PySem.Spec PyProof.Rows L2
abbrev enO (n : Nat) : Obj := { cls := .type "enumerate", data := .fields #[.none, .bool false, .ref n, rawInt 0, .none, .none] }
theorem enumNew {v : Value} {o : Obj} {G : Heap → Prop} (B : Begins v o G) : Meets (Builtin.«enumerate.__new__» ⟨[.type "enumerate", v], []⟩)
    (fun _ R s => G s.heap ∧ R (.ok (.ret (.ref (s.heap.push o).objs.size))) { s with heap := (s.heap.push o).push (enO s.heap.objs.size) }) := .of_wp fun P w A R s q => by
  obtain ⟨hp, g, d, tk, os⟩ := s
  obtain ⟨q0, q⟩ := q
  have hsub := sub_enumerate
  have it : ∀ {A' : Around} {E' : Value → Shared → Prop} {Q' : Value → Shared → Prop}, Q' (.ref hp.objs.size) ⟨hp.push o, g, d, tk, os⟩ → wpAny (model P w) A' (pyIter v) Q' E' ⟨hp, g, d, tk, os⟩ := fun z => B.iter P w _ _ ⟨hp, g, d, tk, os⟩ _ q0 z
  wp_walk using it
  refine wpAny_stack_any fun stk => wpAny_pure ?_
  split
  · rename_i cl _ _ _ _ _
    cases (cl == Value.type "enumerate") <;> (wp_walk using it; exact ⟨_, rfl, q⟩)
  · wp_walk using it
    exact ⟨_, rfl, q⟩
section
variable {prog : Program} {w : World} {A : Around} {E : Value → Shared → Prop} {s : Shared}
theorem call_enumT {t : Addr} {items : Array Value} {Q : Value → Shared → Prop} (ht : s.heap.IsTuple t items)
    (h : ∀ h', IsEnum h' (s.heap.objs.size + 1) s.heap.objs.size ((0 : Nat) : Int) .none → h'.IsTupleIter s.heap.objs.size t 0 → (∀ b o, s.heap.get? b = some o → h'.get? b = some o) → Q (.ref (s.heap.objs.size + 1)) { s with heap := h' }) :
    wpAny (model prog w) A (call (.type "enumerate") [.ref t]) Q E s := by
  refine callType_new F.called_enumerate (by decide) (F.typeCall_enumerate_1 _) (F.newCall_enumerate_1 _) (fun obj => F.args_object_init_2 obj _) F.entry_enumerate_new (enumNew (begins_tuple t items)) ⟨ht, ?_⟩
  have sz := Heap.size_push s.heap { cls := .type "tuple_iterator", data := .fields #[.ref t, .int 0 0] }
  have en := Heap.get?_push_size (s.heap.push { cls := .type "tuple_iterator", data := .fields #[.ref t, .int 0 0] }) (o := enO s.heap.objs.size) rfl
  show _ ∧ _
  rw [sz] at en ⊢
  exact ⟨⟨_, en, rfl⟩, h _ en ⟨_, Heap.get?_push_of_some _ (Heap.get?_push_size _ rfl), rfl, rfl⟩ fun b o x => Heap.get?_push_of_some _ (Heap.get?_push_of_some _ x)⟩
end
/-- the tuple at a as it stands at each turn, each item in a new pair -/
def IteT (K : PySem.W.Frag) (a : Addr) : It :=
  ⟨fun i H => ∃ (xs : List V) (x : V), SqT K H a xs ∧ xs[i]? = some x, fun i H v H' => ∃ T x, v = .ref T ∧ H T = none ∧ H' = upd H T (.tup [.int (i : Nat), x]) ∧ ∀ xs, SqT K H a xs → xs[i]? = some x, fun i H => ∃ xs : List V, SqT K H a xs ∧ xs.length ≤ i⟩
theorem turn_enumT {P : Program} {w : World} {K : PySem.W.Frag} {elts : List Expr} {kk : Nat} {tpos : Pos} (a e it : Addr) :
    Turn P w K (.Tuple elts kk tpos) (IteT K a) [e, it] e (fun i h => (∃ old, IsEnum h e it ((i : Nat) : Int) old) ∧ h.IsTupleIter it a i ∧ e ≠ it ∧ a ≠ it ∧ e ≠ a) where
  mem := by simp
  obj := fun i h st b hb => by
    obtain ⟨⟨old, he⟩, ⟨o, ho, hc, hd⟩, _⟩ := st
    rcases (show b = e ∨ b = it by simpa using hb) with rfl | rfl
    · exact ⟨_, he, fun v q => nomatch q⟩
    · exact ⟨o, ho, fun v q => by rw [hd] at q; cases q⟩
  keep := fun i h h' st k => let ⟨⟨old, he⟩, hi, n⟩ := st; ⟨⟨old, k e (by simp) _ he⟩, hi.at fun o q => k it (by simp) o q, n⟩
  item := by
    intro X hP hw hK hc i pins s σ H E I hf st hg
    subst hP hw hK
    obtain ⟨⟨old, he⟩, hit, hne, hai, hea⟩ := st
    obtain ⟨xs, x, hq, hx⟩ := hg
    obtain ⟨its, rv, p, hz⟩ := I.tuple hq
    obtain ⟨u, hu, ru⟩ := rv.get hx
    have pa : s.heap.IsTuple a its.toArray := p
    have le := Heap.lt_size he
    have li : it < s.heap.objs.size := by obtain ⟨_, q, _⟩ := hit; exact Heap.lt_size q
    have len : i < its.toArray.size := by
      rw [List.size_toArray]
      exact (List.getElem?_eq_some_iff.mp hu).1
    refine wpAny_pyNext_enum_itemD (Draws.tuple (show X.A.in1.handled = none from I.ok.hd hc) it a hai its.toArray) he ⟨hit, pa⟩ len hne (by simp [hne, hea]) fun y h' tk hy ho hit' hT hsz hk => ?_
    have ey : y = u := by
      have : its[i]? = some y := by simpa using hy
      rw [hu] at this
      exact (Option.some.inj this).symm
    subst ey
    refine ⟨_, rfl, wpAny_letOwnedTupleGo_enum (s := { s with heap := h', toks := tk + 1 }) ho fun h2 he2 sb => ?_⟩
    have hT2 : h2.get? s.heap.objs.size = some { cls := .type "tuple", data := .seq #[.int i tk, y] } := (sb.2 _ (Nat.ne_of_gt le)).trans hT
    have new : ObjOk X.prog X.w (upd H s.heap.objs.size (.tup [.int (i : Nat), x])) h2 s.heap.objs.size (.tup [.int (i : Nat), x]) := ⟨by show 2 ≤ sizeLine; decide, [.int i tk, y], .cons ⟨_, rfl⟩ (.cons ru .nil), ⟨_, hT2, rfl, _, rfl⟩⟩
    have I1 : Inv X pins σ (upd H s.heap.objs.size (.tup [.int (i : Nat), x])) { s with heap := h2, toks := tk + 1 } :=
      I.turnedNew (ch := [e, it]) (fun b ob hb q => (sb.2 b (fun z => hb (by simp [z]))).trans (hk b ob (fun z => hb (by simp [z])) (fun z => hb (by simp [z])) q)) hf (Nat.le_refl _) new
    refine ⟨.ref s.heap.objs.size, _, I1, rfl, ⟨_, x, rfl, I.hok.fresh (Nat.le_refl _), rfl, fun ys hy => by rw [I.tuple_inj hy hq]; exact hx⟩, ⟨⟨y, ?_⟩, hit'.1.at fun o q => (sb.2 it (Ne.symm hne)).trans q, hne, hai, hea⟩, fun b hb => ?_⟩
    · rw [show ((i + 1 : Nat) : Int) = (i : Int) + 1 by omega]
      exact he2
    · have hb' : b < s.heap.objs.size := by
        rcases (show b = e ∨ b = it by simpa using hb) with rfl | rfl
        · exact le
        · exact li
      rw [upd_ne (Nat.ne_of_lt hb')]
      exact (hf b hb).1
  done := by
    intro X hP hw hK hc i pins s σ H E I hf st hg
    subst hP hw hK
    obtain ⟨⟨old, he⟩, hit, hne, hai, hea⟩ := st
    obtain ⟨xs, hq, hx⟩ := hg
    obtain ⟨its, rv, p, hz⟩ := I.tuple hq
    have pa : s.heap.IsTuple a its.toArray := p
    obtain ⟨f0, f1, f2, f3, f4, f5⟩ := hf it (by simp)
    have hl := rv.length
    unfold pyNext
    refine wpAny_bind (wpAny_attempt (wpAny_callSpecial?_slot (name := Str.ofString "__next__") (show s.TypeIs (.ref e) "enumerate" from ⟨_, he, rfl⟩) F.slot_enumerate_next
      (wpAny_call_entry F.slot_enumerate_next (show s.TypeIs (.ref e) "enumerate" from ⟨_, he, rfl⟩) F.entry_enumerate_next ?_ (F.args_enumerate_next_1 _))))
    show wpAny _ _ (field (.ref e) 2 >>= _) _ _ _
    refine wpAny_bind (wpAny_field he rfl (x := .ref it) rfl ?_)
    refine wpAny_bind (wpAny_nextOf_tuple_end (I.ok.hd hc) hit pa (by simp; omega) fun h' x he' hx' => ?_)
    obtain ⟨o, ho, hc2⟩ := hx'
    refine wpAny_bind (wpAny_isInstance (T := "StopIteration") (b := true) ⟨o, ho, hc2⟩ isSubtype_stop ?_)
    exact wpAny_pure ⟨rfl, I.turned (t' := s.toks) (fun b o hb q => he' b o hb q) f0 f1 f3 f4 f5⟩
  self := fun A i s Q E st h => let ⟨⟨_, he⟩, _⟩ := st; wpAny_pyIter_enum he h
def iEnumT (K : PySem.W.Frag) (ta : TA) : TI := fun σ H R => ta σ H fun vs H1 => ∃ a xs, vs = [.ref a] ∧ SqT K H1 a xs ∧ R (IteT K a) H1
theorem pi_enumT {X : Cx} {e : Expr} {ta : TA} {p pos tpos : Pos} {elts : List Expr} {kk : Nat} (hg : Gl X "enumerate") (hm : X.mg "enumerate" = none) (ha : PA X [e] ta) (hs : starEach [e] X.env = [(false, eval e X.env)] := by rfl) :
    PI X (.Tuple elts kk tpos) (.Call (.Name "enumerate" p) [e] [] pos) (iEnumT X.K ta) := by
  refine ⟨fun pins s σ H R I h => Call_ (ld_blt I hg hm boot_enumerate (PyProof.Rows.callWith_type1 (thn (ha.run pos pins s σ H _ I h) fun us s1 ⟨vs, H1, I1, r1, q1⟩ => ?_) hs rfl))⟩
  obtain ⟨a, xs, rfl, hq, q⟩ := q1
  cases r1 with
  | cons r rr =>
    cases rr
    cases r
    obtain ⟨its, rv, p', hz⟩ := I1.tuple hq
    have pa : s1.heap.IsTuple a its.toArray := p'
    have la : a < s1.heap.objs.size := by obtain ⟨_, z, _⟩ := pa; exact Heap.lt_size z
    refine call_enumT pa fun h' he hit hk => wpAny_pyIter_enum he ?_
    refine ⟨s1.heap.objs.size + 1, [s1.heap.objs.size + 1, s1.heap.objs.size], _, _, H1, rfl, I1.kept (t' := s1.toks) hk, turn_enumT a (s1.heap.objs.size + 1) s1.heap.objs.size, ⟨⟨.none, he⟩, hit, Nat.succ_ne_self _, Nat.ne_of_lt la, Nat.ne_of_gt (Nat.lt_succ_of_lt la)⟩, fun b hb => ?_, q⟩
    have hle : s1.heap.objs.size ≤ b := by
      rcases (show b = s1.heap.objs.size + 1 ∨ b = s1.heap.objs.size by simpa using hb) with z | z
      · rw [z]; exact Nat.le_succ _
      · rw [z]; exact Nat.le_refl _
    exact I1.fpOk hle (I1.hok.fresh hle)
theorem walk_enumT {K : PySem.W.Frag} {a : Addr} {xs : List V} : Walk (IteT K a) xs.length (fun H => SqT K H a xs) (YPair (fun i => some (.int (i : Nat))) (fun i => xs[i]?)) := by
  refine ⟨fun i H hi hG => ⟨xs, xs[i], hG, List.getElem?_eq_getElem hi⟩, fun H hG => ⟨xs, hG, Nat.le_refl _⟩, fun i H v H' hi hG y => ?_⟩
  obtain ⟨T, x, e, n, u, hx⟩ := y
  exact ⟨T, _, x, e, n, u, rfl, hx xs hG⟩
end Gd


set_option Elab.async false
set_option linter.all false
set_option maxRecDepth 100000
set_option maxHeartbeats 2000000
/-! name = {k: v for ..} on one line, the name a local -/
namespace Gd
open PySem PySem.Spec PyProof.Rows L2
theorem sw_dc {kx vx : Expr} {gs : List Comprehension} {scope : Scope} {pos py : Pos} {y : Str} {l : Nat} {env : Env} (hk : env.scope.kind = .function) (hy : env.scope.names.lookup y = some .local) (hl : (py.line == pos.line) = true)
    (ha : (scope.names.any fun (n, k) => n == y && (k == .local || k == .cell)) = false) : swapsWith (.DictComp kx vx gs scope pos) (some (.Name y py)) l env = pure true := by
  have ky : env.kindOf y = some .local := hy
  have hb : env.blockKind = .function := by rw [Env.blockKind, hk]; rfl
  simp only [swapsWith, hb, ky, ha, Expr.pos, hl]
  rfl
section
variable {X : Cx}
theorem ps_setDc {i : Nat} {y : Str} {py : Pos} {kx vx tg iter : Expr} {ifs : List Expr} {scope : Scope} {own : List (Str × Nat)} {pos spos : Pos} {wi : TI} {g : TG} {tt : TT} {tk tv : TE} (calm : X.calm = true) (nd : X.N.Nodup) (hy : X.N[i]? = some y) (hyl : X.env.scope.names.lookup y = some .local)
    (hsw : swapsWith (.DictComp kx vx [⟨tg, iter, ifs, 0⟩] scope pos) (some (.Name y py)) spos.line X.env = pure true) (hi : PI X tg iter wi) (ok : BlkOk X.N X.env.scope scope own)
    (pg : ∀ (s : Shared) (H : Hp) (C : Addr) (cl : List (Str × Addr)) (fp : List Addr), PG (X.blk s H scope (compEnvC scope cl C X.env) fp) tg g) (pt : ∀ (s : Shared) (H : Hp) (C : Addr) (cl : List (Str × Addr)) (fp : List Addr), PTs (X.blk s H scope (compEnvC scope cl C X.env) fp) ifs tt)
    (pk : ∀ (s : Shared) (H : Hp) (C : Addr) (cl : List (Str × Addr)) (fp : List Addr), PE (X.blk s H scope (compEnvC scope cl C X.env) fp) kx tk) (pv : ∀ (s : Shared) (H : Hp) (C : Addr) (cl : List (Str × Addr)) (fp : List Addr), PE (X.blk s H scope (compEnvC scope cl C X.env) fp) vx tv)
    (hs : ∀ x, foldedSetIterable iter X.env x = pure x := by intro _; rfl) :
    PS X (.Assign [.Name y py] (.DictComp kx vx [⟨tg, iter, ifs, 0⟩] scope pos) spos) (tAsg (tDc wi g tt tk tv (own.map (·.2))) (gName i)) := by
  refine ⟨fun pins s σ H D I h => ?_⟩
  rw [exec_Assign_Name_used _ _ _ _ hsw]
  refine wpAny_bind (wpAny_standAt (wpAny_bind ?_))
  show wpAny _ X.A (do let _ ← comprehension (.DictComp kx vx [⟨tg, iter, ifs, 0⟩] scope pos) scope X.env (firstIterPos [⟨tg, iter, ifs, 0⟩] pos) newDict false (eval iter X.env) (some (assign (.Name y py) X.env))) _ _ s
  have h' : tDc wi g tt tk tv (own.map (·.2)) σ H (fun x H1 => gName i x σ H1 D.nx) := h
  refine wpAny_bind (thn (dc_core (Qf := fun _ s2 => SP X pins D .next s2) calm nd I hi ok pg pt pk pv hs h' fun L C s2 m H2 I2 q hn f => ?_) fun _ s2 hq => wpAny_pure (wpAny_pure hq))
  show wpAny _ _ (assign (.Name y py) X.env (.ref L)) _ _ _
  refine wpAny_assign_Name (store_ok2 (v := V.ref L) I2 nd hy (.inl hyl) rfl (fun s3 I3 ⟨a, sb, ha⟩ => ?_) (.inr hyl))
  have haC : C ≠ a := ha.elim (fun z => z ▸ f.2.1) fun z e => f.2.2.2.2.1 y a z e.symm
  exact ⟨m, hn.sameBut sb haC, fun h3 sb3 => ⟨_, H2, I3.turned (t' := s3.toks) (fun b o hb e => (sb3.2 b hb).trans e) f.1 f.2.1 f.2.2.2.1 f.2.2.2.2.1 f.2.2.2.2.2, q⟩⟩
end
/-- a dict comprehension's turns over any walk -/
theorem dc_it {J : It} {n : Nat} {G : Hp → Prop} {Y : Nat → Hp → V → Hp → Prop} (w : Walk J n G Y) {g : TG} {tt : TT} {tk tv : TE} {vs : List Nat} {σ : L2.St} {H1 : Hp} {D : Addr} {Qd : Hp → Prop} (Pv : Nat → Hp → Prop) (h0 : Pv 0 (upd H1 D (.dK []))) (hG : ∀ i H, i ≤ n → Pv i H → G H)
    (hs : ∀ i x H H', i < n → Pv i H → Y i H x H' → g x (wipe σ vs) H' fun σ2 H2 => wipe σ2 vs = wipe σ vs ∧ tt σ2 H2 fun b H3 =>
      if b = true then tk σ2 H3 fun y H4 => tv σ2 H4 fun z H5 => ∃ kvs k, y = kV k ∧ H5 D = some (.dK kvs) ∧ kvs.length < sizeLine ∧ Pv (i + 1) (upd H5 D (.dK (putK kvs k z))) else Pv (i + 1) H3) (hd : ∀ H, Pv n H → Qd H) :
    ∃ W : Nat → Nat → Hp → Prop, (∃ m, W 0 m (upd H1 D (.dK []))) ∧ ∀ i m H, W i m H →
      (J.stop i H ∧ Qd H) ∨ (J.go i H ∧ ∃ Nx : Hp → Prop, (∀ H', Nx H' → ∃ m', m' < m ∧ W (i + 1) m' H') ∧ ∀ x H', J.yld i H x H' → g x (wipe σ vs) H' fun σ2 H2 => wipe σ2 vs = wipe σ vs ∧ tt σ2 H2 fun b H3 =>
        if b = true then tk σ2 H3 fun y H4 => tv σ2 H4 fun z H5 => ∃ kvs k, y = kV k ∧ H5 D = some (.dK kvs) ∧ kvs.length < sizeLine ∧ Nx (upd H5 D (.dK (putK kvs k z))) else Nx H3) := by
  refine ⟨fun i m H => m = n - i ∧ i ≤ n ∧ Pv i H, ⟨n, rfl, Nat.zero_le _, h0⟩, ?_⟩
  rintro i m H ⟨rfl, hi, p⟩
  rcases Nat.lt_or_eq_of_le hi with hlt | rfl
  · exact .inr ⟨w.goes i H hlt (hG i H hi p), Pv (i + 1), fun H' p' => ⟨n - (i + 1), by omega, rfl, hlt, p'⟩, fun x H' y => hs i x H H' hlt p (w.yields i H x H' hlt (hG i H hi p) y)⟩
  · exact .inl ⟨w.stops H (hG _ H (Nat.le_refl _) p), hd H p⟩
end Gd


set_option Elab.async false
set_option linter.all false
set_option maxRecDepth 100000
set_option maxHeartbeats 4000000
namespace K14
open PySem L2 Nd Bk Gd
/-! run -/
/-- (name, width, table) handed in -/
abbrev Trip := Str × Nat × Tbl
def wsL (ls : List Trip) : List (Str × Nat) := ls.map fun l => (l.1, l.2.1)
section
variable {P : Program} {w : World} {K : PySem.W.Frag} {mg : Str → Option Value} {base : Heap} {T C CP fI : Addr}
end
end K14



set_option Elab.async false
set_option linter.all false
set_option maxRecDepth 100000
set_option maxHeartbeats 4000000
/-! texts that stand in the order of what they tell -/
namespace Kx
open PySem PySem.W PyProof.Rows
/-- a first place where they differ -/
def Df (a b : List Nat) : Prop := ∃ p u v c d, a = p ++ c :: u ∧ b = p ++ d :: v ∧ c < d
theorem Df.app {a b : List Nat} (h : Df a b) (s t : List Nat) : Df (a ++ s) (b ++ t) := by
  obtain ⟨p, u, v, c, d, rfl, rfl, l⟩ := h
  exact ⟨p, u ++ s, v ++ t, c, d, by simp, by simp, l⟩
theorem Df.pre {a b : List Nat} (h : Df a b) (s : List Nat) : Df (s ++ a) (s ++ b) := by
  obtain ⟨p, u, v, c, d, rfl, rfl, l⟩ := h
  exact ⟨s ++ p, u, v, c, d, by simp, by simp, l⟩
theorem Df.lt {a b : List Nat} (h : Df a b) : a < b := by
  obtain ⟨p, u, v, c, d, rfl, rfl, l⟩ := h
  induction p with
  | nil => exact List.cons_lt_cons_iff.mpr (.inl l)
  | cons x p ih => exact List.cons_lt_cons_iff.mpr (.inr ⟨rfl, ih⟩)
theorem pre_lt {p a b : List Nat} (h : a < b) : p ++ a < p ++ b := by
  induction p with
  | nil => exact h
  | cons x p ih => exact List.cons_lt_cons_iff.mpr (.inr ⟨rfl, ih⟩)
theorem nil_lt {a : List Nat} (h : a ≠ []) : [] < a := by
  cases a with
  | nil => exact absurd rfl h
  | cons x a => exact List.nil_lt_cons x a
/-- a < b: at a first place, or a stands ahead in b -/
theorem lt_two : ∀ {a b : List Nat}, a < b → Df a b ∨ ∃ d v, b = a ++ d :: v
  | [], [], h => absurd h (List.lt_irrefl [])
  | [], d :: v, _ => .inr ⟨d, v, rfl⟩
  | _ :: _, [], h => absurd h (List.not_lt_nil _)
  | x :: a, y :: b, h => by
    rcases List.cons_lt_cons_iff.mp h with h1 | ⟨e1, h2⟩
    · exact .inl ⟨[], a, b, x, y, rfl, rfl, h1⟩
    · subst e1
      rcases lt_two h2 with h3 | ⟨d, v, e⟩
      · exact .inl (h3.pre [x])
      · exact .inr ⟨d, v, by rw [e]; rfl⟩
/-- blanks behind, to so many -/
def pad (n : Nat) (z : List Nat) : List Nat := z ++ List.replicate (n - z.length) 32
theorem pad_df {n : Nat} {a b : List Nat} (ha : a.length ≤ n) (hb : b.length ≤ n) (sb : ∀ c ∈ b, 32 < c) (h : a < b) : Df (pad n a) (pad n b) := by
  rcases lt_two h with h | ⟨d, v, rfl⟩
  · exact h.app _ _
  · rw [List.length_append, List.length_cons] at hb
    refine ⟨a, List.replicate (n - a.length - 1) 32, v ++ List.replicate (n - (a ++ d :: v).length) 32, 32, d, ?_, ?_, sb d (List.mem_append_right _ List.mem_cons_self)⟩
    · unfold pad
      rw [show n - a.length = (n - a.length - 1) + 1 by omega, List.replicate_succ]
      rfl
    · unfold pad
      rw [List.append_assoc, List.cons_append]
/-- the figures of a number -/
def fig (n : Nat) : List Nat := (Nat.toDigits 10 n).map Char.toNat
theorem fig_one {n : Nat} (h : n < 10) : fig n = [48 + n] := by
  unfold fig
  rw [Nat.toDigits_of_lt_base h]
  have : ∀ n : Nat, n < 10 → (Nat.digitChar n).toNat = 48 + n := by decide
  rw [List.map_cons, List.map_nil, this n h]
theorem fig_more {n : Nat} (h : 10 ≤ n) : fig n = fig (n / 10) ++ [48 + n % 10] := by
  have hm : n % 10 < 10 := Nat.mod_lt n (by decide)
  have t : Nat.toDigits 10 (n / 10) ++ Nat.toDigits 10 (n % 10) = Nat.toDigits 10 (10 * (n / 10) + n % 10) := Nat.toDigits_append_toDigits (by decide) (by omega) hm
  rw [Nat.div_add_mod] at t
  have := fig_one hm
  unfold fig at this ⊢
  rw [← t, List.map_append, this]
theorem fig_ne (n : Nat) : fig n ≠ [] := by
  by_cases h : n < 10
  · rw [fig_one h]; exact List.cons_ne_nil _ _
  · rw [fig_more (by omega)]; exact fun e => by simp at e
theorem fig_len {a b : Nat} (h : a ≤ b) : (fig a).length ≤ (fig b).length := by
  induction b using Nat.strongRecOn generalizing a with
  | _ b ih =>
    by_cases hb : b < 10
    · rw [fig_one hb, fig_one (show a < 10 by omega)]
      exact Nat.le_refl _
    · rw [fig_more (show 10 ≤ b by omega), List.length_append]
      by_cases ha : a < 10
      · rw [fig_one ha]
        have := List.length_pos_iff.mpr (fig_ne (b / 10))
        show 1 ≤ _ + 1
        omega
      · rw [fig_more (show 10 ≤ a by omega), List.length_append]
        have := ih (b / 10) (by omega) (a := a / 10) (by omega)
        show _ + 1 ≤ _ + 1
        omega
theorem fig_df {a b : Nat} (l : (fig a).length = (fig b).length) (h : a < b) : Df (fig a) (fig b) := by
  induction b using Nat.strongRecOn generalizing a with
  | _ b ih =>
    by_cases hb : b < 10
    · rw [fig_one hb, fig_one (show a < 10 by omega)]
      exact ⟨[], [], [], _, _, rfl, rfl, by omega⟩
    · by_cases ha : a < 10
      · rw [fig_one ha, fig_more (show 10 ≤ b by omega), List.length_append] at l
        have := List.length_pos_iff.mpr (fig_ne (b / 10))
        have l : 1 = (fig (b / 10)).length + 1 := l
        omega
      · rw [fig_more (show 10 ≤ b by omega), fig_more (show 10 ≤ a by omega)] at l ⊢
        rw [List.length_append, List.length_append] at l
        have l : (fig (a / 10)).length + 1 = (fig (b / 10)).length + 1 := l
        by_cases q : a / 10 < b / 10
        · exact (ih (b / 10) (by omega) (by omega) q).app _ _
        · have e : a / 10 = b / 10 := by omega
          rw [e]
          exact ⟨fig (b / 10), [], [], _, _, rfl, rfl, by omega⟩
/-- four figures -/
theorem fig_four {n : Nat} (h1 : 1000 ≤ n) (h2 : n < 10000) : (fig n).length = 4 := by
  rw [fig_more (by omega), fig_more (by omega), fig_more (by omega), fig_one (by omega)]
  rfl
theorem fig_six {n : Nat} (h1 : 100000 ≤ n) (h2 : n < 1000000) : (fig n).length = 6 := by
  rw [fig_more (by omega), fig_more (by omega), fig_more (by omega), fig_more (by omega), fig_more (by omega), fig_one (by omega)]
  rfl
/-- lists of parts, each told by a text -/
theorem parts_lt {α : Type} (enc : α → PyData) (ch : α → List Nat) (Pk : α → Prop) (hl : ∀ x y, Dw.lk (enc x) (enc y) = true) (he : ∀ x y, PyData.eqv (enc x) (enc y) = true → x = y) (hc : ∀ x y, Pk x → Pk y → dataLt (enc x) (enc y) = true → Df (ch x) (ch y)) (hn : ∀ x, Pk x → ch x ≠ []) :
    ∀ l m : List α, (∀ x ∈ l, Pk x) → (∀ x ∈ m, Pk x) → dataLt (.tuple (l.map enc)) (.tuple (m.map enc)) = true → l.flatMap ch < m.flatMap ch
  | [], [], _, _, h => by simp [dataLt, keyToks, keyToksAll, PyProof.Rows.lexLt, itemOrd, itemLt] at h
  | [], y :: m, _, pm, _ => by
    rw [List.flatMap_cons]
    exact nil_lt fun e => hn y (pm y List.mem_cons_self) (List.append_eq_nil_iff.mp e).1
  | x :: l, [], _, _, h => by simp [dataLt, keyToks, keyToksAll, PyProof.Rows.lexLt, itemOrd, itemLt] at h
  | x :: l, y :: m, pl, pm, h => by
    rw [List.flatMap_cons, List.flatMap_cons]
    have h' : PyProof.Rows.lexLt itemOrd (keyToksAll (enc x :: l.map enc)) (keyToksAll (enc y :: m.map enc)) = true := by
      have : dataLt (.tuple (enc x :: l.map enc)) (.tuple (enc y :: m.map enc)) = true := h
      unfold dataLt at this
      rw [keyToks, keyToks] at this
      exact this
    cases e : PyData.eqv (enc x) (enc y) with
    | true =>
      have ee := he x y e
      subst ee
      have h2 := Dw.lt_same (xs := l.map enc) (ys := m.map enc) (hl x x) e
      refine pre_lt (parts_lt enc ch Pk hl he hc hn l m (fun z hz => pl z (List.mem_cons_of_mem _ hz)) (fun z hz => pm z (List.mem_cons_of_mem _ hz)) ?_)
      unfold dataLt
      rw [keyToks, keyToks]
      exact h2.symm.trans h'
    | false =>
      have h2 := Dw.lt_diff (xs := l.map enc) (ys := m.map enc) (hl x y) e
      exact ((hc x y (pl x List.mem_cons_self) (pm y List.mem_cons_self) (h2.symm.trans h')).app _ _).lt
end Kx


set_option Elab.async false
set_option linter.all false
set_option maxRecDepth 100000
set_option maxHeartbeats 4000000
/-! monomials told by texts -/
namespace Kx
open PySem PySem.W PyProof.Rows Bk Nd
def chP (p : Str × Int) : List Nat := pad 6 p.1.cps.toList ++ (fig (1000 + (fig p.2.toNat).length) ++ fig p.2.toNat)
/-- the text of a monomial -/
def keyS (m : Mono) : Str := ⟨(m.flatMap chP).toArray⟩
/-- a factor whose text stands in its order -/
structure PkP (p : Str × Int) : Prop where
  len : p.1.length ≤ 6
  sgn : ∀ c ∈ p.1.cps.toList, 32 < c
  pos : 0 ≤ p.2
  few : (fig p.2.toNat).length < 9000
theorem tk_lt {p q : Str × Int} (h : dataLt (tkD p) (tkD q) = true) : p.1.cps.toList < q.1.cps.toList ∨ p.1 = q.1 ∧ p.2 < q.2 := by
  unfold dataLt at h
  rw [toks_tk, toks_tk] at h
  rw [lex_self (O := itemOrd)] at h
  by_cases e : p.1.cps.toList = q.1.cps.toList
  · rw [e, lex_self (O := itemOrd), lex_self (O := itemOrd)] at h
    refine .inr ⟨str_of_cps e, ?_⟩
    by_cases e2 : p.2 = q.2
    · rw [e2, lex_irrefl] at h
      cases h
    · rw [lex_diff (O := itemOrd) (fun z => e2 (Sum.inl.inj z))] at h
      exact of_decide_eq_true h
  · rw [lex_diff (O := itemOrd) (fun z => e (Sum.inr.inj z))] at h
    left
    have h' : strKind.blt p.1.cps.toList q.1.cps.toList = true := h
    first | exact of_decide_eq_true h' | simpa [strKind] using h'
theorem chP_df {p q : Str × Int} (hp : PkP p) (hq : PkP q) (h : dataLt (tkD p) (tkD q) = true) : Df (chP p) (chP q) := by
  unfold chP
  have lp : p.1.cps.toList.length ≤ 6 := hp.len
  have lq : q.1.cps.toList.length ≤ 6 := hq.len
  rcases tk_lt h with h | ⟨e, h⟩
  · exact (pad_df lp lq hq.sgn h).app _ _
  · rw [e]
    refine Df.pre ?_ _
    have hpos := hp.pos
    have hl : p.2.toNat < q.2.toNat := by omega
    have hle := fig_len (Nat.le_of_lt hl)
    have f1 := hp.few
    have f2 := hq.few
    by_cases g : (fig p.2.toNat).length = (fig q.2.toNat).length
    · rw [g]
      exact (fig_df g hl).pre _
    · exact (fig_df (by rw [fig_four (by omega) (by omega), fig_four (by omega) (by omega)]) (by omega)).app _ _
theorem chP_ne (p : Str × Int) : chP p ≠ [] := fun e => fig_ne _ (List.append_eq_nil_iff.mp (List.append_eq_nil_iff.mp e).2).2
theorem lk_tk (p q : Str × Int) : Dw.lk (tkD p) (tkD q) = true := by simp [tkD, Dw.lk, Dw.lkAll]
theorem key_lt {m n : Mono} (hm : ∀ p ∈ m, PkP p) (hn : ∀ p ∈ n, PkP p) (h : Bk.lt m n = true) : (keyS m).cps.toList < (keyS n).cps.toList :=
  parts_lt tkD chP PkP lk_tk (fun x y e => by rw [eqv_tk] at e; exact of_decide_eq_true e) (fun x y hx hy => chP_df hx hy) (fun x _ => chP_ne x) m n hm hn h
theorem str_lt {x y : Str} : Bk.lt x y = true ↔ x.cps.toList < y.cps.toList := by
  show dataLt (.str x) (.str y) = true ↔ _
  unfold dataLt
  rw [keyToks, keyToks]
  constructor
  · intro h
    by_cases e : x.cps.toList = y.cps.toList
    · rw [e, lex_irrefl] at h
      cases h
    · rw [lex_diff (O := itemOrd) (fun z => e (Sum.inr.inj z))] at h
      have h' : strKind.blt x.cps.toList y.cps.toList = true := h
      first | exact of_decide_eq_true h' | simpa [strKind] using h'
  · intro h
    have e : x.cps.toList ≠ y.cps.toList := fun z => by rw [z] at h; exact List.lt_irrefl _ h
    rw [lex_diff (O := itemOrd) (fun z => e (Sum.inr.inj z))]
    show strKind.blt x.cps.toList y.cps.toList = true
    first | exact decide_eq_true h | simpa [strKind] using h
theorem key_mono {m n : Mono} (hm : ∀ p ∈ m, PkP p) (hn : ∀ p ∈ n, PkP p) (h : Bk.lt m n = true) : Bk.lt (keyS m) (keyS n) = true := str_lt.mpr (key_lt hm hn h)
theorem key_inj {m n : Mono} (hm : ∀ p ∈ m, PkP p) (hn : ∀ p ∈ n, PkP p) (h : keyS m = keyS n) : m = n := by
  cases h1 : Bk.lt m n with
  | true => exact absurd h (lt_ne (key_mono hm hn h1))
  | false =>
    cases h2 : Bk.lt n m with
    | true => exact absurd h.symm (lt_ne (key_mono hn hm h2))
    | false => exact lt_total h1 h2
theorem key_iff {m n : Mono} (hm : ∀ p ∈ m, PkP p) (hn : ∀ p ∈ n, PkP p) : Bk.lt (keyS m) (keyS n) = Bk.lt m n := by
  cases h1 : Bk.lt m n with
  | true => exact key_mono hm hn h1
  | false =>
    cases h2 : Bk.lt n m with
    | true => exact lt_asymm (key_mono hn hm h2)
    | false => rw [lt_total h1 h2, lt_irrefl]
end Kx


set_option Elab.async false
set_option linter.all false
set_option maxRecDepth 100000
set_option maxHeartbeats 4000000
/-! sorted texts, however many -/
namespace Kx
open PySem PySem.Spec PyProof.Rows L2 Bk
def AscT (l : List Str) : Prop := l.Pairwise fun a b => lt a b = true
theorem AscT.nd {l : List Str} (h : AscT l) : l.Nodup := List.Pairwise.imp (fun h => lt_ne h) h
theorem sortedS_asc : ∀ {l : List Str}, PyProof.Rows.sortedS l = true → l.Nodup → AscT l := by
  have le : ∀ {x p : Str}, PySem.Spec.ltCps x.cps.toList p.cps.toList = false → x ≠ p → lt p x = true := fun {x p} h n => by
    have e : lt x p = false := by
      show PySem.W.dataLt (.str x) (.str p) = false
      rw [PySem.W.dataLt_str, ← PyProof.Rows.ltCps_eq]
      exact h
    cases q : lt p x with
    | true => rfl
    | false => exact absurd (lt_total e q) n
  have key : ∀ (l : List Str) (p : Str), PyProof.Rows.risingS p l = true → (p :: l).Nodup → AscT (p :: l) := by
    intro l
    induction l with
    | nil => exact fun p _ _ => List.pairwise_singleton _ _
    | cons x r ih =>
      intro p h n
      unfold PyProof.Rows.risingS at h
      rw [Bool.and_eq_true, Bool.not_eq_true'] at h
      obtain ⟨n1, n2⟩ := List.nodup_cons.mp n
      have a := ih x h.2 n2
      have px : lt p x = true := le h.1 fun e => n1 (by rw [e]; exact List.mem_cons_self)
      refine List.pairwise_cons.mpr ⟨fun y hy => ?_, a⟩
      rcases List.mem_cons.mp hy with rfl | hy
      · exact px
      · exact lt_trans px ((List.pairwise_cons.mp a).1 y hy)
  intro l h n
  cases l with
  | nil => exact List.Pairwise.nil
  | cons x r => exact key r x h n
theorem ascT_ext {l m : List Str} (h1 : AscT l) (h2 : AscT m) (h : ∀ k, k ∈ l ↔ k ∈ m) : l = m := by
  have e : (l.map fun k => (k, (0 : Int))) = m.map fun k => (k, (0 : Int)) := by
    refine asc_ext (by unfold Asc; rw [List.pairwise_map]; exact h1) (by unfold Asc; rw [List.pairwise_map]; exact h2) fun p => ?_
    simp only [List.mem_map (f := fun k : Str => (k, (0 : Int)))]
    exact ⟨fun ⟨k, hk, q⟩ => ⟨k, (h k).mp hk, q⟩, fun ⟨k, hk, q⟩ => ⟨k, (h k).mpr hk, q⟩⟩
  have inv : ∀ l : List Str, (l.map fun k => (k, (0 : Int))).map (·.1) = l := fun l => by
    rw [List.map_map]
    exact List.map_id _
  rw [← inv l, e, inv m]
/-- what sorted gives of texts that stand in L's order -/
theorem sorted_map {ys xs ws : List Str} (h : AscT ws) (p : ys.Perm xs) (q : xs.Perm ws) (s : sortedS ys = true) : ys = ws := by
  have pw := p.trans q
  exact ascT_ext (sortedS_asc s (pw.nodup_iff.mpr h.nd)) h fun k => pw.mem_iff
def rSortedA (K : PySem.W.Frag) : List V → Hp → VK → Prop := fun vs H Q => ∃ (a : Addr) (xs : List Str), vs = [V.ref a] ∧ SqL K H a (xs.map V.str) ∧
  ∀ (ys : List Str) (p : Addr), ys.Perm xs → sortedS ys = true → H p = none → Q (.ref p) (upd H p (.lst (ys.map V.str)))
theorem cr_sortedA {X : Cx} : CallR X (.builtin "sorted") (rSortedA X.K) := by
  intro pins s σ H vs us Q I r h
  obtain ⟨a, xs, rfl, hs, q⟩ := h
  obtain ⟨its, rv, hl, hz⟩ := I.list hs
  rw [Vals.ref1 r]
  have same := rv.length
  refine PyProof.Rows.sorted_strsAny hl.isList rv.strs (by rw [← same]; exact hz) fun out ys h1 h2 h3 => ?_
  obtain ⟨ep, ex⟩ := PyProof.Rows.sortedAll_at s.heap its out
  have few : (ys.map V.str).length ≤ sizeLine := by
    rw [List.length_map, h2.length_eq]
    rw [List.length_map] at hz
    exact hz
  have fr : H (s.heap.objs.size + 1) = none := I.hok.fresh (Nat.le_succ _)
  exact ⟨.ref _, upd H (s.heap.objs.size + 1) (.lst (ys.map V.str)), I.laid (t' := s.toks) (fun _ _ => PyProof.Rows.sortedAll_old) (Nat.le_succ _) ⟨few, out.toList, ep, vals_of_strs h1, ex⟩, rfl, q ys _ h2 h3 fr⟩
end Kx


set_option Elab.async false
set_option linter.all false
set_option maxRecDepth 100000
set_option maxHeartbeats 4000000
namespace K14
open PySem L2 Nd Bk Gd
/-! the law's own texts of monomials and rows -/
def stA (l : List Nat) : Str := ⟨l.toArray⟩
theorem join_nil : ∀ ls : List (List Nat), Txt.join (Str.ofString "") (ls.map stA) = stA ls.flatten := fun ls => by
  have e : TL.joinL [] ls = ls.flatten := by
    induction ls with
    | nil => rfl
    | cons x ls ih =>
      cases ls with
      | nil => simp [TL.joinL]
      | cons y r =>
        show x ++ ([] ++ TL.joinL [] (y :: r)) = _
        rw [ih]
        rfl
  have := SX.join_S [] ls
  rw [e] at this
  exact this
section
variable {P : Program} {w : World} {K : PySem.W.Frag} {mg : Str → Option Value} {base : Heap}
end
end K14



set_option Elab.async false
set_option linter.all false
set_option maxRecDepth 100000
set_option maxHeartbeats 4000000
/-! d[m] while the dict is walked -/
namespace Nd
open PySem PySem.Spec PyProof.Rows L2
structure NdLk (K : PySem.W.Frag) (P : Program) (w : World) (H : Hp) (d : Addr) (o : Obj) (es : List Ent) : Prop where
  at_ : H d = some (.frz o (ndO P w d es))
  keys : ∀ e ∈ es, Dp K H (.ref e.2.1) (mD e.1)
def tNdGetL (K : PySem.W.Frag) (P : Program) (w : World) (td ty : TE) : TE := fun σ H Q => td σ H fun x H1 => ty σ H1 fun y H2 => ∃ (d a : Addr) (o : Obj) (es : List Ent) (m : Mono) (c : Int), x = .ref d ∧ y = .ref a ∧ NdLk K P w H2 d o es ∧ Dp K H2 (.ref a) (mD m) ∧ getN es m = some c ∧ Q (.int c) H2
theorem pe_ndGetL {X : Cx} {o i : Expr} {td ty : TE} {pos : Pos} (hu : X.A.units + 9 < cLine) (ho : PE X o td) (hi : PE X i ty) (hs : NoSl i) : PE X (.Subscript o i pos) (tNdGetL X.K X.prog X.w td ty) := by
  constructor
  intro pins s σ H Q I h
  refine subD_of PySem.F.slot_dict_getitem.lookup hs (thn (ho.run pins s σ H _ I h) fun u s1 ⟨x, H1, I1, rx, q1⟩ => thn (hi.run pins s1 σ H1 _ I1 q1) fun iv s2 ⟨y, H2, I2, ry, d, a, oo, es, m, c, ex, ey, n, hm, hg, q2⟩ => ?_)
  subst ex ey
  obtain rfl : u = Value.ref d := rx
  obtain rfl : iv = Value.ref a := ry
  obtain ⟨_, ⟨z, hd, xs, rel, ob, ds, ep, b1, b2, b3, b4, b5⟩, _⟩ : ObjOk X.prog X.w H2 s2.heap d (.frz oo (ndO X.prog X.w d es)) := I2.hok d _ n.at_
  have dd : s2.heap.DictOfH (nestedKind X.prog X.w) d xs := ⟨ob, ds, ep, b1, b2, b3, b4, rel.all fun e he => key_is I2 (n.keys e he), b5⟩
  have same := rel.get m
  rw [hg] at same
  obtain ⟨w', hw, rw'⟩ := RelO.some_of (v := V.int c) (by exact same)
  obtain ⟨p, hp, hp2⟩ := Option.map_eq_some_iff.mp hw
  refine ⟨dd.typeIs, wpAny_getItem_heap (room_in1 hu) (key_is I2 hm) dd hp ?_⟩
  rw [hp2]
  exact ⟨.int c, H2, I2.tok _, rw', q2⟩
end Nd


set_option Elab.async false
set_option linter.all false
set_option maxRecDepth 100000
set_option maxHeartbeats 4000000
namespace K14
open PySem L2 Nd Bk Gd
/-! the law's own gathering of rows -/
/-- a pair (row, polynomial) of the law's own -/
def LP (K : PySem.W.Frag) (H : Hp) (x : V) (p : Row × Poly) : Prop := ∃ U R y, x = .ref U ∧ SqT K H U [.ref R, y] ∧ RowK H R p.1 ∧ Dp K H y (bD p.2)
theorem LP.kt {K : PySem.W.Frag} {H H' : Hp} {x : V} {p : Row × Poly} (k : KeepT H H') (h : LP K H x p) : LP K H' x p := let ⟨U, R, y, e, h1, h2, h3⟩ := h; ⟨U, R, y, e, sqT_kt k h1, k.1 _ _ h2, bD_kt (κ := Mono) k h3⟩
theorem LP.stay {K : PySem.W.Frag} : Stay (LP K) := ⟨fun k h => h.kt k⟩
section
variable {P : Program} {w : World} {K : PySem.W.Frag} {mg : Str → Option Value} {base : Heap}
end
end K14



set_option Elab.async false
set_option linter.all false
set_option maxHeartbeats 4000000
namespace Dw
open PySem PySem.W PySem.SeqAt PyProof.Rows L2
/-! a tuple isn't a text; texts are told apart -/
def rEqM (K : PySem.W.Frag) : R2 := fun x y H Q => rEq x y H Q ∨ ∃ a xs z, x = .ref a ∧ y = .str z ∧ SqT K H a xs ∧ Q (.bl false) H
section
variable {X : Cx}
theorem op_eqM (room : X.A.units < cLine) : OpR X (compareOp .Eq) (rEqM X.K) := by
  refine OpR.or op_eq ?_
  intro pins s σ J x y v u Q I rx ry told
  obtain ⟨a, xs, z, rfl, rfl, sq, q⟩ := told
  obtain ⟨its, _, ⟨o, e1, e2, n, e3⟩, _⟩ := I.tuple sq
  cases rx
  obtain ⟨t, rfl⟩ := ry
  exact RcAt.tuple_str z t ⟨o, e1, e2, n, e3⟩ room X.prog X.w _ _ ⟨.bl false, J, I, rfl, q⟩
end
end Dw


set_option Elab.async false
set_option linter.all false
set_option maxRecDepth 100000
set_option maxHeartbeats 4000000
namespace K14
open PySem L2 Nd Bk Gd
/-! the law's own joins -/
theorem LP.same {K : PySem.W.Frag} {H H' : Hp} {x : V} {p : Row × Poly} (s : Same H H') (h : LP K H x p) : LP K H' x p := h.kt (.same s)
section
variable {P : Program} {w : World} {K : PySem.W.Frag} {mg : Str → Option Value} {base : Heap}
end
end K14



set_option Elab.async false
set_option linter.all false
set_option maxRecDepth 100000
set_option maxHeartbeats 4000000
namespace K14
open PySem L2 Nd Bk Gd
/-! the law's own run: takes, keeps, picks -/
/-- a table of the law's own, at T -/
def LTab (K : PySem.W.Frag) (H : Hp) (T : Addr) (M : Tbl) : Prop := ∃ ys, SqT K H T ys ∧ Paired (LP K H) ys M
theorem LTab.same {K : PySem.W.Frag} {H H' : Hp} {T : Addr} {M : Tbl} (s : Same H H') (h : LTab K H T M) : LTab K H' T M := let ⟨ys, h1, h2⟩ := h; ⟨ys, sqT_same s h1, Paired.mapP h2 fun _ _ q => q.same s⟩
def LTrip (K : PySem.W.Frag) (H : Hp) (x : V) (l : Trip) : Prop := ∃ b T, x = .ref b ∧ SqT K H b [.str l.1, .int (l.2.1 : Nat), .ref T] ∧ LTab K H T l.2.2
theorem LTrip.same {K : PySem.W.Frag} {H H' : Hp} {x : V} {l : Trip} (s : Same H H') (h : LTrip K H x l) : LTrip K H' x l := let ⟨b, T, e, h1, h2⟩ := h; ⟨b, T, e, sqT_same s h1, h2.same s⟩
/-- few pairs -/
def fewJ : Prog → Prop
  | .take _ => True
  | .keep p .. => fewJ p
  | .pick p _ => fewJ p
  | .make p .. => fewJ p
  | .both p q => fewJ p ∧ fewJ q
  | .join p q ps => fewJ p ∧ fewJ q ∧ ps.length ≤ 300
section
variable {P : Program} {w : World} {K : PySem.W.Frag} {mg : Str → Option Value} {base : Heap}
end
end K14



set_option Elab.async false
set_option linter.all false
set_option maxRecDepth 100000
set_option maxHeartbeats 4000000
namespace K14
open PySem L2 Nd Bk Gd
/-! the law's own draws: mixing -/
def spLMix : Sp := fun vs H Q _ => ∃ c t : Int, vs = [.int c, .int t] ∧ ∀ r : Int, 0 ≤ r → r < 998244353 → Q (.int r) H
section
variable {P : Program} {w : World} {K : PySem.W.Frag} {mg : Str → Option Value} {base : Heap}
theorem scLMix : FnScope ["cell", "turn", "one", "two"] ["cell", "turn"] (defScope t__law_mixed) := ⟨rfl, rfl, rfl, by decide +kernel, rfl, by decide +kernel, by decide +kernel⟩
theorem ok_lmix {f : Addr} {fd : FuncData} (F : Fun K "_law_mixed" "_law_mixed" t__law_mixed f fd) (mI : mg "int" = none) : FnOk P w K mg base CX0 1 f fd ["cell", "turn"] spLMix := by
  refine F.ok scLMix (fun vs H Q E h => ?_) (fun cdv A outer s H vs Q E hr h => ?_)
  · obtain ⟨c, t, rfl, _⟩ := h
    rfl
  · obtain ⟨c, t, rfl, k⟩ := h
    --BODYA
    refine ⟨_, pss_cons (ps_set (i := 2) scLMix.nd rfl (Or.inl rfl) (pe_op op_modN (pe_callTy call_int1 (by rfl) mI (by decide +kernel) (pa_cons (pe_op op_add (pe_op op_add (pe_op op_mul (pv 0) pe_int) (pe_op op_mul (pv 1) pe_int)) pe_int) pa_nil)) pe_int))
      (pss_cons (ps_set (i := 3) scLMix.nd rfl (Or.inl rfl) (pe_op op_modN (pe_callTy call_int1 (by rfl) mI (by decide +kernel) (pa_cons (pe_op op_add (pe_op op_add (pe_op op_mul (pv 2) (pv 2)) (pe_op op_mul (pv 1) pe_int)) (pe_op op_fdivN (pv 2) pe_int)) pa_nil)) pe_int))
      (pss_one (ps_ret (pe_op op_modN (pe_callTy call_int1 (by rfl) mI (by decide +kernel) (pa_cons (pe_op op_add (pe_op op_add (pe_op op_mul (pv 3) pe_int) (pe_op op_fdivN (pv 3) pe_int)) (pv 1)) pa_nil)) pe_int)))), ?_⟩
    --END
    refine ⟨_, rfl, _, _, rfl, rfl, .inr ⟨by decide, by decide⟩, _, rfl, _, _, rfl, rfl, .inr ⟨by decide, by decide⟩, _, _, rfl, rfl, _, _, rfl, rfl, .inl ⟨_, rfl, _, _, rfl, rfl, (by show (2147483647 : Int) ≠ 0; decide), ?_⟩⟩
    have h0 := Int.fmod_nonneg_of_pos (c * 48271 + t * 69621 + 12345) (show (0 : Int) < 2147483647 by decide)
    have h1 := Int.fmod_lt_of_pos (c * 48271 + t * 69621 + 12345) (show (0 : Int) < 2147483647 by decide)
    refine ⟨_, rfl, _, rfl, _, _, rfl, rfl, .inl ⟨Int.lt_of_lt_of_le (by decide) h0, Int.lt_trans h1 (by decide)⟩, _, rfl, _, _, rfl, rfl, .inr ⟨by decide, by decide⟩, _, _, rfl, rfl, _, rfl, _, _, rfl, rfl, ⟨by decide, by decide⟩, _, _, rfl, rfl, .inl ⟨_, rfl, _, _, rfl, rfl, (by show (2147483399 : Int) ≠ 0; decide), ?_⟩⟩
    refine ⟨_, rfl, _, _, rfl, rfl, .inr ⟨by decide, by decide⟩, _, rfl, _, _, rfl, rfl, ⟨by decide, by decide⟩, _, _, rfl, rfl, _, rfl, _, _, rfl, rfl, .inl ⟨_, rfl, _, _, rfl, rfl, (by show (998244353 : Int) ≠ 0; decide), ?_⟩⟩
    exact k _ (Int.fmod_nonneg_of_pos _ (by decide)) (Int.fmod_lt_of_pos _ (by decide))
end
end K14



set_option Elab.async false
set_option linter.all false
set_option maxRecDepth 100000
set_option maxHeartbeats 4000000
namespace K14
open PySem L2 Nd Bk Gd
/-! the law's own draws: the state, what is drawn of it -/
structure Sta where
  p : Addr
  c : Addr
  m : Addr
  ns : List Int
  ms : List Int
def stL (d1 d2 d3 d4 d5 : Int) (c m : Addr) : List V := [.ref c, .int d1, .int d2, .int d3, .int d4, .int d5, .ref m]
structure StAt (H : Hp) (S : Sta) : Prop where
  lst : ∃ d1 d2 d3 d4 d5 : Int, 0 ≤ d1 ∧ H S.p = some (.lst (stL d1 d2 d3 d4 d5 S.c S.m))
  cells : H S.c = some (.lst (S.ns.map V.int))
  mods : H S.m = some (.lst (S.ms.map V.int))
  len : S.ns.length ≤ 1000
  eq : S.ms.length = S.ns.length
theorem stL_ne {d1 d2 d3 d4 d5 : Int} {c m : Addr} {ns : List Int} : HO.lst (ns.map V.int) ≠ HO.lst (stL d1 d2 d3 d4 d5 c m) := by
  intro z
  have z' := HO.lst.inj z
  have h5 := congrArg (fun l => l[0]?) z'
  simp only [stL, List.getElem?_map] at h5
  cases e : ns[0]? with
  | none => rw [e] at h5; simp at h5
  | some y => rw [e] at h5; simp at h5
section
variable {H H' H1 : Hp} {S : Sta} {d : Addr}
theorem StAt.ne (x : StAt H S) : S.c ≠ S.p := by
  obtain ⟨d1, d2, d3, d4, d5, _, h⟩ := x.lst
  exact ne_of x.cells h stL_ne
theorem StAt.ne2 (x : StAt H S) : S.m ≠ S.p := by
  obtain ⟨d1, d2, d3, d4, d5, _, h⟩ := x.lst
  exact ne_of x.mods h stL_ne
theorem StAt.put (x : StAt H S) {d1 d2 d3 d4 d5 : Int} (h : 0 ≤ d1) : StAt (upd H S.p (.lst (stL d1 d2 d3 d4 d5 S.c S.m))) S :=
  ⟨⟨d1, d2, d3, d4, d5, h, upd_same⟩, by rw [upd_ne x.ne]; exact x.cells, by rw [upd_ne x.ne2]; exact x.mods, x.len, x.eq⟩
theorem StAt.same (x : StAt H S) (s : Same H H') : StAt H' S := by
  obtain ⟨d1, d2, d3, d4, d5, h0, h⟩ := x.lst
  exact ⟨⟨d1, d2, d3, d4, d5, h0, s _ _ h⟩, s _ _ x.cells, s _ _ x.mods, x.len, x.eq⟩
theorem StAt.notT (x : StAt H S) : NotT (H S.p) := by
  obtain ⟨d1, d2, d3, d4, d5, _, h⟩ := x.lst
  rw [h]
  exact notT_lst
theorem StAt.off (x : StAt H S) (n : H d = none) : d ≠ S.p := by
  obtain ⟨d1, d2, d3, d4, d5, _, h⟩ := x.lst
  exact Ne.symm (ne_of_none h n)
theorem StAt.mine {o : HO} (x : StAt H S) (h1 : S.p ≠ d) (h2 : S.c ≠ d) (h3 : S.m ≠ d) : StAt (upd H d o) S := by
  obtain ⟨d1, d2, d3, d4, d5, h0, h⟩ := x.lst
  exact ⟨⟨d1, d2, d3, d4, d5, h0, by rw [upd_ne h1]; exact h⟩, by rw [upd_ne h2]; exact x.cells, by rw [upd_ne h3]; exact x.mods, x.len, x.eq⟩
/-- drawn of the state, else all is kept -/
structure Go (S : Sta) (H H' : Hp) : Prop where
  but : But S.p H H'
  st : StAt H' S
theorem Go.refl (x : StAt H S) : Go S H H := ⟨But.refl, x⟩
theorem Go.trans (x : Go S H H1) (y : Go S H1 H') : Go S H H' := ⟨x.but.trans y.but, y.st⟩
theorem Go.same (x : Go S H H1) (s : Same H1 H') : Go S H H' := ⟨x.but.same s, x.st.same s⟩
theorem Go.new (x : StAt H S) (s : Same H H') : Go S H H' := ⟨But.refl.same s, x.same s⟩
theorem Go.kt (x : StAt H S) (g : Go S H H') : KeepT H H' := KeepT.but x.notT g.but
theorem Go.free (g : Go S H H1) (n : H1 d = none) : H d = none := by
  cases e : H d with
  | none => rfl
  | some o =>
    by_cases q : d = S.p
    · exact absurd q (g.st.off n)
    · have := g.but d o e q
      rw [n] at this
      cases this
end
/-- what is made anew stands apart from the state -/
theorem Go.mine {H1 H2 : Hp} {S : Sta} {d : Addr} {o : HO} (x : StAt H1 S) (g : Go S H1 H2) (n : H1 d = none) : Go S H1 (upd H2 d o) := by
  obtain ⟨d1, d2, d3, d4, d5, _, h⟩ := x.lst
  exact ⟨fun a u ha na => by rw [upd_ne (ne_of_none ha n)]; exact g.but a u ha na, g.st.mine (ne_of_none h n) (ne_of_none x.cells n) (ne_of_none x.mods n)⟩
theorem Go.kept {H H1 : Hp} {S : Sta} {d : Addr} {o : HO} (x : StAt H S) (g : Go S H H1) (h : H d = some o) (n : d ≠ S.p) : H1 d = some o := g.but d o h n
/-- a list that is made ahead of a draw -/
theorem disp {K : PySem.W.Frag} {H H' : Hp} {S : Sta} {q : Addr} {xs : List V} (st : StAt H S) (nq : H q = none) (g : Go S (upd H q (.lst xs)) H') : (SqL K H' q xs ∨ SqT K H' q xs) ∧ Go S H H' :=
  ⟨.inl (SqL.of (g.but q _ upd_same (st.off nq))), (Go.new st (sm_new sm_refl nq)).trans g⟩
theorem at_mem {xs : List V} {r n : Nat} {T : V → Prop} (l : xs.length = n) (h : r < n) (all : ∀ x ∈ xs, T x) : ∃ x, xs[r]? = some x ∧ T x :=
  ⟨xs[r]'(by omega), List.getElem?_eq_getElem (by omega), all _ (List.getElem_mem _)⟩
structure AccG {α : Type} (R : Hp → V → α → Prop) (S : Sta) (H1 : Hp) (D : Addr) (l : List α) (H2 : Hp) : Prop where
  go : Go S H1 H2
  at_ : ∃ ys, H2 D = some (.lst ys) ∧ Paired (R H2) ys l
section
variable {α : Type} {R : Hp → V → α → Prop} {S : Sta} {H1 H2 H4 : Hp} {D : Addr} {l : List α} {x : α} {y : V}
theorem accG_zero (st : StAt H1 S) (n : H1 D = none) : AccG R S H1 D [] (upd H1 D (.lst [])) := ⟨Go.mine st (Go.refl st) n, [], upd_same, .nil⟩
theorem AccG.on (a : AccG R S H1 D l H2) (t : Stay R) (n : H1 D = none) (st : StAt H1 S) (g : Go S H2 H4) : AccG R S H1 D l H4 := by
  obtain ⟨g1, ys, hD, hy⟩ := a
  exact ⟨g1.trans g, ys, g.but D _ hD (st.off n), Paired.mapP hy fun _ _ q => t.kt (Go.kt g1.st g) q⟩
theorem accG_step (t : Stay R) (a : AccG R S H1 D l H2) (n : H1 D = none) (st : StAt H1 S) (hl : l.length ≤ 1000000) (g : Go S H2 H4) (h : R H4 y x) :
    ∃ acc, H4 D = some (.lst acc) ∧ acc.length < sizeLine ∧ AccG R S H1 D (l ++ [x]) (upd H4 D (.lst (acc ++ [y]))) := by
  obtain ⟨g1, ys, hD, hy⟩ := a
  have hD4 := g.but D _ hD (st.off n)
  have k : KeepT H4 (upd H4 D (.lst (ys ++ [y]))) := .upd (by rw [hD4]; exact notT_lst)
  refine ⟨ys, hD4, ?_, Go.mine st (g1.trans g) n, _, upd_same, ?_⟩
  · have : ys.length = l.length := Paired.length hy
    rw [sizeLine_eq]
    omega
  · exact Paired.snoc (Paired.mapP hy fun _ _ q => t.kt k (t.kt (Go.kt g1.st g) q)) (t.kt k h)
end
def spLDr : Sp := fun vs H Q _ => ∃ (S : Sta) (n : Nat), vs = [.ref S.p, .int (n : Int)] ∧ 0 < n ∧ n < 10000000 ∧ StAt H S ∧ ∀ (r : Nat) (H' : Hp), r < n → Go S H H' → Q (.int (r : Int)) H'
def spLSta (K : PySem.W.Frag) : Sp := fun vs H Q _ => ∃ (a : Addr) (ns : List Int), vs = [.ref a] ∧ (SqL K H a (ns.map V.int) ∨ SqT K H a (ns.map V.int)) ∧ ns.length ≤ 1000 ∧ ∀ (S : Sta) (H' : Hp), Same H H' → StAt H' S → Q (.ref S.p) H'
section
variable {P : Program} {w : World} {K : PySem.W.Frag} {mg : Str → Option Value} {base : Heap}
abbrev ldrN : List Str := ["state", "limit", "cells", "cell", "found"]
theorem scLDr : FnScope ldrN ["state", "limit"] (defScope t__law_draw) := ⟨rfl, rfl, rfl, by decide +kernel, rfl, by decide +kernel, by decide +kernel⟩
theorem fmod_nat {x : Int} {n : Nat} (h : 0 < n) : ∃ r : Nat, Int.fmod x (n : Int) = (r : Int) ∧ r < n := by
  have h0 := Int.fmod_nonneg_of_pos x (show (0 : Int) < (n : Int) by omega)
  have h1 := Int.fmod_lt_of_pos x (show (0 : Int) < (n : Int) by omega)
  exact ⟨(Int.fmod x n).toNat, by omega, by omega⟩
theorem ok_ldr {f : Addr} {fd : FuncData} (F : Fun K "_law_draw" "_law_draw" t__law_draw f fd) (N : Nm mg) (Gm : Df P w K mg base 1 "_law_mixed" ["cell", "turn"] spLMix) : FnOk P w K mg base CX0 2 f fd ["state", "limit"] spLDr := by
  obtain ⟨fM, fdM, gM, kM, bM, GM⟩ := Gm.ok
  refine F.ok scLDr (fun vs H Q E h => ?_) (fun cdv A outer s H vs Q E hr h => ?_)
  · obtain ⟨S, n, rfl, _⟩ := h
    rfl
  · obtain ⟨S, n, rfl, n0, n1, hP, k⟩ := h
    have hr1 : Room 1 _ := hr.mono (by decide)
    --BODYA
    refine ⟨_, pss_cons (ps_asg (pe_op op_add (pe_ix (show IxR _ (rIx K) from ix_seq) (pv 0) pe_int (fun _ _ => rfl)) pe_int) (pg_sub (pv 0) pe_int set_list))
      (pss_cons (ps_set (i := 2) scLDr.nd rfl (Or.inl rfl) (pe_ix (show IxR _ (rIx K) from ix_seq) (pv 0) pe_int (fun _ _ => rfl)))
      (pss_cons (ps_if (pt_cmpR op_eq (pe_callB (show CallR _ _ (rLenQ K) from call_len_seq) (by rfl) N.len PySem.boot_len (pa_cons (pv 2) pa_nil)) pe_int (nomark _)) (pss_one (ps_ret (pe_op op_modN (pe_callTy call_int1 (by rfl) N.int (by decide +kernel) (pa_cons (pe_call GM hr1 rfl gM kM bM .nil pass0 (pa_cons pe_int (pa_cons (pe_ix (show IxR _ (rIx K) from ix_seq) (pv 0) pe_int (fun _ _ => rfl)) pa_nil))) pa_nil)) (pv 1)))) pss_nil)
      (C8.pss_cut (ps_if (PW.pt (pw_and (pt_cmpR op_eq (pe_ix (show IxR _ (rIx K) from ix_seq) (pv 0) pe_int (fun _ _ => rfl)) pe_int (nomark _)) (pw_and (pt_cmpR op_eq (pe_ix (show IxR _ (rIx K) from ix_seq) (pv 0) pe_int (fun _ _ => rfl)) pe_int (nomark _)) (pw_and1 (pt_cmpR op_lt (pe_ix (show IxR _ (rIx K) from ix_seq) (pv 0) pe_int (fun _ _ => rfl)) (pe_callB (show CallR _ _ (rLenQ K) from call_len_seq) (by rfl) N.len PySem.boot_len (pa_cons (pv 2) pa_nil)) (nomark _)))))) (pss_cons (ps_set (i := 3) scLDr.nd rfl (Or.inl rfl) (pe_ix (show IxR _ (rIx K) from ix_seq) (pv 2) (pe_ix (show IxR _ (rIx K) from ix_seq) (pv 0) pe_int (fun _ _ => rfl)) (fun _ _ => rfl)))
      (pss_cons (ps_asg (pe_op op_add (pe_ix (show IxR _ (rIx K) from ix_seq) (pv 0) pe_int (fun _ _ => rfl)) pe_int) (pg_sub (pv 0) pe_int set_list))
      (pss_cons (ps_if (pt_cmpR op_lt (pv 3) (pe_op op_pow pe_int pe_int) (nomark _)) (pss_one (ps_ret (pe_op op_modN (pe_callTy call_int1 (by rfl) N.int (by decide +kernel) (pa_cons (pe_call GM hr1 rfl gM kM bM .nil pass0 (pa_cons (pv 3) (pa_cons (pe_ix (show IxR _ (rIx K) from ix_seq) (pv 0) pe_int (fun _ _ => rfl)) pa_nil))) pa_nil)) (pv 1)))) pss_nil)
      (pss_cons (ps_asg (pv 3) (pg_sub (pv 0) pe_int set_list))
      (pss_one (ps_asg pe_int (pg_sub (pv 0) pe_int set_list))))))) pss_nil)
      (pss_cons (ps_if (PW.pt (pw_or (pt_cmpR op_eq (pe_ix (show IxR _ (rIx K) from ix_seq) (pv 0) pe_int (fun _ _ => rfl)) pe_int (nomark _)) (pw_or1 (pt_cmpR op_eq (pe_ix (show IxR _ (rIx K) from ix_seq) (pv 0) pe_int (fun _ _ => rfl)) pe_int (nomark _))))) (pss_one (ps_ret (pe_op op_modN (pe_callTy call_int1 (by rfl) N.int (by decide +kernel) (pa_cons (pe_call GM hr1 rfl gM kM bM .nil pass0 (pa_cons (pe_ix (show IxR _ (rIx K) from ix_seq) (pe_ix (show IxR _ (rIx K) from ix_seq) (pv 0) pe_int (fun _ _ => rfl)) (pe_op op_modN (pe_callTy call_int1 (by rfl) N.int (by decide +kernel) (pa_cons (pe_ix (show IxR _ (rIx K) from ix_seq) (pv 0) pe_int (fun _ _ => rfl)) pa_nil)) (pe_callB (show CallR _ _ (rLenQ K) from call_len_seq) (by rfl) N.len PySem.boot_len (pa_cons (pv 2) pa_nil))) (fun _ _ => rfl)) (pa_cons (pe_ix (show IxR _ (rIx K) from ix_seq) (pv 0) pe_int (fun _ _ => rfl)) pa_nil))) pa_nil)) (pv 1)))) pss_nil)
      (pss_cons (ps_set (i := 4) scLDr.nd rfl (Or.inl rfl) (pe_op op_modN (pe_callTy call_int1 (by rfl) N.int (by decide +kernel) (pa_cons (pe_ix (show IxR _ (rIx K) from ix_seq) (pv 0) pe_int (fun _ _ => rfl)) pa_nil)) (pv 1)))
      (pss_cons (ps_asg (pe_op op_sub (pe_ix (show IxR _ (rIx K) from ix_seq) (pv 0) pe_int (fun _ _ => rfl)) pe_int) (pg_sub (pv 0) pe_int set_list))
      (pss_cons (ps_asg (pe_op op_mul (pe_op op_fdivN (pe_callTy call_int1 (by rfl) N.int (by decide +kernel) (pa_cons (pe_ix (show IxR _ (rIx K) from ix_seq) (pv 0) pe_int (fun _ _ => rfl)) pa_nil)) (pv 1)) (pe_callTy call_int1 (by rfl) N.int (by decide +kernel) (pa_cons (pe_cmpR op_gt (pe_ix (show IxR _ (rIx K) from ix_seq) (pv 0) pe_int (fun _ _ => rfl)) pe_int (nomark _)) pa_nil))) (pg_sub (pv 0) pe_int set_list))
      (pss_one (ps_ret (pv 4)))))))))), ?_⟩
    --END
    obtain ⟨d1, d2, d3, d4, d5, h1, hp⟩ := id hP.lst
    have fin : ∀ (x : Int) (H' : Hp), Go S H H' → Q (.int (x.fmod (n : Int))) H' := fun x H' g => by
      obtain ⟨r, e, hr'⟩ := fmod_nat (x := x) n0
      rw [e]
      exact k r H' hr' g
    have nn : (n : Int) ≠ 0 := by omega
    refine ⟨_, rfl, pick (.inl (SqL.of hp)) 3 rfl _ ⟨_, _, rfl, rfl, _, rfl, S.p, _, 3, 3, rfl, rfl, hp, rfl, ?_⟩⟩
    have g1 : Go S H (upd H S.p (.lst (stL d1 d2 (d3 + 1) d4 d5 S.c S.m))) := ⟨But.upd, hP.put h1⟩
    have hp1 : upd H S.p (.lst (stL d1 d2 (d3 + 1) d4 d5 S.c S.m)) S.p = some (.lst (stL d1 d2 (d3 + 1) d4 d5 S.c S.m)) := upd_same
    show tSeq _ _ _ _ (upd H S.p (.lst (stL d1 d2 (d3 + 1) d4 d5 S.c S.m)))
    generalize upd H S.p (.lst (stL d1 d2 (d3 + 1) d4 d5 S.c S.m)) = H1 at g1 hp1 ⊢
    refine ⟨_, rfl, pick (.inl (SqL.of hp1)) 0 rfl _ ⟨_, rfl, S.c, _, rfl, .inl (SqL.of g1.st.cells), ?_⟩⟩
    rw [List.length_map]
    refine ⟨rfl, _, rfl, ?_⟩
    refine ite2 (fun _ => ?_) (fun hne => ?_)
    · exact ⟨_, rfl, pick (.inl (SqL.of hp1)) 3 rfl _ ⟨_, _, rfl, fun r _ _ => .inl ⟨_, rfl, _, rfl, _, _, rfl, rfl, nn, fin _ _ g1⟩⟩⟩
    have hl0 : 0 < S.ns.length := by
      rcases Nat.eq_zero_or_pos S.ns.length with e | e
      · exact absurd (decide_eq_true (by rw [e]; rfl)) hne
      · exact e
    refine ⟨fun σ H2 => (∃ u3, σ = [some (.ref S.p), some (.int n), some (.ref S.c), u3, none]) ∧ Go S H H2, ?_, ?_⟩
    · refine ⟨_, rfl, pick (.inl (SqL.of hp1)) 4 rfl _ ⟨rfl, _, rfl, ?_⟩⟩
      refine ite2 (fun _ => ?_) (fun _ => ⟨⟨_, rfl⟩, g1⟩)
      refine ⟨_, rfl, pick (.inl (SqL.of hp1)) 2 rfl _ ⟨rfl, _, rfl, ?_⟩⟩
      refine ite2 (fun _ => ?_) (fun _ => ⟨⟨_, rfl⟩, g1⟩)
      refine ⟨_, rfl, pick (.inl (SqL.of hp1)) 1 rfl _ ⟨_, rfl, S.c, _, rfl, .inl (SqL.of g1.st.cells), _, _, rfl, rfl, _, rfl, ?_⟩⟩
      refine ite2 (fun hlt => ?_) (fun _ => ⟨⟨_, rfl⟩, g1⟩)
      have hlt' : d1 < ((S.ns.map V.int).length : Int) := of_decide_eq_true hlt
      rw [List.length_map] at hlt'
      obtain ⟨j, rfl⟩ := Int.eq_ofNat_of_zero_le h1
      have hj : j < S.ns.length := by omega
      have hget : (S.ns.map V.int)[j]? = some (V.int S.ns[j]) := by rw [List.getElem?_map, List.getElem?_eq_getElem hj]; rfl
      refine ⟨_, rfl, _, rfl, pick (.inl (SqL.of hp1)) 1 rfl _ (pick (.inl (SqL.of g1.st.cells)) j hget _ ?_)⟩
      generalize S.ns[j] = z at hget ⊢
      refine ⟨_, rfl, pick (.inl (SqL.of hp1)) 1 rfl _ ⟨_, _, rfl, rfl, _, rfl, S.p, _, 1, 1, rfl, rfl, hp1, rfl, ?_⟩⟩
      have g2 : Go S H1 (upd H1 S.p (.lst (stL ((j : Int) + 1) d2 (d3 + 1) d4 d5 S.c S.m))) := ⟨But.upd, g1.st.put (by omega)⟩
      have hp2 : upd H1 S.p (.lst (stL ((j : Int) + 1) d2 (d3 + 1) d4 d5 S.c S.m)) S.p = some (.lst (stL ((j : Int) + 1) d2 (d3 + 1) d4 d5 S.c S.m)) := upd_same
      show tSeq _ _ _ _ (upd H1 S.p (.lst (stL ((j : Int) + 1) d2 (d3 + 1) d4 d5 S.c S.m)))
      generalize upd H1 S.p (.lst (stL ((j : Int) + 1) d2 (d3 + 1) d4 d5 S.c S.m)) = H2 at g2 hp2 ⊢
      refine ⟨_, rfl, _, _, rfl, rfl, ⟨by decide, by decide, by decide⟩, _, _, rfl, rfl, _, rfl, ?_⟩
      refine ite2 (fun _ => ?_) (fun _ => ?_)
      · exact ⟨_, rfl, _, rfl, pick (.inl (SqL.of hp2)) 3 rfl _ ⟨_, _, rfl, fun r _ _ => .inl ⟨_, rfl, _, rfl, _, _, rfl, rfl, nn, fin _ _ (g1.trans g2)⟩⟩⟩
      refine ⟨_, rfl, _, rfl, S.p, _, 2, 2, rfl, rfl, hp2, rfl, ?_⟩
      have g3 : Go S H2 (upd H2 S.p (.lst (stL ((j : Int) + 1) z (d3 + 1) d4 d5 S.c S.m))) := ⟨But.upd, g2.st.put (by omega)⟩
      have hp3 : upd H2 S.p (.lst (stL ((j : Int) + 1) z (d3 + 1) d4 d5 S.c S.m)) S.p = some (.lst (stL ((j : Int) + 1) z (d3 + 1) d4 d5 S.c S.m)) := upd_same
      exact ⟨_, rfl, S.p, _, 5, 5, rfl, rfl, hp3, rfl, ⟨_, rfl⟩, ((g1.trans g2).trans g3).trans ⟨But.upd, g3.st.put (by omega)⟩⟩
    · rintro σ H2 ⟨⟨u3, rfl⟩, g2⟩
      obtain ⟨e1, e2, e3, e4, e5, f1, hp2⟩ := id g2.st.lst
      refine ⟨_, rfl, pick (.inl (SqL.of hp2)) 4 rfl _ ⟨rfl, _, rfl, ?_⟩⟩
      have ix : ∀ (Q' : VK), (∀ x : Int, Q' (.int x) H2) → rIx K (.ref S.m) (.int (e3.fmod ((S.ns.map V.int).length : Int))) H2 Q' := fun Q' q => by
        obtain ⟨r, e, hr'⟩ := fmod_nat (x := e3) (n := (S.ns.map V.int).length) (by rw [List.length_map]; exact hl0)
        rw [e]
        rw [List.length_map] at hr'
        exact pick (.inl (SqL.of g2.st.mods)) r (x := .int (S.ms[r]'(by rw [g2.st.eq]; exact hr'))) (by rw [List.getElem?_map, List.getElem?_eq_getElem (by rw [g2.st.eq]; exact hr')]; rfl) _ (q _)
      have nl : ((S.ns.map V.int).length : Int) ≠ 0 := by rw [List.length_map]; omega
      refine ite2 (fun _ => ?_) (fun _ => ?_)
      · exact iteT ⟨_, rfl, pick (.inl (SqL.of hp2)) 6 rfl _ ⟨_, rfl, pick (.inl (SqL.of hp2)) 3 rfl _ (.inl ⟨_, rfl, _, rfl, S.c, _, rfl, .inl (SqL.of g2.st.cells), _, _, rfl, rfl, nl, ix _ fun x => ⟨_, rfl, pick (.inl (SqL.of hp2)) 3 rfl _ ⟨_, _, rfl, fun r _ _ => .inl ⟨_, rfl, _, rfl, _, _, rfl, rfl, nn, fin _ _ g2⟩⟩⟩⟩)⟩⟩
      refine ⟨_, rfl, pick (.inl (SqL.of hp2)) 2 rfl _ ⟨rfl, _, rfl, ?_⟩⟩
      refine ite2 (fun _ => ?_) (fun _ => ?_)
      · exact ⟨_, rfl, pick (.inl (SqL.of hp2)) 6 rfl _ ⟨_, rfl, pick (.inl (SqL.of hp2)) 3 rfl _ (.inl ⟨_, rfl, _, rfl, S.c, _, rfl, .inl (SqL.of g2.st.cells), _, _, rfl, rfl, nl, ix _ fun x => ⟨_, rfl, pick (.inl (SqL.of hp2)) 3 rfl _ ⟨_, _, rfl, fun r _ _ => .inl ⟨_, rfl, _, rfl, _, _, rfl, rfl, nn, fin _ _ g2⟩⟩⟩⟩)⟩⟩
      refine ⟨_, rfl, pick (.inl (SqL.of hp2)) 2 rfl _ (.inl ⟨_, rfl, _, rfl, _, _, rfl, rfl, nn, ?_⟩)⟩
      refine ⟨_, rfl, pick (.inl (SqL.of hp2)) 5 rfl _ ⟨_, _, rfl, rfl, _, rfl, S.p, _, 5, 5, rfl, rfl, hp2, rfl, ?_⟩⟩
      have g3 : Go S H2 (upd H2 S.p (.lst (stL e1 e2 e3 e4 (e5 - 1) S.c S.m))) := ⟨But.upd, g2.st.put f1⟩
      have hp3 : upd H2 S.p (.lst (stL e1 e2 e3 e4 (e5 - 1) S.c S.m)) S.p = some (.lst (stL e1 e2 e3 e4 (e5 - 1) S.c S.m)) := upd_same
      show tSeq _ _ _ _ (upd H2 S.p (.lst (stL e1 e2 e3 e4 (e5 - 1) S.c S.m)))
      generalize upd H2 S.p (.lst (stL e1 e2 e3 e4 (e5 - 1) S.c S.m)) = H3 at g3 hp3 ⊢
      refine ⟨_, rfl, pick (.inl (SqL.of hp3)) 2 rfl _ (.inl ⟨_, rfl, _, rfl, _, _, rfl, rfl, ⟨by omega, by omega⟩, _, rfl, pick (.inl (SqL.of hp3)) 5 rfl _ ⟨_, _, rfl, rfl, .inr ⟨_, rfl, _, _, rfl, rfl, .inr ?_, ?_⟩⟩⟩)⟩
      · split <;> exact ⟨by decide, by decide⟩
      refine ⟨_, rfl, S.p, _, 2, 2, rfl, rfl, hp3, rfl, _, rfl, ?_⟩
      exact fin _ _ ((g2.trans g3).trans ⟨But.upd, g3.st.put f1⟩)
theorem scLSta : FnScope ["script", "cell", "state"] ["script"] (defScope t__law_start) := ⟨rfl, rfl, rfl, by decide +kernel, rfl, by decide +kernel, by decide +kernel⟩
theorem ok_lsta {f : Addr} {fd : FuncData} (F : Fun K "_law_start" "_law_start" t__law_start f fd) (N : Nm mg) (Gd : Df P w K mg base 2 "_law_draw" ["state", "limit"] spLDr) : FnOk P w K mg base CX0 3 f fd ["script"] (spLSta K) := by
  obtain ⟨fD, fdD, gD, kD, bD', GD⟩ := Gd.ok
  have bD := bD'
  refine F.ok scLSta (fun vs H Q E h => ?_) (fun cdv A outer s H vs Q E hr h => ?_)
  · obtain ⟨a, ns, rfl, _⟩ := h
    rfl
  · obtain ⟨a, ns, rfl, hS, hl, k⟩ := h
    have hr2 : Room 2 _ := hr.mono (by decide)
    --BODYB
    refine ⟨_, pss_cons (ps_set (i := 2) scLSta.nd rfl (Or.inl rfl) (pe_lst (pa_cons (pe_callTy call_list_of (by rfl) N.lst (by decide +kernel) (pa_cons (pv 0) pa_nil)) (pa_cons pe_int (pa_cons pe_int (pa_cons pe_int (pa_cons pe_int (pa_cons pe_int (pa_cons (pe_lc (own := [("cell", 1)]) (g := gName 1) (tt := tYes) rfl scLSta.nd (pi_seq (pv 0)) (blkOk_by (N := ["script", "cell", "state"]) (sc := defScope t__law_start) (by decide +kernel))
          (fun _ _ _ _ _ => (pg_name (i := 1) scLSta.nd rfl (Or.inl rfl))) (fun _ _ _ _ _ => pts_nil) (fun _ _ _ _ _ => (pe_op op_modN (pe_callTy call_int1 (by rfl) N.int (by decide +kernel) (pa_cons (pv 1) pa_nil)) pe_int))) pa_nil)))))))))
      (C8.pss_cut (ps_if (PW.pt (pw_or (pt_cmpR op_eq (pe_callB (show CallR _ _ (rLenQ K) from call_len_seq) (by rfl) N.len PySem.boot_len (pa_cons (pv 0) pa_nil)) pe_int (nomark _)) (pw_or1 (pt_cmpR op_eq (pe_op op_modN (pe_callTy call_int1 (by rfl) N.int (by decide +kernel) (pa_cons (pe_ix (show IxR _ (rIx K) from ix_seq) (pv 0) pe_int (fun _ _ => rfl)) pa_nil)) pe_int) pe_int (nomark _))))) (pss_one (ps_asg pe_int (pg_sub (pv 2) pe_int set_list))) pss_nil)
      (pss_cons (ps_expr (pe_call GD hr2 rfl gD kD bD .nil pass0 (pa_cons (pv 2) (pa_cons pe_int pa_nil))))
      (pss_one (ps_ret (pv 2))))), ?_⟩
    --END
    refine ⟨_, rfl, a, _, rfl, hS, fun L nL => ?_⟩
    have s1 : Same H (upd H L (.lst (ns.map V.int))) := sm_new sm_refl nL
    have hL : upd H L (.lst (ns.map V.int)) L = some (.lst (ns.map V.int)) := upd_same
    generalize upd H L (.lst (ns.map V.int)) = H1 at s1 hL ⊢
    refine seq_go rfl (hS.imp s1.seq (sqT_same s1)) fun J G walk hG D nD => ?_
    refine lc_it walk (fun i H2 => Same H1 H2 ∧ ∃ ms : List Int, ms.length = i ∧ H2 D = some (.lst (ms.map V.int))) ⟨sm_new sm_refl nD, [], rfl, upd_same⟩ (fun i H2 _ ⟨s2, _⟩ => hG H2 s2.seq (sqT_same s2)) ?_ ?_
    · rintro i x σ2 H2 hi ⟨s2, ms, lm, hD⟩ ⟨rfl, hx⟩
      rw [List.length_map] at hi
      rw [List.getElem?_map] at hx
      obtain ⟨z, _, rfl⟩ := Option.map_eq_some_iff.mp hx
      refine ⟨rfl, _, rfl, .inl ⟨_, rfl, _, _, rfl, rfl, (by show (2147483647 : Int) ≠ 0; decide), _, hD, ?_, sm_new s2 nD, ms ++ [z.fmod 2147483647], by rw [List.length_append, lm]; rfl, by rw [upd_same, List.map_append]; rfl⟩⟩
      rw [List.length_map, sizeLine_eq]
      omega
    · rintro H2 ⟨s2, ms, lm, hD⟩
      rw [List.length_map] at lm
      refine ⟨by show 7 ≤ sizeLine; decide, fun p np => ?_⟩
      have s3 : Same H2 (upd H2 p (.lst (stL 0 0 0 0 0 L D))) := sm_new sm_refl np
      have st : StAt (upd H2 p (.lst (stL 0 0 0 0 0 L D))) ⟨p, L, D, ns, ms⟩ := ⟨⟨0, 0, 0, 0, 0, Int.le_refl 0, upd_same⟩, s3 _ _ (s2 _ _ hL), s3 _ _ hD, hl, lm⟩
      have hp : upd H2 p (.lst (stL 0 0 0 0 0 L D)) p = some (.lst (stL 0 0 0 0 0 L D)) := upd_same
      show C8.tCut _ _ _ _ (upd H2 p (.lst (stL 0 0 0 0 0 L D)))
      generalize upd H2 p (.lst (stL 0 0 0 0 0 L D)) = H3 at s3 st hp ⊢
      have s03 := (s1.trans s2).trans s3
      have n0 : H p = none := (s1.trans s2).free np
      refine ⟨fun σ H4 => σ = [some (.ref a), none, some (.ref p)] ∧ Go ⟨p, L, D, ns, ms⟩ H3 H4, ?_, ?_⟩
      · have put : Go ⟨p, L, D, ns, ms⟩ H3 (upd H3 p (.lst (stL 0 0 0 1 0 L D))) := ⟨But.upd, st.put (Int.le_refl 0)⟩
        refine ⟨_, rfl, a, _, rfl, hS.imp s03.seq (sqT_same s03), rfl, _, rfl, ?_⟩
        refine ite2 (fun _ => ?_) (fun hne => ?_)
        · exact iteT ⟨_, rfl, p, _, 4, 4, rfl, rfl, hp, rfl, rfl, put⟩
        have hl0 : 0 < ns.length := by
          rcases Nat.eq_zero_or_pos ns.length with e | e
          · exact absurd (decide_eq_true (by rw [List.length_map, e]; rfl)) hne
          · exact e
        refine ⟨_, rfl, pick (hS.imp s03.seq (sqT_same s03)) 0 (x := .int ns[0]) (by rw [List.getElem?_map, List.getElem?_eq_getElem hl0]; rfl) _ (.inl ⟨_, rfl, _, _, rfl, rfl, (by show (2 : Int) ≠ 0; decide), rfl, _, rfl, ?_⟩)⟩
        refine ite2 (fun _ => ?_) (fun _ => ?_)
        · exact ⟨_, rfl, p, _, 4, 4, rfl, rfl, hp, rfl, rfl, put⟩
        · exact ⟨rfl, Go.refl st⟩
      · rintro σ H4 ⟨rfl, g4⟩
        refine ⟨_, rfl, ⟨p, L, D, ns, ms⟩, 2, rfl, by decide, by decide, g4.st, fun r H5 _ g5 => ⟨_, rfl, ?_⟩⟩
        exact k ⟨p, L, D, ns, ms⟩ H5 (fun b o hb => (g4.trans g5).but b o (s03 _ _ hb) (ne_of_none hb n0)) g5.st
end
end K14



set_option Elab.async false
set_option linter.all false
set_option maxRecDepth 100000
set_option maxHeartbeats 4000000
namespace K14
open PySem L2 Nd Bk Gd
/-! the same at both -/
theorem pick0 {K : PySem.W.Frag} {H : Hp} {a : Addr} {xs : List V} (hs : SqL K H a xs ∨ SqT K H a xs) (i : Nat) {x : V} (hx : xs[i]? = some x) (Q' : VK) (q : Q' x H) : rIx K (.ref a) (.int (0 + (i : Int))) H Q' := by
  rw [Int.zero_add]
  exact pick hs i hx Q' q
def Flt (v : V) : Prop := (∃ i, v = .int i) ∨ (∃ z, v = .str z) ∨ ∃ b, v = .bl b
def Sm (K : PySem.W.Frag) (H : Hp) : Nat → V → V → Prop
  | 0, x, y => x = y ∧ Flt y
  | n + 1, x, y => (x = y ∧ Flt y) ∨ ∃ a b xs ys, x = .ref a ∧ y = .ref b ∧ ((SqT K H a xs ∧ SqT K H b ys) ∨ (SqL K H a xs ∧ SqL K H b ys)) ∧ xs.length ≤ 1000000 ∧ Paired (Sm K H n) xs ys
theorem Sm.parts {K : PySem.W.Frag} {H : Hp} {n : Nat} {x y : V} (h : Sm K H n x y) : (x = y ∧ Flt y) ∨ ∃ m a b xs ys, n = m + 1 ∧ x = .ref a ∧ y = .ref b ∧ ((SqT K H a xs ∧ SqT K H b ys) ∨ (SqL K H a xs ∧ SqL K H b ys)) ∧ xs.length ≤ 1000000 ∧ Paired (Sm K H m) xs ys := by
  cases n with
  | zero => exact .inl h
  | succ m =>
    rcases h with h | ⟨a, b, xs, ys, h⟩
    · exact .inl h
    · exact .inr ⟨m, a, b, xs, ys, rfl, h⟩
def spLSm (K : PySem.W.Frag) (n : Nat) : Sp := fun vs H Q _ => ∃ x y : V, vs = [x, y] ∧ Sm K H n x y ∧ Q (.bl true) H
def spLSms (K : PySem.W.Frag) : Nat → Sp
  | 0 => fun _ _ _ _ => False
  | n + 1 => spLSm K n
section
variable {P : Program} {w : World} {K : PySem.W.Frag} {mg : Str → Option Value} {base : Heap}
abbrev lsmN : List Str := ["actual", "due", "k"]
theorem scLSm : FnScope lsmN ["actual", "due"] (defScope t__law_same) := ⟨rfl, rfl, rfl, by decide +kernel, rfl, by decide +kernel, by decide +kernel⟩
theorem ok_lsm {f : Addr} {fd : FuncData} (F : Fun K "_law_same" "_law_same" t__law_same f fd) (b : Binds K fd ["actual", "due"] []) (g : mg "_law_same" = some (.ref f)) (kp : PySem.W.keepIn K (.ref f) = true) (N : Nm mg) :
    ∀ n : Nat, FnOk P w K mg base CX0 n f fd ["actual", "due"] (spLSms K n) := by
  intro n
  induction n with
  | zero => exact ⟨fun _ _ _ _ h => False.elim h, fun _ _ _ _ _ _ _ _ _ _ _ _ _ h => False.elim h⟩
  | succ n ih =>
    refine F.ok scLSm (fun vs H Q E h => ?_) (fun cdv A outer s H vs Q E hr h => ?_)
    · obtain ⟨x, y, rfl, _⟩ := h
      rfl
    · obtain ⟨x, y, rfl, hs, k⟩ := h
      --BODYA
      refine ⟨_, pss_cons (ps_if (PW.pt (pw_or (pt_val (pe_callB (show CallR _ _ (rIsi K) from call_isi) (by rfl) N.isi (by decide +kernel) (pa_cons (pv 1) (pa_cons (pe_bltn (v := .ty "tuple") (by rfl) N.tup (by decide +kernel) rfl) pa_nil)))) (pw_or1 (pt_val (pe_callB (show CallR _ _ (rIsi K) from call_isi) (by rfl) N.isi (by decide +kernel) (pa_cons (pv 1) (pa_cons (pe_bltn (v := .ty "list") (by rfl) N.lst (by decide +kernel) rfl) pa_nil))))))) (pss_cons (ps_if (PW.pt (pw_or (pt_cmpR op_ne (pe_callB (show CallR _ _ (rIsi K) from call_isi) (by rfl) N.isi (by decide +kernel) (pa_cons (pv 1) (pa_cons (pe_bltn (v := .ty "tuple") (by rfl) N.tup (by decide +kernel) rfl) pa_nil))) (pe_callB (show CallR _ _ (rIsi K) from call_isi) (by rfl) N.isi (by decide +kernel) (pa_cons (pv 0) (pa_cons (pe_bltn (v := .ty "tuple") (by rfl) N.tup (by decide +kernel) rfl) pa_nil))) (nomark _)) (pw_or1 (pt_cmpR op_ne (pe_callB (show CallR _ _ (rIsi K) from call_isi) (by rfl) N.isi (by decide +kernel) (pa_cons (pv 1) (pa_cons (pe_bltn (v := .ty "list") (by rfl) N.lst (by decide +kernel) rfl) pa_nil))) (pe_callB (show CallR _ _ (rIsi K) from call_isi) (by rfl) N.isi (by decide +kernel) (pa_cons (pv 0) (pa_cons (pe_bltn (v := .ty "list") (by rfl) N.lst (by decide +kernel) rfl) pa_nil))) (nomark _))))) (pss_one (ps_ret pe_bl)) pss_nil)
      (pss_cons (ps_if (pt_cmpR op_ne (pe_callB (show CallR _ _ (rLenQ K) from call_len_seq) (by rfl) N.len PySem.boot_len (pa_cons (pv 0) pa_nil)) (pe_callB (show CallR _ _ (rLenQ K) from call_len_seq) (by rfl) N.len PySem.boot_len (pa_cons (pv 1) pa_nil)) (nomark _)) (pss_one (ps_ret pe_bl)) pss_nil)
      (pss_cons (ps_for PassesOwn.never rfl (pi_range1 rfl N.rng (pa_cons (pe_callB (show CallR _ _ (rLenQ K) from call_len_seq) (by rfl) N.len PySem.boot_len (pa_cons (pv 1) pa_nil)) pa_nil)) (pg_name (i := 2) scLSm.nd rfl (Or.inl rfl))
      (pss_one (ps_if (pt_not (pt_val (pe_call ih hr rfl g kp b .nil pass0 (pa_cons (pe_ix (show IxR _ (rIx K) from ix_seq) (pv 0) (pv 2) (fun _ _ => rfl)) (pa_cons (pe_ix (show IxR _ (rIx K) from ix_seq) (pv 1) (pv 2) (fun _ _ => rfl)) pa_nil))))) (pss_one (ps_ret pe_bl)) pss_nil)))
      (pss_one (ps_ret pe_bl))))) pss_nil)
      (pss_cons (ps_if (pt_cmpR op_isN (pv 1) pe_non (nomark _)) (pss_one (ps_ret (pe_cmpR op_isN (pv 0) pe_non (nomark _)))) pss_nil)
      (pss_cons (ps_if (pt_val (pe_callB (show CallR _ _ (rIsi K) from call_isi) (by rfl) N.isi (by decide +kernel) (pa_cons (pv 1) (pa_cons (pe_bltn (v := .ty "bool") (by rfl) N.bool (by decide +kernel) rfl) pa_nil)))) (pss_one (ps_ret (pe_and (pe_callB (show CallR _ _ (rIsi K) from call_isi) (by rfl) N.isi (by decide +kernel) (pa_cons (pv 0) (pa_cons (pe_bltn (v := .ty "bool") (by rfl) N.bool (by decide +kernel) rfl) pa_nil))) (pe_one (pe_cmpR op_eq (pv 0) (pv 1) (nomark _)))))) pss_nil)
      (pss_cons (ps_if (pt_val (pe_callB (show CallR _ _ (rIsi K) from call_isi) (by rfl) N.isi (by decide +kernel) (pa_cons (pv 1) (pa_cons (pe_bltn (v := .ty "int") (by rfl) N.int (by decide +kernel) rfl) pa_nil)))) (pss_one (ps_ret (pe_and (pe_callB (show CallR _ _ (rIsi K) from call_isi) (by rfl) N.isi (by decide +kernel) (pa_cons (pv 0) (pa_cons (pe_bltn (v := .ty "int") (by rfl) N.int (by decide +kernel) rfl) pa_nil))) (pe_and (pe_not (pe_callB (show CallR _ _ (rIsi K) from call_isi) (by rfl) N.isi (by decide +kernel) (pa_cons (pv 0) (pa_cons (pe_bltn (v := .ty "bool") (by rfl) N.bool (by decide +kernel) rfl) pa_nil)))) (pe_one (pe_cmpR op_eq (pv 0) (pv 1) (nomark _))))))) pss_nil)
      (pss_one (ps_ret (pe_and (pe_callB (show CallR _ _ (rIsi K) from call_isi) (by rfl) N.isi (by decide +kernel) (pa_cons (pv 0) (pa_cons (pe_bltn (v := .ty "str") (by rfl) N.str (by decide +kernel) rfl) pa_nil))) (pe_one (pe_cmpR op_eq (pv 0) (pv 1) (nomark _))))))))), ?_⟩
      --END
      rcases hs.parts with ⟨rfl, h⟩ | ⟨m, a, c, xs, ys, rfl, rfl, rfl, hsq, hl, hp⟩
      · rcases h with ⟨i, rfl⟩ | ⟨z, rfl⟩ | ⟨bb, rfl⟩
        · refine ⟨_, rfl, _, _, _, _, false, rfl, .ty _, .base (.int i), kit_ty (by decide +kernel), _, rfl, iteF ?_⟩
          refine ⟨_, rfl, _, _, _, _, false, rfl, .ty _, .base (.int i), kit_ty (by decide +kernel), _, rfl, iteF ?_⟩
          refine ⟨_, rfl, rfl, _, rfl, iteF ?_⟩
          refine ⟨_, rfl, _, _, _, _, false, rfl, .ty _, .base (.int i), kit_ty (by decide +kernel), _, rfl, iteF ?_⟩
          refine ⟨_, rfl, _, _, _, _, true, rfl, .ty _, .base (.int i), kit_ty (by decide +kernel), _, rfl, iteT ?_⟩
          refine ⟨_, rfl, _, _, _, _, true, rfl, .ty _, .base (.int i), kit_ty (by decide +kernel), _, rfl, iteT ?_⟩
          refine ⟨_, rfl, _, _, _, _, false, rfl, .ty _, .base (.int i), kit_ty (by decide +kernel), _, rfl, _, rfl, iteT ?_⟩
          refine ⟨_, rfl, _, rfl, rfl, ?_⟩
          rw [decide_eq_true rfl]
          exact k
        · refine ⟨_, rfl, _, _, _, _, false, rfl, .ty _, .base (.str z), kit_ty (by decide +kernel), _, rfl, iteF ?_⟩
          refine ⟨_, rfl, _, _, _, _, false, rfl, .ty _, .base (.str z), kit_ty (by decide +kernel), _, rfl, iteF ?_⟩
          refine ⟨_, rfl, rfl, _, rfl, iteF ?_⟩
          refine ⟨_, rfl, _, _, _, _, false, rfl, .ty _, .base (.str z), kit_ty (by decide +kernel), _, rfl, iteF ?_⟩
          refine ⟨_, rfl, _, _, _, _, false, rfl, .ty _, .base (.str z), kit_ty (by decide +kernel), _, rfl, iteF ?_⟩
          refine ⟨_, rfl, _, _, _, _, true, rfl, .ty _, .base (.str z), kit_ty (by decide +kernel), _, rfl, iteT ?_⟩
          refine ⟨_, rfl, _, rfl, rfl, ?_⟩
          rw [decide_eq_true rfl]
          exact k
        · refine ⟨_, rfl, _, _, _, _, false, rfl, .ty _, .base (.bl bb), kit_ty (by decide +kernel), _, rfl, iteF ?_⟩
          refine ⟨_, rfl, _, _, _, _, false, rfl, .ty _, .base (.bl bb), kit_ty (by decide +kernel), _, rfl, iteF ?_⟩
          refine ⟨_, rfl, rfl, _, rfl, iteF ?_⟩
          refine ⟨_, rfl, _, _, _, _, true, rfl, .ty _, .base (.bl bb), kit_ty (by decide +kernel), _, rfl, iteT ?_⟩
          refine ⟨_, rfl, _, _, _, _, true, rfl, .ty _, .base (.bl bb), kit_ty (by decide +kernel), _, rfl, iteT ?_⟩
          refine ⟨_, rfl, _, rfl, rfl, ?_⟩
          rw [decide_eq_true rfl]
          exact k
      have le : xs.length = ys.length := Paired.length hp
      have sx : SqL K H a xs ∨ SqT K H a xs := hsq.elim (fun q => .inr q.1) fun q => .inl q.1
      have sy : SqL K H c ys ∨ SqT K H c ys := hsq.elim (fun q => .inr q.2) fun q => .inl q.2
      rcases hsq with ⟨h1, h2⟩ | ⟨h1, h2⟩
      case' inl =>
        refine ⟨_, rfl, _, _, _, _, true, rfl, .ty _, tyX_T h2, kit_ty (by decide +kernel), _, rfl, iteT ?_⟩
        refine iteT ⟨_, rfl, _, _, _, _, true, rfl, .ty _, tyX_T h2, kit_ty (by decide +kernel), _, rfl, _, _, _, _, true, rfl, .ty _, tyX_T h1, kit_ty (by decide +kernel), rfl, _, rfl, iteF ?_⟩
        refine ⟨_, rfl, _, _, _, _, false, rfl, .ty _, tyX_T h2, kit_ty (by decide +kernel), _, rfl, _, _, _, _, false, rfl, .ty _, tyX_T h1, kit_ty (by decide +kernel), rfl, _, rfl, iteF ?_⟩
      case' inr =>
        refine ⟨_, rfl, _, _, _, _, false, rfl, .ty _, tyX_L h2, kit_ty (by decide +kernel), _, rfl, iteF ?_⟩
        refine ⟨_, rfl, _, _, _, _, true, rfl, .ty _, tyX_L h2, kit_ty (by decide +kernel), _, rfl, iteT ?_⟩
        refine ⟨_, rfl, _, _, _, _, false, rfl, .ty _, tyX_L h2, kit_ty (by decide +kernel), _, rfl, _, _, _, _, false, rfl, .ty _, tyX_L h1, kit_ty (by decide +kernel), rfl, _, rfl, iteF ?_⟩
        refine ⟨_, rfl, _, _, _, _, true, rfl, .ty _, tyX_L h2, kit_ty (by decide +kernel), _, rfl, _, _, _, _, true, rfl, .ty _, tyX_L h1, kit_ty (by decide +kernel), rfl, _, rfl, iteF ?_⟩
      all_goals
        refine ⟨_, rfl, a, xs, rfl, sx, _, rfl, c, ys, rfl, sy, rfl, _, rfl, ?_⟩
        rw [le, show (!decide (V.int (ys.length : Int) = V.int (ys.length : Int))) = false by simp]
        refine iteF ⟨_, rfl, c, ys, rfl, sy, _, rfl, (by omega), (by omega), ?_⟩
        refine for_range (n := ys.length) (fun i σ H2 => (∃ v, σ = [some (.ref a), some (.ref c), v]) ∧ H2 = H) ⟨⟨none, rfl⟩, rfl⟩ ?_ ?_
        · rintro i σ H2 hi ⟨⟨v, rfl⟩, rfl⟩
          obtain ⟨y, hy, hxy⟩ := paired_get hp (List.getElem?_eq_getElem (by rw [le]; exact hi))
          exact ⟨_, rfl, _, rfl, pick0 sx i (List.getElem?_eq_getElem (by rw [le]; exact hi)) _ ⟨_, rfl, _, rfl, pick0 sy i hy _ ⟨_, _, rfl, hxy, _, rfl, iteF ⟨⟨_, rfl⟩, rfl⟩⟩⟩⟩
        · rintro σ H2 ⟨_, rfl⟩
          exact k
end
end K14



set_option Elab.async false
set_option linter.all false
set_option maxRecDepth 100000
set_option maxHeartbeats 4000000
namespace K14
open PySem L2 Nd Bk Gd
/-! a value, in part of lists -/
/-- a tree of tuples; of some it is told that they lie in the heap -/
inductive Tre
  | leaf (v : V)
  | node (pl : Bool) (ts : List Tre)
def TIn (K : PySem.W.Frag) (H : Hp) : Nat → V → Tre → Prop
  | 0, v, t => t = .leaf v ∧ Flt v
  | n + 1, v, t => (t = .leaf v ∧ Flt v) ∨ ∃ a xs pl ts, v = .ref a ∧ t = .node pl ts ∧ SqT K H a xs ∧ (pl = true → H a = some (.tup xs)) ∧ xs.length ≤ 1000 ∧ Paired (TIn K H n) xs ts
/-- the same tree, some of its tuples as lists, none of these at av -/
def TOut (K : PySem.W.Frag) (H : Hp) (av : List Addr) : Nat → V → Tre → Prop
  | 0, v, t => t = .leaf v ∧ Flt v
  | n + 1, v, t => (t = .leaf v ∧ Flt v) ∨ ∃ b ys pl ts, v = .ref b ∧ t = .node pl ts ∧ ((H b = some (.lst ys) ∧ b ∉ av) ∨ (SqT K H b ys ∧ (pl = true → H b = some (.tup ys)))) ∧ Paired (TOut K H av n) ys ts
section
variable {K : PySem.W.Frag} {H H' : Hp} {av av' : List Addr}
theorem TIn.kt (k : KeepT H H') : ∀ {n : Nat} {v : V} {t : Tre}, TIn K H n v t → TIn K H' n v t
  | 0, _, _, h => h
  | n + 1, v, t, h => h.imp id fun ⟨a, xs, pl, ts, e, e2, h1, hp, h2, h3⟩ => ⟨a, xs, pl, ts, e, e2, sqT_kt k h1, fun q => k.1 _ _ (hp q), h2, Paired.mapP h3 fun _ _ q => TIn.kt k q⟩
theorem TIn.out : ∀ {n : Nat} {v : V} {t : Tre}, TIn K H n v t → TOut K H av n v t
  | 0, _, _, h => h
  | n + 1, v, t, h => h.imp id fun ⟨a, xs, pl, ts, e, e2, h1, hp, h2, h3⟩ => ⟨a, xs, pl, ts, e, e2, .inr ⟨h1, hp⟩, Paired.mapP h3 fun _ _ q => TIn.out q⟩
theorem TOut.move (k : KeepT H H') (kl : ∀ a xs, H a = some (.lst xs) → a ∉ av → H' a = some (.lst xs) ∧ a ∉ av') : ∀ {n : Nat} {v : V} {t : Tre}, TOut K H av n v t → TOut K H' av' n v t
  | 0, _, _, h => h
  | n + 1, v, t, h => h.imp id fun ⟨b, ys, pl, ts, e1, e2, h2, h3⟩ => ⟨b, ys, pl, ts, e1, e2, h2.imp (fun q => kl b ys q.1 q.2) (fun q => ⟨sqT_kt k q.1, fun z => k.1 _ _ (q.2 z)⟩), Paired.mapP h3 fun _ _ q => TOut.move k kl q⟩
theorem TOut.same (s : Same H H') {n : Nat} {v : V} {t : Tre} (h : TOut K H av n v t) : TOut K H' av n v t := h.move (.same s) fun a xs h1 h2 => ⟨s _ _ h1, h2⟩
theorem TOut.but {b : Addr} {n : Nat} {v : V} {t : Tre} (m : b ∈ av) (nt : NotT (H b)) (s : But b H H') (h : TOut K H av n v t) : TOut K H' av n v t := h.move (.but nt s) fun a xs h1 h2 => ⟨s _ _ h1 fun e => h2 (by rw [e]; exact m), h2⟩
theorem TOut.less {n : Nat} {v : V} {t : Tre} (m : ∀ x ∈ av', x ∈ av) (h : TOut K H av n v t) : TOut K H av' n v t := h.move (.same sm_refl) fun a xs h1 h2 => ⟨h1, fun q => h2 (m a q)⟩
theorem TIn.parts {n : Nat} {v : V} {t : Tre} (h : TIn K H n v t) : (t = .leaf v ∧ Flt v) ∨ ∃ m a xs pl ts, n = m + 1 ∧ v = .ref a ∧ t = .node pl ts ∧ SqT K H a xs ∧ (pl = true → H a = some (.tup xs)) ∧ xs.length ≤ 1000 ∧ Paired (TIn K H m) xs ts := by
  cases n with
  | zero => exact .inl h
  | succ m =>
    rcases h with h | ⟨a, xs, pl, ts, h⟩
    · exact .inl h
    · exact .inr ⟨m, a, xs, pl, ts, rfl, h⟩
end
def spLLi (K : PySem.W.Frag) (n : Nat) : Sp := fun vs H Q _ => ∃ (S : Sta) (v : V) (t : Tre) (av : List Addr), vs = [.ref S.p, v] ∧ StAt H S ∧ TIn K H n v t ∧ S.p ∈ av ∧ (∀ x ∈ av, H x ≠ none) ∧ ∀ (v' : V) (H' : Hp), Go S H H' → TOut K H' av n v' t → Q v' H'
def spLLis (K : PySem.W.Frag) : Nat → Sp
  | 0 => fun _ _ _ _ => False
  | n + 1 => spLLi K n
section
variable {P : Program} {w : World} {K : PySem.W.Frag} {mg : Str → Option Value} {base : Heap}
abbrev lliN2 : List Str := ["state", "value", "part", "parts"]
theorem scLLi2 : FnScope lliN2 ["state", "value"] (defScope t__law_lists) := ⟨rfl, rfl, rfl, by decide +kernel, rfl, by decide +kernel, by decide +kernel⟩
theorem ok_llists {f : Addr} {fd : FuncData} (F : Fun K "_law_lists" "_law_lists" t__law_lists f fd) (b : Binds K fd ["state", "value"] []) (g : mg "_law_lists" = some (.ref f)) (kp : PySem.W.keepIn K (.ref f) = true) (N : Nm mg) (Gd : Df P w K mg base 2 "_law_draw" ["state", "limit"] spLDr) :
    ∀ n : Nat, FnOk P w K mg base CX0 (n + 2) f fd ["state", "value"] (spLLis K n) := by
  obtain ⟨fD, fdD, gD, kD, bD, GD⟩ := Gd.ok
  intro n
  induction n with
  | zero => exact ⟨fun _ _ _ _ h => False.elim h, fun _ _ _ _ _ _ _ _ _ _ _ _ _ h => False.elim h⟩
  | succ n ih =>
    refine F.ok scLLi2 (fun vs H Q E h => ?_) (fun cdv A outer s H vs Q E hr h => ?_)
    · obtain ⟨S, v, t, av, rfl, _⟩ := h
      rfl
    · obtain ⟨S, v, t, av, rfl, hP, ht, hav, hall, k⟩ := h
      have hr2 : Room 2 _ := hr.mono (by omega)
      --BODYA
      refine ⟨_, pss_cons (ps_if (PW.pt (pw_or (pt_not (pt_val (pe_callB (show CallR _ _ (rIsi K) from call_isi) (by rfl) N.isi (by decide +kernel) (pa_cons (pv 1) (pa_cons (pe_bltn (v := .ty "tuple") (by rfl) N.tup (by decide +kernel) rfl) pa_nil))))) (pw_or1 (pt_cmpR op_eq (pe_call GD hr2 rfl gD kD bD .nil pass0 (pa_cons (pv 0) (pa_cons pe_int pa_nil))) pe_int (nomark _))))) (pss_one (ps_ret (pv 1))) pss_nil)
      (pss_cons (ps_setLc (i := 3) (own := [("part", 2)]) (g := gName 2) (tt := tYes) rfl scLLi2.nd rfl rfl (sw_true rfl rfl rfl (by decide +kernel)) (pi_tup (pv 1)) (blkOk_by (N := lliN2) (sc := defScope t__law_lists) (by decide +kernel))
          (fun _ _ _ _ _ => (pg_name (i := 2) scLLi2.nd rfl (Or.inl rfl))) (fun _ _ _ _ _ => pts_nil) (fun _ _ _ _ _ => (pe_call ih hr rfl g kp b .nil pass0 (pa_cons (pv 0) (pa_cons (pv 2) pa_nil)))))
      (pss_one (ps_ret (pe_ix (show IxR _ (rIx K) from ix_seq) (pe_lst (pa_cons (pv 3) (pa_cons (pe_callTy (show CallR _ _ (rTupO K) from call_tuple_of) (by rfl) N.tup (by rfl) (pa_cons (pv 3) pa_nil)) pa_nil))) (pe_call GD hr2 rfl gD kD bD .nil pass0 (pa_cons (pv 0) (pa_cons pe_int pa_nil))) (fun _ _ => rfl))))), ?_⟩
      --END
      rcases ht.parts with ⟨te, hfl⟩ | ⟨m, a, xs, pl, ts, rfl, rfl, rfl, hxs, hpl, hl, hx⟩
      · have q := k v H (Go.refl hP) ht.out
        rcases hfl with ⟨i, rfl⟩ | ⟨z, rfl⟩ | ⟨bb, rfl⟩
        · exact ⟨_, rfl, _, _, _, _, false, rfl, .ty _, .base (.int i), kit_ty (by decide +kernel), false, rfl, iteT (iteT ⟨_, rfl, q⟩)⟩
        · exact ⟨_, rfl, _, _, _, _, false, rfl, .ty _, .base (.str z), kit_ty (by decide +kernel), false, rfl, iteT (iteT ⟨_, rfl, q⟩)⟩
        · exact ⟨_, rfl, _, _, _, _, false, rfl, .ty _, .base (.bl bb), kit_ty (by decide +kernel), false, rfl, iteT (iteT ⟨_, rfl, q⟩)⟩
      refine ⟨_, rfl, _, _, _, _, true, rfl, .ty _, tyX_T hxs, kit_ty (by decide +kernel), true, rfl, iteF ?_⟩
      refine ⟨_, rfl, S, 3, rfl, by decide, by decide, hP, fun r H1 _ g1 => ⟨rfl, _, rfl, ?_⟩⟩
      refine ite2 (fun _ => ⟨_, rfl, k _ H1 g1 (ht.kt (Go.kt hP g1)).out⟩) (fun _ => ?_)
      have k1 : KeepT H H1 := Go.kt hP g1
      have hxs1 := sqT_kt k1 hxs
      have hx1 : Paired (TIn K H1 m) xs ts := Paired.mapP hx fun _ _ q => q.kt k1
      have lt : xs.length = ts.length := Paired.length hx
      have hall1 : ∀ x ∈ av, H1 x ≠ none := fun x hx z => hall x hx (g1.free z)
      refine ⟨_, rfl, a, rfl, ⟨_, hxs1⟩, fun D nD => ?_⟩
      have Dp := g1.st.off nD
      have Dav : D ∉ av := fun q => hall1 D q nD
      refine lc_tup (K := K) (a := a) (xs := xs) (fun i H2 => Go S H1 H2 ∧ ∃ ys, H2 D = some (.lst ys) ∧ Paired (TOut K H2 (D :: av) m) ys (ts.take i)) ⟨Go.mine g1.st (Go.refl g1.st) nD, [], upd_same, .nil⟩
        (fun i H2 _ ⟨g2, _⟩ => sqT_kt (Go.kt g1.st g2) hxs1) ?_ ?_
      · rintro i x H2 hi ⟨g2, ys, hD, hys⟩
        have ly : ys.length ≤ 1000 := by
          have := Paired.length hys
          rw [List.length_take] at this
          omega
        obtain ⟨ti, hti, hxi⟩ := paired_get hx1 hi
        refine ⟨rfl, _, rfl, _, rfl, S, x, ti, D :: av, rfl, g2.st, hxi.kt (Go.kt g1.st g2), List.mem_cons_of_mem _ hav, fun y hy => ?_, fun v' H3 g3 hv' => ?_⟩
        · rcases List.mem_cons.mp hy with q | q
          · rw [q, hD]
            exact fun z => nomatch z
          · exact fun z => hall1 y q (g2.free z)
        · have hD3 : H3 D = some (.lst ys) := g3.but D _ hD Dp
          have hys3 : Paired (TOut K H3 (D :: av) m) ys (ts.take i) := Paired.mapP hys fun _ _ q => q.but (List.mem_cons_of_mem _ hav) g2.st.notT g3.but
          have nt3 : NotT (H3 D) := by rw [hD3]; exact notT_lst
          refine ⟨ys, hD3, small1000 ly, Go.mine g1.st (g2.trans g3) nD, ys ++ [v'], upd_same, ?_⟩
          rw [List.take_succ, hti]
          exact Paired.mapP (Paired.snoc hys3 hv') fun _ _ q => q.but List.mem_cons_self nt3 But.upd
      · rintro H2 ⟨g2, ys, hD, hys⟩
        rw [lt, List.take_length] at hys
        have hysA : Paired (TOut K H2 av m) ys ts := Paired.mapP hys fun _ _ q => q.less fun x hx => List.mem_cons_of_mem _ hx
        refine ⟨_, rfl, _, rfl, D, ys, rfl, .inl ⟨SqL.of hD, fun T nT => ?_⟩⟩
        have sT : Same H2 (upd H2 T (.tup ys)) := sm_new sm_refl nT
        have hT : upd H2 T (.tup ys) T = some (.tup ys) := upd_same
        have g3 := g2.same sT
        generalize upd H2 T (.tup ys) = H3 at sT hT g3 ⊢
        refine ⟨(by show 2 ≤ sizeLine; decide), fun L nL => ?_⟩
        refine ⟨_, rfl, S, 2, rfl, by decide, by decide, g3.st.same (sm_new sm_refl nL), fun r H5 hr5 g5 => ?_⟩
        obtain ⟨hL5, g35⟩ := disp (K := K) g3.st nL g5
        have k35 := Go.kt g3.st g35
        have gAll := g1.trans (g3.trans g35)
        have all5 : Paired (TOut K H5 av m) ys ts := Paired.mapP hysA fun _ _ q => (q.same sT).but hav g3.st.notT g35.but
        match r, hr5 with
        | 0, _ => exact pick hL5 0 rfl _ (k _ _ gAll (.inr ⟨D, ys, pl, ts, rfl, rfl, .inl ⟨g35.but D _ (sT _ _ hD) Dp, Dav⟩, all5⟩))
        | 1, _ => exact pick hL5 1 rfl _ (k _ _ gAll (.inr ⟨T, ys, pl, ts, rfl, rfl, .inr ⟨SqT.of (k35.1 _ _ hT), fun _ => k35.1 _ _ hT⟩, all5⟩))
        | n + 2, h => omega
end
end K14



set_option Elab.async false
set_option linter.all false
set_option maxRecDepth 100000
set_option maxHeartbeats 4000000
namespace K14
open PySem L2 Nd Bk Gd
/-! a cell as it is drawn -/
def spLCe (K : PySem.W.Frag) : Sp := fun vs H Q _ => ∃ S : Sta, vs = [.ref S.p] ∧ StAt H S ∧ ∀ (k : Key) (H' : Hp), cellV (kV k) = true → Go S H H' → Q (kV k) H'
def OneS (_ : Hp) (y : V) (c : Nat) : Prop := y = .str (stA [c]) ∧ (c = 97 ∨ c = 98)
theorem OneS.stay : Stay OneS := ⟨fun _ h => h⟩
theorem ones_eq {H : Hp} : ∀ {ys : List V} {cs : List Nat}, Paired (OneS H) ys cs → ys = (cs.map fun c => stA [c]).map V.str ∧ ∀ c ∈ cs, c = 97 ∨ c = 98
  | _, _, .nil => ⟨rfl, fun _ h => nomatch h⟩
  | _, _, .cons ⟨e, h⟩ t => by
    obtain ⟨e2, h2⟩ := ones_eq t
    refine ⟨by rw [e, e2]; rfl, fun c hc => ?_⟩
    rcases List.mem_cons.mp hc with q | q
    · rw [q]; exact h
    · exact h2 c q
theorem word_cell {cs : List Nat} (h0 : 1 ≤ cs.length) (h8 : cs.length ≤ 8) (h : ∀ c ∈ cs, c = 97 ∨ c = 98) : cellV (kV (.inr (stA cs))) = true := by
  show (lettersB (stA cs) && decide ((stA cs).length ≤ 8)) = true
  rw [lettersB_eq]
  have l : (stA cs).length = cs.length := by
    show (cs.toArray).size = _
    simp
  have ne : stA cs ≠ ("" : Str) := fun e => by
    have := congrArg Str.length e
    rw [l] at this
    have z : Str.length ("" : Str) = 0 := rfl
    omega
  rw [l, decide_eq_true ne, decide_eq_true h8, Bool.and_true, Bool.true_and]
  refine List.all_eq_true.mpr fun c hc => ?_
  have hc : c ∈ cs := by simpa [stA] using hc
  rcases h c hc with rfl | rfl <;> rfl
section
variable {P : Program} {w : World} {K : PySem.W.Frag} {mg : Str → Option Value} {base : Heap}
abbrev lceN : List Str := ["state", "few", "k", "word", "far"]
theorem scLCe : FnScope lceN ["state"] (defScope t__law_cell) := ⟨rfl, rfl, rfl, by decide +kernel, rfl, by decide +kernel, by decide +kernel⟩
theorem ok_lceD {f : Addr} {fd : FuncData} (F : Fun K "_law_cell" "_law_cell" t__law_cell f fd) (N : Nm mg) (Gd : Df P w K mg base 2 "_law_draw" ["state", "limit"] spLDr) : FnOk P w K mg base CX0 3 f fd ["state"] (spLCe K) := by
  obtain ⟨fD, fdD, gD, kD, bD, GD⟩ := Gd.ok
  refine F.ok scLCe (fun vs H Q E h => ?_) (fun cdv A outer s H vs Q E hr h => ?_)
  · obtain ⟨S, rfl, _⟩ := h
    rfl
  · obtain ⟨S, rfl, hP, k⟩ := h
    have hr2 : Room 2 _ := hr.mono (by decide)
    --BODYA
    refine ⟨_, pss_cons (ps_set (i := 1) scLCe.nd rfl (Or.inl rfl) (pe_ix (show IxR _ (rIx K) from ix_seq) (pe_lst (pa_cons pe_int (pa_cons pe_int (pa_cons pe_str pa_nil)))) (pe_call GD hr2 rfl gD kD bD .nil pass0 (pa_cons (pv 0) (pa_cons pe_int pa_nil))) (fun _ _ => rfl)))
      (pss_cons (ps_set (i := 3) scLCe.nd rfl (Or.inl rfl) (pe_bm PySem.F.plainAttrs_str PySem.F.slot_str_join PySem.F.type_str_join mt_join pe_str (pa_cons (pe_lc (own := [("k", 2)]) (g := gName 2) (tt := tYes) rfl scLCe.nd (pi_range1 rfl N.rng (pa_cons (pe_op op_add pe_int (pe_call GD hr2 rfl gD kD bD .nil pass0 (pa_cons (pv 0) (pa_cons pe_int pa_nil)))) pa_nil)) (blkOk_by (N := lceN) (sc := defScope t__law_cell) (by decide +kernel))
          (fun _ _ _ _ _ => (pg_name (i := 2) scLCe.nd rfl (Or.inl rfl))) (fun _ _ _ _ _ => pts_nil) (fun _ _ _ _ _ => (pe_ix (show IxR _ (rIx K) from ix_seq) pe_str (pe_call GD hr2 rfl gD kD bD .nil pass0 (pa_cons (pv 0) (pa_cons pe_int pa_nil))) (fun _ _ => rfl)))) pa_nil)))
      (pss_cons (ps_set (i := 4) scLCe.nd rfl (Or.inl rfl) (pe_ix (show IxR _ (rIx K) from ix_seq) (pe_lst (pa_cons pe_int (pa_cons (pe_un un_neg pe_int) (pa_cons pe_int (pa_cons (pe_un un_neg pe_int) (pa_cons (pe_op op_sub (pe_call GD hr2 rfl gD kD bD .nil pass0 (pa_cons (pv 0) (pa_cons pe_int pa_nil))) pe_int) (pa_cons (pv 3) (pa_cons (pe_un un_neg pe_int) pa_nil)))))))) (pe_call GD hr2 rfl gD kD bD .nil pass0 (pa_cons (pv 0) (pa_cons pe_int pa_nil))) (fun _ _ => rfl)))
      (pss_one (ps_ret (pe_ix (show IxR _ (rIx K) from ix_seq) (pe_lst (pa_cons (pv 1) (pa_cons (pv 1) (pa_cons (pv 1) (pa_cons (pv 4) pa_nil))))) (pe_call GD hr2 rfl gD kD bD .nil pass0 (pa_cons (pv 0) (pa_cons pe_int pa_nil))) (fun _ _ => rfl)))))), ?_⟩
    --END
    have cel : ∀ k : Key, cellV (kV k) = true → ∃ k', kV k = kV k' ∧ cellV (kV k') = true := fun k h => ⟨k, rfl, h⟩
    refine ⟨by show 3 ≤ sizeLine; decide, fun q nq => ⟨_, rfl, S, 3, rfl, by decide, by decide, hP.same (sm_new sm_refl nq), fun r H1 hr1 g => ?_⟩⟩
    obtain ⟨hq1, g1⟩ := disp (K := K) hP nq g
    obtain ⟨x, hx, kf, rfl, cf⟩ := at_mem (xs := [.int 0, .int 1, .str (Str.ofString "a")]) (n := 3) (T := fun x => ∃ k, x = kV k ∧ cellV (kV k) = true) rfl hr1 (fun x hx => by
      simp only [List.mem_cons, List.not_mem_nil, or_false] at hx
      rcases hx with rfl | rfl | rfl
      · exact ⟨.inl 0, rfl, rfl⟩
      · exact ⟨.inl 1, rfl, rfl⟩
      · exact ⟨.inr (Str.ofString "a"), rfl, by decide +kernel⟩)
    refine pick hq1 r hx _ ?_
    clear hx hq1
    refine ⟨rfl, _, rfl, S, 8, rfl, by decide, by decide, g1.st, fun r2 H2 hr2 g2 => ⟨_, _, rfl, rfl, ?_⟩⟩
    refine ⟨_, rfl, by omega, by omega, fun D nD => ?_⟩
    have g02 := g1.trans g2
    refine lc_range (n := ((1 : Int) + (r2 : Nat)).toNat) (fun j H3 => ∃ cs : List Nat, cs.length = j ∧ AccG OneS S H2 D cs H3) ⟨[], rfl, accG_zero g2.st nD⟩ ?_ ?_
    · rintro j H3 hj ⟨cs, lc, ac⟩
      refine ⟨rfl, _, rfl, S, 2, rfl, by decide, by decide, ac.go.st, fun r3 H4 hr3 g3 => ?_⟩
      have st := fun (c : Nat) (hc : c = 97 ∨ c = 98) => accG_step OneS.stay ac nD g2.st (by omega) g3 (x := c) (y := .str (stA [c])) ⟨rfl, hc⟩
      match r3, hr3 with
      | 0, _ =>
        obtain ⟨acc, h1, h2, h3⟩ := st 97 (.inl rfl)
        exact .inr (.inr ⟨_, _, 97, rfl, rfl, by decide +kernel, by decide +kernel, acc, h1, h2, cs ++ [97], by rw [List.length_append, lc]; rfl, h3⟩)
      | 1, _ =>
        obtain ⟨acc, h1, h2, h3⟩ := st 98 (.inr rfl)
        exact .inr (.inr ⟨_, _, 98, rfl, rfl, by decide +kernel, by decide +kernel, acc, h1, h2, cs ++ [98], by rw [List.length_append, lc]; rfl, h3⟩)
      | n + 2, h => omega
    · rintro H3 ⟨cs, lc, g3, ys, hD, hys⟩
      obtain ⟨rfl, hcs⟩ := ones_eq hys
      have wc := word_cell (cs := cs) (by omega) (by omega) hcs
      have ej : Txt.join (Str.ofString "") (cs.map fun c => stA [c]) = stA cs := by
        have := join_nil (cs.map fun c => [c])
        rw [List.map_map] at this
        rw [show (cs.map fun c => stA [c]) = cs.map (stA ∘ fun c => [c]) from rfl, this]
        congr 1
        clear this wc hcs hys hD lc
        induction cs with
        | nil => rfl
        | cons c cs ih => rw [List.map_cons, List.flatten_cons, ih]; rfl
      refine ⟨_, D, _, rfl, rfl, .inl (SqL.of hD), ?_, ?_⟩
      · rw [List.map_map, List.length_map]
        have : (cs.map ((fun x => x.length) ∘ fun c => stA [c])).sum = cs.length := by
          clear wc hcs hys hD lc ej
          induction cs with
          | nil => rfl
          | cons c cs ih => rw [List.map_cons, List.sum_cons, ih, List.length_cons]; show 1 + _ = _; omega
        rw [this]
        show cs.length + cs.length * 0 ≤ _
        omega
      rw [ej]
      have g03 := g02.trans g3
      refine ⟨_, rfl, _, rfl, _, rfl, S, 19999, rfl, by decide, by decide, g03.st, fun r5 H5 hr5 g5 => ⟨_, _, rfl, rfl, _, rfl, _, rfl, by show 7 ≤ sizeLine; decide, fun q2 nq2 => ⟨_, rfl, S, 7, rfl, by decide, by decide, g5.st.same (sm_new sm_refl nq2), fun r6 H6 hr6 g6 => ?_⟩⟩⟩
      obtain ⟨hq2, g56⟩ := disp (K := K) g5.st nq2 g6
      obtain ⟨x2, hx2, kr, rfl, cr⟩ := at_mem (xs := [.int 9999, .int (-9999), .int 5000, .int (-5000), .int ((r5 : Int) - 9999), .str (stA cs), .int (-1)]) (n := 7) (T := fun x => ∃ k, x = kV k ∧ cellV (kV k) = true) rfl hr6 (fun x hx => by
        simp only [List.mem_cons, List.not_mem_nil, or_false] at hx
        rcases hx with rfl | rfl | rfl | rfl | rfl | rfl | rfl
        · exact ⟨.inl 9999, rfl, rfl⟩
        · exact ⟨.inl (-9999), rfl, rfl⟩
        · exact ⟨.inl 5000, rfl, rfl⟩
        · exact ⟨.inl (-5000), rfl, rfl⟩
        · refine ⟨.inl ((r5 : Int) - 9999), rfl, ?_⟩
          show (decide (-9999 ≤ (r5 : Int) - 9999) && decide ((r5 : Int) - 9999 ≤ 9999)) = true
          rw [decide_eq_true (by omega), decide_eq_true (by omega)]
          rfl
        · exact ⟨.inr (stA cs), rfl, wc⟩
        · exact ⟨.inl (-1), rfl, rfl⟩)
      refine pick hq2 r6 hx2 _ ?_
      have g06 := g03.trans (g5.trans g56)
      refine ⟨_, rfl, _, rfl, _, rfl, _, rfl, by show 4 ≤ sizeLine; decide, fun q3 nq3 => ⟨_, rfl, S, 4, rfl, by decide, by decide, g06.st.same (sm_new sm_refl nq3), fun r7 H7 hr7 g7 => ?_⟩⟩
      obtain ⟨hq3, g67⟩ := disp (K := K) g06.st nq3 g7
      obtain ⟨x3, hx3, kz, rfl, cz⟩ := at_mem (xs := [kV kf, kV kf, kV kf, kV kr]) (n := 4) (T := fun x => ∃ k, x = kV k ∧ cellV (kV k) = true) rfl hr7 (fun x hx => by
        simp only [List.mem_cons, List.not_mem_nil, or_false] at hx
        rcases hx with rfl | rfl | rfl | rfl
        · exact ⟨_, rfl, cf⟩
        · exact ⟨_, rfl, cf⟩
        · exact ⟨_, rfl, cf⟩
        · exact ⟨_, rfl, cr⟩)
      exact pick hq3 r7 hx3 _ (k kz H7 cz (g06.trans g67))
end
end K14



set_option Elab.async false
set_option linter.all false
set_option maxRecDepth 100000
set_option maxHeartbeats 4000000
namespace K14
open PySem L2 Nd Bk Gd
/-! tables as they are drawn -/
theorem LTab.kt {K : PySem.W.Frag} {H H' : Hp} {T : Addr} {M : Tbl} (k : KeepT H H') (h : LTab K H T M) : LTab K H' T M := let ⟨ys, h1, h2⟩ := h; ⟨ys, sqT_kt k h1, Paired.mapP h2 fun _ _ q => q.kt k⟩
theorem LTrip.stay {K : PySem.W.Frag} : Stay (LTrip K) := ⟨fun k ⟨b, T, e, h1, h2⟩ => ⟨b, T, e, sqT_kt k h1, h2.kt k⟩⟩
section
variable {P : Program} {w : World} {K : PySem.W.Frag} {mg : Str → Option Value} {base : Heap}
end
end K14



set_option Elab.async false
set_option linter.all false
set_option maxRecDepth 100000
set_option maxHeartbeats 4000000
namespace K14
open PySem L2 Nd Bk Gd
/-! programs as they are drawn -/
def spLSd (K : PySem.W.Frag) : Sp := fun vs H Q _ => ∃ (St : Sta) (n : Nat), vs = [.ref St.p, .int (n : Nat)] ∧ 0 < n ∧ n ≤ 1000 ∧ StAt H St ∧ ∀ (v : V) (sd : Side) (H' : Hp), Go St H H' → Dp K H' v (sideD sd) → sideOk n sd = true → Q v H'
theorem dp_cell {K : PySem.W.Frag} {H : Hp} (k : Key) : Dp K H (kV k) (cellD k) := by
  cases k with
  | inl i => exact .int i
  | inr z => exact .str z
/-- all is kept but the state and the count of nodes -/
structure Go2 (S : Sta) (q : Addr) (H H' : Hp) : Prop where
  but : ∀ a o, H a = some o → a ≠ S.p → a ≠ q → H' a = some o
  st : StAt H' S
  left : ∃ m : Int, H' q = some (.lst [.int m])
section
variable {S : Sta} {q : Addr} {H H1 H2 : Hp}
theorem Go2.trans (x : Go2 S q H H1) (y : Go2 S q H1 H2) : Go2 S q H H2 := ⟨fun a o h n1 n2 => y.but a o (x.but a o h n1 n2) n1 n2, y.st, y.left⟩
theorem Go2.go (x : Go2 S q H H1) (ne : q ≠ S.p) (y : Go S H1 H2) : Go2 S q H H2 := ⟨fun a o h n1 n2 => y.but a o (x.but a o h n1 n2) n1, y.st, let ⟨m, h⟩ := x.left; ⟨m, y.but q _ h ne⟩⟩
theorem Go2.kt (st : StAt H S) {m : Int} (hq : H q = some (.lst [.int m])) (x : Go2 S q H H1) : KeepT H H1 := by
  obtain ⟨d1, d2, d3, d4, d5, _, hp⟩ := st.lst
  exact ⟨fun a xs h => x.but a _ h (fun e => by rw [e, hp] at h; cases h) (fun e => by rw [e, hq] at h; cases h), fun a o xs h => x.but a _ h (fun e => by rw [e, hp] at h; cases h) (fun e => by rw [e, hq] at h; cases h)⟩
end
theorem if_join {t : TT} {ts : TS} {D : Ends} {σ : St} {H : Hp} (B : Bool → Hp → Prop) (h : ∀ Q : Bool → Hp → Prop, (∀ b H1, B b H1 → Q b H1) → t σ H Q) (n1 : ∀ H1, B true H1 → ts D σ H1) (n2 : ∀ H1, B false H1 → D.nx σ H1) : tIfS t ts tNext D σ H := h _ fun b H1 q => by
  cases b with
  | true => exact iteT (n1 H1 q)
  | false => exact iteF (n2 H1 q)
theorem wof_of {ls : List Trip} {l : Trip} (hnd : (ls.map (·.1)).Nodup) (h : l ∈ ls) : wof (wsL ls) l.1 = some l.2.1 := by
  unfold wof wsL
  induction ls with
  | nil => exact nomatch h
  | cons x ls ih =>
    rw [List.map_cons, List.nodup_cons] at hnd
    rw [List.map_cons, List.find?_cons]
    rcases List.mem_cons.mp h with rfl | h
    · rw [show decide ((l.1, l.2.1).1 = l.1) = true from decide_eq_true rfl]
      rfl
    · have ne : x.1 ≠ l.1 := fun e => hnd.1 (by rw [e]; exact List.mem_map.mpr ⟨l, h, rfl⟩)
      rw [show decide ((x.1, x.2.1).1 = l.1) = false from decide_eq_false ne]
      exact ih hnd.2 h
theorem set_if_join {i : Nat} {v : V} {t : TT} {ts : TS} {D : Ends} {r : VK} {b c : St → Hp → Prop} {σ : St} {H : Hp} (B : Bool → Hp → Prop) (h : ∀ Q : Bool → Hp → Prop, (∀ b H1, B b H1 → Q b H1) → t (σ.set i (some v)) H Q) (n1 : ∀ H1, B true H1 → ts D (σ.set i (some v)) H1) (n2 : ∀ H1, B false H1 → D.nx (σ.set i (some v)) H1) : gName i v σ H (Ends.nx { nx := tIfS t ts tNext D, rt := r, bk := b, ct := c }) := if_join B h n1 n2
theorem sgn_at : ∀ i : Nat, i < 3 → ∃ c : Nat, atI (Str.ofString "=<!").cps.toList (i : Int) = some c ∧ (⟨#[c]⟩ : Str) ∈ signs
  | 0, _ => ⟨61, by decide +kernel, by decide +kernel⟩
  | 1, _ => ⟨60, by decide +kernel, by decide +kernel⟩
  | 2, _ => ⟨33, by decide +kernel, by decide +kernel⟩
  | _ + 3, h => absurd h (by omega)
theorem tu_cell (k : Key) : tupOnly (cellD k) = true := by cases k <;> rfl
theorem tu_side (s : Side) : tupOnly (sideD s) = true := by
  cases s with
  | col i => rfl
  | val k =>
    show tupOnly (.tuple [sT "val", cellD k]) = true
    simp [tupOnly, tupOnlyAll, tu_cell, sT]
theorem tu_prog : ∀ p : Prog, tupOnly (progD p) = true
  | .take n => rfl
  | .keep p l g r => by
    have := tu_prog p
    simp [progD, cmpD, tupOnly, tupOnlyAll, tu_side, sT, this]
  | .pick p cs => by
    have := tu_prog p
    have e : tupOnlyAll (cs.map fun c => PyData.int (c : Nat)) = true := by
      induction cs with
      | nil => rfl
      | cons c cs ih => simp only [List.map_cons, tupOnlyAll, ih, tupOnly, Bool.and_true]
    simp [progD, colsD, tupOnly, tupOnlyAll, sT, this]
    exact e
  | .make p k i j => by
    have := tu_prog p
    simp [progD, mkgD, tupOnly, tupOnlyAll, sT, this]
  | .both p q => by
    have h1 := tu_prog p
    have h2 := tu_prog q
    simp [progD, tupOnly, tupOnlyAll, sT, h1, h2]
  | .join p q ps => by
    have h1 := tu_prog p
    have h2 := tu_prog q
    have e : tupOnlyAll (ps.map fun p => PyData.tuple [.int (p.1 : Nat), .int (p.2 : Nat)]) = true := by
      induction ps with
      | nil => rfl
      | cons c cs ih => simp only [List.map_cons, tupOnlyAll, ih, tupOnly, Bool.and_true]
    simp [progD, prsD, tupOnly, tupOnlyAll, sT, h1, h2]
    exact e
def IntV (_ : Hp) (y : V) (k : Nat) : Prop := y = .int (k : Int)
theorem IntV.stay : Stay IntV := ⟨fun _ h => h⟩
theorem ints_eq {H : Hp} : ∀ {ys : List V} {cs : List Nat}, Paired (IntV H) ys cs → ys = cs.map fun c => V.int (c : Nat)
  | _, _, .nil => rfl
  | _, _, .cons e t => by rw [ints_eq t, show _ = _ from e]; rfl
theorem next_if_join {t : TT} {ts : TS} {D : Ends} {r : VK} {b c : L2.St → Hp → Prop} {σ : L2.St} {H : Hp} (B : Bool → Hp → Prop) (h : ∀ Q : Bool → Hp → Prop, (∀ b H1, B b H1 → Q b H1) → t σ H Q) (n1 : ∀ H1, B true H1 → ts D σ H1) (n2 : ∀ H1, B false H1 → D.nx σ H1) : tNext { nx := tIfS t ts tNext D, rt := r, bk := b, ct := c } σ H := if_join B h n1 n2
theorem ints_dp {K : PySem.W.Frag} {H : Hp} (cs : List Nat) : DpAll K H (cs.map fun c => V.int (c : Nat)) (cs.map fun c => PyData.int (c : Nat)) := by
  induction cs with
  | nil => exact .nil
  | cons c cs ih => exact .cons (.int _) ih
def PrV (K : PySem.W.Frag) (H : Hp) (y : V) (c : Nat × Nat) : Prop := ∃ U, y = .ref U ∧ SqT K H U [.int (c.1 : Nat), .int (c.2 : Nat)]
theorem PrV.stay {K : PySem.W.Frag} : Stay (PrV K) := ⟨fun k ⟨U, e, h⟩ => ⟨U, e, sqT_kt k h⟩⟩
theorem prs_dp {K : PySem.W.Frag} {H : Hp} : ∀ {ys : List V} {ps : List (Nat × Nat)}, Paired (PrV K H) ys ps → DpAll K H ys (ps.map fun p => PyData.tuple [.int (p.1 : Nat), .int (p.2 : Nat)])
  | _, _, .nil => .nil
  | _, _, .cons ⟨U, e, h⟩ t => by
    subst e
    exact .cons (.tup h (.cons (.int _) (.cons (.int _) .nil))) (prs_dp t)
def kinds6 : List Str := ["take", "keep", "pick", "make", "join", "both"].map Str.ofString
/-- how many nodes may come yet -/
def yet (m : Int) : Nat := (m - 1).toNat
def spLPg (K : PySem.W.Frag) (n : Nat) : Sp := fun vs H Q _ => ∃ (St : Sta) (T kd q : Addr) (xs : List V) (ls : List Trip) (ks : List Str) (m : Int), vs = [.ref St.p, .ref T, .ref kd, .ref q] ∧ StAt H St ∧ SqT K H T xs ∧ Paired (LTrip K H) xs ls ∧ 1 ≤ ls.length ∧ ls.length ≤ 3 ∧ (ls.map (·.1)).Nodup ∧ (∀ l ∈ ls, 1 ≤ l.2.1 ∧ l.2.1 ≤ 6) ∧
  H kd = some (.lst (ks.map V.str)) ∧ kd ≠ St.p ∧ kd ≠ q ∧ 1 ≤ ks.length ∧ ks.length ≤ 1000 ∧ (∀ z ∈ ks, z ∈ kinds6) ∧ H q = some (.lst [.int m]) ∧ q ≠ St.p ∧ q ≠ St.c ∧ q ≠ St.m ∧ 1 ≤ n ∧ m ≤ n ∧
  ∀ (U : Addr) (v : V) (p : Prog) (wd : Nat) (m' : Int) (H' : Hp), Go2 St q H H' → H' U = some (.tup [v, .int (wd : Int)]) → Dp K H' v (progD p) → fewJ p → H' q = some (.lst [.int m']) → m' < m → nodesP p + 3 * yet m' ≤ 3 * yet m + 1 → widP (wof (wsL ls)) p = some wd → 1 ≤ wd → wd ≤ 6 → Q (.ref U) H'
section
variable {P : Program} {w : World} {K : PySem.W.Frag} {mg : Str → Option Value} {base : Heap}
theorem scLSd : FnScope ["state", "width"] ["state", "width"] (defScope t__law_side) := ⟨rfl, rfl, rfl, by decide +kernel, rfl, by decide +kernel, by decide +kernel⟩
theorem ok_lside {f : Addr} {fd : FuncData} (F : Fun K "_law_side" "_law_side" t__law_side f fd) (N : Nm mg) (Gd : Df P w K mg base 2 "_law_draw" ["state", "limit"] spLDr) (Gc : Df P w K mg base 3 "_law_cell" ["state"] (spLCe K)) : FnOk P w K mg base CX0 4 f fd ["state", "width"] (spLSd K) := by
  obtain ⟨fD, fdD, gD, kD, bD', GD⟩ := Gd.ok
  obtain ⟨fC, fdC, gC, kC, bC, GC⟩ := Gc.ok
  refine F.ok scLSd (fun vs H Q E h => ?_) (fun cdv A outer s H vs Q E hr h => ?_)
  · obtain ⟨St, n, rfl, _⟩ := h
    rfl
  · obtain ⟨St, n, rfl, n0, n1, hP, k⟩ := h
    have hr2 : Room 2 _ := hr.mono (by decide)
    have hr3 : Room 3 _ := hr.mono (by decide)
    --BODYA
    refine ⟨_, pss_cons (ps_if (pt_cmpR op_gt (pe_call GD hr2 rfl gD kD bD' .nil pass0 (pa_cons (pv 0) (pa_cons pe_int pa_nil))) pe_int (nomark _)) (pss_one (ps_ret (pe_tup (pa_cons pe_str (pa_cons (pe_call GD hr2 rfl gD kD bD' .nil pass0 (pa_cons (pv 0) (pa_cons (pv 1) pa_nil))) pa_nil))))) pss_nil)
      (pss_one (ps_ret (pe_tup (pa_cons pe_str (pa_cons (pe_call GC hr3 rfl gC kC bC .nil pass0 (pa_cons (pv 0) pa_nil)) pa_nil))))), ?_⟩
    --END
    refine ⟨_, rfl, St, 3, rfl, by decide, by decide, hP, fun r0 H1 _ g1 => ⟨_, _, rfl, rfl, _, rfl, ?_⟩⟩
    refine ite2 (fun _ => ?_) (fun _ => ?_)
    · refine ⟨_, rfl, _, rfl, St, n, rfl, n0, by omega, g1.st, fun r H2 hr' g2 => ⟨by show 2 ≤ sizeLine; decide, fun U nU => ?_⟩⟩
      exact k (.ref U) (.col r) _ (g1.trans (g2.same (sm_new sm_refl nU))) (.tup (SqT.of upd_same) (.cons (.str _) (.cons (.int _) .nil))) (decide_eq_true hr')
    · refine ⟨_, rfl, St, rfl, g1.st, fun kk H2 ck g2 => ⟨by show 2 ≤ sizeLine; decide, fun U nU => ?_⟩⟩
      exact k (.ref U) (.val kk) _ (g1.trans (g2.same (sm_new sm_refl nU))) (.tup (SqT.of upd_same) (.cons (.str _) (.cons (dp_cell kk) .nil))) ck
abbrev lpgN : List Str := ["state", "tables", "kinds", "left", "kind", "name", "width", "table", "part", "sign", "word", "other", "wide", "pairs", "k", "many"]
theorem scLPg : FnScope lpgN ["state", "tables", "kinds", "left"] (defScope t__law_program) := ⟨rfl, rfl, rfl, by decide +kernel, rfl, by decide +kernel, by decide +kernel⟩
theorem ok_lprog {f : Addr} {fd : FuncData} (F : Fun K "_law_program" "_law_program" t__law_program f fd) (b : Binds K fd ["state", "tables", "kinds", "left"] []) (g : mg "_law_program" = some (.ref f)) (kpp : PySem.W.keepIn K (.ref f) = true) (N : Nm mg) (Gd : Df P w K mg base 2 "_law_draw" ["state", "limit"] spLDr) (Gs : Df P w K mg base 4 "_law_side" ["state", "width"] (spLSd K)) :
    ∀ n : Nat, FnOk P w K mg base CX0 (n + 4) f fd ["state", "tables", "kinds", "left"] (spLPg K n) := by
  obtain ⟨fD, fdD, gD, kD, bD', GD⟩ := Gd.ok
  obtain ⟨fS, fdS, gS, kS, bS, GS⟩ := Gs.ok
  intro n
  induction n with
  | zero =>
    have no : ∀ {vs H Q E}, spLPg K 0 vs H Q E → False := fun h => by
      obtain ⟨St, T, kd, q, xs, ls, ks, m, _, _, _, _, _, _, _, _, _, _, _, _, _, _, _, _, _, _, h1, _⟩ := h
      omega
    exact ⟨fun _ _ _ _ h => (no h).elim, fun _ _ _ _ _ _ _ _ _ _ _ _ _ h => (no h).elim⟩
  | succ n ih =>
    refine F.ok scLPg (fun vs H Q E h => ?_) (fun cdv A outer s H vs Q E hr h => ?_)
    · obtain ⟨St, T, kd, q, xs, ls, ks, m, rfl, _⟩ := h
      rfl
    · obtain ⟨St, T, kd, q, xs, ls, ks, m, rfl, hP, hT, hx, l1, l3, hnd, hwd, hkd, kp1, kq, k1, k1000, hks, hq, qp, qc, qm, n1, mn, out⟩ := h
      have hr2 : Room 2 _ := hr.mono (by omega)
      have hr4 : Room 4 _ := hr.mono (by omega)
      --BODYB
      refine ⟨_, pss_cons (ps_asg (pe_op op_sub (pe_ix (show IxR _ (rIx K) from ix_seq) (pv 3) pe_int (fun _ _ => rfl)) pe_int) (pg_sub (pv 3) pe_int set_list))
      (pss_cons (ps_set (i := 4) scLPg.nd rfl (Or.inl rfl) (pe_ix (show IxR _ (rIx K) from ix_seq) (pv 2) (pe_call GD hr2 rfl gD kD bD' .nil pass0 (pa_cons (pv 0) (pa_cons (pe_callB (show CallR _ _ (rLenQ K) from call_len_seq) (by rfl) N.len PySem.boot_len (pa_cons (pv 2) pa_nil)) pa_nil))) (fun _ _ => rfl)))
      (pss_cons (ps_if (PW.pt (pw_or (pt_cmpR op_lt (pe_ix (show IxR _ (rIx K) from ix_seq) (pv 3) pe_int (fun _ _ => rfl)) pe_int (nomark _)) (pw_or (pt_cmpR op_eq (pv 4) pe_str (nomark _)) (pw_or1 (pt_cmpR op_eq (pe_call GD hr2 rfl gD kD bD' .nil pass0 (pa_cons (pv 0) (pa_cons pe_int pa_nil))) pe_int (nomark _)))))) (pss_cons (ps_asg (pe_ix (show IxR _ (rIx K) from ix_seq) (pv 1) (pe_call GD hr2 rfl gD kD bD' .nil pass0 (pa_cons (pv 0) (pa_cons (pe_callB (show CallR _ _ (rLenQ K) from call_len_seq) (by rfl) N.len PySem.boot_len (pa_cons (pv 1) pa_nil)) pa_nil))) (fun _ _ => rfl)) (pg_seq rfl (pgs_cons (pg_name (i := 5) scLPg.nd rfl (Or.inl rfl)) (pgs_cons (pg_name (i := 6) scLPg.nd rfl (Or.inr rfl)) (pgs_cons (pg_name (i := 7) scLPg.nd rfl (Or.inl rfl)) pgs_nil)))))
      (pss_one (ps_ret (pe_tup (pa_cons (pe_tup (pa_cons pe_str (pa_cons (pv 5) pa_nil))) (pa_cons (pv 6) pa_nil)))))) pss_nil)
      (pss_cons (ps_asg (pe_call ih hr rfl g kpp b .nil pass0 (pa_cons (pv 0) (pa_cons (pv 1) (pa_cons (pv 2) (pa_cons (pv 3) pa_nil))))) (pg_seq rfl (pgs_cons (pg_name (i := 8) scLPg.nd rfl (Or.inl rfl)) (pgs_cons (pg_name (i := 6) scLPg.nd rfl (Or.inr rfl)) pgs_nil))))
      (pss_cons (ps_if (pt_cmpR op_eq (pv 4) pe_str (nomark _)) (pss_cons (ps_set (i := 9) scLPg.nd rfl (Or.inl rfl) (pe_ix (show IxR _ (rIx K) from ix_seq) pe_str (pe_call GD hr2 rfl gD kD bD' .nil pass0 (pa_cons (pv 0) (pa_cons pe_int pa_nil))) (fun _ _ => rfl)))
      (pss_one (ps_ret (pe_tup (pa_cons (pe_tup (pa_cons pe_str (pa_cons (pv 8) (pa_cons (pe_tup (pa_cons (pe_call GS hr4 rfl gS kS bS .nil pass0 (pa_cons (pv 0) (pa_cons (pv 6) pa_nil))) (pa_cons (pv 9) (pa_cons (pe_call GS hr4 rfl gS kS bS .nil pass0 (pa_cons (pv 0) (pa_cons (pv 6) pa_nil))) pa_nil)))) pa_nil)))) (pa_cons (pv 6) pa_nil)))))) pss_nil)
      (pss_cons (ps_if (PW.pt (pw_and (pt_cmpR op_eq (pv 4) pe_str (nomark _)) (pw_and1 (pt_cmpR op_lt (pv 6) pe_int (nomark _))))) (pss_cons (ps_set (i := 10) scLPg.nd rfl (Or.inl rfl) (pe_ix (show IxR _ (rIx K) from ix_seq) (pe_lst (pa_cons pe_str (pa_cons pe_str (pa_cons pe_str (pa_cons pe_str pa_nil))))) (pe_call GD hr2 rfl gD kD bD' .nil pass0 (pa_cons (pv 0) (pa_cons pe_int pa_nil))) (fun _ _ => rfl)))
      (pss_one (ps_ret (pe_tup (pa_cons (pe_tup (pa_cons pe_str (pa_cons (pv 8) (pa_cons (pe_tup (pa_cons (pv 10) (pa_cons (pe_call GD hr2 rfl gD kD bD' .nil pass0 (pa_cons (pv 0) (pa_cons (pv 6) pa_nil))) (pa_cons (pe_call GD hr2 rfl gD kD bD' .nil pass0 (pa_cons (pv 0) (pa_cons (pv 6) pa_nil))) pa_nil)))) pa_nil)))) (pa_cons (pe_op op_add (pv 6) pe_int) pa_nil)))))) pss_nil)
      (C8.pss_cut (ps_if (PW.pt (pw_or (pt_cmpR op_eq (pv 4) pe_str (nomark _)) (pw_or1 (pt_cmpR op_eq (pv 4) pe_str (nomark _))))) (pss_cons (ps_asg (pe_call ih hr rfl g kpp b .nil pass0 (pa_cons (pv 0) (pa_cons (pv 1) (pa_cons (pv 2) (pa_cons (pv 3) pa_nil))))) (pg_seq rfl (pgs_cons (pg_name (i := 11) scLPg.nd rfl (Or.inl rfl)) (pgs_cons (pg_name (i := 12) scLPg.nd rfl (Or.inr rfl)) pgs_nil))))
      (pss_cons (ps_if (PW.pt (pw_and (pt_cmpR op_eq (pv 4) pe_str (nomark _)) (pw_and1 (pt_cmpR op_lt (pe_op op_add (pv 6) (pv 12)) pe_int (nomark _))))) (pss_cons (ps_set (i := 13) scLPg.nd rfl (Or.inl rfl) (pe_lst pa_nil))
      (pss_cons (ps_for PassesOwn.never rfl (pi_range1 rfl N.rng (pa_cons (pe_call GD hr2 rfl gD kD bD' .nil pass0 (pa_cons (pv 0) (pa_cons pe_int pa_nil))) pa_nil)) (pg_name (i := 14) scLPg.nd rfl (Or.inl rfl))
      (pss_one (ps_expr (pe_bm PySem.F.plainAttrs_list PySem.F.slot_list_append PySem.F.type_list_append mt_append (pv 13) (pa_cons (pe_tup (pa_cons (pe_call GD hr2 rfl gD kD bD' .nil pass0 (pa_cons (pv 0) (pa_cons (pv 6) pa_nil))) (pa_cons (pe_call GD hr2 rfl gD kD bD' .nil pass0 (pa_cons (pv 0) (pa_cons (pv 12) pa_nil))) pa_nil))) pa_nil)))))
      (pss_one (ps_ret (pe_tup (pa_cons (pe_tup (pa_cons pe_str (pa_cons (pv 8) (pa_cons (pv 11) (pa_cons (pe_callTy (show CallR _ _ (rTupO K) from call_tuple_of) (by rfl) N.tup (by rfl) (pa_cons (pv 13) pa_nil)) pa_nil))))) (pa_cons (pe_op op_add (pv 6) (pv 12)) pa_nil))))))) pss_nil)
      (C8.pss_cut (ps_if (PW.pt (pw_and (pt_cmpR op_eq (pv 4) pe_str (nomark _)) (pw_and1 (pt_cmpR op_ne (pv 12) (pv 6) (nomark _))))) (pss_one (ps_set (i := 11) scLPg.nd rfl (Or.inl rfl) (pe_tup (pa_cons pe_str (pa_cons (pv 11) (pa_cons (pe_callTy (show CallR _ _ (rTupO K) from call_tuple_of) (by rfl) N.tup (by rfl) (pa_cons (pe_lc (own := [("k", 14)]) (g := gName 14) (tt := tYes) rfl scLPg.nd (pi_range1 rfl N.rng (pa_cons (pv 6) pa_nil)) (blkOk_by (N := lpgN) (sc := defScope t__law_program) (by decide +kernel))
          (fun _ _ _ _ _ => (pg_name (i := 14) scLPg.nd rfl (Or.inl rfl))) (fun _ _ _ _ _ => pts_nil) (fun _ _ _ _ _ => (pe_call GD hr2 rfl gD kD bD' .nil pass0 (pa_cons (pv 0) (pa_cons (pv 12) pa_nil))))) pa_nil)) pa_nil)))))) pss_nil)
      (pss_one (ps_if (pt_cmpR op_eq (pv 4) pe_str (nomark _)) (pss_one (ps_ret (pe_tup (pa_cons (pe_tup (pa_cons pe_str (pa_cons (pv 8) (pa_cons (pv 11) pa_nil)))) (pa_cons (pv 6) pa_nil))))) pss_nil))))) pss_nil)
      (pss_cons (ps_set (i := 15) scLPg.nd rfl (Or.inl rfl) (pe_ix (show IxR _ (rIx K) from ix_seq) (pe_lst (pa_cons (pe_op op_add pe_int (pe_call GD hr2 rfl gD kD bD' .nil pass0 (pa_cons (pv 0) (pa_cons pe_int pa_nil)))) (pa_cons (pe_op op_add pe_int (pe_call GD hr2 rfl gD kD bD' .nil pass0 (pa_cons (pv 0) (pa_cons pe_int pa_nil)))) (pa_cons pe_int pa_nil)))) (pe_call GD hr2 rfl gD kD bD' .nil pass0 (pa_cons (pv 0) (pa_cons pe_int pa_nil))) (fun _ _ => rfl)))
      (pss_one (ps_ret (pe_tup (pa_cons (pe_tup (pa_cons pe_str (pa_cons (pv 8) (pa_cons (pe_callTy (show CallR _ _ (rTupO K) from call_tuple_of) (by rfl) N.tup (by rfl) (pa_cons (pe_lc (own := [("k", 14)]) (g := gName 14) (tt := tYes) rfl scLPg.nd (pi_range1 rfl N.rng (pa_cons (pv 15) pa_nil)) (blkOk_by (N := lpgN) (sc := defScope t__law_program) (by decide +kernel))
          (fun _ _ _ _ _ => (pg_name (i := 14) scLPg.nd rfl (Or.inl rfl))) (fun _ _ _ _ _ => pts_nil) (fun _ _ _ _ _ => (pe_call GD hr2 rfl gD kD bD' .nil pass0 (pa_cons (pv 0) (pa_cons (pv 6) pa_nil))))) pa_nil)) pa_nil)))) (pa_cons (pv 15) pa_nil)))))))))))), ?_⟩
      --END
      refine ⟨_, rfl, pick (.inl (SqL.of hq)) 0 rfl _ ⟨_, _, rfl, rfl, _, rfl, q, _, 0, 0, rfl, rfl, hq, rfl, ?_⟩⟩
      have g1 : Go2 St q H (upd H q (.lst [.int (m - 1)])) := ⟨fun a o h _ n2 => by rw [upd_ne n2]; exact h, hP.mine (Ne.symm qp) (Ne.symm qc) (Ne.symm qm), _, upd_same⟩
      have hq1 : upd H q (.lst [.int (m - 1)]) q = some (.lst [.int (m - 1)]) := upd_same
      show tSeq _ _ _ _ (upd H q (.lst [.int (m - 1)]))
      generalize upd H q (.lst [.int (m - 1)]) = H1 at g1 hq1 ⊢
      have hkd1 := g1.but _ _ hkd kp1 kq
      refine ⟨_, rfl, _, rfl, _, rfl, kd, _, rfl, .inl (SqL.of hkd1), St, ks.length, by rw [List.length_map]; rfl, by omega, by omega, g1.st, fun r H2 hr' g2 => ?_⟩
      have hkd2 := g2.but _ _ hkd1 kp1
      have hq2 := g2.but _ _ hq1 qp
      have g02 := g1.go qp g2
      refine pick (.inl (SqL.of hkd2)) r (x := .str ks[r]) (by rw [List.getElem?_map, List.getElem?_eq_getElem hr']; rfl) _ ?_
      have hz := hks _ (List.getElem_mem hr')
      generalize ks[r] = z at hz ⊢
      refine set_if_join (fun bb H3 => Go2 St q H H3 ∧ H3 q = some (.lst [.int (m - 1)]) ∧ (bb = false → 1 ≤ m - 1 ∧ z ≠ Str.ofString "take")) (fun Qb hb => ?_) (fun H3 ⟨g3, hq3, _⟩ => ?_) (fun H3 ⟨g3, hq3, hne⟩ => ?_)
      · refine ⟨_, rfl, pick (.inl (SqL.of hq2)) 0 rfl _ ⟨_, _, rfl, rfl, _, rfl, ?_⟩⟩
        refine ite2 (fun _ => hb true H2 ⟨g02, hq2, fun e => nomatch e⟩) (fun hm => ?_)
        have hm1 : 1 ≤ m - 1 := by
          have : ¬ (m - 1 < 1) := fun e => hm (decide_eq_true e)
          omega
        refine ⟨_, rfl, rfl, _, rfl, ?_⟩
        refine ite2 (fun _ => hb true H2 ⟨g02, hq2, fun e => nomatch e⟩) (fun ht => ?_)
        have hzt : z ≠ Str.ofString "take" := fun e => ht (decide_eq_true (by rw [e]))
        refine ⟨_, rfl, St, 7, rfl, by decide, by decide, g02.st, fun r2 H3 _ g3 => ⟨rfl, _, rfl, ?_⟩⟩
        exact hb _ H3 ⟨g02.go qp g3, g3.but _ _ hq2 qp, fun _ => ⟨hm1, hzt⟩⟩
      · have hT3 := sqT_kt (g3.kt hP hq) hT
        have lx : xs.length = ls.length := Paired.length hx
        refine ⟨_, rfl, _, rfl, _, rfl, T, xs, rfl, .inr hT3, St, xs.length, rfl, by omega, by omega, g3.st, fun r2 H4 hr2' g4 => ?_⟩
        have g04 := g3.go qp g4
        have kt4 := g04.kt hP hq
        obtain ⟨l, hl, b0, T2, e0, hb0, hT2⟩ := paired_get hx (List.getElem?_eq_getElem hr2')
        refine pick (.inr (sqT_kt kt4 hT)) r2 (List.getElem?_eq_getElem hr2') _ ?_
        rw [e0]
        refine ⟨b0, _, rfl, .inr (sqT_kt kt4 hb0), rfl, _, _, rfl, _, _, rfl, _, _, rfl, rfl, ?_⟩
        refine ⟨_, rfl, by show 2 ≤ sizeLine; decide, fun A nA => ⟨_, rfl, by show 2 ≤ sizeLine; decide, fun U nU => ?_⟩⟩
        have sA : Same H4 (upd H4 A (.tup [.str (Str.ofString "take"), .str l.1])) := sm_new sm_refl nA
        have sU : Same (upd H4 A (.tup [.str (Str.ofString "take"), .str l.1])) (upd (upd H4 A (.tup [.str (Str.ofString "take"), .str l.1])) U (.tup [.ref A, .int (l.2.1 : Nat)])) := sm_new sm_refl nU
        have hlm := List.mem_of_getElem? hl
        exact out U (.ref A) (.take l.1) l.2.1 (m - 1) _ (g04.go qp (Go.new g04.st (sA.trans sU))) upd_same (.tup (SqT.of (sU _ _ upd_same)) (.cons (.str _) (.cons (.str _) .nil))) trivial ((sA.trans sU) _ _ (g4.but _ _ hq3 qp)) (by omega) (by show 1 + _ ≤ _; unfold yet; omega) (wof_of hnd hlm) (hwd l hlm).1 (hwd l hlm).2
      · obtain ⟨hm1, hzt⟩ := hne rfl
        have kt3 := g3.kt hP hq
        have bT : ∀ {H4 : Hp}, Go2 St q H H4 → SqT K H4 T xs := fun g4 => sqT_kt (g4.kt hP hq) hT
        have bX : ∀ {H4 : Hp}, Go2 St q H H4 → Paired (LTrip K H4) xs ls := fun g4 => Paired.mapP hx fun _ _ z => LTrip.stay.kt (g4.kt hP hq) z
        have bK : ∀ {H4 : Hp}, Go2 St q H H4 → H4 kd = some (.lst (ks.map V.str)) := fun g4 => g4.but _ _ hkd kp1 kq
        refine ⟨_, rfl, _, rfl, _, rfl, _, rfl, St, T, kd, q, xs, ls, ks, m - 1, rfl, g3.st, bT g3, bX g3, l1, l3, hnd, hwd, bK g3, kp1, kq, k1, k1000, hks, hq3, qp, qc, qm, by omega, by omega, fun U v p wd m2 H4 g4 hU dv fj hq4 hm2 nod hw w1 w6 => ?_⟩
        have g04 := g3.trans g4
        have nod1 : nodesP p + 1 + 3 * yet m2 ≤ 3 * yet m - 1 := by
          have : yet m = yet (m - 1) + 1 := by unfold yet; omega
          omega
        have ym : 1 ≤ yet m := by unfold yet; omega
        refine ⟨U, _, rfl, .inr (SqT.of hU), rfl, _, _, rfl, _, _, rfl, rfl, ?_⟩
        refine ⟨_, rfl, rfl, _, rfl, ?_⟩
        refine ite2 (fun _ => ?_) (fun hzk => ?_)
        · refine ⟨_, rfl, St, 3, rfl, by decide, by decide, g04.st, fun r5 H5 hr5 g5 => ?_⟩
          obtain ⟨c, hc, hsg⟩ := sgn_at r5 hr5
          refine .inr (.inr ⟨_, _, c, rfl, rfl, by decide +kernel, hc, ?_⟩)
          generalize (⟨#[c]⟩ : Str) = sg at hsg ⊢
          refine ⟨_, rfl, _, rfl, _, rfl, St, wd, rfl, by omega, by omega, g5.st, fun v1 sd1 H6 g6 d1 o1 => ⟨_, rfl, _, rfl, _, rfl, St, wd, rfl, by omega, by omega, g6.st, fun v2 sd2 H7 g7 d2 o2 => ⟨by show 3 ≤ sizeLine; decide, fun A nA => ⟨by show 3 ≤ sizeLine; decide, fun B nB => ⟨_, rfl, by show 2 ≤ sizeLine; decide, fun U2 nU2 => ?_⟩⟩⟩⟩⟩
          have sA : Same H7 (upd H7 A (.tup [v1, .str sg, v2])) := sm_new sm_refl nA
          have hA : upd H7 A (.tup [v1, .str sg, v2]) A = some (.tup [v1, .str sg, v2]) := upd_same
          generalize upd H7 A (.tup [v1, .str sg, v2]) = H8 at sA hA nB nU2 ⊢
          have sB : Same H8 (upd H8 B (.tup [.str (Str.ofString "keep"), v, .ref A])) := sm_new sm_refl nB
          have hB : upd H8 B (.tup [.str (Str.ofString "keep"), v, .ref A]) B = some (.tup [.str (Str.ofString "keep"), v, .ref A]) := upd_same
          generalize upd H8 B (.tup [.str (Str.ofString "keep"), v, .ref A]) = H9 at sB hB nU2 ⊢
          have sU : Same H9 (upd H9 U2 (.tup [.ref B, .int (wd : Int)])) := sm_new sm_refl nU2
          have gE : Go St H4 (upd H9 U2 (.tup [.ref B, .int (wd : Int)])) := ((g5.trans g6).trans g7).same ((sA.trans sB).trans sU)
          have sE := (sA.trans sB).trans sU
          have dv1 := dp_same sE (dp_kt0 (Go.kt g6.st g7) d1 (tu_side sd1))
          have dvE := dp_kt0 (Go.kt g04.st gE) dv (tu_prog p)
          refine out U2 (.ref B) (.keep p sd1 sg sd2) wd m2 _ (g04.go qp gE) upd_same (.tup (SqT.of (sU _ _ hB)) (.cons (.str _) (.cons dvE (.cons (.tup (SqT.of ((sB.trans sU) _ _ hA)) (.cons dv1 (.cons (.str sg) (.cons (dp_same sE d2) .nil)))) .nil)))) fj (gE.but _ _ hq4 qp) (by omega) (by show nodesP p + 1 + _ ≤ _; omega) ?_ w1 w6
          simp only [widP]
          rw [hw]
          exact if_pos ⟨o1, hsg, o2⟩
        refine next_if_join (fun bb H5 => H5 = H4 ∧ (bb = true → wd < 6)) (fun Qb hb => ?_) (fun H5 ⟨e5, hlt⟩ => ?_) (fun H5 ⟨e5, _⟩ => ?_)
        · refine ⟨_, rfl, rfl, _, rfl, ?_⟩
          refine ite2 (fun _ => ?_) (fun _ => hb false H4 ⟨rfl, fun e => nomatch e⟩)
          refine ⟨_, rfl, _, _, rfl, rfl, _, rfl, hb _ H4 ⟨rfl, fun e => ?_⟩⟩
          have : (wd : Int) < 6 := of_decide_eq_true e
          omega
        · subst e5
          have wd6 := hlt rfl
          refine ⟨by show 4 ≤ sizeLine; decide, fun q2 nq2 => ⟨_, rfl, St, 4, rfl, by decide, by decide, g04.st.same (sm_new sm_refl nq2), fun r5 H6 hr5 g5 => ?_⟩⟩
          obtain ⟨hq5, g45⟩ := disp (K := K) g04.st nq2 g5
          obtain ⟨x, hx5, wo, rfl, hwo⟩ := at_mem (xs := [.str (Str.ofString "sum"), .str (Str.ofString "less"), .str (Str.ofString "least"), .str (Str.ofString "most")]) (n := 4) (T := fun x => ∃ y, x = .str y ∧ y ∈ makes_) rfl hr5 (fun x hx => by
            simp only [List.mem_cons, List.not_mem_nil, or_false] at hx
            rcases hx with rfl | rfl | rfl | rfl
            · exact ⟨_, rfl, by decide +kernel⟩
            · exact ⟨_, rfl, by decide +kernel⟩
            · exact ⟨_, rfl, by decide +kernel⟩
            · exact ⟨_, rfl, by decide +kernel⟩)
          refine pick hq5 r5 hx5 _ ?_
          refine ⟨_, rfl, _, rfl, _, rfl, _, rfl, St, wd, rfl, by omega, by omega, g45.st, fun r6 H7 hr6 g6 => ⟨_, rfl, _, rfl, St, wd, rfl, by omega, by omega, g6.st, fun r7 H8 hr7 g7 => ⟨by show 3 ≤ sizeLine; decide, fun A nA => ⟨by show 3 ≤ sizeLine; decide, fun B nB => ⟨_, rfl, _, _, rfl, rfl, by show 2 ≤ sizeLine; decide, fun U2 nU2 => ?_⟩⟩⟩⟩⟩
          have sA : Same H8 (upd H8 A (.tup [.str wo, .int (r6 : Int), .int (r7 : Int)])) := sm_new sm_refl nA
          have hA : upd H8 A (.tup [.str wo, .int (r6 : Int), .int (r7 : Int)]) A = some (.tup [.str wo, .int (r6 : Int), .int (r7 : Int)]) := upd_same
          generalize upd H8 A (.tup [.str wo, .int (r6 : Int), .int (r7 : Int)]) = H9 at sA hA nB nU2 ⊢
          have sB : Same H9 (upd H9 B (.tup [.str (Str.ofString "make"), v, .ref A])) := sm_new sm_refl nB
          have hB : upd H9 B (.tup [.str (Str.ofString "make"), v, .ref A]) B = some (.tup [.str (Str.ofString "make"), v, .ref A]) := upd_same
          generalize upd H9 B (.tup [.str (Str.ofString "make"), v, .ref A]) = H10 at sB hB nU2 ⊢
          have sU : Same H10 (upd H10 U2 (.tup [.ref B, .int ((wd : Int) + 1)])) := sm_new sm_refl nU2
          have gE : Go St H5 (upd H10 U2 (.tup [.ref B, .int ((wd : Int) + 1)])) := ((g45.trans g6).trans g7).same ((sA.trans sB).trans sU)
          have dvE := dp_kt0 (Go.kt g04.st gE) dv (tu_prog p)
          refine out U2 (.ref B) (.make p wo r6 r7) (wd + 1) m2 _ (g04.go qp gE) upd_same (.tup (SqT.of (sU _ _ hB)) (.cons (.str _) (.cons dvE (.cons (.tup (SqT.of ((sB.trans sU) _ _ hA)) (.cons (.str wo) (.cons (.int _) (.cons (.int _) .nil)))) .nil)))) fj (gE.but _ _ hq4 qp) (by omega) (by show nodesP p + 1 + _ ≤ _; omega) ?_ (by omega) (by omega)
          simp only [widP]
          rw [hw]
          exact if_pos ⟨hwo, hr6, hr7, wd6⟩
        · subst e5
          refine ⟨fun σ H6 => (∃ u5 u7 u9 u10 u11 u12 u13, σ = [some (.ref St.p), some (.ref T), some (.ref kd), some (.ref q), some (.str z), u5, some (.int (wd : Int)), u7, some v, u9, u10, u11, u12, u13, none, none]) ∧ Go2 St q H H6 ∧ Dp K H6 v (progD p) ∧ ∃ m3, H6 q = some (.lst [.int m3]) ∧ m3 ≤ m2, ?_, ?_⟩
          · refine if_join (fun bb H6 => H6 = H5 ∧ (bb = true → z = Str.ofString "join" ∨ z = Str.ofString "both")) (fun Qb hb => ?_) (fun H6 ⟨e6, _⟩ => ?_) (fun H6 ⟨e6, _⟩ => ?_)
            · refine ⟨_, rfl, rfl, _, rfl, ?_⟩
              refine ite2 (fun e => hb true H5 ⟨rfl, fun _ => .inl (V.str.inj (of_decide_eq_true e))⟩) (fun _ => ?_)
              exact ⟨_, rfl, rfl, _, rfl, hb _ H5 ⟨rfl, fun e => .inr (V.str.inj (of_decide_eq_true e))⟩⟩
            · subst e6
              refine ⟨_, rfl, _, rfl, _, rfl, _, rfl, St, T, kd, q, xs, ls, ks, m2, rfl, g04.st, bT g04, bX g04, l1, l3, hnd, hwd, bK g04, kp1, kq, k1, k1000, hks, hq4, qp, qc, qm, by omega, by omega, fun U2 v2 p2 wd2 m3 H7 g7 hU2 dv2 fj2 hq7 hm3 nod2 hw2 w12 w62 => ?_⟩
              have g07 := g04.trans g7
              have dv7 := dp_kt0 (g7.kt g04.st hq4) dv (tu_prog p)
              have nodB : nodesP p + nodesP p2 + 2 + 3 * yet m3 ≤ 3 * yet m + 1 := by omega
              refine ⟨U2, _, rfl, .inr (SqT.of hU2), rfl, _, _, rfl, _, _, rfl, rfl, ?_⟩
              refine next_if_join (fun bb H8 => H8 = H7 ∧ (bb = true → wd + wd2 ≤ 6)) (fun Qb hb => ?_) (fun H8 ⟨e8, hle⟩ => ?_) (fun H8 ⟨e8, _⟩ => ?_)
              · refine ⟨_, rfl, rfl, _, rfl, ?_⟩
                refine ite2 (fun _ => ?_) (fun _ => hb false H7 ⟨rfl, fun e => nomatch e⟩)
                refine ⟨_, rfl, _, rfl, _, _, rfl, rfl, _, _, rfl, rfl, _, rfl, hb _ H7 ⟨rfl, fun e => ?_⟩⟩
                have : (wd : Int) + (wd2 : Int) < 7 := of_decide_eq_true e
                omega
              · subst e8
                have le6 := hle rfl
                refine ⟨by show 0 ≤ sizeLine; decide, fun D nD => ?_⟩
                have a0 : AccG (PrV K) St H8 D [] (upd H8 D (.lst [])) := accG_zero g7.st nD
                refine ⟨_, rfl, St, 3, rfl, by decide, by decide, a0.go.st, fun r6 H9 hr6 g9 => ⟨_, rfl, by omega, by omega, ?_⟩⟩
                have a9 := a0.on PrV.stay nD g7.st g9
                refine for_range (n := ((r6 : Nat) : Int).toNat) (fun t σ HA => (∃ u5 u7 u9 u10 u14, σ = [some (.ref St.p), some (.ref T), some (.ref kd), some (.ref q), some (.str z), u5, some (.int (wd : Int)), u7, some v, u9, u10, some v2, some (.int (wd2 : Int)), some (.ref D), u14, none]) ∧ ∃ ps : List (Nat × Nat), ps.length = t ∧ (∀ c ∈ ps, c.1 < wd ∧ c.2 < wd2) ∧ AccG (PrV K) St H8 D ps HA)
                  ⟨⟨_, _, _, _, _, rfl⟩, [], rfl, (fun _ h => nomatch h), a9⟩ ?_ ?_
                · rintro t σ HA ht ⟨⟨u5, u7, u9, u10, u14, rfl⟩, ps, lp, hps, aA⟩
                  obtain ⟨zs, hDA, _⟩ := aA.at_
                  refine ⟨_, rfl, .inl ⟨rfl, _, SqL.of hDA⟩, _, rfl, _, rfl, St, wd, rfl, by omega, by omega, aA.go.st, fun a HB ha gB => ⟨_, rfl, _, rfl, St, wd2, rfl, by omega, by omega, gB.st, fun b HC hb gC => ⟨by show 2 ≤ sizeLine; decide, fun U3 nU3 => ?_⟩⟩⟩
                  have sU : Same HC (upd HC U3 (.tup [.int (a : Int), .int (b : Int)])) := sm_new sm_refl nU3
                  obtain ⟨acc, h1, h2, h3⟩ := accG_step PrV.stay aA nD g7.st (by omega) ((gB.trans gC).same sU) (x := (a, b)) (y := .ref U3) ⟨U3, rfl, SqT.of upd_same⟩
                  refine ⟨D, acc, _, rfl, rfl, h1, h2, ⟨_, _, _, _, _, rfl⟩, ps ++ [(a, b)], by rw [List.length_append, lp]; rfl, fun c hc => ?_, h3⟩
                  rcases List.mem_append.mp hc with e | e
                  · exact hps c e
                  · rw [List.mem_singleton.mp e]; exact ⟨ha, hb⟩
                · rintro σ HA ⟨⟨u5, u7, u9, u10, u14, rfl⟩, ps, lp, hps, gA, zs, hDA, hzs⟩
                  refine ⟨_, rfl, _, rfl, _, rfl, D, zs, rfl, .inl ⟨SqL.of hDA, fun A nA => ⟨by show 4 ≤ sizeLine; decide, fun B nB => ⟨_, rfl, _, rfl, _, _, rfl, rfl, by show 2 ≤ sizeLine; decide, fun U4 nU4 => ?_⟩⟩⟩⟩
                  have sA : Same HA (upd HA A (.tup zs)) := sm_new sm_refl nA
                  have hA : upd HA A (.tup zs) A = some (.tup zs) := upd_same
                  generalize upd HA A (.tup zs) = HB at sA hA nB nU4 ⊢
                  have sB : Same HB (upd HB B (.tup [.str (Str.ofString "join"), v, v2, .ref A])) := sm_new sm_refl nB
                  have hB : upd HB B (.tup [.str (Str.ofString "join"), v, v2, .ref A]) B = some (.tup [.str (Str.ofString "join"), v, v2, .ref A]) := upd_same
                  generalize upd HB B (.tup [.str (Str.ofString "join"), v, v2, .ref A]) = HC at sB hB nU4 ⊢
                  have sU : Same HC (upd HC U4 (.tup [.ref B, .int ((wd : Int) + (wd2 : Int))])) := sm_new sm_refl nU4
                  have gE : Go St H8 (upd HC U4 (.tup [.ref B, .int ((wd : Int) + (wd2 : Int))])) := gA.same ((sA.trans sB).trans sU)
                  have dE1 := dp_kt0 (Go.kt g7.st gE) dv7 (tu_prog p)
                  have dE2 := dp_kt0 (Go.kt g7.st gE) dv2 (tu_prog p2)
                  refine out U4 (.ref B) (.join p p2 ps) (wd + wd2) m3 _ (g07.go qp gE) upd_same (.tup (SqT.of (sU _ _ hB)) (.cons (.str _) (.cons dE1 (.cons dE2 (.cons (.tup (SqT.of ((sB.trans sU) _ _ hA)) (prs_dp (Paired.mapP hzs fun _ _ z => PrV.stay.kt (.same ((sA.trans sB).trans sU)) z))) .nil))))) ⟨fj, fj2, by omega⟩ (gE.but _ _ hq7 qp) (by omega) (by show nodesP p + nodesP p2 + 1 + _ ≤ _; omega) ?_ (by omega) (by omega)
                  simp only [widP]
                  rw [hw, Option.bind_some, hw2, Option.bind_some]
                  exact if_pos ⟨hps, le6⟩
              · subst e8
                refine ⟨fun σ H9 => (∃ v3 u5 u7 u9 u10, σ = [some (.ref St.p), some (.ref T), some (.ref kd), some (.ref q), some (.str z), u5, some (.int (wd : Int)), u7, some v, u9, u10, some v3, some (.int (wd2 : Int)), none, none, none] ∧ (z = Str.ofString "both" → ∃ p3, Dp K H9 v3 (progD p3) ∧ fewJ p3 ∧ widP (wof (wsL ls)) p3 = some wd ∧ nodesP p3 ≤ nodesP p2 + 1)) ∧ Go St H8 H9, ?_, ?_⟩
                · refine if_join (fun bb H9 => H9 = H8 ∧ (bb = true → wd2 ≠ wd) ∧ (bb = false → z = Str.ofString "both" → wd2 = wd)) (fun Qb hb => ?_) (fun H9 ⟨e9, hne9, _⟩ => ?_) (fun H9 ⟨e9, _, heq9⟩ => ?_)
                  · refine ⟨_, rfl, rfl, _, rfl, ?_⟩
                    refine ite2 (fun _ => ?_) (fun hzb => hb false H8 ⟨rfl, (fun e => nomatch e), fun _ e => absurd (decide_eq_true (by rw [e])) hzb⟩)
                    refine ⟨_, rfl, _, rfl, rfl, _, rfl, hb _ H8 ⟨rfl, fun e => ?_, fun e _ => ?_⟩⟩
                    · intro e2
                      rw [e2, decide_eq_true rfl] at e
                      cases e
                    · by_cases e2 : V.int (wd2 : Int) = V.int (wd : Int)
                      · have := V.int.inj e2
                        omega
                      · rw [decide_eq_false e2] at e
                        cases e
                  · subst e9
                    refine ⟨_, rfl, _, rfl, _, rfl, by omega, by omega, fun D nD => ?_⟩
                    refine lc_range (n := ((wd : Nat) : Int).toNat) (fun c HA => ∃ cs : List Nat, cs.length = c ∧ (∀ c ∈ cs, c < wd2) ∧ AccG IntV St H9 D cs HA) ⟨[], rfl, (fun _ h => nomatch h), accG_zero g7.st nD⟩ ?_ ?_
                    · rintro c HA hc ⟨cs, lc, hcs, ac⟩
                      refine ⟨rfl, _, rfl, _, rfl, St, wd2, rfl, by omega, by omega, ac.go.st, fun kk HB ck gB => ?_⟩
                      obtain ⟨acc, h1, h2, h3⟩ := accG_step IntV.stay ac nD g7.st (by omega) gB (x := kk) (y := .int (kk : Int)) rfl
                      refine ⟨acc, h1, h2, cs ++ [kk], by rw [List.length_append, lc]; rfl, fun c hc => ?_, h3⟩
                      rcases List.mem_append.mp hc with e | e
                      · exact hcs c e
                      · rw [List.mem_singleton.mp e]; exact ck
                    · rintro HA ⟨cs, lc, hcs, gA, ys, hD, hys⟩
                      have eys := ints_eq hys
                      subst eys
                      refine ⟨D, _, rfl, .inl ⟨SqL.of hD, fun A nA => ⟨by show 3 ≤ sizeLine; decide, fun B nB => ?_⟩⟩⟩
                      have sA : Same HA (upd HA A (.tup (cs.map fun c => V.int (c : Nat)))) := sm_new sm_refl nA
                      have hA : upd HA A (.tup (cs.map fun c => V.int (c : Nat))) A = some (.tup (cs.map fun c => V.int (c : Nat))) := upd_same
                      generalize upd HA A (.tup (cs.map fun c => V.int (c : Nat))) = HB at sA hA nB ⊢
                      have sB : Same HB (upd HB B (.tup [.str (Str.ofString "pick"), v2, .ref A])) := sm_new sm_refl nB
                      have gE : Go St H9 (upd HB B (.tup [.str (Str.ofString "pick"), v2, .ref A])) := gA.same (sA.trans sB)
                      have dE2 := dp_kt0 (Go.kt g7.st gE) dv2 (tu_prog p2)
                      have lcs : cs.length = wd := by rw [lc]; omega
                      refine ⟨⟨.ref B, _, _, _, _, rfl, fun _ => ⟨.pick p2 cs, .tup (SqT.of upd_same) (.cons (.str _) (.cons dE2 (.cons (.tup (SqT.of (sB _ _ hA)) (ints_dp cs)) .nil))), fj2, ?_, Nat.le_refl _⟩⟩, gE⟩
                      simp only [widP]
                      rw [hw2]
                      show (if _ then some cs.length else none) = _
                      rw [if_pos ⟨by omega, by omega, hcs⟩, lcs]
                  · subst e9
                    exact ⟨⟨v2, _, _, _, _, rfl, fun e => ⟨p2, dv2, fj2, by rw [hw2, heq9 rfl e], Nat.le_succ _⟩⟩, Go.refl g7.st⟩
                · rintro σ H9 ⟨⟨v3, u5, u7, u9, u10, rfl, hb3⟩, g9⟩
                  refine ⟨_, rfl, rfl, _, rfl, ?_⟩
                  refine ite2 (fun e => ?_) (fun _ => ⟨⟨_, _, _, _, _, _, _, rfl⟩, g07.go qp g9, dp_kt0 (Go.kt g7.st g9) dv7 (tu_prog p), m3, g9.but _ _ hq7 qp, by omega⟩)
                  obtain ⟨p3, d3, fj3, hw3, nod3⟩ := hb3 (V.str.inj (of_decide_eq_true e))
                  refine ⟨_, rfl, _, rfl, by show 3 ≤ sizeLine; decide, fun B nB => ⟨_, rfl, by show 2 ≤ sizeLine; decide, fun U4 nU4 => ?_⟩⟩
                  have sB : Same H9 (upd H9 B (.tup [.str (Str.ofString "both"), v, v3])) := sm_new sm_refl nB
                  have hB : upd H9 B (.tup [.str (Str.ofString "both"), v, v3]) B = some (.tup [.str (Str.ofString "both"), v, v3]) := upd_same
                  generalize upd H9 B (.tup [.str (Str.ofString "both"), v, v3]) = HC at sB hB nU4 ⊢
                  have sU : Same HC (upd HC U4 (.tup [.ref B, .int (wd : Int)])) := sm_new sm_refl nU4
                  have gE : Go St H8 (upd HC U4 (.tup [.ref B, .int (wd : Int)])) := g9.same (sB.trans sU)
                  have dE1 := dp_kt0 (Go.kt g7.st gE) dv7 (tu_prog p)
                  refine out U4 (.ref B) (.both p p3) wd m3 _ (g07.go qp gE) upd_same (.tup (SqT.of (sU _ _ hB)) (.cons (.str _) (.cons dE1 (.cons (dp_same (sB.trans sU) d3) .nil)))) ⟨fj, fj3⟩ (gE.but _ _ hq7 qp) (by omega) (by show nodesP p + nodesP p3 + 1 + _ ≤ _; omega) ?_ w1 w6
                  simp only [widP]
                  rw [hw, Option.bind_some, hw3, Option.bind_some]
                  exact if_pos rfl
            · subst e6
              exact ⟨⟨_, _, _, _, _, _, _, rfl⟩, g04, dv, m2, hq4, Int.le_refl _⟩
          · rintro σ H6 ⟨⟨u5, u7, u9, u10, u11, u12, u13, rfl⟩, g06, dv6, m3, hq6, hm3⟩
            have ym3 : yet m3 ≤ yet m2 := by unfold yet; omega
            refine ⟨_, rfl, St, 3, rfl, by decide, by decide, g06.st, fun r5 H7 hr5 g7 => ⟨_, _, rfl, rfl, _, rfl, St, 6, rfl, by decide, by decide, g7.st, fun r6 H8 hr6 g8 => ⟨_, _, rfl, rfl, by show 3 ≤ sizeLine; decide, fun q2 nq2 => ⟨_, rfl, St, 3, rfl, by decide, by decide, g8.st.same (sm_new sm_refl nq2), fun r7 H9 hr7 g9 => ?_⟩⟩⟩⟩
            obtain ⟨hq9, g89⟩ := disp (K := K) g8.st nq2 g9
            obtain ⟨x, hx9, mny, rfl, hm1', hm6⟩ := at_mem (xs := [.int ((1 : Int) + (r5 : Int)), .int ((1 : Int) + (r6 : Int)), .int 1]) (n := 3) (T := fun x => ∃ w : Nat, x = .int (w : Int) ∧ 1 ≤ w ∧ w ≤ 6) rfl hr7 (fun x hx => by
              simp only [List.mem_cons, List.not_mem_nil, or_false] at hx
              rcases hx with rfl | rfl | rfl
              · exact ⟨1 + r5, by congr 1, by omega, by omega⟩
              · exact ⟨1 + r6, by congr 1, by omega, by omega⟩
              · exact ⟨1, rfl, by decide, by decide⟩)
            refine pick hq9 r7 hx9 _ ?_
            have g69 := (g7.trans g8).trans g89
            refine ⟨_, rfl, _, rfl, _, rfl, by omega, by omega, fun D nD => ?_⟩
            have g09 := g06.go qp g69
            refine lc_range (n := ((mny : Nat) : Int).toNat) (fun c HA => ∃ cs : List Nat, cs.length = c ∧ (∀ c ∈ cs, c < wd) ∧ AccG IntV St H9 D cs HA) ⟨[], rfl, (fun _ h => nomatch h), accG_zero g09.st nD⟩ ?_ ?_
            · rintro c HA hc ⟨cs, lc, hcs, ac⟩
              refine ⟨rfl, _, rfl, _, rfl, St, wd, rfl, by omega, by omega, ac.go.st, fun kk HB ck gB => ?_⟩
              obtain ⟨acc, h1, h2, h3⟩ := accG_step IntV.stay ac nD g09.st (by omega) gB (x := kk) (y := .int (kk : Int)) rfl
              refine ⟨acc, h1, h2, cs ++ [kk], by rw [List.length_append, lc]; rfl, fun c hc => ?_, h3⟩
              rcases List.mem_append.mp hc with e | e
              · exact hcs c e
              · rw [List.mem_singleton.mp e]; exact ck
            · rintro HA ⟨cs, lc, hcs, gA, ys, hD, hys⟩
              have eys := ints_eq hys
              subst eys
              refine ⟨D, _, rfl, .inl ⟨SqL.of hD, fun A nA => ⟨by show 3 ≤ sizeLine; decide, fun B nB => ⟨_, rfl, by show 2 ≤ sizeLine; decide, fun U2 nU2 => ?_⟩⟩⟩⟩
              have sA : Same HA (upd HA A (.tup (cs.map fun c => V.int (c : Nat)))) := sm_new sm_refl nA
              have hA : upd HA A (.tup (cs.map fun c => V.int (c : Nat))) A = some (.tup (cs.map fun c => V.int (c : Nat))) := upd_same
              generalize upd HA A (.tup (cs.map fun c => V.int (c : Nat))) = HB at sA hA nB nU2 ⊢
              have sB : Same HB (upd HB B (.tup [.str (Str.ofString "pick"), v, .ref A])) := sm_new sm_refl nB
              have hB : upd HB B (.tup [.str (Str.ofString "pick"), v, .ref A]) B = some (.tup [.str (Str.ofString "pick"), v, .ref A]) := upd_same
              generalize upd HB B (.tup [.str (Str.ofString "pick"), v, .ref A]) = HC at sB hB nU2 ⊢
              have sU : Same HC (upd HC U2 (.tup [.ref B, .int (mny : Int)])) := sm_new sm_refl nU2
              have gE : Go St H6 (upd HC U2 (.tup [.ref B, .int (mny : Int)])) := (g69.trans gA).same ((sA.trans sB).trans sU)
              have dvE := dp_kt0 (Go.kt g06.st gE) dv6 (tu_prog p)
              have lcs : cs.length = mny := by rw [lc]; omega
              refine out U2 (.ref B) (.pick p cs) mny m3 _ (g06.go qp gE) upd_same (.tup (SqT.of (sU _ _ hB)) (.cons (.str _) (.cons dvE (.cons (.tup (SqT.of ((sB.trans sU) _ _ hA)) (ints_dp cs)) .nil)))) fj (gE.but _ _ hq6 qp) (by omega) (by show nodesP p + 1 + _ ≤ _; omega) ?_ hm1' hm6
              simp only [widP]
              rw [hw]
              show (if _ then some cs.length else none) = _
              rw [if_pos ⟨by omega, by omega, hcs⟩, lcs]
end
end K14



set_option Elab.async false
set_option linter.all false
set_option maxRecDepth 100000
set_option maxHeartbeats 4000000
/-! isinstance(e, c) of an exception that a clause holds by its name -/
namespace L2
open PySem PySem.Spec PyProof.Rows PySem.ExE
def rIsX (K : PySem.W.Frag) (a : Addr) (cls : Value) (d : Option Addr) : List V → Hp → VK → Prop := fun xs H Q => ∃ (C T fI : Addr) (f : Str) (c : V) (u : Value) (b : Bool) (dd : Addr) (fs : List (Str × V)),
  xs = [.ref a, c] ∧ cls = .ref C ∧ ClsV c u ∧ EC K C T f fI ∧ d = some dd ∧ H dd = some (.xd fs) ∧ PySem.W.kitOne K (.ref C) u = some b ∧ Q (.bl b) H
theorem call_isX {X : Cx} {a : Addr} {oe : Obj} {cls : Value} {d : Option Addr} {pn : List (Addr × Obj)} (Z : HasCls X.K) (hz : Zc cls d oe) (hf : ∃ vs, oe.data = .fields vs) : CallR (X.suite a ((a, oe) :: pn)) (.builtin "isinstance") (rIsX X.K a cls d) := by
  intro pins s σ H xs us Q I r h
  obtain ⟨C, T, fI, f, c, u, b, dd, fs, rfl, rfl, cu, Ec, rfl, hd, hk, q⟩ := h
  obtain ⟨u1, u2, rfl, r1, r2⟩ := vals2 r
  have e2 := cu.eq r2
  subst e2
  cases (show u1 = Value.ref a from r1)
  obtain ⟨ha, _⟩ := I.pin (a, oe) (List.mem_append_left _ List.mem_cons_self)
  obtain ⟨vs, hv⟩ := hf
  obtain ⟨mA, hns, _⟩ : ObjOk X.prog X.w H s.heap dd (.xd fs) := I.hok dd _ hd
  obtain ⟨od, ho, _⟩ := lookIn_ns hns
  have J : PySem.W.InstAt s.heap a oe C (some od) := ⟨ha, hz.1, by unfold PySem.W.notCls; rw [hv] <;> rfl, by rw [hz.2]; exact ho⟩
  have hob : PySem.W.mroIn X.K C (.type "object") = some true := Ec.has (by decide)
  exact PySem.W.kia_one (PySem.W.kitx_exc Ec.isCls Ec.ga Ec.gg Ec.exC Ec.ca Z.hn Z.ht hob) I.kIn J hk (fun z => nomatch z) fun tk => ⟨.bl b, H, I.tok tk, rfl, q⟩
/-- what lets no exception out may be called where exceptions are looked for -/
theorem FnOk.lift {P : Program} {w : World} {K : PySem.W.Frag} {mg : Str → Option Value} {base : Heap} {k : Nat} {f : Addr} {fd : FuncData} {ps : List Str} {sp : Sp} (F : FnOk P w K mg base CX0 k f fd ps sp) : FnOk P w K mg base (L2.CX P w) k f fd ps sp :=
  ⟨F.len, fun A outer s H args us vs Q E hr he hb hv hs => codeAny_mono (F.run A outer s H args us vs Q E hr he hb hv hs) fun r s' q => by
    cases r with
    | error e => exact q.elim
    | ok fl => cases fl with
      | ret u => exact q
      | next => exact q.elim
      | brk => exact q.elim
      | cont => exact q.elim⟩
/-- one of two specs -/
theorem FnOk.or {P : Program} {w : World} {K : PySem.W.Frag} {mg : Str → Option Value} {base : Heap} {CX : CXT} {k : Nat} {f : Addr} {fd : FuncData} {ps : List Str} {sp sp' : Sp} (F : FnOk P w K mg base CX k f fd ps sp) (G : FnOk P w K mg base CX k f fd ps sp') :
    FnOk P w K mg base CX k f fd ps (fun vs H Q E => sp vs H Q E ∨ sp' vs H Q E) :=
  ⟨fun vs H Q E h => h.elim (F.len vs H Q E) (G.len vs H Q E), fun A outer s H args us vs Q E hr he hb hv hs => hs.elim (F.run A outer s H args us vs Q E hr he hb hv) (G.run A outer s H args us vs Q E hr he hb hv)⟩
end L2


set_option Elab.async false
set_option linter.all false
set_option maxHeartbeats 4000000
namespace Kw
open PySem PySem.Spec PyProof.Rows L2
/-! keywords alone are handed to a def that may raise -/
def tKws (sp : Sp) (gV : List V → List V → List V) (E : L2.St → XK) (tk : TA) : TE := fun σ H Q => tk σ H fun zs J => sp (gV [] zs) J Q (E σ)
section
variable {X : Cx} {CX : CXT} {k : Nat} {f : Addr} {fd : FuncData} {ps ks : List Str} {sp : Sp} {E : L2.St → XK} {x : Str} {p pos : Pos} {kws : List Keyword} {tk : TA} {g : List Value → List Value → List Value} {gV : List V → List V → List V}
theorem run_kws {pins : List (Addr × Obj)} {σ : L2.St} {J : Hp} {s2 : Shared} {Q : VK} {ws : List Value} {zs : List V} (F : FnOk X.prog X.w X.K X.mg X.base CX k f fd ps sp) (room : Room k X.A) (kb : KBinds X.K fd ps ks g gV) (out : PassesAt CX X σ (E σ))
    (i : Inv X pins σ J s2) (r : Vals zs ws) (want : sp (gV [] zs) J Q (E σ)) : wpAny (model X.prog X.w) X.A (call (.ref f) [] (ks.zip ws)) (EP X pins σ Q) X.xe s2 := by
  have rr : Vals (gV [] zs) (g [] ws) := kb.rel .nil r
  have many : (g [] ws).length = ps.length := by
    rw [← rr.length]
    exact F.len _ _ _ _ want
  refine wpAny_call (codeAny_mono (F.run X.A X.stack s2 J ⟨[], ks.zip ws⟩ (g [] ws) (gV [] zs) Q (E σ) room i.env0 (kb.to s2 [] ws i.kIn many) rr want) fun how s3 told => ?_)
  rcases how with e | fl
  · exact out pins J s2 e s3 i told
  · cases fl with
    | next => exact told.elim
    | brk => exact told.elim
    | cont => exact told.elim
    | ret u => exact i.after told
theorem pe_kwsS (F : FnOk X.prog X.w X.K X.mg X.base CX k f fd ps sp) (room : Room k X.A) (gl : Gl X x) (m : X.mg x = some (.ref f)) (kp : PySem.W.keepIn X.K (.ref f) = true) (kb : KBinds X.K fd ps ks g gV) (out : ∀ σ, PassesAt CX X σ (E σ)) (kw : PK X kws tk)
    (all : (backToKw pos (keywordEach kws X.env)).all (·.1.isSome) = true := by rfl) (nms : (backToKw pos (keywordEach kws X.env)).filterMap (·.1) = ks := by rfl) (nd : (x == ("__debug__" : Str)) = false := by decide)
    (pl : ((backTo pos (starEach [] X.env)).any (·.1) || (backToKw pos (keywordEach kws X.env)).any (·.1.isNone)) = false := by rfl) : PE X (.Call (.Name x p) [] kws pos) (tKws sp gV E tk) := by
  constructor
  intro pins s σ H Q I h
  have kwargs := kw.run pos pins s σ H _ I h
  apply wpAny_Call_Name_kw
  refine ld_glob I gl m (PySem.W.callWith_KW0 (h₀ := X.base) I.ok.mod.kin kp all (thn kwargs ?_) pl) nd
  rintro ws s2 ⟨zs, J, i, r, q⟩
  rw [nms]
  exact ⟨i.kIn, run_kws F room kb (out σ) i r q⟩
end
end Kw


set_option Elab.async false
set_option linter.all false
set_option maxRecDepth 100000
set_option maxHeartbeats 4000000
namespace K14
open PySem L2 Nd Bk Gd PySem.ExE
/-! run, asked in two ways -/
/-- two keywords, in the other sequence -/
def sw2 {α : Type} (us : List α) (l : List α) : List α := match us, l with
  | [], [a, b] => [b, a]
  | _, _ => []
theorem kb_sw2 {K : PySem.W.Frag} {st : Stmt} {f : Addr} {fd : FuncData} {x y z : Str} (F : Fun K x x st f fd)
    (h : ∀ (kV doc pm : Value) (an : Option Addr) (cdv ct : Value) (a b : Value), bindArgs (PySem.W.fnOf x x (defArgs st) (defBody st) (defScope st) .none kV doc pm an cdv ct) ⟨[], [(z, a), (y, b)]⟩ = pure [(y, b), (z, a)]) : KBinds K fd [y, z] [z, y] sw2 sw2 := by
  obtain ⟨oc, od, kV, doc, pm, an, cdv, ct, osl, rfl, lk, hcd⟩ := F.ex
  refine ⟨fun s us ws _ hl => ?_, fun {vs us zs ws} r1 r2 => ?_⟩
  · match us, ws, hl with
    | [], [a, b], _ => exact .of_eq (h kV doc pm an cdv ct a b)
    | [], [], hl => simp [sw2] at hl
    | [], [_], hl => simp [sw2] at hl
    | [], _ :: _ :: _ :: _, hl => simp [sw2] at hl
    | _ :: _, _, hl => simp [sw2] at hl
  · cases r1 with
    | nil =>
      cases r2 with
      | nil => exact .nil
      | cons a b =>
        cases b with
        | nil => exact .nil
        | cons c d =>
          cases d with
          | nil => exact .cons c (.cons a .nil)
          | cons e g => exact .nil
    | cons _ _ => exact .nil
def AskR (K : PySem.W.Frag) (r : Res) (H : Hp) (Q : VK) : Prop := match r with
  | .bad z => ∀ (L : Addr) (H' : Hp), Same H H' → H' L = some (.lst [.str z, .bl true]) → Q (.ref L) H'
  | .ok M => ∀ (T : Addr) (ys : List V) (H' : Hp), Same H H' → H' T = some (.tup ys) → Paired (MP K H') ys (srtR M) → Q (.ref T) H'
section
variable {P : Program} {w : World} {K : PySem.W.Frag} {mg : Str → Option Value} {base : Heap} {T C fI : Addr}
end
end K14



set_option Elab.async false
set_option linter.all false
set_option maxRecDepth 100000
set_option maxHeartbeats 4000000
namespace Dw
open PySem PySem.W PySem.SeqAt PyProof.Rows L2
section
variable {X : Cx}
/-- x in t, x not in t: any data, a tuple of data -/
def rInT (K : PySem.W.Frag) (neg : Bool) : R2 := fun x y H Q => ∃ d ds, Dp K H x d ∧ Dp K H y (.tuple ds) ∧ d.plain = true ∧ PyData.plainAll ds = true ∧ d.depth ≤ 60 ∧ Q (.bl (if neg = true then !(ds.any fun z => PyData.eqv z d) else ds.any fun z => PyData.eqv z d)) H
theorem op_inT (hu : X.A.units + 65 < cLine) : OpR X (compareOp .In) (rInT X.K false) := by
  intro pins s σ H x y v u Q I rx ry h
  obtain ⟨d, ds, hd, he, sd, se, dp, q⟩ := h
  obtain ⟨as, r1⟩ := Dp.reads I d x v hd rx
  obtain ⟨bs, r2⟩ := Dp.reads I (.tuple ds) y u he ry
  exact in_tuple_data r2 r1 se sd (by omega) ⟨.bl _, H, I, rfl, q⟩
theorem op_notInT (hu : X.A.units + 65 < cLine) : OpR X (compareOp .NotIn) (rInT X.K true) := by
  intro pins s σ H x y v u Q I rx ry h
  obtain ⟨d, ds, hd, he, sd, se, dp, q⟩ := h
  obtain ⟨as, r1⟩ := Dp.reads I d x v hd rx
  obtain ⟨bs, r2⟩ := Dp.reads I (.tuple ds) y u he ry
  exact notIn_tuple_data r2 r1 se sd (by omega) ⟨.bl _, H, I, rfl, q⟩
end
end Dw


set_option Elab.async false
set_option linter.all false
set_option maxRecDepth 100000
set_option maxHeartbeats 8000000
namespace K14
open PySem L2 Nd Bk Gd PySem.ExE
/-! values of any kind -/
def leafD (d : PyData) : Prop := (∃ i, d = .int i) ∨ (∃ z : Str, d = .str z ∧ z.length ≤ 1000) ∨ d = .none
def Tv : Nat → PyData → Prop
  | 0, d => leafD d
  | n + 1, d => leafD d ∨ ∃ ds, d = .tuple ds ∧ ds.length ≤ 1000 ∧ ∀ e ∈ ds, Tv n e
theorem Tv.up : ∀ {n : Nat} {d : PyData}, Tv n d → Tv (n + 1) d
  | 0, _, h => .inl h
  | n + 1, _, h => h.imp id fun ⟨ds, e, l, g⟩ => ⟨ds, e, l, fun x hx => (g x hx).up⟩
theorem Tv.le {n m : Nat} {d : PyData} (h : Tv n d) (l : n ≤ m) : Tv m d := by
  induction l with
  | refl => exact h
  | step _ ih => exact ih.up
theorem Tv.kids {n : Nat} {ds : List PyData} (h : Tv n (.tuple ds)) : ds.length ≤ 1000 ∧ ∀ e ∈ ds, Tv n e := by
  cases n with
  | zero =>
    rcases h with ⟨_, h⟩ | ⟨_, h, _⟩ | h <;> cases h
  | succ n =>
    rcases h with (⟨_, h⟩ | ⟨_, h, _⟩ | h) | ⟨ds', e, l, g⟩
    · cases h
    · cases h
    · cases h
    · cases e
      exact ⟨l, fun e he => (g e he).up⟩
theorem Tv.kid {n : Nat} {ds : List PyData} (h : Tv (n + 1) (.tuple ds)) : ds.length ≤ 1000 ∧ ∀ e ∈ ds, Tv n e := by
  rcases h with (⟨_, h⟩ | ⟨_, h, _⟩ | h) | ⟨ds', e, l, g⟩
  · cases h
  · cases h
  · cases h
  · cases e
    exact ⟨l, g⟩
theorem Tv.str {n : Nat} {z : Str} (h : Tv n (.str z)) : z.length ≤ 1000 := by
  have : leafD (.str z) := by
    cases n with
    | zero => exact h
    | succ n =>
      rcases h with h | ⟨_, h, _⟩
      · exact h
      · cases h
  rcases this with ⟨_, h⟩ | ⟨_, h, l⟩ | h
  · cases h
  · cases h; exact l
  · cases h
theorem Tv.cases {n : Nat} {d : PyData} (h : Tv n d) : (∃ i, d = .int i) ∨ (∃ z : Str, d = .str z) ∨ d = .none ∨ ∃ ds, d = .tuple ds := by
  rcases n with _ | n
  · rcases h with ⟨i, rfl⟩ | ⟨z, rfl, _⟩ | rfl
    · exact .inl ⟨i, rfl⟩
    · exact .inr (.inl ⟨z, rfl⟩)
    · exact .inr (.inr (.inl rfl))
  · rcases h with (⟨i, rfl⟩ | ⟨z, rfl, _⟩ | rfl) | ⟨ds, rfl, _⟩
    · exact .inl ⟨i, rfl⟩
    · exact .inr (.inl ⟨z, rfl⟩)
    · exact .inr (.inr (.inl rfl))
    · exact .inr (.inr (.inr ⟨ds, rfl⟩))
mutual
theorem flat_pd : ∀ d : PyData, d.plain = (flat d).plain ∧ d.depth = (flat d).depth
  | .list xs => by simp only [flat, PyData.plain, PyData.depth, (flats_pd xs).1, (flats_pd xs).2]; exact ⟨trivial, trivial⟩
  | .tuple xs => by simp only [flat, PyData.plain, PyData.depth, (flats_pd xs).1, (flats_pd xs).2]; exact ⟨trivial, trivial⟩
  | .int _ => by simp [flat]
  | .str _ => by simp [flat]
  | .none => by simp [flat]
  | .bool _ => by simp [flat]
  | .dict _ => by simp [flat]
theorem flats_pd : ∀ ds : List PyData, PyData.plainAll ds = PyData.plainAll (flats ds) ∧ PyData.depthAll ds = PyData.depthAll (flats ds)
  | [] => by simp [flats]
  | d :: ds => by
    simp only [flats, PyData.plainAll, PyData.depthAll, (flat_pd d).1, (flat_pd d).2, (flats_pd ds).1, (flats_pd ds).2]
    exact ⟨trivial, trivial⟩
end
theorem plain_all {ds : List PyData} (h : ∀ e ∈ ds, e.plain = true) : PyData.plainAll ds = true := by
  induction ds with
  | nil => rfl
  | cons d ds ih =>
    rw [PyData.plainAll, h d List.mem_cons_self, ih fun e he => h e (List.mem_cons_of_mem _ he)]
    rfl
theorem depth_all {n : Nat} {ds : List PyData} (h : ∀ e ∈ ds, e.depth ≤ n) : PyData.depthAll ds ≤ n := by
  induction ds with
  | nil => simp [PyData.depthAll]
  | cons d ds ih =>
    rw [PyData.depthAll]
    have := h d List.mem_cons_self
    have := ih fun e he => h e (List.mem_cons_of_mem _ he)
    omega
theorem leaf_pd {d : PyData} (h : leafD d) : d.plain = true ∧ d.depth ≤ 0 := by
  rcases h with ⟨i, rfl⟩ | ⟨z, rfl, _⟩ | rfl <;> simp [PyData.plain, PyData.depth]
theorem Tv.pd : ∀ {n : Nat} {d : PyData}, Tv n d → d.plain = true ∧ d.depth ≤ n
  | 0, d, h => leaf_pd h
  | n + 1, d, h => by
    rcases h with h | ⟨ds, rfl, l, g⟩
    · exact ⟨(leaf_pd h).1, Nat.le_trans (leaf_pd h).2 (Nat.zero_le _)⟩
    · rw [PyData.plain, PyData.depth]
      exact ⟨plain_all fun e he => (Tv.pd (g e he)).1, by have := depth_all fun e he => (Tv.pd (g e he)).2; omega⟩
theorem fd_non {K : PySem.W.Frag} {H : Hp} {v : V} (h : FD K H v .none) : v = .non := by
  obtain ⟨d', h, e⟩ := h
  cases d' <;> simp [flat] at e
  cases h
  rfl
/-- what stands at a value of any kind -/
theorem fd_kd {K : PySem.W.Frag} {H : Hp} {v : V} {d : PyData} {n : Nat} (h : FD K H v d) (t : Tv n d) : ∃ k, Kd K H v k ∧ (k = "tuple" ∨ k = "list" ↔ ∃ ds, d = .tuple ds) ∧ (k = "str" ↔ ∃ z, d = .str z) ∧ (k = "int" ↔ ∃ z, d = .int z) ∧ (∀ z, v = .str z → d = .str z) ∧ (∀ z, v = .int z → d = .int z) := by
  rcases t.cases with ⟨i, rfl⟩ | ⟨z, rfl⟩ | rfl | ⟨ds, rfl⟩
  · cases fd_int h
    exact ⟨_, .int i, by simp [eq_comm]⟩
  · cases fd_str h
    exact ⟨_, .str z, by simp [eq_comm]⟩
  · cases fd_non h
    exact ⟨_, .non, by simp⟩
  · obtain ⟨a, xs, rfl, hs, _⟩ := fd_seq h
    rcases hs with hs | hs
    · exact ⟨_, .lst hs, by simp⟩
    · exact ⟨_, .tup hs, by simp⟩
def strB (z : Str) : PyData → Bool
  | .str g => decide (g = z)
  | _ => false
def strIn (zs : List Str) : PyData → Bool
  | .str g => decide (g ∈ zs)
  | _ => false
theorem eqs_go {K : PySem.W.Frag} {H : Hp} {x : V} {d : PyData} {z : Str} {Q : VK} (h : FD K H x d) (t : Tv 50 d) (q : Q (.bl (strB z d)) H) : Dw.rEqP K x (.str z) H Q := by
  obtain ⟨d', h1, h2⟩ := h
  obtain ⟨p1, p2⟩ := flat_pd d'
  rw [h2] at p1 p2
  refine ⟨d', .str z, h1, .str z, p1.trans t.pd.1, rfl, by rw [p2]; exact Nat.le_trans t.pd.2 (by decide), ?_⟩
  have e : PyData.eqv d' (.str z) = strB z d := by
    subst h2
    cases d' <;> simp [flat, strB, PyData.eqv]
    rfl
  rw [e]
  exact q
theorem notin_go {K : PySem.W.Frag} {H : Hp} {x : V} {d : PyData} {zs : List Str} {a : Addr} {Q : VK} (h : FD K H x d) (t : Tv 50 d) (hs : SqT K H a (zs.map V.str)) (q : Q (.bl (!strIn zs d)) H) : Dw.rInT K true x (.ref a) H Q := by
  obtain ⟨d', h1, h2⟩ := h
  obtain ⟨p1, p2⟩ := flat_pd d'
  rw [h2] at p1 p2
  have key : ∀ zs : List Str, DpAll K H (zs.map V.str) (zs.map PyData.str) := fun zs => by
    induction zs with
    | nil => exact .nil
    | cons z zs ih => exact .cons (.str z) ih
  refine ⟨d', zs.map PyData.str, h1, .tup hs (key zs), p1.trans t.pd.1, plain_all fun e he => ?_, by rw [p2]; exact Nat.le_trans t.pd.2 (by decide), ?_⟩
  · obtain ⟨z, _, rfl⟩ := List.mem_map.mp he
    rfl
  have e : (zs.map PyData.str).any (fun z => PyData.eqv z d') = strIn zs d := by
    subst h2
    cases d' with
    | str g =>
      simp only [flat, strIn]
      rw [List.any_map, Bool.eq_iff_iff, List.any_eq_true, decide_eq_true_iff]
      simp [PyData.eqv]
    | _ => simp [flat, strIn, PyData.eqv, List.any_map]
  rw [if_pos rfl, e]
  exact q
end K14


set_option Elab.async false
set_option linter.all false
set_option maxRecDepth 100000
set_option maxHeartbeats 8000000
namespace K14
open PySem L2 Nd Bk Gd PySem.ExE
/-! the program's checks, whatever is handed in -/
def manyB (n : Nat) : PyData → Bool
  | .tuple ds => decide (ds.length = n)
  | _ => false
def colB (w : Nat) : PyData → Bool
  | .int i => decide (0 ≤ i) && decide (i < (w : Int))
  | _ => false
def cellB : PyData → Bool
  | .int i => cellV (.int i)
  | .str z => cellV (.str z)
  | _ => false
def colsB (w : Nat) : PyData → Bool
  | .tuple ds => decide (1 ≤ ds.length) && decide (ds.length ≤ 6) && ds.all (colB w)
  | _ => false
def prB (w v : Nat) : PyData → Bool
  | .tuple [a, b] => colB w a && colB v b
  | _ => false
def prsB (w v : Nat) : PyData → Bool
  | .tuple ds => ds.all (prB w v)
  | _ => false
def sideB (w : Nat) : PyData → Bool
  | .tuple [a, b] => (strB (Str.ofString "col") a && colB w b) || (strB (Str.ofString "val") a && cellB b)
  | _ => false
def cmpB (w : Nat) : PyData → Bool
  | .tuple [l, g, r] => strIn signs g && (sideB w l && sideB w r)
  | _ => false
def mkgB (w : Nat) : PyData → Bool
  | .tuple [k, i, j] => strIn makes_ k && (colB w i && colB w j)
  | _ => false
theorem manyB_true {n : Nat} {d : PyData} (h : manyB n d = true) : ∃ ds, d = .tuple ds ∧ ds.length = n := by
  cases d with
  | tuple ds => exact ⟨ds, rfl, of_decide_eq_true h⟩
  | _ => cases h
def spMany (K : PySem.W.Frag) : Sp := fun vs H Q _ => ∃ (v : V) (d : PyData) (n : Nat), vs = [v, .int (n : Int)] ∧ FD K H v d ∧ Tv 50 d ∧ ∀ H', Same H H' → Q (.bl (manyB n d)) H'
def spChk (K : PySem.W.Frag) (f : Nat → PyData → Bool) : Sp := fun vs H Q _ => ∃ (v : V) (d : PyData) (w : Nat), vs = [v, .int (w : Int)] ∧ FD K H v d ∧ Tv 50 d ∧ ∀ H', Same H H' → Q (.bl (f w d)) H'
def spPrs (K : PySem.W.Frag) : Sp := fun vs H Q _ => ∃ (v : V) (d : PyData) (w u : Nat), vs = [v, .int (w : Int), .int (u : Int)] ∧ FD K H v d ∧ Tv 50 d ∧ ∀ H', Same H H' → Q (.bl (prsB w u d)) H'
section
variable {P : Program} {w : World} {K : PySem.W.Frag} {mg : Str → Option Value} {base : Heap}
theorem u65 {A : Around} {k : Nat} (hr : Room k A) : A.units + 65 < cLine := by
  have := hr.un
  omega
theorem u64 {A : Around} {k : Nat} (hr : Room k A) : A.units + 64 < cLine := by
  have := hr.un
  omega
theorem ok_many {f : Addr} {fd : FuncData} (F : Fun K "_is_many" "_is_many" t__is_many f fd) (N : Nm mg) (Gs : Df P w K mg base 1 "is_sequence" ["value"] (spIsSeq K)) : FnOk P w K mg base CX0 2 f fd ["value", "many"] (spMany K) := by
  obtain ⟨fS, fdS, gS, kS, bS, GS⟩ := Gs.ok
  refine F.ok scIsMany (fun vs H Q E h => ?_) (fun cdv A outer s H vs Q E hr h => ?_)
  · obtain ⟨v, d, n, rfl, _⟩ := h
    rfl
  · obtain ⟨v, d, n, rfl, hf, ht, q⟩ := h
    have hr1 : Room 1 _ := hr.mono (by decide)
    --BODYA
    refine ⟨_, pss_one (ps_ret (pe_and (pe_call GS hr1 rfl gS kS bS .nil pass0 (pa_cons (pv 0) pa_nil)) (pe_one (pe_cmpR op_eq (pe_callB (show CallR _ _ (rLenQ K) from call_len_seq) (by rfl) N.len PySem.boot_len (pa_cons (pv 0) pa_nil)) (pv 1) (nomark _))))), ?_⟩
    --END
    obtain ⟨k, kd, k1, _⟩ := fd_kd hf ht
    refine ⟨_, rfl, _, k, rfl, kd, fun H1 s1 => ⟨_, rfl, ite2 (fun e => ?_) (fun e => ?_)⟩⟩
    · obtain ⟨ds, rfl⟩ := k1.mp (of_decide_eq_true e)
      obtain ⟨a, xs, rfl, hs, hl, _⟩ := fd_seq (hf.same s1)
      refine ⟨_, rfl, a, xs, rfl, hs, _, rfl, rfl, ?_⟩
      have e : decide (V.int (xs.length : Int) = V.int (n : Int)) = manyB n (.tuple ds) := by
        rw [hl]
        exact decide_eq_decide.mpr ⟨fun h => by have := V.int.inj h; omega, fun h => by rw [h]⟩
      rw [e]
      exact q H1 s1
    · have eb : manyB n d = false := by
        cases d with
        | tuple ds => exact absurd (decide_eq_true (k1.mpr ⟨ds, rfl⟩)) e
        | _ => rfl
      have := q H1 s1
      rw [eb] at this
      exact this
theorem ok_colT {f : Addr} {fd : FuncData} (F : Fun K "is_column" "is_column" t_is_column f fd) (Gi : Df P w K mg base 1 "is_integer" ["value"] (spIsInt K)) : FnOk P w K mg base CX0 2 f fd ["value", "width"] (spChk K colB) := by
  obtain ⟨fI, fdI, gI, kI, bI, GI⟩ := Gi.ok
  refine F.ok scIsCol (fun vs H Q E h => ?_) (fun cdv A outer s H vs Q E hr h => ?_)
  · obtain ⟨v, d, n, rfl, _⟩ := h
    rfl
  · obtain ⟨v, d, n, rfl, hf, ht, q⟩ := h
    have hr1 : Room 1 _ := hr.mono (by decide)
    --BODYB
    refine ⟨_, pss_one (ps_ret (pe_and (pe_call GI hr1 rfl gI kI bI .nil pass0 (pa_cons (pv 0) pa_nil)) (pe_one (pe_chain op_le op_lt pe_int (pv 0) (pv 1))))), ?_⟩
    --END
    obtain ⟨k, kd, _⟩ := fd_kd hf ht
    have qH := q H sm_refl
    refine ⟨_, rfl, _, _, rfl, kd, _, rfl, ite2 (fun e => ?_) (fun e => ?_)⟩
    · obtain ⟨i, rfl⟩ : ∃ i, v = .int i := by
        cases v <;> first | exact ⟨_, rfl⟩ | cases e
      obtain rfl := (fd_kd hf ht).choose_spec.2.2.2.2.2 i rfl
      refine ⟨_, rfl, _, _, rfl, rfl, _, rfl, ?_⟩
      have qH : Q (.bl (decide (0 ≤ i) && decide (i < (n : Int)))) H := qH
      refine ite2 (fun h => ?_) (fun h => ?_)
      · rw [show decide (0 ≤ i) = true from h, Bool.true_and] at qH
        exact ⟨_, rfl, _, _, rfl, rfl, qH⟩
      · rw [show decide (0 ≤ i) = false by simpa using h, Bool.false_and] at qH
        exact qH
    · have eb : colB n d = false := by
        cases d with
        | int i => rw [fd_int hf] at e; exact absurd rfl e
        | _ => rfl
      rw [eb] at qH
      exact qH
theorem all_bools {H : Hp} {D : Addr} {bs : List Bool} {Q : VK} (h : H D = some (.lst (bs.map V.bl))) (q : Q (.bl (bs.all id)) H) : rAll K [.ref D] H Q := ⟨D, bs, rfl, SqL.of h, q⟩
/-- a list of what a check tells of each -/
theorem chk_walk {f : PyData → Bool} {H1 H2 : Hp} {D : Addr} {ds : List PyData} {i : Nat} {d : PyData} (hi : ds[i]? = some d) (l : ds.length ≤ 1000) (s : Same H1 H2) (n : H1 D = none) (h : H2 D = some (.lst (((ds.take i).map f).map V.bl))) : ∃ acc, H2 D = some (.lst acc) ∧ acc.length < sizeLine ∧ Same H1 (upd H2 D (.lst (acc ++ [V.bl (f d)]))) ∧ upd H2 D (.lst (acc ++ [V.bl (f d)])) D = some (.lst (((ds.take (i + 1)).map f).map V.bl)) := by
  refine ⟨_, h, by rw [List.length_map, List.length_map, List.length_take, sizeLine_eq]; omega, sm_new s n, ?_⟩
  rw [upd_same, List.take_succ, hi, List.map_append, List.map_append]
  rfl
theorem ok_colsT {f : Addr} {fd : FuncData} (F : Fun K "_are_columns" "_are_columns" t__are_columns f fd) (N : Nm mg) (A0 : Ncl mg) (mc : ∃ t, mg "MOST_CELLS" = some (.int 6 t)) (Gs : Df P w K mg base 1 "is_sequence" ["value"] (spIsSeq K)) (Gc : Df P w K mg base 2 "is_column" ["value", "width"] (spChk K colB)) :
    FnOk P w K mg base CX0 3 f fd ["value", "width"] (spChk K colsB) := by
  obtain ⟨fS, fdS, gS, kS, bS, GS⟩ := Gs.ok
  obtain ⟨fC, fdC, gC, kC, bC, GC⟩ := Gc.ok
  refine F.ok scCols (fun vs H Q E h => ?_) (fun cdv A outer s H vs Q E hr h => ?_)
  · obtain ⟨v, d, n, rfl, _⟩ := h
    rfl
  · obtain ⟨v, d, n, rfl, hf, ht, q⟩ := h
    have hr1 : Room 1 _ := hr.mono (by decide)
    have hr2 : Room 2 _ := hr.mono (by decide)
    obtain ⟨tm, hm⟩ := mc
    --BODYC
    refine ⟨_, pss_cons (ps_if (PW.pt (pw_or (pt_not (pt_val (pe_call GS hr1 rfl gS kS bS .nil pass0 (pa_cons (pv 0) pa_nil)))) (pw_or1 (pt_not (pt_chain op_le op_le pe_int (pe_callB (show CallR _ _ (rLenQ K) from call_len_seq) (by rfl) N.len PySem.boot_len (pa_cons (pv 0) pa_nil)) (pe_glob (v := .int 6) (by rfl) hm ⟨_, rfl⟩)))))) (pss_one (ps_ret pe_bl)) pss_nil)
      (pss_one (ps_ret (pe_callB (show CallR _ _ (rAll K) from cr_all rfl) (by rfl) A0.all (by rfl) (pa_cons (pe_lc (own := [("column", 2)]) (g := gName 2) (tt := tYes) rfl scCols.nd (show PI _ _ _ (iAny K _) from pi_any (pv 0)) (blkOk_by (N := colN) (sc := defScope t__are_columns) (by decide +kernel))
          (fun _ _ _ _ _ => (pg_name (i := 2) scCols.nd rfl (Or.inl rfl))) (fun _ _ _ _ _ => pts_nil) (fun _ _ _ _ _ => (pe_call GC hr2 rfl gC kC bC .nil pass0 (pa_cons (pv 2) (pa_cons (pv 1) pa_nil))))) pa_nil)))), ?_⟩
    --END
    obtain ⟨k, kd, k1, _⟩ := fd_kd hf ht
    refine ⟨_, rfl, _, k, rfl, kd, fun H1 s1 => ?_⟩
    by_cases hq : ∃ ds, d = .tuple ds
    · rw [decide_eq_true (k1.mpr hq)]
      obtain ⟨ds, rfl⟩ := hq
      obtain ⟨a, xs, rfl, hs, hl, hg⟩ := fd_seq (hf.same s1)
      have ln := ht.kids.1
      refine ⟨_, rfl, iteF ⟨_, rfl, a, xs, rfl, hs, _, _, rfl, rfl, _, rfl, ?_⟩⟩
      have bad : ¬ (1 ≤ ds.length ∧ ds.length ≤ 6) → Q (.bl false) H1 := fun hn => by
        have this : Q (.bl (decide (1 ≤ ds.length) && decide (ds.length ≤ 6) && ds.all (colB n))) H1 := q H1 s1
        rw [show (decide (1 ≤ ds.length) && decide (ds.length ≤ 6)) = false by rw [← Bool.decide_and]; exact decide_eq_false hn, Bool.false_and] at this
        exact this
      refine ite2 (fun h1 => ?_) (fun h1 => ?_)
      · have h1 : (1 : Int) ≤ (xs.length : Int) := of_decide_eq_true h1
        refine ⟨_, _, rfl, rfl, _, rfl, ite2 (fun h2 => ?_) (fun h2 => ?_)⟩
        · have h2 : ¬ (xs.length : Int) ≤ 6 := by simpa using h2
          exact bad (by omega)
        · have h2 : (xs.length : Int) ≤ 6 := by simpa using h2
          refine ⟨_, rfl, any_go hs fun J G walk hG D nD => ?_⟩
          refine lc_it walk (fun i H2 => Same H1 H2 ∧ H2 D = some (.lst (((ds.take i).map (colB n)).map V.bl))) ⟨sm_new sm_refl nD, by rw [List.take_zero]; exact upd_same⟩ (fun i H2 _ ⟨s2, _⟩ => hG H2 s2.seq (sqT_same s2)) ?_ ?_
          · rintro i x _ H2 hi ⟨s2, hD⟩ ⟨rfl, hx⟩
            obtain ⟨d, hd, hxd⟩ := hg i x hx
            refine ⟨rfl, _, rfl, _, rfl, x, d, n, rfl, hxd.same s2, ht.kids.2 d (List.mem_of_getElem? hd) |>.le (by decide), fun H3 s3 => ?_⟩
            exact chk_walk hd ln (s2.trans s3) nD (s3 _ _ hD)
          · rintro H2 ⟨s2, hD⟩
            rw [hl, List.take_length] at hD
            refine all_bools hD ?_
            have this : Q (.bl (decide (1 ≤ ds.length) && decide (ds.length ≤ 6) && ds.all (colB n))) H2 := q H2 (s1.trans s2)
            rw [decide_eq_true (show 1 ≤ ds.length by omega), decide_eq_true (show ds.length ≤ 6 by omega)] at this
            rw [List.all_map]
            exact this
      · have h1 : ¬ (1 : Int) ≤ (xs.length : Int) := by simpa using h1
        refine ⟨_, rfl, iteT (bad (by omega))⟩
    · rw [decide_eq_false (fun z => hq (k1.mp z))]
      refine ⟨_, rfl, iteT ?_⟩
      have eb : colsB n d = false := by
        cases d with
        | tuple ds => exact absurd ⟨ds, rfl⟩ hq
        | _ => rfl
      have := q H1 s1
      rw [eb] at this
      exact this
theorem ok_prsT {f : Addr} {fd : FuncData} (F : Fun K "_are_pairs" "_are_pairs" t__are_pairs f fd) (N : Nm mg) (A0 : Ncl mg) (Gs : Df P w K mg base 1 "is_sequence" ["value"] (spIsSeq K)) (Gm : Df P w K mg base 2 "_is_many" ["value", "many"] (spMany K))
    (Gc : Df P w K mg base 2 "is_column" ["value", "width"] (spChk K colB)) : FnOk P w K mg base CX0 3 f fd ["value", "width", "other"] (spPrs K) := by
  obtain ⟨fS, fdS, gS, kS, bS, GS⟩ := Gs.ok
  obtain ⟨fM, fdM, gM, kM, bM, GM⟩ := Gm.ok
  obtain ⟨fC, fdC, gC, kC, bC, GC⟩ := Gc.ok
  refine F.ok scPrs (fun vs H Q E h => ?_) (fun cdv A outer s H vs Q E hr h => ?_)
  · obtain ⟨v, d, n, m, rfl, _⟩ := h
    rfl
  · obtain ⟨v, d, n, m, rfl, hf, ht, q⟩ := h
    have hr1 : Room 1 _ := hr.mono (by decide)
    have hr2 : Room 2 _ := hr.mono (by decide)
    --BODYD
    refine ⟨_, pss_one (ps_ret (pe_and (pe_call GS hr1 rfl gS kS bS .nil pass0 (pa_cons (pv 0) pa_nil)) (pe_one (pe_callB (show CallR _ _ (rAll K) from cr_all rfl) (by rfl) A0.all (by rfl) (pa_cons (pe_lc (own := [("pair", 3)]) (g := gName 3) (tt := tYes) rfl scPrs.nd (show PI _ _ _ (iAny K _) from pi_any (pv 0)) (blkOk_by (N := prsN) (sc := defScope t__are_pairs) (by decide +kernel))
          (fun _ _ _ _ _ => (pg_name (i := 3) scPrs.nd rfl (Or.inl rfl))) (fun _ _ _ _ _ => pts_nil) (fun _ _ _ _ _ => (pe_and (pe_call GM hr2 rfl gM kM bM .nil pass0 (pa_cons (pv 3) (pa_cons pe_int pa_nil))) (pe_and (pe_call GC hr2 rfl gC kC bC .nil pass0 (pa_cons (pe_ix (show IxR _ (rIx K) from ix_seq) (pv 3) pe_int (fun _ _ => rfl)) (pa_cons (pv 1) pa_nil))) (pe_one (pe_call GC hr2 rfl gC kC bC .nil pass0 (pa_cons (pe_ix (show IxR _ (rIx K) from ix_seq) (pv 3) pe_int (fun _ _ => rfl)) (pa_cons (pv 2) pa_nil)))))))) pa_nil))))), ?_⟩
    --END
    obtain ⟨k, kd, k1, _⟩ := fd_kd hf ht
    refine ⟨_, rfl, _, k, rfl, kd, fun H1 s1 => ?_⟩
    by_cases hq : ∃ ds, d = .tuple ds
    · rw [decide_eq_true (k1.mpr hq)]
      obtain ⟨ds, rfl⟩ := hq
      obtain ⟨a, xs, rfl, hs, hl, hg⟩ := fd_seq (hf.same s1)
      have ln := ht.kids.1
      refine ⟨_, rfl, iteT ⟨_, rfl, any_go hs fun J G walk hG D nD => ?_⟩⟩
      refine lc_it walk (fun i H2 => Same H1 H2 ∧ H2 D = some (.lst (((ds.take i).map (prB n m)).map V.bl))) ⟨sm_new sm_refl nD, by rw [List.take_zero]; exact upd_same⟩ (fun i H2 _ ⟨s2, _⟩ => hG H2 s2.seq (sqT_same s2)) ?_ ?_
      · rintro i x _ H2 hi ⟨s2, hD⟩ ⟨rfl, hx⟩
        obtain ⟨e, he, hxd⟩ := hg i x hx
        have te := ht.kids.2 e (List.mem_of_getElem? he)
        refine ⟨rfl, _, rfl, x, e, 2, rfl, hxd.same s2, te, fun H3 s3 => ⟨_, rfl, ?_⟩⟩
        have fin : ∀ H4, Same H2 H4 → ∀ b, b = prB n m e → ∃ acc, H4 D = some (.lst acc) ∧ acc.length < sizeLine ∧ Same H1 (upd H4 D (.lst (acc ++ [V.bl b]))) ∧ upd H4 D (.lst (acc ++ [V.bl b])) D = some (.lst (((ds.take (i + 1)).map (prB n m)).map V.bl)) := fun H4 s4 b hb => by
          rw [hb]
          exact chk_walk he ln (s2.trans s4) nD (s4 _ _ hD)
        refine ite2 (fun hm => ?_) (fun hm => ?_)
        · obtain ⟨es, rfl, hes⟩ := manyB_true hm
          match es, hes with
          | [a1, b1], _ =>
            obtain ⟨b, us, rfl, hb, hbl, hbg⟩ := fd_at (hxd.same (s2.trans s3))
            obtain ⟨u0, e0, f0⟩ := hbg 0 _ rfl
            obtain ⟨u1, e1, f1⟩ := hbg 1 _ rfl
            have t0 := te.kids.2 a1 List.mem_cons_self
            have t1 := te.kids.2 b1 (List.mem_cons_of_mem _ List.mem_cons_self)
            refine ⟨_, rfl, pick hb 0 e0 _ ⟨_, rfl, u0, a1, n, rfl, f0, t0, fun H4 s4 => ⟨_, rfl, ite2 (fun h0 => ?_) (fun h0 => ?_)⟩⟩⟩
            · refine ⟨_, rfl, pick (sq_go s4 hb) 1 e1 _ ⟨_, rfl, u1, b1, m, rfl, f1.same s4, t1, fun H5 s5 => ?_⟩⟩
              exact fin H5 ((s3.trans s4).trans s5) _ (show colB m b1 = (colB n a1 && colB m b1) by rw [show colB n a1 = true from h0, Bool.true_and])
            · exact fin H4 (s3.trans s4) _ (show false = (colB n a1 && colB m b1) by rw [show colB n a1 = false by simpa using h0, Bool.false_and])
        · refine fin H3 s3 _ ?_
          have hm : manyB 2 e = false := by simpa using hm
          match e with
          | .tuple [a1, b1] => cases hm
          | .tuple [] => rfl
          | .tuple [_] => rfl
          | .tuple (_ :: _ :: _ :: _) => rfl
          | .int _ => rfl
          | .str _ => rfl
          | .none => rfl
          | .bool _ => rfl
          | .list _ => rfl
          | .dict _ => rfl
      · rintro H2 ⟨s2, hD⟩
        rw [hl, List.take_length] at hD
        refine all_bools hD ?_
        rw [List.all_map]
        exact q H2 (s1.trans s2)
    · rw [decide_eq_false (fun z => hq (k1.mp z))]
      refine ⟨_, rfl, iteF ?_⟩
      have eb : prsB n m d = false := by
        cases d with
        | tuple ds => exact absurd ⟨ds, rfl⟩ hq
        | _ => rfl
      have := q H1 s1
      rw [eb] at this
      exact this
theorem two_of {n : Nat} {v : V} {H : Hp} {d : PyData} (ht : Tv 50 d) (hf : FD K H v d) (hm : manyB n d = true) : ∃ (ds : List PyData) (a : Addr) (us : List V), d = .tuple ds ∧ ds.length = n ∧ v = .ref a ∧ (SqL K H a us ∨ SqT K H a us) ∧ ∀ (i : Nat) (e : PyData), ds[i]? = some e → Tv 50 e ∧ ∃ x : V, us[i]? = some x ∧ FD K H x e := by
  obtain ⟨ds, rfl, hl⟩ := manyB_true hm
  obtain ⟨b, us, rfl, hb, hbl, hbg⟩ := fd_at hf
  exact ⟨ds, b, us, rfl, hl, rfl, hb, fun i e he => ⟨ht.kids.2 e (List.mem_of_getElem? he), hbg i e he⟩⟩
theorem cell_fd {H : Hp} {x : V} {d : PyData} (hf : FD K H x d) (ht : Tv 50 d) : cellV x = cellB d ∧ ∀ z, x = .str z → z.length ≤ 16000000 := by
  rcases ht.cases with ⟨i, rfl⟩ | ⟨z, rfl⟩ | rfl | ⟨ds, rfl⟩
  · cases fd_int hf
    exact ⟨rfl, fun z e => nomatch e⟩
  · cases fd_str hf
    exact ⟨rfl, fun z e => by cases e; exact Nat.le_trans ht.str (by decide)⟩
  · cases fd_non hf
    exact ⟨rfl, fun z e => nomatch e⟩
  · obtain ⟨a, xs, rfl, _⟩ := fd_seq hf
    exact ⟨rfl, fun z e => nomatch e⟩
theorem ok_sideT {f : Addr} {fd : FuncData} (F : Fun K "_is_side" "_is_side" t__is_side f fd) (Gm : Df P w K mg base 2 "_is_many" ["value", "many"] (spMany K))
    (Gc : Df P w K mg base 2 "is_column" ["value", "width"] (spChk K colB)) (Ge : Df P w K mg base 3 "is_cell" ["value"] (spCell K)) : FnOk P w K mg base CX0 4 f fd ["value", "width"] (spChk K sideB) := by
  obtain ⟨fM, fdM, gM, kM, bM, GM⟩ := Gm.ok
  obtain ⟨fC, fdC, gC, kC, bC, GC⟩ := Gc.ok
  obtain ⟨fE, fdE, gE, kE, bE, GE⟩ := Ge.ok
  refine F.ok scSide (fun vs H Q E h => ?_) (fun cdv A outer s H vs Q E hr h => ?_)
  · obtain ⟨v, d, n, rfl, _⟩ := h
    rfl
  · obtain ⟨v, d, n, rfl, hf, ht, q⟩ := h
    have hr2 : Room 2 _ := hr.mono (by decide)
    have hr3 : Room 3 _ := hr.mono (by decide)
    --BODYE
    refine ⟨_, pss_cons (ps_if (pt_not (pt_val (pe_call GM hr2 rfl gM kM bM .nil pass0 (pa_cons (pv 0) (pa_cons pe_int pa_nil))))) (pss_one (ps_ret pe_bl)) pss_nil)
      (pss_one (ps_ret (pe_or (pe_and (pe_cmpR (show OpR _ _ (Dw.rEqP K) from Dw.op_eqP (u64 hr)) (pe_ix (show IxR _ (rIx K) from ix_seq) (pv 0) pe_int (fun _ _ => rfl)) pe_str (nomark _)) (pe_one (pe_call GC hr2 rfl gC kC bC .nil pass0 (pa_cons (pe_ix (show IxR _ (rIx K) from ix_seq) (pv 0) pe_int (fun _ _ => rfl)) (pa_cons (pv 1) pa_nil))))) (pe_one (pe_and (pe_cmpR (show OpR _ _ (Dw.rEqP K) from Dw.op_eqP (u64 hr)) (pe_ix (show IxR _ (rIx K) from ix_seq) (pv 0) pe_int (fun _ _ => rfl)) pe_str (nomark _)) (pe_one (pe_call GE hr3 rfl gE kE bE .nil pass0 (pa_cons (pe_ix (show IxR _ (rIx K) from ix_seq) (pv 0) pe_int (fun _ _ => rfl)) pa_nil)))))))), ?_⟩
    --END
    refine ⟨_, rfl, v, d, 2, rfl, hf, ht, fun H1 s1 => ⟨_, rfl, ite2 (fun hm => ?_) (fun hm => ?_)⟩⟩
    · have q := q H1 s1
      have hm : manyB 2 d = false := by simpa using hm
      have e : sideB n d = false := by
        match d with
        | .tuple [a1, b1] => cases hm
        | .tuple [] => rfl
        | .tuple [_] => rfl
        | .tuple (_ :: _ :: _ :: _) => rfl
        | .int _ => rfl
        | .str _ => rfl
        | .none => rfl
        | .bool _ => rfl
        | .list _ => rfl
        | .dict _ => rfl
      rw [e] at q
      exact q
    · have hm : manyB 2 d = true := by simpa using hm
      obtain ⟨ds, b, us, rfl, hl, rfl, hb, g⟩ := two_of ht (hf.same s1) hm
      match ds, hl with
      | [a1, b1], _ =>
        obtain ⟨t0, u0, e0, f0⟩ := g 0 _ rfl
        obtain ⟨t1, u1, e1, f1⟩ := g 1 _ rfl
        have fin : ∀ (H4 : Hp) (b : Bool), Same H1 H4 → b = ((strB (Str.ofString "col") a1 && colB n b1) || (strB (Str.ofString "val") a1 && cellB b1)) → Q (.bl b) H4 := fun H4 b s4 e => by rw [e]; exact q H4 (s1.trans s4)
        have rest : ∀ H4, Same H1 H4 → (strB (Str.ofString "col") a1 && colB n b1) = false → tAndV (tOp (Dw.rEqP K) (tOp (rIx K) (tVar 0) (tC (V.int 0))) (tC (V.str (Str.ofString "val")))) (tCall (spCell K) [] E0 (tCons (tOp (rIx K) (tVar 0) (tC (V.int 1))) tNil)) (L2.start [Str.ofString "value", Str.ofString "width"] [V.ref b, V.int (n : Int)]) H4 Q := fun H4 s4 no => by
          refine ⟨_, rfl, pick (sq_go s4 hb) 0 e0 _ ?_⟩
          dsimp only [tC]
          refine eqs_go (f0.same s4) t0 ⟨_, rfl, ite2 (fun h => ?_) (fun h => ?_)⟩
          · obtain ⟨c1, c2⟩ := cell_fd (f1.same s4) t1
            obtain ⟨k, kd, _⟩ := fd_kd (f1.same s4) t1
            refine ⟨_, rfl, pick (sq_go s4 hb) 1 e1 _ ⟨u1, k, rfl, kd, c2, fun H5 s5 => ?_⟩⟩
            rw [c1]
            exact fin H5 _ (s4.trans s5) (by rw [no, h, Bool.false_or, Bool.true_and])
          · exact fin H4 _ s4 (by rw [no, show strB (Str.ofString "val") a1 = false by simpa using h]; rfl)
        refine ⟨_, rfl, pick hb 0 e0 _ ?_⟩
        dsimp only [tC]
        refine eqs_go f0 t0 ⟨_, rfl, ite2 (fun h => ?_) (fun h => ?_)⟩
        · refine ⟨_, rfl, pick hb 1 e1 _ ⟨_, rfl, u1, b1, n, rfl, f1, t1, fun H4 s4 => ⟨_, rfl, ite2 (fun h2 => ?_) (fun h2 => ?_)⟩⟩⟩
          · exact fin H4 _ s4 (by rw [h, h2]; rfl)
          · exact rest H4 s4 (by rw [show colB n b1 = false by simpa using h2, Bool.and_false])
        · exact ⟨_, rfl, iteF (rest H1 sm_refl (by rw [show strB (Str.ofString "col") a1 = false by simpa using h, Bool.false_and]))⟩
theorem ok_cmpT {f : Addr} {fd : FuncData} (F : Fun K "_is_comparison" "_is_comparison" t__is_comparison f fd) (C : ∃ a, mg "SIGNS" = some (.ref a) ∧ ∀ H, SqT K H a (signs.map V.str)) (Gm : Df P w K mg base 2 "_is_many" ["value", "many"] (spMany K))
    (Gs : Df P w K mg base 4 "_is_side" ["value", "width"] (spChk K sideB)) : FnOk P w K mg base CX0 5 f fd ["value", "width"] (spChk K cmpB) := by
  obtain ⟨fM, fdM, gM, kM, bM, GM⟩ := Gm.ok
  obtain ⟨fS, fdS, gS, kS, bS, GS⟩ := Gs.ok
  refine F.ok scCmp (fun vs H Q E h => ?_) (fun cdv A outer s H vs Q E hr h => ?_)
  · obtain ⟨v, d, n, rfl, _⟩ := h
    rfl
  · obtain ⟨v, d, n, rfl, hf, ht, q⟩ := h
    have hr2 : Room 2 _ := hr.mono (by decide)
    have hr4 : Room 4 _ := hr.mono (by decide)
    obtain ⟨aS, hS, sS⟩ := C
    --BODYF
    refine ⟨_, pss_cons (ps_if (PW.pt (pw_or (pt_not (pt_val (pe_call GM hr2 rfl gM kM bM .nil pass0 (pa_cons (pv 0) (pa_cons pe_int pa_nil))))) (pw_or1 (pt_cmpR (show OpR _ _ (Dw.rInT K true) from Dw.op_notInT (u65 hr)) (pe_ix (show IxR _ (rIx K) from ix_seq) (pv 0) pe_int (fun _ _ => rfl)) (pe_glob (v := .ref aS) (by rfl) hS rfl) (by rfl))))) (pss_one (ps_ret pe_bl)) pss_nil)
      (pss_one (ps_ret (pe_and (pe_call GS hr4 rfl gS kS bS .nil pass0 (pa_cons (pe_ix (show IxR _ (rIx K) from ix_seq) (pv 0) pe_int (fun _ _ => rfl)) (pa_cons (pv 1) pa_nil))) (pe_one (pe_call GS hr4 rfl gS kS bS .nil pass0 (pa_cons (pe_ix (show IxR _ (rIx K) from ix_seq) (pv 0) pe_int (fun _ _ => rfl)) (pa_cons (pv 1) pa_nil))))))), ?_⟩
    --END
    refine ⟨_, rfl, v, d, 3, rfl, hf, ht, fun H1 s1 => ⟨_, rfl, ite2 (fun hm => ?_) (fun hm => ?_)⟩⟩
    · have q := q H1 s1
      have hm : manyB 3 d = false := by simpa using hm
      have e : cmpB n d = false := by
        match d with
        | .tuple [_, _, _] => cases hm
        | .tuple [] => rfl
        | .tuple [_] => rfl
        | .tuple [_, _] => rfl
        | .tuple (_ :: _ :: _ :: _ :: _) => rfl
        | .int _ => rfl
        | .str _ => rfl
        | .none => rfl
        | .bool _ => rfl
        | .list _ => rfl
        | .dict _ => rfl
      rw [e] at q
      exact q
    · have hm : manyB 3 d = true := by simpa using hm
      obtain ⟨ds, b, us, rfl, hl, rfl, hb, g⟩ := two_of ht (hf.same s1) hm
      match ds, hl with
      | [a1, b1, c1], _ =>
        obtain ⟨t0, u0, e0, f0⟩ := g 0 _ rfl
        obtain ⟨t1, u1, e1, f1⟩ := g 1 _ rfl
        obtain ⟨t2, u2, e2, f2⟩ := g 2 _ rfl
        have fin : ∀ (H4 : Hp) (b : Bool), Same H1 H4 → b = (strIn signs b1 && (sideB n a1 && sideB n c1)) → Q (.bl b) H4 := fun H4 b s4 e => by rw [e]; exact q H4 (s1.trans s4)
        refine ⟨_, rfl, pick hb 1 e1 _ ?_⟩
        dsimp only [tC]
        refine notin_go f1 t1 (sS H1) ⟨_, rfl, ite2 (fun h => ?_) (fun h => ?_)⟩
        · exact fin H1 _ sm_refl (by rw [show strIn signs b1 = false by simpa using h]; rfl)
        · have h : strIn signs b1 = true := by simpa using h
          refine ⟨_, rfl, pick hb 0 e0 _ ⟨_, rfl, u0, a1, n, rfl, f0, t0, fun H4 s4 => ⟨_, rfl, ite2 (fun h2 => ?_) (fun h2 => ?_)⟩⟩⟩
          · refine ⟨_, rfl, pick (sq_go s4 hb) 2 e2 _ ⟨_, rfl, u2, c1, n, rfl, f2.same s4, t2, fun H5 s5 => ?_⟩⟩
            exact fin H5 _ (s4.trans s5) (by rw [h, h2]; rfl)
          · exact fin H4 _ s4 (by rw [h, show sideB n a1 = false by simpa using h2]; rfl)
theorem ok_mkgT {f : Addr} {fd : FuncData} (F : Fun K "_is_making" "_is_making" t__is_making f fd) (C : ∃ a, mg "MADE_CELLS" = some (.ref a) ∧ ∀ H, SqT K H a (makes_.map V.str)) (Gm : Df P w K mg base 2 "_is_many" ["value", "many"] (spMany K))
    (Gc : Df P w K mg base 2 "is_column" ["value", "width"] (spChk K colB)) : FnOk P w K mg base CX0 5 f fd ["value", "width"] (spChk K mkgB) := by
  obtain ⟨fM, fdM, gM, kM, bM, GM⟩ := Gm.ok
  obtain ⟨fC, fdC, gC, kC, bC, GC⟩ := Gc.ok
  refine F.ok scMkg (fun vs H Q E h => ?_) (fun cdv A outer s H vs Q E hr h => ?_)
  · obtain ⟨v, d, n, rfl, _⟩ := h
    rfl
  · obtain ⟨v, d, n, rfl, hf, ht, q⟩ := h
    have hr2 : Room 2 _ := hr.mono (by decide)
    obtain ⟨aS, hS, sS⟩ := C
    --BODYG
    refine ⟨_, pss_cons (ps_if (PW.pt (pw_or (pt_not (pt_val (pe_call GM hr2 rfl gM kM bM .nil pass0 (pa_cons (pv 0) (pa_cons pe_int pa_nil))))) (pw_or1 (pt_cmpR (show OpR _ _ (Dw.rInT K true) from Dw.op_notInT (u65 hr)) (pe_ix (show IxR _ (rIx K) from ix_seq) (pv 0) pe_int (fun _ _ => rfl)) (pe_glob (v := .ref aS) (by rfl) hS rfl) (by rfl))))) (pss_one (ps_ret pe_bl)) pss_nil)
      (pss_one (ps_ret (pe_and (pe_call GC hr2 rfl gC kC bC .nil pass0 (pa_cons (pe_ix (show IxR _ (rIx K) from ix_seq) (pv 0) pe_int (fun _ _ => rfl)) (pa_cons (pv 1) pa_nil))) (pe_one (pe_call GC hr2 rfl gC kC bC .nil pass0 (pa_cons (pe_ix (show IxR _ (rIx K) from ix_seq) (pv 0) pe_int (fun _ _ => rfl)) (pa_cons (pv 1) pa_nil))))))), ?_⟩
    --END
    refine ⟨_, rfl, v, d, 3, rfl, hf, ht, fun H1 s1 => ⟨_, rfl, ite2 (fun hm => ?_) (fun hm => ?_)⟩⟩
    · have q := q H1 s1
      have hm : manyB 3 d = false := by simpa using hm
      have e : mkgB n d = false := by
        match d with
        | .tuple [_, _, _] => cases hm
        | .tuple [] => rfl
        | .tuple [_] => rfl
        | .tuple [_, _] => rfl
        | .tuple (_ :: _ :: _ :: _ :: _) => rfl
        | .int _ => rfl
        | .str _ => rfl
        | .none => rfl
        | .bool _ => rfl
        | .list _ => rfl
        | .dict _ => rfl
      rw [e] at q
      exact q
    · have hm : manyB 3 d = true := by simpa using hm
      obtain ⟨ds, b, us, rfl, hl, rfl, hb, g⟩ := two_of ht (hf.same s1) hm
      match ds, hl with
      | [a1, b1, c1], _ =>
        obtain ⟨t0, u0, e0, f0⟩ := g 0 _ rfl
        obtain ⟨t1, u1, e1, f1⟩ := g 1 _ rfl
        obtain ⟨t2, u2, e2, f2⟩ := g 2 _ rfl
        have fin : ∀ (H4 : Hp) (b : Bool), Same H1 H4 → b = (strIn makes_ a1 && (colB n b1 && colB n c1)) → Q (.bl b) H4 := fun H4 b s4 e => by rw [e]; exact q H4 (s1.trans s4)
        refine ⟨_, rfl, pick hb 0 e0 _ ?_⟩
        dsimp only [tC]
        refine notin_go f0 t0 (sS H1) ⟨_, rfl, ite2 (fun h => ?_) (fun h => ?_)⟩
        · exact fin H1 _ sm_refl (by rw [show strIn makes_ a1 = false by simpa using h]; rfl)
        · have h : strIn makes_ a1 = true := by simpa using h
          refine ⟨_, rfl, pick hb 1 e1 _ ⟨_, rfl, u1, b1, n, rfl, f1, t1, fun H4 s4 => ⟨_, rfl, ite2 (fun h2 => ?_) (fun h2 => ?_)⟩⟩⟩
          · refine ⟨_, rfl, pick (sq_go s4 hb) 2 e2 _ ⟨_, rfl, u2, c1, n, rfl, f2.same s4, t2, fun H5 s5 => ?_⟩⟩
            exact fin H5 _ (s4.trans s5) (by rw [h, h2]; rfl)
          · exact fin H4 _ s4 (by rw [h, show colB n b1 = false by simpa using h2]; rfl)
end
end K14


set_option Elab.async false
set_option linter.all false
set_option maxRecDepth 100000
set_option maxHeartbeats 8000000
namespace K14
open PySem L2 Nd Bk Gd PySem.ExE
/-! nodes, whatever is handed in -/
def BadA (C : Addr) (n : Int) (H : Hp) (E : XK) : Prop := ∀ x H', Same H H' → H' x = some (.xd [("at", .int n)]) → E (.ref C) (some x) H'
theorem BadA.same {C : Addr} {n : Int} {H H1 : Hp} {E : XK} (s : Same H H1) (b : BadA C n H E) : BadA C n H1 E := fun x H' s' h => b x H' (s.trans s') h
/-- the class of errors -/
structure Tp (K : PySem.W.Frag) (mg : Str → Option Value) (T cN fN : Addr) : Prop where
  EB : EC K cN T "at" fN
  mB : Makes K cN "at"
  gB : mg "BadProgram" = some (.ref cN)
def take_ : Str := Str.ofString "take"
def keep_ : Str := Str.ofString "keep"
def pick_ : Str := Str.ofString "pick"
def make_ : Str := Str.ofString "make"
def both_ : Str := Str.ofString "both"
def join_ : Str := Str.ofString "join"
/-- the parts of a node and its length -/
def kindT (z : Str) : Option (Nat × Nat) := if z = take_ then some (0, 2) else if z = keep_ then some (1, 3) else if z = pick_ then some (1, 3) else if z = make_ then some (1, 3) else if z = both_ then some (2, 3) else if z = join_ then some (2, 4) else none
theorem kind_some {z : Str} {k l : Nat} (h : kindT z = some (k, l)) : ∃ p : Prog, z = Str.ofString (kindS p) ∧ k = (partsP p).length ∧ l = (partsP p).length + (restD p).length + 1 := by
  unfold kindT at h
  split at h
  · cases h; exact ⟨.take take_, by assumption, rfl, rfl⟩
  split at h
  · cases h; exact ⟨.keep (.take take_) (.col 0) take_ (.col 0), by assumption, rfl, rfl⟩
  split at h
  · cases h; exact ⟨.pick (.take take_) [], by assumption, rfl, rfl⟩
  split at h
  · cases h; exact ⟨.make (.take take_) take_ 0 0, by assumption, rfl, rfl⟩
  split at h
  · cases h; exact ⟨.both (.take take_) (.take take_), by assumption, rfl, rfl⟩
  split at h
  · cases h; exact ⟨.join (.take take_) (.take take_) [], by assumption, rfl, rfl⟩
  · cases h
def nodeB : PyData → Bool
  | .tuple (.str z :: r) => (match kindT z with | some (_, l) => decide (r.length + 1 = l) | none => false)
  | _ => false
def partsT : PyData → List PyData
  | .tuple (.str z :: r) => r.take (((kindT z).map (·.1)).getD 0)
  | _ => []
theorem part_mem {d e : PyData} (h : e ∈ partsT d) : ∃ z r, d = .tuple (.str z :: r) ∧ e ∈ r := by
  match d with
  | .tuple (.str z :: r) => exact ⟨z, r, rfl, List.mem_of_mem_take h⟩
  | .tuple [] => cases h
  | .tuple (.int _ :: _) => cases h
  | .tuple (.none :: _) => cases h
  | .tuple (.bool _ :: _) => cases h
  | .tuple (.list _ :: _) => cases h
  | .tuple (.tuple _ :: _) => cases h
  | .tuple (.dict _ :: _) => cases h
  | .int _ => cases h
  | .str _ => cases h
  | .none => cases h
  | .bool _ => cases h
  | .list _ => cases h
  | .dict _ => cases h
theorem part_lt {d e : PyData} (h : e ∈ partsT d) : sizeOf e < sizeOf d := by
  obtain ⟨z, r, rfl, h2⟩ := part_mem h
  have := List.sizeOf_lt_of_mem h2
  simp only [PyData.tuple.sizeOf_spec, List.cons.sizeOf_spec]
  omega
theorem node_true {d : PyData} (h : nodeB d = true) : ∃ z r k l, d = .tuple (.str z :: r) ∧ kindT z = some (k, l) ∧ r.length + 1 = l := by
  match d with
  | .tuple (.str z :: r) =>
    unfold nodeB at h
    simp only at h
    cases e : kindT z with
    | none => rw [e] at h; cases h
    | some x => rw [e] at h; exact ⟨z, r, x.1, x.2, rfl, e, of_decide_eq_true h⟩
  | .tuple [] => cases h
  | .tuple (.int _ :: _) => cases h
  | .tuple (.none :: _) => cases h
  | .tuple (.bool _ :: _) => cases h
  | .tuple (.list _ :: _) => cases h
  | .tuple (.tuple _ :: _) => cases h
  | .tuple (.dict _ :: _) => cases h
  | .int _ => cases h
  | .str _ => cases h
  | .none => cases h
  | .bool _ => cases h
  | .list _ => cases h
  | .dict _ => cases h
theorem isi_str {K : PySem.W.Frag} {H : Hp} {v : V} {t : String} {Q : VK} (h : Kd K H v t) (q : Q (.bl (decide (t = "str"))) H) : rIsi K [v, .ty "str"] H Q := by
  cases h with
  | non => exact isi_go .non (by decide +kernel) q
  | bl b => exact isi_go (.bl b) (by decide +kernel) q
  | int i => exact isi_go (.int i) (by decide +kernel) q
  | str z => exact isi_go (.str z) (by decide +kernel) q
  | tup h => exact isi_go (.tup h) (by decide +kernel) q
  | lst h => exact isi_go (.lst h) (by decide +kernel) q
def spNeedX (cN : Addr) : Sp := fun vs H Q E => ∃ b : Bool, vs = [.bl b] ∧ (b = true → Q .non H) ∧ (b = false → BadA cN 0 H E)
def spNode (K : PySem.W.Frag) : Sp := fun vs H Q _ => ∃ (v : V) (d : PyData), vs = [v] ∧ FD K H v d ∧ Tv 50 d ∧ ∀ H', Same H H' → Q (.bl (nodeB d)) H'
def spPartsT (K : PySem.W.Frag) : Sp := fun vs H Q _ => ∃ (v : V) (d : PyData) (H0 : Hp), vs = [v] ∧ Same H0 H ∧ FD K H0 v d ∧ nodeB d = true ∧
  ∀ (a : Addr) (xs : List V) (H' : Hp), Same H H' → (H' a = some (.lst xs) ∨ SqT K H' a xs) → Paired (FD K H0) xs (partsT d) → Q (.ref a) H'
section
variable {P : Program} {w : World} {K : PySem.W.Frag} {mg : Str → Option Value} {base : Heap} {T cN fN : Addr}
theorem ok_needX {f : Addr} {fd : FuncData} (F : Fun K "_need" "_need" t__need f fd) (X : Tp K mg T cN fN) : FnOk P w K mg base (L2.CX P w) 1 f fd ["holds"] (spNeedX cN) := by
  refine F.okX scNeed (fun vs H Q E h => ?_) (fun cdv A outer s H vs Q E hr h => ?_)
  · obtain ⟨b, rfl, _⟩ := h
    rfl
  · obtain ⟨b, rfl, q1, q2⟩ := h
    --BODYA
    refine ⟨_, pss_one (ps_if (pt_not (pt_val (pv 0))) (pss_one (ps_raise rfl (takes_of rfl rfl rfl rfl) (pmk_mk X.EB X.mB X.gB hr (pa_cons pe_int pa_nil) rfl))) pss_nil), ?_⟩
    --END
    refine ⟨_, rfl, _, rfl, ite2 (fun h => ?_) (fun h => ?_)⟩
    · refine ⟨_, rfl, fun x nx => q2 (by simpa using h) x _ (sm_new sm_refl nx) upd_same⟩
    · exact q1 (by simpa using h)
theorem ok_node {f : Addr} {fd : FuncData} (F : Fun K "_is_node" "_is_node" t__is_node f fd) (N : Nm mg) (C : Npr K w mg) (U : ∀ a, mg "PARTS" = some (.ref a) → ∀ z, kindT z = none → PySem.W.nsIn K a z = some none) (Gs : Df P w K mg base 1 "is_sequence" ["value"] (spIsSeq K)) : FnOk P w K mg base CX0 2 f fd ["value"] (spNode K) := by
  obtain ⟨fS, fdS, gS, kS, bS, GS⟩ := Gs.ok
  refine F.ok scIsNode (fun vs H Q E h => ?_) (fun cdv A outer s H vs Q E hr h => ?_)
  · obtain ⟨v, d, rfl, _⟩ := h
    rfl
  · obtain ⟨v, d, rfl, hf, ht, q⟩ := h
    have hr1 : Room 1 _ := hr.mono (by decide)
    obtain ⟨aP, es, n, hP, hD, hK⟩ := C.parts
    obtain ⟨aL, hL, hKL⟩ := C.lens
    --BODYB
    refine ⟨_, pss_cons (ps_if (PW.pt (pw_or (pt_not (pt_val (pe_call GS hr1 rfl gS kS bS .nil pass0 (pa_cons (pv 0) pa_nil)))) (pw_or (pt_cmpR op_eq (pe_callB (show CallR _ _ (rLenQ K) from call_len_seq) (by rfl) N.len PySem.boot_len (pa_cons (pv 0) pa_nil)) pe_int (nomark _)) (pw_or1 (pt_not (pt_val (pe_callB (show CallR _ _ (rIsi K) from call_isi) (by rfl) N.isi (by decide +kernel) (pa_cons (pe_ix (show IxR _ (rIx K) from ix_seq) (pv 0) pe_int (fun _ _ => rfl)) (pa_cons (pe_bltn (v := .ty "str") (by rfl) N.str (by decide +kernel) rfl) pa_nil))))))))) (pss_one (ps_ret pe_bl)) pss_nil)
      (pss_one (ps_ret (pe_and (pe_cmpR (op_in_kd hD) (pe_ix (show IxR _ (rIx K) from ix_seq) (pv 0) pe_int (fun _ _ => rfl)) (pe_glob (v := .ref aP) (by rfl) hP rfl) (by rfl)) (pe_one (pe_cmpR op_eq (pe_callB (show CallR _ _ (rLenQ K) from call_len_seq) (by rfl) N.len PySem.boot_len (pa_cons (pv 0) pa_nil)) (pe_ix (show IxR _ (rIxD K w) from ix_kdict) (pe_glob (v := .ref aL) (by rfl) hL rfl) (pe_ix (show IxR _ (rIx K) from ix_seq) (pv 0) pe_int (fun _ _ => rfl)) (fun _ _ => rfl)) (nomark _)))))), ?_⟩
    --END
    obtain ⟨k, kd, k1, _⟩ := fd_kd hf ht
    refine ⟨_, rfl, _, k, rfl, kd, fun H1 s1 => ?_⟩
    have q := q H1 s1
    by_cases hq : ∃ ds, d = .tuple ds
    · rw [decide_eq_true (k1.mpr hq)]
      obtain ⟨ds, rfl⟩ := hq
      obtain ⟨a, xs, rfl, hs1, hl, hg⟩ := fd_at (hf.same s1)
      refine ⟨_, rfl, iteF ⟨_, rfl, a, xs, rfl, hs1, rfl, _, rfl, ?_⟩⟩
      cases ds with
      | nil =>
        rw [show decide (V.int (xs.length : Int) = V.int 0) = true from decide_eq_true (by rw [hl]; rfl)]
        exact iteT q
      | cons e r =>
        rw [show decide (V.int (xs.length : Int) = V.int 0) = false by rw [decide_eq_false]; intro e; injection e with e; rw [hl, List.length_cons] at e; omega]
        obtain ⟨u0, e0, f0⟩ := hg 0 _ rfl
        have t0 := ht.kids.2 e List.mem_cons_self
        obtain ⟨k', kd', _, k2, _⟩ := fd_kd f0 t0
        have no : (∀ z, e ≠ .str z) → Q (.bl false) H1 := fun hn => by
          have eb : nodeB (.tuple (e :: r)) = false := by
            cases e with
            | str z => exact absurd rfl (hn z)
            | _ => rfl
          rw [eb] at q
          exact q
        refine iteF ⟨_, rfl, pick hs1 0 e0 _ ?_⟩
        dsimp only [tCons, tNil, tC]
        refine isi_str kd' ⟨_, rfl, ?_⟩
        refine ite2 (fun h => ?_) (fun h => ?_)
        · have h : ¬ k' = "str" := by simpa using h
          exact no fun z e => h (k2.mpr ⟨z, e⟩)
        · have h : k' = "str" := by simpa using h
          obtain ⟨z, rfl⟩ := k2.mp h
          cases fd_str f0
          cases hk : kindT z with
          | none =>
            have eb : nodeB (.tuple (.str z :: r)) = false := by unfold nodeB; simp only [hk]
            rw [eb] at q
            refine ⟨_, rfl, pick hs1 0 e0 _ ⟨z, none, rfl, rfl, U aP hP z hk, _, rfl, iteF q⟩⟩
          | some kl =>
            obtain ⟨p, hz, hp1, hp2⟩ := kind_some (k := kl.1) (l := kl.2) hk
            obtain ⟨es2, n2, u, e1, e2, e3, e4⟩ := hK p
            rw [← hz] at e3
            refine ⟨_, rfl, pick hs1 0 e0 _ ⟨z, some u, rfl, rfl, e3, _, rfl, iteT ?_⟩⟩
            have hKL := hKL p
            rw [← hz, ← hp2] at hKL
            refine ⟨_, rfl, a, xs, rfl, hs1, _, rfl, pick hs1 0 e0 _ ⟨_, _, _, rfl, rfl, hKL, rfl, ?_⟩⟩
            have eb : nodeB (.tuple (.str z :: r)) = decide (r.length + 1 = kl.2) := by unfold nodeB; simp only [hk]
            rw [eb] at q
            have ed : decide (V.int (xs.length : Int) = V.int ((kl.2 : Nat) : Int)) = decide (r.length + 1 = kl.2) := by
              rw [hl, List.length_cons]
              exact decide_eq_decide.mpr ⟨fun h => by have := V.int.inj h; omega, fun h => by rw [h]⟩
            rw [ed]
            exact q
    · rw [decide_eq_false (fun z => hq (k1.mp z))]
      refine ⟨_, rfl, iteT ?_⟩
      have eb : nodeB d = false := by
        cases d with
        | tuple ds => exact absurd ⟨ds, rfl⟩ hq
        | _ => rfl
      rw [eb] at q
      exact q
theorem ok_partsT {f : Addr} {fd : FuncData} (F : Fun K "parts_of" "parts_of" t_parts_of f fd) (C : Npr K w mg) : FnOk P w K mg base CX0 1 f fd ["node"] (spPartsT K) := by
  refine F.ok scParts (fun vs H Q E h => ?_) (fun cdv A outer s H vs Q E hr h => ?_)
  · obtain ⟨v, d, H0, rfl, _⟩ := h
    rfl
  · obtain ⟨v, d, H0, rfl, s0, hf, hn, q⟩ := h
    obtain ⟨aP, es, n, hP, hD, hK⟩ := C.parts
    --BODYC
    refine ⟨_, pss_one (ps_ret (pe_slice (SlR.or (show SlR _ (rSlL K) from sl_list) (show SlR _ (L2.rSlA K) from L2.sl_tupA)) (pv 0) (po_some pe_int) (po_some (pe_op op_add pe_int (pe_ix (show IxR _ (rIxD K w) from ix_kdict) (pe_glob (v := .ref aP) (by rfl) hP rfl) (pe_ix (show IxR _ (rIx K) from ix_seq) (pv 0) pe_int (fun _ _ => rfl)) (fun _ _ => rfl)))))), ?_⟩
    --END
    obtain ⟨z, r, k, l, rfl, hk, hl⟩ := node_true hn
    obtain ⟨a, xs, rfl, hs0, hxl, hg⟩ := fd_at hf
    rw [List.length_cons] at hxl
    have hs := sq_go s0 hs0
    obtain ⟨u0, e0, f0⟩ := hg 0 _ rfl
    cases fd_str f0
    obtain ⟨p, hz, hp1, hp2⟩ := kind_some hk
    have hK := hK p
    rw [← hz, ← hp1] at hK
    have kl : k + 1 ≤ xs.length := by omega
    refine ⟨_, rfl, _, rfl, _, rfl, pick hs 0 e0 _ ⟨_, _, _, rfl, rfl, hK, _, _, rfl, rfl, _, rfl, ?_⟩⟩
    have cut : cutV xs (some 1) (some (1 + ((k : Nat) : Int))) = (xs.drop 1).take k := by
      unfold cutV
      rw [show (some (1 : Int)) = some ((1 : Nat) : Int) from rfl, show (1 + ((k : Nat) : Int)) = ((1 + k : Nat) : Int) by omega, HT.sIx_nat, HT.sIx_nat]
      congr 1 <;> first | omega | (congr 1; omega)
    have ep : partsT (.tuple (.str z :: r)) = r.take k := by unfold partsT; simp only [hk]; rfl
    have all : Paired (FD K H0) ((xs.drop 1).take k) (partsT (.tuple (.str z :: r))) := by
      rw [ep]
      refine paired_mk (by rw [List.length_take, List.length_drop, List.length_take]; omega) fun i x hx => ?_
      have il : i < k := by
        have := (List.getElem?_eq_some_iff.mp hx).1
        rw [List.length_take] at this
        omega
      rw [List.getElem?_take_of_lt il, List.getElem?_drop, Nat.add_comm] at hx
      have ir : i < r.length := by omega
      obtain ⟨x', hx', hf'⟩ := hg (i + 1) r[i] (by rw [List.getElem?_cons_succ]; exact List.getElem?_eq_getElem ir)
      rw [hx] at hx'
      cases hx'
      exact ⟨r[i], by rw [List.getElem?_take_of_lt il]; exact List.getElem?_eq_getElem ir, hf'⟩
    have notAll : ¬ (HT.sIx xs.length 0 (some 1) = 0 ∧ HT.sIx xs.length xs.length (some (1 + ((k : Nat) : Int))) = xs.length) := fun z => by
      have z1 := z.1
      rw [show (some (1 : Int)) = some ((1 : Nat) : Int) from rfl, HT.sIx_nat] at z1
      omega
    rcases hs with h | h
    · refine .inl ⟨a, xs, rfl, h, fun r nr => ?_⟩
      rw [cut]
      exact q r _ _ (sm_new sm_refl nr) (.inl upd_same) all
    · refine .inr ⟨a, xs, rfl, h, fun z => absurd z notAll, fun _ r nr => ?_⟩
      rw [cut]
      exact q r _ _ (sm_new sm_refl nr) (.inr (SqT.of upd_same)) all
end
end K14


set_option Elab.async false
set_option linter.all false
set_option maxRecDepth 100000
set_option maxHeartbeats 8000000
namespace K14
open PySem L2 Nd Bk Gd PySem.ExE
/-! all nodes checked -/
def goodT (d : PyData) : Bool := nodeB d && (partsT d).attach.all fun e => goodT e.1
termination_by sizeOf d
decreasing_by exact part_lt e.2
def numT (d : PyData) : Nat := 1 + ((partsT d).attach.map fun e => numT e.1).sum
termination_by sizeOf d
decreasing_by exact part_lt e.2
theorem goodT_eq (d : PyData) : goodT d = (nodeB d && (partsT d).all goodT) := by
  rw [goodT]
  congr 1
  rw [Bool.eq_iff_iff, List.all_eq_true, List.all_eq_true]
  exact ⟨fun h x hx => h ⟨x, hx⟩ (List.mem_attach _ _), fun h x _ => h x.1 x.2⟩
theorem numT_eq (d : PyData) : numT d = 1 + ((partsT d).map numT).sum := by
  rw [numT]
  congr 2
  rw [← List.attach_map_subtype_val (partsT d), List.map_map]
  simp
def okT (d : PyData) : Prop := goodT d = true ∧ numT d ≤ 20
def sumT (qs : List PyData) : Nat := (qs.map numT).sum
def okS (k : Nat) (qs : List PyData) : Prop := (∀ q ∈ qs, goodT q = true) ∧ k + sumT qs ≤ 20
theorem okS_step {k : Nat} {qs : List PyData} {y : PyData} (hn : nodeB y = true) : okS (k + 1) (qs ++ partsT y) ↔ okS k (qs ++ [y]) := by
  have e1 : sumT (qs ++ partsT y) + 1 = sumT (qs ++ [y]) := by
    unfold sumT
    rw [List.map_append, List.map_append, List.sum_append, List.sum_append, List.map_singleton, List.sum_singleton, numT_eq y]
    omega
  have e2 := goodT_eq y
  rw [hn, Bool.true_and] at e2
  unfold okS
  constructor
  · rintro ⟨h1, h2⟩
    refine ⟨fun q hq => ?_, by omega⟩
    rcases List.mem_append.mp hq with h | h
    · exact h1 q (List.mem_append_left _ h)
    · rw [List.mem_singleton.mp h, e2, List.all_eq_true]
      exact fun x hx => h1 x (List.mem_append_right _ hx)
  · rintro ⟨h1, h2⟩
    have hy := h1 y (List.mem_append_right _ (List.mem_singleton.mpr rfl))
    rw [e2, List.all_eq_true] at hy
    refine ⟨fun q hq => ?_, by omega⟩
    rcases List.mem_append.mp hq with h | h
    · exact h1 q (List.mem_append_left _ h)
    · exact hy q h
theorem okS_bad {k : Nat} {qs : List PyData} {y : PyData} (h : nodeB y = false ∨ 20 ≤ k) : ¬ okS k (qs ++ [y]) := fun ⟨h1, h2⟩ => by
  have hy := h1 y (List.mem_append_right _ (List.mem_singleton.mpr rfl))
  rw [goodT_eq, Bool.and_eq_true] at hy
  have e1 : sumT (qs ++ [y]) ≥ 1 := by
    unfold sumT
    rw [List.map_append, List.sum_append, List.map_singleton, List.sum_singleton, numT_eq y]
    omega
  rcases h with h | h
  · rw [h] at hy; cases hy.1
  · omega
def spChkT (K : PySem.W.Frag) (cN : Addr) : Sp := fun vs H Q E => ∃ (v : V) (d : PyData), vs = [v] ∧ FD K H v d ∧ Tv 50 d ∧ (okT d → ∀ H', Same H H' → Q .non H') ∧ (¬ okT d → BadA cN 0 H E)
section
variable {P : Program} {w : World} {K : PySem.W.Frag} {mg : Str → Option Value} {base : Heap} {T cN fN : Addr}
theorem ok_chkT {f : Addr} {fd : FuncData} (F : Fun K "_check_nodes" "_check_nodes" t__check_nodes f fd) (C : ∃ t, mg "MOST_NODES" = some (.int 20 t)) {fN' : Addr} {fdN : FuncData} (gN : mg "_need" = some (.ref fN')) (kN : PySem.W.keepIn K (.ref fN') = true) (bN : Binds K fdN ["holds"] []) (GN : FnOk P w K mg base (L2.CX P w) 1 fN' fdN ["holds"] (spNeedX cN)) (Gi : Df P w K mg base 2 "_is_node" ["value"] (spNode K))
    (Gp : Df P w K mg base 1 "parts_of" ["node"] (spPartsT K)) : FnOk P w K mg base (L2.CX P w) 3 f fd ["program"] (spChkT K cN) := by
  obtain ⟨fI, fdI, gI, kI, bI, GI⟩ := Gi.ok
  obtain ⟨fP, fdP, gP, kP, bP, GP⟩ := Gp.ok
  refine F.okX scChkN (fun vs H Q E h => ?_) (fun cdv A outer s H vs Q E hr h => ?_)
  · obtain ⟨v, d, rfl, _⟩ := h
    rfl
  · obtain ⟨v, d, rfl, hf, ht, q1, q2⟩ := h
    have hr1 : Room 1 _ := hr.mono (by decide)
    have hr2 : Room 2 _ := hr.mono (by decide)
    obtain ⟨tm, hm⟩ := C
    have tk := takes_of (X := cxOf (L2.CX P w) P w K mg base chkN "_check_nodes" (defScope t__check_nodes) f cdv A outer s H E) (E := E) rfl rfl rfl rfl
    --BODYA
    refine ⟨_, pss_cons (ps_set (i := 1) scChkN.nd rfl (Or.inl rfl) (pe_lst (pa_cons (pv 0) pa_nil)))
      (pss_cons (ps_set (i := 2) scChkN.nd rfl (Or.inl rfl) pe_int)
      (pss_one (ps_while (passes_of rfl) (pt_truth (pv 1) (fun _ => rfl))
      (pss_cons (ps_set (i := 3) scChkN.nd rfl (Or.inl rfl) (pe_bm0 PySem.F.plainAttrs_list PySem.F.slot_list_pop PySem.F.type_list_pop mt_pop (pv 1)))
      (pss_cons (ps_aug (i := 2) scChkN.nd rfl (Or.inl rfl) pe_int ip_add)
      (pss_cons (ps_expr (pe_callS GN hr1 rfl gN kN bN (fun σ => passAt tk σ) (pa_cons (pe_and (pe_cmpR op_le (pv 2) (pe_glob (v := .int 20) (by rfl) hm ⟨_, rfl⟩) (nomark _)) (pe_one (pe_call GI hr2 rfl gI kI bI .nil pass0 (pa_cons (pv 3) pa_nil)))) pa_nil)))
      (pss_one (ps_expr (pe_bm PySem.F.plainAttrs_list PySem.F.slot_list_extend PySem.F.type_list_extend (MtR.or mt_extend (show MtR _ _ (Dw.rExtendT K) from Dw.mt_extendT)) (pv 1) (pa_cons (pe_call GP hr1 rfl gP kP bP .nil pass0 (pa_cons (pv 3) pa_nil)) pa_nil)))))))))), ?_⟩
    --END
    refine ⟨_, rfl, (by show 1 ≤ sizeLine; decide), fun W nW => ?_⟩
    dsimp only [tSeq, tAsg, tC, gName]
    refine while_by (fun σ H4 => ∃ (k : Nat) (nd : Option V) (xs : List V) (qs : List PyData), σ = [some v, some (.ref W), some (.int (k : Int)), nd] ∧ Same H H4 ∧ H4 W = some (.lst xs) ∧ Paired (FD K H) xs qs ∧ (∀ q ∈ qs, Tv 50 q) ∧ k ≤ 20 ∧ qs.length ≤ 100 * k + 1 ∧ (okS k qs ↔ okT d))
      (fun σ _ => 21 - kOf σ) ⟨0, none, [v], [d], rfl, sm_new sm_refl nW, upd_same, .cons hf .nil, fun q hq => by rw [List.mem_singleton.mp hq]; exact ht, by decide, Nat.le_refl 1, ?_⟩ ?_ ?_
    · unfold okS okT sumT
      simp
    · rintro σ H4 ⟨k, nd, xs, qs, rfl, s4, h4, pr, tq, k20, ql, iff⟩
      refine ⟨_, rfl, !xs.isEmpty, .inl ⟨xs, SqL.of h4, rfl⟩, ?_⟩
      by_cases e : xs = []
      · subst e
        cases pr
        exact iteF (q1 (iff.mp ⟨fun q hq => (nomatch hq), by simpa [sumT] using k20⟩) H4 s4)
      obtain ⟨x, y, qs', hx, rfl, hxy, pr'⟩ := paired_last pr e
      rw [show (!xs.isEmpty) = true by cases xs with | nil => exact absurd rfl e | cons _ _ => rfl]
      refine iteT ⟨_, rfl, .inl ⟨rfl, _, .inl (.inl h4)⟩, W, xs, x, rfl, rfl, h4, hx, ?_⟩
      have s5 : Same H (upd H4 W (.lst xs.dropLast)) := fun a o ho => by
        rw [upd_ne (ne_of_none ho nW)]
        exact s4 _ _ ho
      have h5 : upd H4 W (.lst xs.dropLast) W = some (.lst xs.dropLast) := upd_same
      generalize upd H4 W (.lst xs.dropLast) = H5 at s5 h5 ⊢
      refine ⟨_, rfl, _, _, rfl, rfl, ?_⟩
      refine ⟨_, rfl, _, _, rfl, rfl, _, rfl, ?_⟩
      have ty := tq y (List.mem_append_right _ (List.mem_singleton.mpr rfl))
      have bad : (nodeB y = false ∨ 20 ≤ k) → BadA cN 0 H E := fun h => q2 fun z => okS_bad h (iff.mpr z)
      refine ite2 (fun h => ?_) (fun h => ?_)
      · have h : ((k : Int) + 1) ≤ 20 := of_decide_eq_true h
        refine ⟨_, rfl, x, y, rfl, hxy.same s5, ty, fun H6 s6 => ⟨nodeB y, rfl, fun hb => ?_, fun hb => (bad (.inl hb)).same (s5.trans s6)⟩⟩
        have h6 := s6 _ _ h5
        refine ⟨_, rfl, .inl ⟨rfl, _, .inl (.inl h6)⟩, ?_⟩
        refine ⟨_, rfl, _, y, H, rfl, s5.trans s6, hxy, hb, fun a us H7 s7 hus pus => ?_⟩
        have h7 := s7 _ _ h6
        have s57 := (s5.trans s6).trans s7
        have nW' : ∀ o, Same H (upd H7 W o) := fun o a o' ho => by
          rw [upd_ne (ne_of_none ho nW)]
          exact s57 _ _ ho
        have l1 := Paired.length pr'
        have l2 := Paired.length pus
        have l3 : (partsT y).length ≤ 2 := by
          obtain ⟨z, r, k, l, rfl, hk, _⟩ := node_true hb
          obtain ⟨p, _, hp, _⟩ := kind_some hk
          have e : partsT (.tuple (.str z :: r)) = r.take k := by unfold partsT; simp only [hk]; rfl
          have : (partsP p).length ≤ 2 := by cases p <;> simp [partsP]
          rw [e, List.length_take]
          omega
        rw [List.length_append] at ql
        have ql : qs'.length + 1 ≤ 100 * k + 1 := ql
        have lz : xs.dropLast.length + us.length ≤ sizeLine := by
          rw [sizeLine_eq]
          omega
        have tp : ∀ q ∈ qs' ++ partsT y, Tv 50 q := fun q hq => by
          rcases List.mem_append.mp hq with hq | hq
          · exact tq q (List.mem_append_left _ hq)
          · obtain ⟨z, r, rfl, hr⟩ := part_mem hq
            exact ty.kids.2 q (List.mem_cons_of_mem _ hr)
        have fin : (∃ (k' : Nat) (nd : Option V) (xs' : List V) (qs : List PyData), [some v, some (V.ref W), some (.int ((k : Int) + 1)), some x] = [some v, some (.ref W), some (.int (k' : Int)), nd] ∧ Same H (upd H7 W (.lst (xs.dropLast ++ us))) ∧ upd H7 W (.lst (xs.dropLast ++ us)) W = some (.lst xs') ∧
            Paired (FD K H) xs' qs ∧ (∀ q ∈ qs, Tv 50 q) ∧ k' ≤ 20 ∧ qs.length ≤ 100 * k' + 1 ∧ (okS k' qs ↔ okT d)) ∧ 21 - kOf [some v, some (V.ref W), some (.int ((k : Int) + 1)), some x] < 21 - kOf [some v, some (.ref W), some (.int (k : Int)), nd] := by
          refine ⟨⟨k + 1, _, _, qs' ++ partsT y, rfl, nW' _, upd_same, paired_app pr' pus, tp, by omega, by rw [List.length_append]; omega, (okS_step hb).trans iff⟩, ?_⟩
          show 21 - ((k : Int) + 1).toNat < 21 - ((k : Int)).toNat
          omega
        rcases hus with h | h
        · exact .inl ⟨W, a, _, us, rfl, rfl, h7, h, lz, fin⟩
        · exact .inr ⟨W, a, _, us, rfl, rfl, h7, h, lz, fin⟩
      · have h : ¬ ((k : Int) + 1) ≤ 20 := by simpa using h
        exact ⟨false, rfl, (fun e => nomatch e), fun _ => (bad (.inr (by omega))).same s5⟩
    · exact fun σ H Q Q' hq ⟨v, e, k, t, q⟩ => ⟨v, e, k, t, hq _ _ q⟩
end
end K14


set_option Elab.async false
set_option linter.all false
set_option maxRecDepth 100000
set_option maxHeartbeats 8000000
namespace K14
open PySem L2 Nd Bk Gd PySem.ExE
/-! the width of what is handed in -/
def lenD : PyData → Nat
  | .tuple ds => ds.length
  | _ => 0
/-- a node's width, of its parts' widths and of what else it has -/
def widZ (W : Str → Option Nat) (z : Str) (ws : List (Option Nat)) (r : List PyData) : Option Nat :=
  if z = take_ then (match r with | .str n :: _ => W n | _ => none)
  else if z = join_ then (match ws, r with | [some a, some b], c :: _ => if prsB a b c = true ∧ a + b ≤ 6 then some (a + b) else none | _, _ => none)
  else if z = both_ then (match ws with | [some a, some b] => if a = b then some a else none | _ => none)
  else if z = keep_ then (match ws, r with | [some a], c :: _ => if cmpB a c = true then some a else none | _, _ => none)
  else if z = pick_ then (match ws, r with | [some a], c :: _ => if colsB a c = true then some (lenD c) else none | _, _ => none)
  else (match ws, r with | [some a], c :: _ => if mkgB a c = true ∧ a < 6 then some (a + 1) else none | _, _ => none)
def zOf : PyData → Str
  | .tuple (.str z :: _) => z
  | _ => Str.ofString ""
def restT : PyData → List PyData
  | .tuple (.str z :: r) => r.drop (((kindT z).map (·.1)).getD 0)
  | _ => []
def widT (W : Str → Option Nat) (d : PyData) : Option Nat := if nodeB d = true then widZ W (zOf d) ((partsT d).attach.map fun e => widT W e.1) (restT d) else none
termination_by sizeOf d
decreasing_by exact part_lt e.2
theorem widT_eq (W : Str → Option Nat) (d : PyData) : widT W d = if nodeB d = true then widZ W (zOf d) ((partsT d).map (widT W)) (restT d) else none := by
  rw [widT]
  congr 2
  rw [← List.attach_map_subtype_val (partsT d), List.map_map]
  simp
/-- the nodes there are -/
inductive NodeT : PyData → Prop
  | take (x : PyData) : NodeT (.tuple [.str take_, x])
  | keep (p c : PyData) : NodeT (.tuple [.str keep_, p, c])
  | pick (p c : PyData) : NodeT (.tuple [.str pick_, p, c])
  | make (p c : PyData) : NodeT (.tuple [.str make_, p, c])
  | both (p q : PyData) : NodeT (.tuple [.str both_, p, q])
  | join (p q c : PyData) : NodeT (.tuple [.str join_, p, q, c])
theorem len1 {α : Type} {r : List α} (h : r.length + 1 = 2) : ∃ a, r = [a] := by
  match r, h with
  | [a], _ => exact ⟨a, rfl⟩
theorem len2 {α : Type} {r : List α} (h : r.length + 1 = 3) : ∃ a b, r = [a, b] := by
  match r, h with
  | [a, b], _ => exact ⟨a, b, rfl⟩
theorem len3 {α : Type} {r : List α} (h : r.length + 1 = 4) : ∃ a b c, r = [a, b, c] := by
  match r, h with
  | [a, b, c], _ => exact ⟨a, b, c, rfl⟩
theorem node_of {d : PyData} (h : nodeB d = true) : NodeT d := by
  obtain ⟨z, r, k, l, rfl, hk, hl⟩ := node_true h
  unfold kindT at hk
  split at hk
  · cases hk; subst z; obtain ⟨a, rfl⟩ := len1 hl; exact .take a
  split at hk
  · cases hk; subst z; obtain ⟨a, b, rfl⟩ := len2 hl; exact .keep a b
  split at hk
  · cases hk; subst z; obtain ⟨a, b, rfl⟩ := len2 hl; exact .pick a b
  split at hk
  · cases hk; subst z; obtain ⟨a, b, rfl⟩ := len2 hl; exact .make a b
  split at hk
  · cases hk; subst z; obtain ⟨a, b, rfl⟩ := len2 hl; exact .both a b
  split at hk
  · cases hk; subst z; obtain ⟨a, b, c, rfl⟩ := len3 hl; exact .join a b c
  · cases hk
theorem parts_take (x : PyData) : partsT (.tuple [.str take_, x]) = [] := rfl
theorem k_keep : kindT keep_ = some (1, 3) := by decide +kernel
theorem k_pick : kindT pick_ = some (1, 3) := by decide +kernel
theorem k_make : kindT make_ = some (1, 3) := by decide +kernel
theorem k_both : kindT both_ = some (2, 3) := by decide +kernel
theorem k_join : kindT join_ = some (2, 4) := by decide +kernel
theorem k_take : kindT take_ = some (0, 2) := by decide +kernel
section
variable {W : Str → Option Nat} {p q c x : PyData}
theorem parts_keep : partsT (.tuple [.str keep_, p, c]) = [p] := by unfold partsT; simp only [k_keep]; rfl
theorem parts_pick : partsT (.tuple [.str pick_, p, c]) = [p] := by unfold partsT; simp only [k_pick]; rfl
theorem parts_make : partsT (.tuple [.str make_, p, c]) = [p] := by unfold partsT; simp only [k_make]; rfl
theorem parts_both : partsT (.tuple [.str both_, p, q]) = [p, q] := by unfold partsT; simp only [k_both]; rfl
theorem parts_join : partsT (.tuple [.str join_, p, q, c]) = [p, q] := by unfold partsT; simp only [k_join]; rfl
theorem nb_take : nodeB (.tuple [.str take_, x]) = true := by unfold nodeB; simp only [k_take]; rfl
theorem nb_keep : nodeB (.tuple [.str keep_, p, c]) = true := by unfold nodeB; simp only [k_keep]; rfl
theorem nb_pick : nodeB (.tuple [.str pick_, p, c]) = true := by unfold nodeB; simp only [k_pick]; rfl
theorem nb_make : nodeB (.tuple [.str make_, p, c]) = true := by unfold nodeB; simp only [k_make]; rfl
theorem nb_both : nodeB (.tuple [.str both_, p, c]) = true := by unfold nodeB; simp only [k_both]; rfl
theorem nb_join : nodeB (.tuple [.str join_, p, q, c]) = true := by unfold nodeB; simp only [k_join]; rfl
theorem wid_take : widT W (.tuple [.str take_, x]) = (match x with | .str n => W n | _ => none) := by
  rw [widT_eq, if_pos nb_take, show zOf (.tuple [.str take_, x]) = take_ from rfl, show restT (.tuple [.str take_, x]) = [x] from rfl]
  unfold widZ
  rw [if_pos rfl]
  cases x <;> rfl
theorem wid_keep : widT W (.tuple [.str keep_, p, c]) = (widT W p).bind fun a => if cmpB a c = true then some a else none := by
  rw [widT_eq, if_pos nb_keep, show zOf (.tuple [.str keep_, p, c]) = keep_ from rfl, parts_keep, show restT (.tuple [.str keep_, p, c]) = [c] by unfold restT; simp only [k_keep]; rfl]
  unfold widZ
  rw [if_neg (by decide +kernel), if_neg (by decide +kernel), if_neg (by decide +kernel), if_pos rfl]
  cases h1 : widT W p <;> simp only [List.map_cons, List.map_nil, h1] <;> rfl
theorem wid_pick : widT W (.tuple [.str pick_, p, c]) = (widT W p).bind fun a => if colsB a c = true then some (lenD c) else none := by
  rw [widT_eq, if_pos nb_pick, show zOf (.tuple [.str pick_, p, c]) = pick_ from rfl, parts_pick, show restT (.tuple [.str pick_, p, c]) = [c] by unfold restT; simp only [k_pick]; rfl]
  unfold widZ
  rw [if_neg (by decide +kernel), if_neg (by decide +kernel), if_neg (by decide +kernel), if_neg (by decide +kernel), if_pos rfl]
  cases h1 : widT W p <;> simp only [List.map_cons, List.map_nil, h1] <;> rfl
theorem wid_make : widT W (.tuple [.str make_, p, c]) = (widT W p).bind fun a => if mkgB a c = true ∧ a < 6 then some (a + 1) else none := by
  rw [widT_eq, if_pos nb_make, show zOf (.tuple [.str make_, p, c]) = make_ from rfl, parts_make, show restT (.tuple [.str make_, p, c]) = [c] by unfold restT; simp only [k_make]; rfl]
  unfold widZ
  rw [if_neg (by decide +kernel), if_neg (by decide +kernel), if_neg (by decide +kernel), if_neg (by decide +kernel), if_neg (by decide +kernel)]
  cases h1 : widT W p <;> simp only [List.map_cons, List.map_nil, h1] <;> rfl
theorem wid_both : widT W (.tuple [.str both_, p, q]) = (widT W p).bind fun a => (widT W q).bind fun b => if a = b then some a else none := by
  rw [widT_eq, if_pos nb_both, show zOf (.tuple [.str both_, p, q]) = both_ from rfl, parts_both]
  unfold widZ
  rw [if_neg (by decide +kernel), if_neg (by decide +kernel), if_pos rfl]
  cases h1 : widT W p <;> cases h2 : widT W q <;> simp only [List.map_cons, List.map_nil, h1, h2] <;> rfl
theorem wid_join : widT W (.tuple [.str join_, p, q, c]) = (widT W p).bind fun a => (widT W q).bind fun b => if prsB a b c = true ∧ a + b ≤ 6 then some (a + b) else none := by
  rw [widT_eq, if_pos nb_join, show zOf (.tuple [.str join_, p, q, c]) = join_ from rfl, parts_join, show restT (.tuple [.str join_, p, q, c]) = [c] by unfold restT; simp only [k_join]; rfl]
  unfold widZ
  rw [if_neg (by decide +kernel), if_pos rfl]
  cases h1 : widT W p <;> cases h2 : widT W q <;> simp only [List.map_cons, List.map_nil, h1, h2] <;> rfl
end
theorem parts_len {d : PyData} (hn : NodeT d) : (partsT d).length ≤ 2 := by
  cases hn with
  | take x => exact Nat.zero_le _
  | keep p c => rw [parts_keep]; exact Nat.le_succ 1
  | pick p c => rw [parts_pick]; exact Nat.le_succ 1
  | make p c => rw [parts_make]; exact Nat.le_succ 1
  | both p q => rw [parts_both]; exact Nat.le_refl 2
  | join p q c => rw [parts_join]; exact Nat.le_refl 2
/-- a part without a width: the whole without one -/
theorem wid_part {W : Str → Option Nat} {d e : PyData} (hn : NodeT d) (he : e ∈ partsT d) (h : widT W e = none) : widT W d = none := by
  cases hn with
  | take x => cases he
  | keep p c => rw [parts_keep, List.mem_singleton] at he; subst he; rw [wid_keep, h]; rfl
  | pick p c => rw [parts_pick, List.mem_singleton] at he; subst he; rw [wid_pick, h]; rfl
  | make p c => rw [parts_make, List.mem_singleton] at he; subst he; rw [wid_make, h]; rfl
  | both p q =>
    rw [parts_both] at he
    simp only [List.mem_cons, List.not_mem_nil, or_false] at he
    rw [wid_both]
    rcases he with rfl | rfl
    · rw [h]; rfl
    · cases widT W p with
      | none => rfl
      | some a => rw [h]; rfl
  | join p q c =>
    rw [parts_join] at he
    simp only [List.mem_cons, List.not_mem_nil, or_false] at he
    rw [wid_join]
    rcases he with rfl | rfl
    · rw [h]; rfl
    · cases widT W p with
      | none => rfl
      | some a => rw [h]; rfl
def spWidT (K : PySem.W.Frag) (cN : Addr) (n : Nat) : Sp := fun vs H Q E => ∃ (v : V) (d : PyData) (D : Addr) (W : Str → Option Nat), vs = [v, .ref D] ∧ WidAt H D W ∧ FD K H v d ∧ Tv n d ∧ n ≤ 50 ∧ goodT d = true ∧
  (∀ k, widT W d = some k → ∀ H', Same H H' → Q (.int (k : Int)) H') ∧ (widT W d = none → BadA cN 0 H E)
section
variable {P : Program} {w : World} {K : PySem.W.Frag} {mg : Str → Option Value} {base : Heap} {T cN fN : Addr}
theorem ok_widT {f : Addr} {fd : FuncData} (F : Fun K "_width" "_width" t__width f fd) (b : Binds K fd ["node", "widths"] []) (g : mg "_width" = some (.ref f)) (kp : PySem.W.keepIn K (.ref f) = true) (N : Nm mg) (C : ∃ t, mg "MOST_CELLS" = some (.int 6 t)) {fN' : Addr} {fdN : FuncData} (gN : mg "_need" = some (.ref fN')) (kN : PySem.W.keepIn K (.ref fN') = true) (bN : Binds K fdN ["holds"] []) (GN : FnOk P w K mg base (L2.CX P w) 1 fN' fdN ["holds"] (spNeedX cN))
    (Gp : Df P w K mg base 1 "parts_of" ["node"] (spPartsT K)) (Gj : Df P w K mg base 3 "_are_pairs" ["value", "width", "other"] (spPrs K)) (Gc : Df P w K mg base 3 "_are_columns" ["value", "width"] (spChk K colsB)) (Gk : Df P w K mg base 5 "_is_comparison" ["value", "width"] (spChk K cmpB)) (Gm : Df P w K mg base 5 "_is_making" ["value", "width"] (spChk K mkgB)) :
    ∀ n : Nat, FnOk P w K mg base (L2.CX P w) (n + 6) f fd ["node", "widths"] (spWidT K cN n) := by
  obtain ⟨fP, fdP, gP, kP, bP, GP⟩ := Gp.ok
  obtain ⟨fJ, fdJ, gJ, kJ, bJ, GJ⟩ := Gj.ok
  obtain ⟨fC, fdC, gC, kC, bC, GC⟩ := Gc.ok
  obtain ⟨fK, fdK, gK, kK, bK, GK⟩ := Gk.ok
  obtain ⟨fM, fdM, gM, kM, bM, GM⟩ := Gm.ok
  intro n
  induction n with
  | zero =>
    have no : ∀ {vs H Q E}, spWidT K cN 0 vs H Q E → False := fun h => by
      obtain ⟨v, d, D, W, _, _, _, ht, _, hg, _⟩ := h
      rw [goodT_eq, Bool.and_eq_true] at hg
      obtain ⟨z, r, k, l, rfl, _⟩ := node_true hg.1
      rcases ht with ⟨_, h⟩ | ⟨_, h, _⟩ | h <;> cases h
    exact ⟨fun _ _ _ _ h => (no h).elim, fun _ _ _ _ _ _ _ _ _ _ _ _ _ h => (no h).elim⟩
  | succ n ih =>
    refine F.okX scWid (fun vs H Q E h => ?_) (fun cdv A outer s H vs Q E hr h => ?_)
    · obtain ⟨v, d, D, W, rfl, _⟩ := h
      rfl
    · obtain ⟨v, d, D, W, rfl, hW, hf, ht, n50, hg, q1, q2⟩ := h
      have hr1 : Room 1 _ := hr.mono (by omega)
      have hr3 : Room 3 _ := hr.mono (by omega)
      have hr5 : Room 5 _ := hr.mono (by omega)
      obtain ⟨tm, hm⟩ := C
      have tk := takes_of (X := cxOf (L2.CX P w) P w K mg base widN "_width" (defScope t__width) f cdv A outer s H E) (E := E) rfl rfl rfl rfl
      --BODYA
      refine ⟨_, pss_cons (ps_set (i := 2) scWid.nd rfl (Or.inl rfl) (pe_ix (show IxR _ (rIx K) from ix_seq) (pv 0) pe_int (fun _ _ => rfl)))
      (pss_cons (ps_if (pt_cmpR op_eq (pv 2) pe_str (nomark _)) (pss_cons (ps_expr (pe_callS GN hr1 rfl gN kN bN (fun σ => passAt tk σ) (pa_cons (pe_and (pe_callB (show CallR _ _ (rIsi K) from call_isi) (by rfl) N.isi (by decide +kernel) (pa_cons (pe_ix (show IxR _ (rIx K) from ix_seq) (pv 0) pe_int (fun _ _ => rfl)) (pa_cons (pe_bltn (v := .ty "str") (by rfl) N.str (by decide +kernel) rfl) pa_nil))) (pe_one (pe_cmp (pc_din (u1 hr) (pe_ix (show IxR _ (rIx K) from ix_seq) (pv 0) pe_int (fun _ _ => rfl)) (pv 1))))) pa_nil)))
      (pss_one (ps_ret (pe_dget (u1 hr) (pv 1) (pe_ix (show IxR _ (rIx K) from ix_seq) (pv 0) pe_int (fun _ _ => rfl)) (fun _ _ => rfl))))) pss_nil)
      (pss_cons (L2.ps_setLcX (i := 4) (own := [("part", 3)]) (g := gName 3) rfl scWid.nd rfl rfl (sw_true rfl rfl rfl (by decide +kernel)) (show PI _ _ _ (iAny K _) from pi_any (pe_call GP hr1 rfl gP kP bP .nil pass0 (pa_cons (pv 0) pa_nil))) (blkOk_by (N := widN) (sc := defScope t__width) (by decide +kernel)) rfl rfl rfl rfl
          (fun _ _ _ _ _ _ => (pg_name (i := 3) scWid.nd rfl (Or.inl rfl))) (fun _ _ _ _ _ _ tk => (pe_callS ih hr rfl g kp b (fun σ => passAt tk σ) (pa_cons (pv 3) (pa_cons (pv 1) pa_nil)))))
      (pss_cons (ps_if (pt_cmpR op_eq (pv 2) pe_str (nomark _)) (pss_cons (ps_expr (pe_callS GN hr1 rfl gN kN bN (fun σ => passAt tk σ) (pa_cons (pe_and (pe_call GJ hr3 rfl gJ kJ bJ .nil pass0 (pa_cons (pe_ix (show IxR _ (rIx K) from ix_seq) (pv 0) pe_int (fun _ _ => rfl)) (pa_cons (pe_ix (show IxR _ (rIx K) from ix_seq) (pv 4) pe_int (fun _ _ => rfl)) (pa_cons (pe_ix (show IxR _ (rIx K) from ix_seq) (pv 4) pe_int (fun _ _ => rfl)) pa_nil)))) (pe_one (pe_cmpR op_le (pe_op op_add (pe_ix (show IxR _ (rIx K) from ix_seq) (pv 4) pe_int (fun _ _ => rfl)) (pe_ix (show IxR _ (rIx K) from ix_seq) (pv 4) pe_int (fun _ _ => rfl))) (pe_glob (v := .int 6) (by rfl) hm ⟨_, rfl⟩) (nomark _)))) pa_nil)))
      (pss_one (ps_ret (pe_op op_add (pe_ix (show IxR _ (rIx K) from ix_seq) (pv 4) pe_int (fun _ _ => rfl)) (pe_ix (show IxR _ (rIx K) from ix_seq) (pv 4) pe_int (fun _ _ => rfl)))))) pss_nil)
      (pss_cons (ps_if (pt_cmpR op_eq (pv 2) pe_str (nomark _)) (pss_cons (ps_expr (pe_callS GN hr1 rfl gN kN bN (fun σ => passAt tk σ) (pa_cons (pe_cmpR op_eq (pe_ix (show IxR _ (rIx K) from ix_seq) (pv 4) pe_int (fun _ _ => rfl)) (pe_ix (show IxR _ (rIx K) from ix_seq) (pv 4) pe_int (fun _ _ => rfl)) (nomark _)) pa_nil)))
      (pss_one (ps_ret (pe_ix (show IxR _ (rIx K) from ix_seq) (pv 4) pe_int (fun _ _ => rfl))))) pss_nil)
      (pss_cons (ps_if (pt_cmpR op_eq (pv 2) pe_str (nomark _)) (pss_cons (ps_expr (pe_callS GN hr1 rfl gN kN bN (fun σ => passAt tk σ) (pa_cons (pe_call GK hr5 rfl gK kK bK .nil pass0 (pa_cons (pe_ix (show IxR _ (rIx K) from ix_seq) (pv 0) pe_int (fun _ _ => rfl)) (pa_cons (pe_ix (show IxR _ (rIx K) from ix_seq) (pv 4) pe_int (fun _ _ => rfl)) pa_nil))) pa_nil)))
      (pss_one (ps_ret (pe_ix (show IxR _ (rIx K) from ix_seq) (pv 4) pe_int (fun _ _ => rfl))))) pss_nil)
      (pss_cons (ps_if (pt_cmpR op_eq (pv 2) pe_str (nomark _)) (pss_cons (ps_expr (pe_callS GN hr1 rfl gN kN bN (fun σ => passAt tk σ) (pa_cons (pe_call GC hr3 rfl gC kC bC .nil pass0 (pa_cons (pe_ix (show IxR _ (rIx K) from ix_seq) (pv 0) pe_int (fun _ _ => rfl)) (pa_cons (pe_ix (show IxR _ (rIx K) from ix_seq) (pv 4) pe_int (fun _ _ => rfl)) pa_nil))) pa_nil)))
      (pss_one (ps_ret (pe_callB (show CallR _ _ (rLenQ K) from call_len_seq) (by rfl) N.len PySem.boot_len (pa_cons (pe_ix (show IxR _ (rIx K) from ix_seq) (pv 0) pe_int (fun _ _ => rfl)) pa_nil))))) pss_nil)
      (pss_cons (ps_expr (pe_callS GN hr1 rfl gN kN bN (fun σ => passAt tk σ) (pa_cons (pe_and (pe_call GM hr5 rfl gM kM bM .nil pass0 (pa_cons (pe_ix (show IxR _ (rIx K) from ix_seq) (pv 0) pe_int (fun _ _ => rfl)) (pa_cons (pe_ix (show IxR _ (rIx K) from ix_seq) (pv 4) pe_int (fun _ _ => rfl)) pa_nil))) (pe_one (pe_cmpR op_lt (pe_ix (show IxR _ (rIx K) from ix_seq) (pv 4) pe_int (fun _ _ => rfl)) (pe_glob (v := .int 6) (by rfl) hm ⟨_, rfl⟩) (nomark _)))) pa_nil)))
      (pss_one (ps_ret (pe_op op_add (pe_ix (show IxR _ (rIx K) from ix_seq) (pv 4) pe_int (fun _ _ => rfl)) pe_int)))))))))), ?_⟩
      --END
      rw [goodT_eq, Bool.and_eq_true, List.all_eq_true] at hg
      obtain ⟨hn, hgp⟩ := hg
      have nt := node_of hn
      obtain ⟨z, r, kk, l, ed, hk, hl⟩ := node_true hn
      have hf0 := hf
      rw [ed] at hf
      obtain ⟨a, xs, rfl, hs, hxl, hgt⟩ := fd_at hf
      obtain ⟨u0, e0, f0⟩ := hgt 0 _ rfl
      cases fd_str f0
      refine ⟨_, rfl, pick hs 0 e0 _ ?_⟩
      refine ⟨_, rfl, rfl, _, rfl, ite2 (fun h => ?_) (fun h => ?_)⟩
      · have ez : z = take_ := V.str.inj (of_decide_eq_true h)
        subst ez
        rw [k_take] at hk
        cases hk
        obtain ⟨x, rfl⟩ := len1 hl
        subst ed
        obtain ⟨u1, e1, f1⟩ := hgt 1 x rfl
        have t1 := ht.kid.2 x (List.mem_cons_of_mem _ List.mem_cons_self)
        obtain ⟨k, kd, _, k2, _⟩ := fd_kd f1 t1
        rw [wid_take] at q1 q2
        refine ⟨_, rfl, pick hs 1 e1 _ ?_⟩
        dsimp only [tCons, tNil, tC]
        refine isi_str kd ⟨_, rfl, ite2 (fun hstr => ?_) (fun hstr => ?_)⟩
        · obtain ⟨zz, rfl⟩ := k2.mp (of_decide_eq_true hstr)
          cases fd_str f1
          obtain ⟨kvs, hD, hV⟩ := hW
          have hV := hV zz
          have hg0 : DGet H D (.str zz) (valV kvs (.inr zz)) := DGet.k (k := Sum.inr zz) hD
          cases hw : W zz with
          | none =>
            rw [hw] at hV
            rw [hV] at hg0
            exact ⟨_, rfl, pick hs 1 e1 _ ⟨_, rfl, D, _, rfl, hg0, ⟨_, rfl, (fun e => nomatch e), fun _ => q2 hw⟩⟩⟩
          | some m =>
            rw [hw] at hV
            rw [hV] at hg0
            exact ⟨_, rfl, pick hs 1 e1 _ ⟨_, rfl, D, _, rfl, hg0, ⟨_, rfl, fun _ => ⟨_, rfl, _, rfl, pick hs 1 e1 _ ⟨D, _, rfl, hg0, q1 m hw H sm_refl⟩⟩, (fun e => nomatch e)⟩⟩⟩
        · have hstr : ¬ k = "str" := by simpa using hstr
          refine ⟨_, rfl, (fun e => nomatch e), fun _ => q2 ?_⟩
          cases x with
          | str zz => exact absurd (k2.mpr ⟨zz, rfl⟩) hstr
          | _ => rfl
      · have hz : z ≠ take_ := fun e => h (decide_eq_true (by rw [e]; rfl))
        refine ⟨_, rfl, _, _, H, rfl, sm_refl, hf0, hn, fun L ls H1 s1 hL pL => ?_⟩
        have hL' : SqL K H1 L ls ∨ SqT K H1 L ls := hL.imp SqL.of id
        refine any_go hL' fun J G walk hG R nR => ?_
        have lls : ls.length = (partsT d).length := Paired.length pL
        have l2 : (partsT d).length ≤ 2 := parts_len nt
        refine lcx_it walk (fun i H2 => Same H1 H2 ∧ ∃ ms : List Nat, H2 R = some (.lst (ms.map fun m => V.int (m : Nat))) ∧ ((partsT d).take i).map (widT W) = ms.map some) ⟨sm_new sm_refl nR, [], upd_same, rfl⟩ (fun i H2 _ ⟨s2, _⟩ => hG H2 s2.seq (sqT_same s2)) ?_ ?_
        · rintro i x _ H2 hi ⟨s2, ms, hR, hms⟩ ⟨rfl, hx⟩
          obtain ⟨y, hy, fy⟩ := paired_get pL hx
          have ym : y ∈ partsT d := List.mem_of_getElem? hy
          obtain ⟨_, _, ed2, yr⟩ := part_mem ym
          have ty : Tv n y := by
            rw [ed2] at ht
            exact ht.kid.2 y (List.mem_cons_of_mem _ yr)
          have s12 := s1.trans s2
          refine ⟨rfl, _, rfl, _, rfl, x, y, D, W, rfl, hW.same s12, fy.same s12, ty, by omega, hgp y ym, fun m hm' H3 s3 => ?_, fun hno => (q2 (wid_part nt ym hno)).same s12⟩
          refine ⟨_, s3 _ _ hR, ?_, sm_new (s2.trans s3) nR, ms ++ [m], ?_, ?_⟩
          · have : ms.length ≤ i := by
              have := congrArg List.length hms
              rw [List.length_map, List.length_map, List.length_take] at this
              omega
            rw [List.length_map, sizeLine_eq]
            omega
          · rw [upd_same, List.map_append]; rfl
          · rw [List.take_succ, hy, List.map_append, List.map_append, hms]
            simp [hm']
        · rintro H2 ⟨s2, ms, hR, hms⟩
          rw [lls, List.take_length] at hms
          have hs2 := sq_go (s1.trans s2) hs
          have hRl : SqL K H2 R (ms.map fun m => V.int (m : Nat)) ∨ SqT K H2 R (ms.map fun m => V.int (m : Nat)) := .inl (SqL.of hR)
          have s12 := s1.trans s2
          have one : ∀ {q0 : PyData}, partsT d = [q0] → ∃ m, ms = [m] ∧ widT W q0 = some m := fun {q0} e => by
            rw [e] at hms
            cases ms with
            | nil => simp at hms
            | cons m ms =>
              cases ms with
              | nil => simp only [List.map_cons, List.map_nil, List.cons.injEq, and_true] at hms; exact ⟨m, rfl, hms⟩
              | cons _ _ => simp at hms
          have two : ∀ {q0 q1 : PyData}, partsT d = [q0, q1] → ∃ m k, ms = [m, k] ∧ widT W q0 = some m ∧ widT W q1 = some k := fun {q0 q1} e => by
            rw [e] at hms
            cases ms with
            | nil => simp at hms
            | cons m ms =>
              cases ms with
              | nil => simp at hms
              | cons k ms =>
                cases ms with
                | nil => simp only [List.map_cons, List.map_nil, List.cons.injEq, and_true] at hms; exact ⟨m, k, rfl, hms.1, hms.2⟩
                | cons _ _ => simp at hms
          have q1' : ∀ k, widT W d = some k → ∀ H', Same H2 H' → Q (.int (k : Int)) H' := fun k hk H' s' => q1 k hk H' (s12.trans s')
          have q2' : ∀ H', Same H2 H' → widT W d = none → BadA cN 0 H' E := fun H' s' hk => (q2 hk).same (s12.trans s')
          clear q1 q2 hms
          cases nt with
          | take x => cases ed; exact absurd rfl hz
          | keep p c =>
            cases ed
            obtain ⟨m, rfl, hm0⟩ := one parts_keep
            obtain ⟨x, hx, fx⟩ := hgt 2 c rfl
            have tc := ht.kids.2 c (List.mem_cons_of_mem _ (List.mem_cons_of_mem _ List.mem_cons_self))
            rw [wid_keep, hm0, Option.bind_some] at q1' q2'
            refine ⟨_, rfl, rfl, _, rfl, ?_⟩
            rw [show decide (V.str keep_ = V.str (Str.ofString "join")) = false from knd_f (by decide +kernel)]
            refine iteF ⟨_, rfl, rfl, _, rfl, ?_⟩
            rw [show decide (V.str keep_ = V.str (Str.ofString "both")) = false from knd_f (by decide +kernel)]
            refine iteF ⟨_, rfl, rfl, _, rfl, ?_⟩
            rw [show decide (V.str keep_ = V.str (Str.ofString "keep")) = true from knd_t _]
            refine iteT ⟨_, rfl, pick hs2 2 hx _ ⟨_, rfl, pick hRl 0 rfl _ ⟨x, c, m, rfl, fx.same s12, tc.le n50, fun H3 s3 => ⟨_, rfl, fun hb => ?_, fun hb => ?_⟩⟩⟩⟩
            · rw [if_pos hb] at q1'
              exact ⟨_, rfl, pick (sq_go s3 hRl) 0 rfl _ (q1' m rfl H3 s3)⟩
            · rw [if_neg (by rw [hb]; decide)] at q2'
              exact q2' H3 s3 rfl
          | pick p c =>
            cases ed
            obtain ⟨m, rfl, hm0⟩ := one parts_pick
            obtain ⟨x, hx, fx⟩ := hgt 2 c rfl
            have tc := ht.kids.2 c (List.mem_cons_of_mem _ (List.mem_cons_of_mem _ List.mem_cons_self))
            rw [wid_pick, hm0, Option.bind_some] at q1' q2'
            refine ⟨_, rfl, rfl, _, rfl, ?_⟩
            rw [show decide (V.str pick_ = V.str (Str.ofString "join")) = false from knd_f (by decide +kernel)]
            refine iteF ⟨_, rfl, rfl, _, rfl, ?_⟩
            rw [show decide (V.str pick_ = V.str (Str.ofString "both")) = false from knd_f (by decide +kernel)]
            refine iteF ⟨_, rfl, rfl, _, rfl, ?_⟩
            rw [show decide (V.str pick_ = V.str (Str.ofString "keep")) = false from knd_f (by decide +kernel)]
            refine iteF ⟨_, rfl, rfl, _, rfl, ?_⟩
            rw [show decide (V.str pick_ = V.str (Str.ofString "pick")) = true from knd_t _]
            refine iteT ⟨_, rfl, pick hs2 2 hx _ ⟨_, rfl, pick hRl 0 rfl _ ⟨x, c, m, rfl, fx.same s12, tc.le n50, fun H3 s3 => ⟨_, rfl, fun hb => ?_, fun hb => ?_⟩⟩⟩⟩
            · rw [if_pos hb] at q1'
              have q' := q1' _ rfl H3 s3
              cases c with
              | tuple ds =>
                obtain ⟨c0, zs, rfl, hc, hcl, _⟩ := fd_seq (fx.same (s12.trans s3))
                rw [show lenD (.tuple ds) = zs.length from hcl.symm] at q'
                exact ⟨_, rfl, pick (sq_go s3 hs2) 2 hx _ ⟨c0, zs, rfl, hc, q'⟩⟩
              | _ => cases hb
            · rw [if_neg (by rw [hb]; decide)] at q2'
              exact q2' H3 s3 rfl
          | make p c =>
            cases ed
            obtain ⟨m, rfl, hm0⟩ := one parts_make
            obtain ⟨x, hx, fx⟩ := hgt 2 c rfl
            have tc := ht.kids.2 c (List.mem_cons_of_mem _ (List.mem_cons_of_mem _ List.mem_cons_self))
            rw [wid_make, hm0, Option.bind_some] at q1' q2'
            refine ⟨_, rfl, rfl, _, rfl, ?_⟩
            rw [show decide (V.str make_ = V.str (Str.ofString "join")) = false from knd_f (by decide +kernel)]
            refine iteF ⟨_, rfl, rfl, _, rfl, ?_⟩
            rw [show decide (V.str make_ = V.str (Str.ofString "both")) = false from knd_f (by decide +kernel)]
            refine iteF ⟨_, rfl, rfl, _, rfl, ?_⟩
            rw [show decide (V.str make_ = V.str (Str.ofString "keep")) = false from knd_f (by decide +kernel)]
            refine iteF ⟨_, rfl, rfl, _, rfl, ?_⟩
            rw [show decide (V.str make_ = V.str (Str.ofString "pick")) = false from knd_f (by decide +kernel)]
            refine iteF ⟨_, rfl, pick hs2 2 hx _ ⟨_, rfl, pick hRl 0 rfl _ ⟨x, c, m, rfl, fx.same s12, tc.le n50, fun H3 s3 => ⟨_, rfl, ?_⟩⟩⟩⟩
            have hR3 := sq_go s3 hRl
            refine ite2 (fun hb => ?_) (fun hb => ?_)
            · refine ⟨_, rfl, pick hR3 0 rfl _ ⟨_, _, rfl, rfl, _, rfl, fun hc => ?_, fun hc => ?_⟩⟩
              · have hc : m < 6 := by have := of_decide_eq_true hc; omega
                rw [if_pos ⟨hb, hc⟩] at q1'
                have q' := q1' _ rfl H3 s3
                rw [show (((m + 1 : Nat) : Nat) : Int) = (m : Int) + 1 by omega] at q'
                exact ⟨_, rfl, pick hR3 0 rfl _ ⟨_, _, rfl, rfl, q'⟩⟩
              · have hc : ¬ m < 6 := by have := of_decide_eq_false hc; omega
                rw [if_neg (fun z => hc z.2)] at q2'
                exact q2' H3 s3 rfl
            · rw [if_neg (fun z => hb z.1)] at q2'
              exact ⟨false, rfl, (fun e => nomatch e), fun _ => q2' H3 s3 rfl⟩
          | both p c =>
            cases ed
            obtain ⟨m, k, rfl, hm0, hm1⟩ := two parts_both
            rw [wid_both, hm0, hm1, Option.bind_some, Option.bind_some] at q1' q2'
            refine ⟨_, rfl, rfl, _, rfl, ?_⟩
            rw [show decide (V.str both_ = V.str (Str.ofString "join")) = false from knd_f (by decide +kernel)]
            refine iteF ⟨_, rfl, rfl, _, rfl, ?_⟩
            rw [show decide (V.str both_ = V.str (Str.ofString "both")) = true from knd_t _]
            refine iteT ⟨_, rfl, pick hRl 0 rfl _ ⟨_, rfl, pick hRl 1 rfl _ ⟨rfl, _, rfl, fun hb => ?_, fun hb => ?_⟩⟩⟩
            · have hb : m = k := by have := V.int.inj (of_decide_eq_true hb); omega
              rw [if_pos hb] at q1'
              exact ⟨_, rfl, pick hRl 0 rfl _ (q1' m rfl H2 sm_refl)⟩
            · have hb : ¬ m = k := fun e => by have := of_decide_eq_false hb; exact this (by rw [e])
              rw [if_neg hb] at q2'
              exact q2' H2 sm_refl rfl
          | join p q c =>
            cases ed
            obtain ⟨m, k, rfl, hm0, hm1⟩ := two parts_join
            obtain ⟨x, hx, fx⟩ := hgt 3 c rfl
            have tc := ht.kids.2 c (List.mem_cons_of_mem _ (List.mem_cons_of_mem _ (List.mem_cons_of_mem _ List.mem_cons_self)))
            rw [wid_join, hm0, hm1, Option.bind_some, Option.bind_some] at q1' q2'
            refine ⟨_, rfl, rfl, _, rfl, ?_⟩
            rw [show decide (V.str join_ = V.str (Str.ofString "join")) = true from knd_t _]
            refine iteT ⟨_, rfl, pick hs2 3 hx _ ⟨_, rfl, pick hRl 0 rfl _ ⟨_, rfl, pick hRl 1 rfl _ ⟨x, c, m, k, rfl, fx.same s12, tc.le n50, fun H3 s3 => ⟨_, rfl, ?_⟩⟩⟩⟩⟩
            have hR3 := sq_go s3 hRl
            refine ite2 (fun hb => ?_) (fun hb => ?_)
            · refine ⟨_, rfl, pick hR3 0 rfl _ ⟨_, rfl, pick hR3 1 rfl _ ⟨_, _, rfl, rfl, _, _, rfl, rfl, _, rfl, fun hc => ?_, fun hc => ?_⟩⟩⟩
              · have hc : m + k ≤ 6 := by have := of_decide_eq_true hc; omega
                rw [if_pos ⟨hb, hc⟩] at q1'
                have q' := q1' _ rfl H3 s3
                rw [show (((m + k : Nat) : Nat) : Int) = (m : Int) + (k : Int) by omega] at q'
                exact ⟨_, rfl, pick hR3 0 rfl _ ⟨_, rfl, pick hR3 1 rfl _ ⟨_, _, rfl, rfl, q'⟩⟩⟩
              · have hc : ¬ m + k ≤ 6 := by have := of_decide_eq_false hc; omega
                rw [if_neg (fun z => hc z.2)] at q2'
                exact q2' H3 s3 rfl
            · rw [if_neg (fun z => hb z.1)] at q2'
              exact ⟨false, rfl, (fun e => nomatch e), fun _ => q2' H3 s3 rfl⟩
end
end K14


set_option Elab.async false
set_option linter.all false
set_option maxRecDepth 100000
/-! one sign within the alphabet -/
namespace Abc
open PySem PySem.Builtin.Str
def abc : Str := Str.ofString "abcdefghijklmnopqrstuvwxyz"
theorem cut1 : ∀ i < 26, abc.cps.extract i (i + 1) = #[97 + i] := by decide +kernel
theorem in1 : ∀ k < 26, (occurrences abc ⟨#[97 + k]⟩ 0 abc.length 1).isEmpty = false := by decide +kernel
theorem abc_len : abc.length = 26 := by decide +kernel
theorem abc_in (c : Nat) : (!(!(occurrences abc ⟨#[c]⟩ 0 abc.length 1).isEmpty)) = !(decide (97 ≤ c) && decide (c ≤ 122)) := by
  by_cases h : 97 ≤ c ∧ c ≤ 122
  · have := in1 (c - 97) (by omega)
    rw [show 97 + (c - 97) = c by omega] at this
    rw [this, decide_eq_true h.1, decide_eq_true h.2]
    rfl
  · rw [PySem.W.occ_nil_of_no abc ⟨#[c]⟩ 1 fun i hi => ?_]
    · rw [← Bool.decide_and, decide_eq_false h]
      rfl
    · have hi : i + 1 ≤ abc.length := hi
      rw [abc_len] at hi
      show (abc.cps.extract i (i + 1) == #[c]) = false
      rw [cut1 i (by omega)]
      rw [beq_eq_false_iff_ne]
      intro e
      have : 97 + i = c := by simpa using e
      omega
end Abc


set_option Elab.async false
set_option linter.all false
set_option maxRecDepth 100000
set_option maxHeartbeats 8000000
namespace K14
open PySem L2 Nd Bk Gd PySem.ExE
/-! width_of; the law's own checks -/
abbrev t__law_is_integer : Stmt := topS 40
abbrev t__law_is_word : Stmt := topS 41
abbrev t__law_is_cell : Stmt := topS 42
abbrev t__law_is_row : Stmt := topS 43
abbrev t__law_is_column : Stmt := topS 44
abbrev t__law_is_side : Stmt := topS 45
abbrev t__law_nodes : Stmt := topS 46
abbrev t__law_width : Stmt := topS 47
abbrev t__law_part : Stmt := topS 48
abbrev t__law_wrapped : Stmt := topS 49
abbrev t__law_asked : Stmt := topS 50
abbrev t__law_right : Stmt := topS 51
abbrev t_law : Stmt := topS 52
def spWidOfT (K : PySem.W.Frag) (cN : Addr) : Sp := fun vs H Q E => ∃ (v u : V) (d : PyData) (ws : List (Str × Nat)), vs = [v, u] ∧ FD K H v d ∧ Tv 50 d ∧ WidsAt K H u ws ∧ (ws.map (·.1)).Nodup ∧
  (∀ k, okT d → widT (wof ws) d = some k → ∀ H', Same H H' → Q (.int (k : Int)) H') ∧ ((¬ okT d ∨ widT (wof ws) d = none) → BadA cN 0 H E)
def isI : PyData → Bool
  | .int _ => true
  | _ => false
def isW : PyData → Bool
  | .str z => wordB z
  | _ => false
def spLI (K : PySem.W.Frag) (f : PyData → Bool) : Sp := fun vs H Q _ => ∃ (v : V) (d : PyData), vs = [v] ∧ FD K H v d ∧ Tv 50 d ∧ ∀ H', Same H H' → Q (.bl (f d)) H'
theorem isq_go {K : PySem.W.Frag} {H : Hp} {v : V} {t : String} {p : Addr} {Q : VK} (hk : Kd K H v t) (h : H p = some (.tup [.ty "tuple", .ty "list"])) (q : Q (.bl (decide (t = "tuple" ∨ t = "list"))) H) : rIsiT K [v, .ref p] H Q := by
  have tT : TyX K H v (.type t) := hk.ty
  cases hk with
  | tup h' => exact ⟨_, p, _, _, _, true, rfl, h, .cons (.ty _) (.cons (.ty _) .nil), tT, kitAny_cons (b := true) (kit_ty (by decide +kernel)) (fun z => nomatch z) (fun _ => rfl), q⟩
  | lst h' => exact ⟨_, p, _, _, _, true, rfl, h, .cons (.ty _) (.cons (.ty _) .nil), tT, kitAny_cons (b := false) (kit_ty (by decide +kernel)) (fun _ => kitAny_cons (b := true) (kit_ty (by decide +kernel)) (fun z => nomatch z) fun _ => rfl) (fun z => nomatch z), q⟩
  | _ => exact ⟨_, p, _, _, _, false, rfl, h, .cons (.ty _) (.cons (.ty _) .nil), tT, kitAny2 (by decide +kernel) (by decide +kernel), q⟩
section
variable {P : Program} {w : World} {K : PySem.W.Frag} {mg : Str → Option Value} {base : Heap} {T cN fN : Addr}
theorem scLInt : FnScope ["value"] ["value"] (defScope t__law_is_integer) := ⟨rfl, rfl, rfl, by decide +kernel, rfl, by decide +kernel, by decide +kernel⟩
abbrev lwoN : List Str := ["value", "sign"]
theorem scLWo : FnScope lwoN ["value"] (defScope t__law_is_word) := ⟨rfl, rfl, rfl, by decide +kernel, rfl, by decide +kernel, by decide +kernel⟩
theorem scLCl : FnScope ["value"] ["value"] (defScope t__law_is_cell) := ⟨rfl, rfl, rfl, by decide +kernel, rfl, by decide +kernel, by decide +kernel⟩
theorem scLRo : FnScope ["value", "many"] ["value", "many"] (defScope t__law_is_row) := ⟨rfl, rfl, rfl, by decide +kernel, rfl, by decide +kernel, by decide +kernel⟩
theorem scLCo : FnScope ["value", "width"] ["value", "width"] (defScope t__law_is_column) := ⟨rfl, rfl, rfl, by decide +kernel, rfl, by decide +kernel, by decide +kernel⟩
theorem scLSi : FnScope ["value", "width"] ["value", "width"] (defScope t__law_is_side) := ⟨rfl, rfl, rfl, by decide +kernel, rfl, by decide +kernel, by decide +kernel⟩
theorem ok_widOfT {f : Addr} {fd : FuncData} (F : Fun K "width_of" "width_of" t_width_of f fd) (D0 : Ndi mg) {fC : Addr} {fdC : FuncData} (gC : mg "_check_nodes" = some (.ref fC)) (kC : PySem.W.keepIn K (.ref fC) = true) (bC : Binds K fdC ["program"] []) (GC : FnOk P w K mg base (L2.CX P w) 3 fC fdC ["program"] (spChkT K cN))
    {fW : Addr} {fdW : FuncData} (gW : mg "_width" = some (.ref fW)) (kW : PySem.W.keepIn K (.ref fW) = true) (bW : Binds K fdW ["node", "widths"] []) (GW : FnOk P w K mg base (L2.CX P w) 56 fW fdW ["node", "widths"] (spWidT K cN 50)) : FnOk P w K mg base (L2.CX P w) 57 f fd ["program", "widths"] (spWidOfT K cN) := by
  refine F.okX scWidOf (fun vs H Q E h => ?_) (fun cdv A outer s H vs Q E hr h => ?_)
  · obtain ⟨v, u, d, ws, rfl, _⟩ := h
    rfl
  · obtain ⟨v, u, d, ws, rfl, hf, ht, hw, nd, q1, q2⟩ := h
    have hr3 : Room 3 _ := hr.mono (by decide)
    have hr56 : Room 56 _ := hr.mono (by decide)
    have tk := takes_of (X := cxOf (L2.CX P w) P w K mg base ["program", "widths"] "width_of" (defScope t_width_of) f cdv A outer s H E) (E := E) rfl rfl rfl rfl
    --BODYA
    refine ⟨_, pss_cons (ps_expr (pe_callS GC hr3 rfl gC kC bC (fun σ => passAt tk σ) (pa_cons (pv 0) pa_nil)))
      (pss_one (ps_ret (pe_callS GW hr56 rfl gW kW bW (fun σ => passAt tk σ) (pa_cons (pv 0) (pa_cons (pe_callTy (show CallR _ _ (rDictG K) from call_dictG rfl) (by rfl) D0.dict (by rfl) (pa_cons (pv 1) pa_nil)) pa_nil))))), ?_⟩
    --END
    refine ⟨_, rfl, v, d, rfl, hf, ht, fun ok H1 s1 => ?_, fun no => q2 (.inl no)⟩
    obtain ⟨a, ys, rfl, hq, pr⟩ := hw.same s1
    refine ⟨_, rfl, _, rfl, a, ys, wgs ws, rfl, hq, pr, by rw [wgs_keys]; exact nd, fun D nD => ?_⟩
    have s2 := sm_new sm_refl nD (o := .dK (kvG (wgs ws))) (H2 := H1)
    exact ⟨v, d, D, wof ws, rfl, ⟨_, upd_same, wof_val ws⟩, hf.same (s1.trans s2), ht, by decide, ok.1, fun k hk H3 s3 => q1 k ok hk H3 ((s1.trans s2).trans s3), fun hk => (q2 (.inr hk)).same (s1.trans s2)⟩
theorem ok_lInt {f : Addr} {fd : FuncData} (F : Fun K "_law_is_integer" "_law_is_integer" t__law_is_integer f fd) (N : Nm mg) : FnOk P w K mg base CX0 1 f fd ["value"] (spLI K isI) := by
  refine F.ok scLInt (fun vs H Q E h => ?_) (fun cdv A outer s H vs Q E hr h => ?_)
  · obtain ⟨v, d, rfl, _⟩ := h
    rfl
  · obtain ⟨v, d, rfl, hf, ht, q⟩ := h
    --BODYB
    refine ⟨_, pss_one (ps_ret (pe_and (pe_callB (show CallR _ _ (rIsi K) from call_isi) (by rfl) N.isi (by decide +kernel) (pa_cons (pv 0) (pa_cons (pe_bltn (v := .ty "int") (by rfl) N.int (by decide +kernel) rfl) pa_nil))) (pe_one (pe_not (pe_callB (show CallR _ _ (rIsi K) from call_isi) (by rfl) N.isi (by decide +kernel) (pa_cons (pv 0) (pa_cons (pe_bltn (v := .ty "bool") (by rfl) N.bool (by decide +kernel) rfl) pa_nil))))))), ?_⟩
    --END
    have qH := q H sm_refl
    obtain ⟨k, hk, _, _, k3, _⟩ := fd_kd hf ht
    have e : isI d = decide (k = "int") := by
      cases d with
      | int i => rw [decide_eq_true (k3.mpr ⟨i, rfl⟩)]; rfl
      | _ => rw [decide_eq_false (fun z => by obtain ⟨_, z⟩ := k3.mp z; cases z)]; rfl
    rw [e] at qH
    cases id hk with
    | int i => exact ⟨_, rfl, _, _, _, _, true, rfl, .ty _, hk.ty, kit_ty (by decide +kernel), true, rfl, iteT ⟨_, rfl, _, _, _, _, false, rfl, .ty _, hk.ty, kit_ty (by decide +kernel), false, rfl, qH⟩⟩
    | bl b => exact ⟨_, rfl, _, _, _, _, true, rfl, .ty _, hk.ty, kit_ty (by decide +kernel), true, rfl, iteT ⟨_, rfl, _, _, _, _, true, rfl, .ty _, hk.ty, kit_ty (by decide +kernel), true, rfl, qH⟩⟩
    | _ => exact ⟨_, rfl, _, _, _, _, false, rfl, .ty _, hk.ty, kit_ty (by decide +kernel), false, rfl, iteF qH⟩
theorem ok_lRow {f : Addr} {fd : FuncData} (F : Fun K "_law_is_row" "_law_is_row" t__law_is_row f fd) (N : Nm mg) : FnOk P w K mg base CX0 1 f fd ["value", "many"] (spMany K) := by
  refine F.ok scLRo (fun vs H Q E h => ?_) (fun cdv A outer s H vs Q E hr h => ?_)
  · obtain ⟨v, d, n, rfl, _⟩ := h
    rfl
  · obtain ⟨v, d, n, rfl, hf, ht, q⟩ := h
    --BODYE
    refine ⟨_, pss_one (ps_ret (pe_and (pe_callB (show CallR _ _ (rIsiT K) from call_isiT) (by rfl) N.isi (by decide +kernel) (pa_cons (pv 0) (pa_cons (pe_tup (pa_cons (pe_bltn (v := .ty "tuple") (by rfl) N.tup (by decide +kernel) rfl) (pa_cons (pe_bltn (v := .ty "list") (by rfl) N.lst (by decide +kernel) rfl) pa_nil))) pa_nil))) (pe_one (pe_cmpR op_eq (pe_callB (show CallR _ _ (rLenQ K) from call_len_seq) (by rfl) N.len PySem.boot_len (pa_cons (pv 0) pa_nil)) (pv 1) (nomark _))))), ?_⟩
    --END
    refine ⟨_, rfl, (by show 2 ≤ sizeLine; decide), fun p np => ?_⟩
    have s1 : Same H (upd H p (.tup [.ty "tuple", .ty "list"])) := sm_new sm_refl np
    have hp : upd H p (.tup [.ty "tuple", .ty "list"]) p = some (.tup [.ty "tuple", .ty "list"]) := upd_same
    obtain ⟨k, kd, k1, _⟩ := fd_kd (hf.same s1) ht
    have hf := hf.same s1
    have q := fun H' (s : Same (upd H p (.tup [.ty "tuple", .ty "list"])) H') => q H' (s1.trans s)
    dsimp only [tNil]
    refine isq_go kd hp ?_
    generalize upd H p (.tup [.ty "tuple", .ty "list"]) = H1 at hf q ⊢
    refine ⟨_, rfl, ite2 (fun e => ?_) (fun e => ?_)⟩
    · obtain ⟨ds, rfl⟩ := k1.mp (of_decide_eq_true e)
      obtain ⟨a, xs, rfl, hs, hl, _⟩ := fd_seq hf
      refine ⟨_, rfl, a, xs, rfl, hs, _, rfl, rfl, ?_⟩
      have e : decide (V.int (xs.length : Int) = V.int (n : Int)) = manyB n (.tuple ds) := by
        rw [hl]
        exact decide_eq_decide.mpr ⟨fun h => by have := V.int.inj h; omega, fun h => by rw [h]⟩
      rw [e]
      exact q H1 sm_refl
    · have eb : manyB n d = false := by
        cases d with
        | tuple ds => exact absurd (decide_eq_true (k1.mpr ⟨ds, rfl⟩)) e
        | _ => rfl
      have := q H1 sm_refl
      rw [eb] at this
      exact this
theorem ok_lCol {f : Addr} {fd : FuncData} (F : Fun K "_law_is_column" "_law_is_column" t__law_is_column f fd) (Gi : Df P w K mg base 1 "_law_is_integer" ["value"] (spLI K isI)) : FnOk P w K mg base CX0 2 f fd ["value", "width"] (spChk K colB) := by
  obtain ⟨fI, fdI, gI, kI, bI, GI⟩ := Gi.ok
  refine F.ok scLCo (fun vs H Q E h => ?_) (fun cdv A outer s H vs Q E hr h => ?_)
  · obtain ⟨v, d, n, rfl, _⟩ := h
    rfl
  · obtain ⟨v, d, n, rfl, hf, ht, q⟩ := h
    have hr1 : Room 1 _ := hr.mono (by decide)
    --BODYF
    refine ⟨_, pss_one (ps_ret (pe_and (pe_call GI hr1 rfl gI kI bI .nil pass0 (pa_cons (pv 0) pa_nil)) (pe_and (pe_cmpR op_ge (pv 0) pe_int (nomark _)) (pe_one (pe_cmpR op_lt (pv 0) (pv 1) (nomark _)))))), ?_⟩
    --END
    refine ⟨_, rfl, v, d, rfl, hf, ht, fun H1 s1 => ⟨_, rfl, ite2 (fun e => ?_) (fun e => ?_)⟩⟩
    · have q := q H1 s1
      cases d with
      | int i =>
        cases fd_int hf
        have q : Q (.bl (decide (0 ≤ i) && decide (i < (n : Int)))) H1 := q
        refine ⟨_, rfl, _, _, rfl, rfl, _, rfl, ite2 (fun h => ?_) (fun h => ?_)⟩
        · rw [show decide (0 ≤ i) = true from h, Bool.true_and] at q
          exact ⟨_, rfl, _, rfl, _, _, rfl, rfl, q⟩
        · rw [show decide (0 ≤ i) = false by simpa using h, Bool.false_and] at q
          exact q
      | _ => cases e
    · have q := q H1 s1
      have eb : colB n d = false := by
        cases d with
        | int i => exact absurd rfl e
        | _ => rfl
      rw [eb] at q
      exact q
theorem ok_lWo {f : Addr} {fd : FuncData} (F : Fun K "_law_is_word" "_law_is_word" t__law_is_word f fd) (N : Nm mg) : FnOk P w K mg base CX0 1 f fd ["value"] (spLI K isW) := by
  refine F.ok scLWo (fun vs H Q E h => ?_) (fun cdv A outer s H vs Q E hr h => ?_)
  · obtain ⟨v, d, rfl, _⟩ := h
    rfl
  · obtain ⟨v, d, rfl, hf, ht, q⟩ := h
    --BODYC
    refine ⟨_, pss_cons (ps_if (PW.pt (pw_or (pt_not (pt_val (pe_callB (show CallR _ _ (rIsi K) from call_isi) (by rfl) N.isi (by decide +kernel) (pa_cons (pv 0) (pa_cons (pe_bltn (v := .ty "str") (by rfl) N.str (by decide +kernel) rfl) pa_nil))))) (pw_or (pt_cmpR op_lt (pe_callB call_len_str (by rfl) N.len PySem.boot_len (pa_cons (pv 0) pa_nil)) pe_int (nomark _)) (pw_or1 (pt_cmpR op_gt (pe_callB call_len_str (by rfl) N.len PySem.boot_len (pa_cons (pv 0) pa_nil)) pe_int (nomark _)))))) (pss_one (ps_ret pe_bl)) pss_nil)
      (pss_one (ps_ret (pe_cmpR op_eq (pe_callB (show CallR _ _ (rLenQ K) from call_len_seq) (by rfl) N.len PySem.boot_len (pa_cons (pe_lc (own := [("sign", 1)]) (g := gName 1) (tt := _) rfl scLWo.nd (pi_str (pv 0)) (blkOk_by (N := lwoN) (sc := defScope t__law_is_word) (by decide +kernel))
          (fun _ _ _ _ _ => (pg_name (i := 1) scLWo.nd rfl (Or.inl rfl))) (fun _ _ _ _ _ => pts_one (pt_cmpR op_notIn_str (pv 1) pe_str (by rfl))) (fun _ _ _ _ _ => (pv 1))) pa_nil)) pe_int (nomark _)))), ?_⟩
    --END
    obtain ⟨k, kd, _, k2, _⟩ := fd_kd hf ht
    have qH := q H sm_refl
    refine ⟨_, rfl, ?_⟩
    dsimp only [tCons, tNil, tC]
    refine isi_str kd ⟨_, rfl, ?_⟩
    refine ite2 (fun h => ?_) (fun h => ?_)
    · have eb : isW d = false := by
        cases d with
        | str z => exact absurd (decide_eq_true (k2.mpr ⟨z, rfl⟩)) (by simpa using h)
        | _ => rfl
      rw [eb] at qH
      exact qH
    · obtain ⟨z, rfl⟩ := k2.mp (by simpa using h)
      cases fd_str hf
      have zl := ht.str
      have qH : Q (.bl (wordB z)) H := qH
      have zb : wordB z = false → Q (.bl false) H := fun e => by rw [e] at qH; exact qH
      refine ⟨_, rfl, z, rfl, (by rw [sizeLine_eq]; omega), _, _, rfl, rfl, _, rfl, ite2 (fun h1 => ?_) (fun h1 => ?_)⟩
      · have h1 : (z.length : Int) < 1 := of_decide_eq_true h1
        refine zb ?_
        have z0 : z = ("" : Str) := by
          obtain ⟨⟨l⟩⟩ := z
          cases l with
          | nil => rfl
          | cons a r =>
            exfalso
            have : (Str.mk ⟨a :: r⟩).length = r.length + 1 := rfl
            omega
        rw [z0]
        decide +kernel
      have h1 : ¬ (z.length : Int) < 1 := fun e => h1 (decide_eq_true e)
      have zne : z ≠ ("" : Str) := fun e => h1 (by rw [e]; decide +kernel)
      refine ⟨_, rfl, z, rfl, (by rw [sizeLine_eq]; omega), _, _, rfl, rfl, _, rfl, ite2 (fun h2 => ?_) (fun h2 => ?_)⟩
      · have h2 : (8 : Int) < (z.length : Int) := of_decide_eq_true h2
        refine zb ?_
        unfold wordB
        rw [decide_eq_false (show ¬ z.length ≤ 8 by omega), Bool.and_false]
      have h2 : ¬ (8 : Int) < (z.length : Int) := fun e => h2 (decide_eq_true e)
      have wz : wordB z = z.cps.toList.all okC := by
        unfold wordB
        rw [lettersB_eq, decide_eq_true zne, decide_eq_true (show z.length ≤ 8 by omega), Bool.and_true, Bool.true_and]
        rfl
      have q : ∀ H', Same H H' → Q (.bl (wordB z)) H' := q
      rw [wz] at q
      refine ⟨_, rfl, z, rfl, fun D nD => ?_⟩
      refine lc_it walk_str (fun i H5 => Same H H5 ∧ ∃ acc : List V, H5 D = some (.lst acc) ∧ acc.length = ((z.cps.toList.take i).filter fun c => !okC c).length) ⟨sm_new sm_refl nD, [], upd_same, rfl⟩ (fun _ _ _ _ => trivial) ?_ ?_
      · rintro i x H5 H6 hi ⟨s5, acc, hD, la⟩ ⟨rfl, c, hc, rfl⟩
        have hc' : z.cps.toList[i]? = some c := by rw [Array.getElem?_toList]; exact hc
        have zs : z.cps.toList.length = z.length := rfl
        have fl := List.length_filter_le (fun c => !okC c) (z.cps.toList.take i)
        rw [List.length_take] at fl
        refine ⟨rfl, _, rfl, _, _, rfl, rfl, _, rfl, ?_⟩
        rw [show Str.ofString "abcdefghijklmnopqrstuvwxyz" = Abc.abc from rfl, Abc.abc_in]
        have ef : (z.cps.toList.take (i + 1)).filter (fun c => !okC c) = (z.cps.toList.take i).filter (fun c => !okC c) ++ (if okC c = true then [] else [c]) := by
          rw [List.take_succ, hc', List.filter_append]
          congr 1
          show [c].filter _ = _
          rw [List.filter_cons]
          cases okC c <;> rfl
        rw [ef]
        refine ite2 (fun e => ?_) (fun e => ?_)
        · have e : okC c = false := by
            unfold okC
            cases h : (decide (97 ≤ c) && decide (c ≤ 122)) with
            | false => rfl
            | true => rw [h] at e; cases e
          refine ⟨_, rfl, acc, hD, by rw [la, sizeLine_eq]; omega, sm_new s5 nD, _, upd_same, ?_⟩
          rw [e, List.length_append, List.length_append, la]
          rfl
        · have e : okC c = true := by unfold okC; simpa using e
          refine ⟨s5, acc, hD, ?_⟩
          rw [e, if_pos rfl, List.append_nil]
          exact la
      · rintro H5 ⟨s5, acc, hD, la⟩
        have zs : z.cps.size = z.cps.toList.length := (Array.length_toList).symm
        rw [zs, List.take_length] at la
        refine ⟨D, acc, rfl, .inl (SqL.of hD), rfl, ?_⟩
        have e : decide (V.int (acc.length : Int) = V.int 0) = z.cps.toList.all okC := by
          rw [Bool.eq_iff_iff, decide_eq_true_iff, List.all_eq_true, la]
          constructor
          · intro h c hc
            have h : (List.filter (fun c => !okC c) z.cps.toList).length = 0 := by have := V.int.inj h; omega
            have := List.filter_eq_nil_iff.mp (List.length_eq_zero_iff.mp h) c hc
            simpa using this
          · intro h
            rw [List.filter_eq_nil_iff.mpr fun c hc => by simp [h c hc]]
            rfl
        rw [e]
        exact q H5 s5
theorem ok_lCe {f : Addr} {fd : FuncData} (F : Fun K "_law_is_cell" "_law_is_cell" t__law_is_cell f fd) (Gw : Df P w K mg base 1 "_law_is_word" ["value"] (spLI K isW)) (Gi : Df P w K mg base 1 "_law_is_integer" ["value"] (spLI K isI)) : FnOk P w K mg base CX0 2 f fd ["value"] (spLI K cellB) := by
  obtain ⟨fW, fdW, gW, kW, bW, GW⟩ := Gw.ok
  obtain ⟨fI, fdI, gI, kI, bI, GI⟩ := Gi.ok
  refine F.ok scLCl (fun vs H Q E h => ?_) (fun cdv A outer s H vs Q E hr h => ?_)
  · obtain ⟨v, d, rfl, _⟩ := h
    rfl
  · obtain ⟨v, d, rfl, hf, ht, q⟩ := h
    have hr1 : Room 1 _ := hr.mono (by decide)
    --BODYD
    refine ⟨_, pss_one (ps_ret (pe_or (pe_call GW hr1 rfl gW kW bW .nil pass0 (pa_cons (pv 0) pa_nil)) (pe_one (pe_and (pe_call GI hr1 rfl gI kI bI .nil pass0 (pa_cons (pv 0) pa_nil)) (pe_and (pe_cmpR op_gt (pv 0) (pe_un un_neg pe_int) (nomark _)) (pe_one (pe_cmpR op_lt (pv 0) pe_int (nomark _)))))))), ?_⟩
    --END
    refine ⟨_, rfl, v, d, rfl, hf, ht, fun H1 s1 => ⟨_, rfl, ite2 (fun h => ?_) (fun h => ?_)⟩⟩
    · have eb : cellB d = true := by
        cases d with
        | str z => exact h
        | _ => cases h
      have := q H1 s1
      rw [eb] at this
      exact this
    · refine ⟨_, rfl, v, d, rfl, hf.same s1, ht, fun H2 s2 => ⟨_, rfl, ite2 (fun h2 => ?_) (fun h2 => ?_)⟩⟩
      · have q := q H2 (s1.trans s2)
        cases d with
        | int i =>
          cases fd_int hf
          have q : Q (.bl (decide (-9999 ≤ i) && decide (i ≤ 9999))) H2 := q
          refine ⟨_, rfl, _, rfl, _, _, rfl, rfl, _, rfl, ite2 (fun h => ?_) (fun h => ?_)⟩
          · have h : (-10000 : Int) < i := of_decide_eq_true h
            rw [decide_eq_true (show -9999 ≤ i by omega), Bool.true_and] at q
            refine ⟨_, rfl, _, _, rfl, rfl, ?_⟩
            rw [show ((fun i j : Int => V.bl (decide (i < j))) i 10000) = V.bl (decide (i ≤ 9999)) from congrArg V.bl (decide_eq_decide.mpr (by omega))]
            exact q
          · have h : ¬ (-10000 : Int) < i := fun z => h (decide_eq_true z)
            rw [decide_eq_false (show ¬ -9999 ≤ i by omega), Bool.false_and] at q
            exact q
        | _ => cases h2
      · have eb : cellB d = false := by
          cases d with
          | int i => exact absurd rfl h2
          | str z => exact (by simpa using h : isW (.str z) = false)
          | _ => rfl
        have := q H2 (s1.trans s2)
        rw [eb] at this
        exact this
theorem ok_lSi {f : Addr} {fd : FuncData} (F : Fun K "_law_is_side" "_law_is_side" t__law_is_side f fd) (N : Nm mg) (Gr : Df P w K mg base 1 "_law_is_row" ["value", "many"] (spMany K)) (Gc : Df P w K mg base 2 "_law_is_column" ["value", "width"] (spChk K colB)) (Ge : Df P w K mg base 2 "_law_is_cell" ["value"] (spLI K cellB)) : FnOk P w K mg base CX0 3 f fd ["value", "width"] (spChk K sideB) := by
  obtain ⟨fR, fdR, gR, kR, bR, GR⟩ := Gr.ok
  obtain ⟨fC, fdC, gC, kC, bC, GC⟩ := Gc.ok
  obtain ⟨fE, fdE, gE, kE, bE, GE⟩ := Ge.ok
  refine F.ok scLSi (fun vs H Q E h => ?_) (fun cdv A outer s H vs Q E hr h => ?_)
  · obtain ⟨v, d, n, rfl, _⟩ := h
    rfl
  · obtain ⟨v, d, n, rfl, hf, ht, q⟩ := h
    have hr1 : Room 1 _ := hr.mono (by decide)
    have hr2 : Room 2 _ := hr.mono (by decide)
    --BODYG
    refine ⟨_, pss_cons (ps_if (PW.pt (pw_or (pt_not (pt_val (pe_call GR hr1 rfl gR kR bR .nil pass0 (pa_cons (pv 0) (pa_cons pe_int pa_nil))))) (pw_or1 (pt_not (pt_val (pe_callB (show CallR _ _ (rIsi K) from call_isi) (by rfl) N.isi (by decide +kernel) (pa_cons (pe_ix (show IxR _ (rIx K) from ix_seq) (pv 0) pe_int (fun _ _ => rfl)) (pa_cons (pe_bltn (v := .ty "str") (by rfl) N.str (by decide +kernel) rfl) pa_nil)))))))) (pss_one (ps_ret pe_bl)) pss_nil)
      (pss_one (ps_ret (pe_or (pe_and (pe_cmpR op_eq (pe_ix (show IxR _ (rIx K) from ix_seq) (pv 0) pe_int (fun _ _ => rfl)) pe_str (nomark _)) (pe_one (pe_call GC hr2 rfl gC kC bC .nil pass0 (pa_cons (pe_ix (show IxR _ (rIx K) from ix_seq) (pv 0) pe_int (fun _ _ => rfl)) (pa_cons (pv 1) pa_nil))))) (pe_one (pe_and (pe_cmpR op_eq (pe_ix (show IxR _ (rIx K) from ix_seq) (pv 0) pe_int (fun _ _ => rfl)) pe_str (nomark _)) (pe_one (pe_call GE hr2 rfl gE kE bE .nil pass0 (pa_cons (pe_ix (show IxR _ (rIx K) from ix_seq) (pv 0) pe_int (fun _ _ => rfl)) pa_nil)))))))), ?_⟩
    --END
    refine ⟨_, rfl, v, d, 2, rfl, hf, ht, fun H1 s1 => ⟨_, rfl, ite2 (fun hm => ?_) (fun hm => ?_)⟩⟩
    · have q := q H1 s1
      have hm : manyB 2 d = false := by simpa using hm
      have e : sideB n d = false := by
        match d with
        | .tuple [a1, b1] => cases hm
        | .tuple [] => rfl
        | .tuple [_] => rfl
        | .tuple (_ :: _ :: _ :: _) => rfl
        | .int _ => rfl
        | .str _ => rfl
        | .none => rfl
        | .bool _ => rfl
        | .list _ => rfl
        | .dict _ => rfl
      rw [e] at q
      exact q
    · have hm : manyB 2 d = true := by simpa using hm
      obtain ⟨ds, b, us, rfl, hl, rfl, hb, g⟩ := two_of ht (hf.same s1) hm
      match ds, hl with
      | [a1, b1], _ =>
        obtain ⟨t0, u0, e0, f0⟩ := g 0 _ rfl
        obtain ⟨t1, u1, e1, f1⟩ := g 1 _ rfl
        obtain ⟨k, kd, _, k2, _⟩ := fd_kd f0 t0
        have fin : ∀ (H4 : Hp) (b : Bool), Same H1 H4 → b = ((strB (Str.ofString "col") a1 && colB n b1) || (strB (Str.ofString "val") a1 && cellB b1)) → Q (.bl b) H4 := fun H4 b s4 e => by rw [e]; exact q H4 (s1.trans s4)
        refine ⟨_, rfl, pick hb 0 e0 _ ?_⟩
        dsimp only [tCons, tNil, tC]
        refine isi_str kd ⟨_, rfl, ite2 (fun h => ?_) (fun h => ?_)⟩
        · have h : ¬ k = "str" := by simpa using h
          have no : ∀ z, strB z a1 = false := fun z => by
            cases a1 with
            | str z => exact absurd (k2.mpr ⟨z, rfl⟩) h
            | _ => rfl
          exact fin H1 _ sm_refl (by rw [no, no]; rfl)
        · obtain ⟨z, rfl⟩ := k2.mp (by simpa using h)
          cases fd_str f0
          have rest : ∀ H4, Same H1 H4 → (strB (Str.ofString "col") (.str z) && colB n b1) = false → tAndV (tOp rEq (tOp (rIx K) (tVar 0) (tC (V.int 0))) (tC (V.str (Str.ofString "val")))) (tCall (spLI K cellB) [] E0 (tCons (tOp (rIx K) (tVar 0) (tC (V.int 1))) tNil)) (L2.start [Str.ofString "value", Str.ofString "width"] [V.ref b, V.int (n : Int)]) H4 Q := fun H4 s4 no => by
            refine ⟨_, rfl, pick (sq_go s4 hb) 0 e0 _ ⟨rfl, _, rfl, ite2 (fun h => ?_) (fun h => ?_)⟩⟩
            · have h : z = Str.ofString "val" := V.str.inj (of_decide_eq_true h)
              refine ⟨_, rfl, pick (sq_go s4 hb) 1 e1 _ ⟨u1, b1, rfl, f1.same s4, t1, fun H5 s5 => ?_⟩⟩
              exact fin H5 _ (s4.trans s5) (by rw [no, h, show strB (Str.ofString "val") (.str (Str.ofString "val")) = true by simp [strB], Bool.false_or, Bool.true_and])
            · have h : z ≠ Str.ofString "val" := fun e => h (decide_eq_true (by rw [e]))
              exact fin H4 _ s4 (by rw [no, show strB (Str.ofString "val") (.str z) = false from decide_eq_false h]; rfl)
          refine ⟨_, rfl, pick hb 0 e0 _ ⟨rfl, _, rfl, ite2 (fun h => ?_) (fun h => ?_)⟩⟩
          · have h : z = Str.ofString "col" := V.str.inj (of_decide_eq_true h)
            have hb1 : strB (Str.ofString "col") (.str z) = true := decide_eq_true h
            refine ⟨_, rfl, pick hb 1 e1 _ ⟨_, rfl, u1, b1, n, rfl, f1, t1, fun H4 s4 => ⟨_, rfl, ite2 (fun h2 => ?_) (fun h2 => ?_)⟩⟩⟩
            · exact fin H4 _ s4 (by rw [hb1, h2]; rfl)
            · exact rest H4 s4 (by rw [show colB n b1 = false by simpa using h2, Bool.and_false])
          · have h : z ≠ Str.ofString "col" := fun e => h (decide_eq_true (by rw [e]))
            exact ⟨_, rfl, iteF (rest H1 sm_refl (by rw [show strB (Str.ofString "col") (.str z) = false from decide_eq_false h, Bool.false_and]))⟩
end
end K14


set_option Elab.async false
set_option linter.all false
set_option maxRecDepth 100000
set_option maxHeartbeats 8000000
namespace K14
open PySem L2 Nd Bk Gd PySem.ExE
/-! the law's own count of nodes -/
def six : List Str := [Str.ofString "take", Str.ofString "keep", Str.ofString "pick", Str.ofString "join", Str.ofString "both", Str.ofString "make"]
def headN : List PyData → Nat
  | .str z :: _ => if z ∈ six then 1 else 0
  | _ => 0
def lawN : PyData → Nat
  | .tuple ds => (ds.attach.map fun e => lawN e.1).sum + headN ds
  | _ => 0
termination_by d => sizeOf d
decreasing_by
  have := List.sizeOf_lt_of_mem e.2
  simp only [PyData.tuple.sizeOf_spec]
  omega
theorem lawN_eq (ds : List PyData) : lawN (.tuple ds) = (ds.map lawN).sum + headN ds := by
  rw [lawN]
  congr 2
  rw [← List.attach_map_subtype_val ds, List.map_map]
  simp
theorem sum_cast {α : Type} (f : α → Nat) : ∀ ds : List α, (ds.map fun e => ((f e : Nat) : Int)).sum = (((ds.map f).sum : Nat) : Int)
  | [] => rfl
  | e :: ds => by rw [List.map_cons, List.map_cons, List.sum_cons, List.sum_cons, sum_cast f ds]; omega
theorem inV_dec (z : Str) (zs : List Str) : inV (V.str z) (zs.map V.str) = decide (z ∈ zs) := by
  unfold inV
  rw [List.any_map, Bool.eq_iff_iff, List.any_eq_true, decide_eq_true_iff]
  constructor
  · rintro ⟨y, hy, h⟩
    have h : eqV (V.str y) (V.str z) = true := h
    have : y = z := by simpa [eqV] using h
    exact this ▸ hy
  · intro h
    exact ⟨z, h, by simp [eqV]⟩
def spLNo (K : PySem.W.Frag) (n : Nat) : Sp := fun vs H Q _ => ∃ (v : V) (d : PyData), vs = [v] ∧ FD K H v d ∧ Tv n d ∧ n ≤ 50 ∧ ∀ H', Same H H' → Q (.int (lawN d : Nat)) H'
def spLNos (K : PySem.W.Frag) : Nat → Sp
  | 0 => fun _ _ _ _ => False
  | n + 1 => spLNo K n
section
variable {P : Program} {w : World} {K : PySem.W.Frag} {mg : Str → Option Value} {base : Heap} {T cN fN : Addr}
abbrev lnoN : List Str := ["program", "count", "part"]
theorem scLNo : FnScope lnoN ["program"] (defScope t__law_nodes) := ⟨rfl, rfl, rfl, by decide +kernel, rfl, by decide +kernel, by decide +kernel⟩
theorem ok_lNo {f : Addr} {fd : FuncData} (F : Fun K "_law_nodes" "_law_nodes" t__law_nodes f fd) (b : Binds K fd ["program"] []) (g : mg "_law_nodes" = some (.ref f)) (kp : PySem.W.keepIn K (.ref f) = true) (N : Nm mg) (sm : mg "sum" = none) : ∀ n : Nat, FnOk P w K mg base CX0 n f fd ["program"] (spLNos K n) := by
  intro n
  induction n with
  | zero => exact ⟨fun _ _ _ _ h => False.elim h, fun _ _ _ _ _ _ _ _ _ _ _ _ _ h => False.elim h⟩
  | succ n ih =>
    refine F.ok scLNo (fun vs H Q E h => ?_) (fun cdv A outer s H vs Q E hr h => ?_)
    · obtain ⟨v, d, rfl, _⟩ := h
      rfl
    · obtain ⟨v, d, rfl, hf, ht, n50, q⟩ := h
      --BODYA
      refine ⟨_, pss_cons (ps_if (pt_not (pt_val (pe_callB (show CallR _ _ (rIsiT K) from call_isiT) (by rfl) N.isi (by decide +kernel) (pa_cons (pv 0) (pa_cons (pe_tup (pa_cons (pe_bltn (v := .ty "tuple") (by rfl) N.tup (by decide +kernel) rfl) (pa_cons (pe_bltn (v := .ty "list") (by rfl) N.lst (by decide +kernel) rfl) pa_nil))) pa_nil))))) (pss_one (ps_ret pe_int)) pss_nil)
      (pss_cons (ps_set (i := 1) scLNo.nd rfl (Or.inl rfl) (pe_callB (show CallR _ _ (rSum K) from cr_sum rfl) (by rfl) sm (by rfl) (pa_cons (pe_lc (own := [("part", 2)]) (g := gName 2) (tt := tYes) rfl scLNo.nd (show PI _ _ _ (iAny K _) from pi_any (pv 0)) (blkOk_by (N := lnoN) (sc := defScope t__law_nodes) (by decide +kernel))
          (fun _ _ _ _ _ => (pg_name (i := 2) scLNo.nd rfl (Or.inl rfl))) (fun _ _ _ _ _ => pts_nil) (fun _ _ _ _ _ => (pe_call ih hr rfl g kp b .nil pass0 (pa_cons (pv 2) pa_nil)))) pa_nil)))
      (pss_cons (ps_if (PW.pt (pw_and (pt_cmpR op_gt (pe_callB (show CallR _ _ (rLenQ K) from call_len_seq) (by rfl) N.len PySem.boot_len (pa_cons (pv 0) pa_nil)) pe_int (nomark _)) (pw_and1 (pt_val (pe_callB (show CallR _ _ (rIsi K) from call_isi) (by rfl) N.isi (by decide +kernel) (pa_cons (pe_ix (show IxR _ (rIx K) from ix_seq) (pv 0) pe_int (fun _ _ => rfl)) (pa_cons (pe_bltn (v := .ty "str") (by rfl) N.str (by decide +kernel) rfl) pa_nil))))))) (pss_one (ps_set (i := 1) scLNo.nd rfl (Or.inl rfl) (pe_op op_add (pv 1) (pe_callTy call_int1 (by rfl) N.int (by decide +kernel) (pa_cons (pe_cmpR (show OpR _ _ (rIn K false) from op_in_seq) (pe_ix (show IxR _ (rIx K) from ix_seq) (pv 0) pe_int (fun _ _ => rfl)) (pe_lst (pa_cons pe_str (pa_cons pe_str (pa_cons pe_str (pa_cons pe_str (pa_cons pe_str (pa_cons pe_str pa_nil))))))) (by rfl)) pa_nil))))) pss_nil)
      (pss_one (ps_ret (pv 1))))), ?_⟩
      --END
      refine ⟨_, rfl, (by show 2 ≤ sizeLine; decide), fun p np => ?_⟩
      have s1 : Same H (upd H p (.tup [.ty "tuple", .ty "list"])) := sm_new sm_refl np
      have hp : upd H p (.tup [.ty "tuple", .ty "list"]) p = some (.tup [.ty "tuple", .ty "list"]) := upd_same
      obtain ⟨k, kd, k1, _⟩ := fd_kd (hf.same s1) ht
      have hf := hf.same s1
      have q := fun H' (s : Same (upd H p (.tup [.ty "tuple", .ty "list"])) H') => q H' (s1.trans s)
      dsimp only [tNil]
      refine isq_go kd hp ?_
      generalize upd H p (.tup [.ty "tuple", .ty "list"]) = H1 at hf q ⊢
      refine ⟨_, rfl, ite2 (fun e => ?_) (fun e => ?_)⟩
      · have q := q H1 sm_refl
        have e0 : lawN d = 0 := by
          cases d with
          | tuple ds => exact absurd (decide_eq_true (k1.mpr ⟨ds, rfl⟩)) (by simpa using e)
          | _ => rw [lawN]; intro _ z; cases z
        rw [e0] at q
        exact q
      · obtain ⟨ds, rfl⟩ : ∃ ds, d = .tuple ds := by
          cases d with
          | tuple ds => exact ⟨ds, rfl⟩
          | _ => exfalso; apply e; rw [decide_eq_false (fun z => by obtain ⟨_, z⟩ := k1.mp z; cases z)]; rfl
        obtain ⟨a, xs, rfl, hs, hl, hg⟩ := fd_seq hf
        obtain ⟨m, rfl⟩ : ∃ m, n = m + 1 := by
          cases n with
          | zero => rcases ht with ⟨_, h⟩ | ⟨_, h, _⟩ | h <;> cases h
          | succ m => exact ⟨m, rfl⟩
        have ln := ht.kid.1
        refine ⟨_, rfl, any_go hs fun J G walk hG D nD => ?_⟩
        refine lc_it walk (fun i H2 => Same H1 H2 ∧ H2 D = some (.lst (((ds.take i).map fun e => ((lawN e : Nat) : Int)).map V.int))) ⟨sm_new sm_refl nD, by rw [List.take_zero]; exact upd_same⟩ (fun i H2 _ ⟨s2, _⟩ => hG H2 s2.seq (sqT_same s2)) ?_ ?_
        · rintro i x _ H2 hi ⟨s2, hD⟩ ⟨rfl, hx⟩
          obtain ⟨e, he, hxd⟩ := hg i x hx
          have te := ht.kid.2 e (List.mem_of_getElem? he)
          refine ⟨rfl, _, rfl, x, e, rfl, hxd.same s2, te, by omega, fun H3 s3 => ?_⟩
          refine ⟨_, s3 _ _ hD, by rw [List.length_map, List.length_map, List.length_take, sizeLine_eq]; omega, sm_new (s2.trans s3) nD, ?_⟩
          rw [upd_same, List.take_succ, he, List.map_append, List.map_append]
          rfl
        · rintro H2 ⟨s2, hD⟩
          rw [hl, List.take_length] at hD
          refine ⟨D, _, rfl, SqL.of hD, ?_⟩
          have es := sum_cast lawN ds
          rw [es]
          have fin : ∀ (H3 : Hp) (k : Int), Same H2 H3 → k = ((headN ds : Nat) : Int) → Q (.int ((((ds.map lawN).sum : Nat) : Int) + k)) H3 := fun H3 k s3 ek => by
            have q' := q H3 (s2.trans s3)
            rw [lawN_eq] at q'
            rw [ek, show ((((ds.map lawN).sum : Nat) : Int) + ((headN ds : Nat) : Int)) = (((ds.map lawN).sum + headN ds : Nat) : Int) by omega]
            exact q'
          have fin0 : headN ds = 0 → Q (.int (((ds.map lawN).sum : Nat) : Int)) H2 := fun h0 => by
            have := fin H2 0 sm_refl (by rw [h0]; rfl)
            rw [Int.add_zero] at this
            exact this
          have hs2 := sq_go s2 hs
          refine ⟨_, rfl, a, xs, rfl, hs2, _, _, rfl, rfl, _, rfl, ite2 (fun h => ?_) (fun h => ?_)⟩
          · have h : (0 : Int) < (xs.length : Int) := of_decide_eq_true h
            match ds, hl, hg, ht, fin, fin0 with
            | [], hl, _, _, _, _ =>
              exfalso
              have : xs.length = 0 := hl
              omega
            | e :: r, hl, hg, ht, fin, fin0 =>
              have e0 : xs[0]? = some (xs[0]'(by omega)) := List.getElem?_eq_getElem (by omega)
              obtain ⟨e', he', f0⟩ := hg 0 _ e0
              cases he'
              obtain ⟨k', kd', _, k2, _⟩ := fd_kd (f0.same s2) (ht.kids.2 e List.mem_cons_self)
              generalize xs[0]'(by omega) = u0 at e0 f0 kd' ⊢
              refine ⟨_, rfl, pick hs2 0 e0 _ ?_⟩
              dsimp only [tCons, tNil, tC]
              refine isi_str kd' ⟨_, rfl, ite2 (fun h => ?_) (fun h => ?_)⟩
              · obtain ⟨z, rfl⟩ := k2.mp (of_decide_eq_true h)
                cases fd_str f0
                refine ⟨_, rfl, _, rfl, pick hs2 0 e0 _ ⟨by show 6 ≤ sizeLine; decide, fun LL nLL => ?_⟩⟩
                have s3 : Same H2 (upd H2 LL (.lst (six.map V.str))) := sm_new sm_refl nLL
                refine ⟨LL, six.map V.str, rfl, .inl (SqL.of upd_same), rfl, flat_strs _, .inr ⟨_, rfl, _, _, rfl, rfl, _, rfl, ?_⟩⟩
                refine fin _ _ s3 ?_
                show (if inV (V.str z) (six.map V.str) = true then (1 : Int) else 0) = (((if z ∈ six then 1 else 0 : Nat)) : Int)
                rw [inV_dec]
                by_cases hz : z ∈ six
                · rw [decide_eq_true hz, if_pos hz]; rfl
                · rw [decide_eq_false hz, if_neg hz]; rfl
              · have h : ¬ k' = "str" := fun z => h (decide_eq_true z)
                refine ⟨_, rfl, fin0 ?_⟩
                cases e with
                | str z => exact absurd (k2.mpr ⟨z, rfl⟩) h
                | _ => rfl
          · have h : ¬ (0 : Int) < (xs.length : Int) := fun z => h (decide_eq_true z)
            have : ds = [] := List.length_eq_zero_iff.mp (by omega)
            exact ⟨_, rfl, fin0 (by rw [this]; rfl)⟩
end
end K14


set_option Elab.async false
set_option linter.all false
set_option maxRecDepth 100000
set_option maxHeartbeats 8000000
namespace K14
open PySem L2 Nd Bk Gd PySem.ExE
/-! the law's own width -/
/-- (name, width), tuples -/
def NmW (K : PySem.W.Frag) (H : Hp) (x : V) (g : Str × Nat) : Prop := ∃ U, x = .ref U ∧ (SqL K H U [.str g.1, .int (g.2 : Nat)] ∨ SqT K H U [.str g.1, .int (g.2 : Nat)])
theorem NmW.same {K : PySem.W.Frag} {H H' : Hp} {x : V} {g : Str × Nat} (s : Same H H') (h : NmW K H x g) : NmW K H' x g := let ⟨U, e, q⟩ := h; ⟨U, e, sq_go s q⟩
def wL (ws : List (Str × Nat)) (d : PyData) : Nat := (widT (wof ws) d).getD 0
def rListO (K : PySem.W.Frag) : List V → Hp → VK → Prop := fun xs H Q => ∃ p ys, xs = [.ref p] ∧ (SqL K H p ys ∨ SqT K H p ys) ∧ ∀ l, H l = none → Q (.ref l) (upd H l (.lst ys))
theorem log2_le (n : Nat) : n.log2 ≤ n := by
  by_cases h : n = 0
  · rw [h]; decide
  · have := (Nat.log2_lt h (k := n + 1)).mpr (Nat.lt_of_lt_of_le Nat.lt_two_pow_self (Nat.pow_le_pow_right (by decide) (Nat.le_succ n)))
    omega
theorem cm_nat {a b : Nat} (h : a + b ≤ 10000) : CMulW (a : Int) (b : Int) := by
  show (a : Int).natAbs.log2 + (b : Int).natAbs.log2 < 1000000
  have h1 := log2_le (a : Int).natAbs
  have h2 := log2_le (b : Int).natAbs
  rw [Int.natAbs_natCast] at *
  rw [Int.natAbs_natCast] at *
  omega
theorem bit_mul (a : Nat) (b : Bool) : (a : Int) * (if b = true then (1 : Int) else 0) = ((if b = true then a else 0 : Nat) : Int) := by
  cases b
  · simp
  · simp
theorem cols_len {a : Nat} {c : PyData} (h : colsB a c = true) : 1 ≤ lenD c ∧ lenD c ≤ 6 := by
  cases c with
  | tuple ds =>
    have h : (decide (1 ≤ ds.length) && decide (ds.length ≤ 6) && ds.all (colB a)) = true := h
    rw [Bool.and_eq_true, Bool.and_eq_true] at h
    exact ⟨of_decide_eq_true h.1.1, of_decide_eq_true h.1.2⟩
  | _ => cases h
theorem wid_pos {W : Str → Option Nat} (pos : ∀ z k, W z = some k → 1 ≤ k ∧ k ≤ 6) : ∀ {n : Nat} {d : PyData} {k : Nat}, sizeOf d < n → widT W d = some k → 1 ≤ k ∧ k ≤ 6 := by
  intro n
  induction n with
  | zero => intro d k h _; omega
  | succ n ih =>
    intro d k hn h
    have hb : nodeB d = true := by
      cases e : nodeB d with
      | true => rfl
      | false => rw [widT_eq, e] at h; cases h
    have lt : ∀ e ∈ partsT d, sizeOf e < n := fun e he => by have := part_lt he; omega
    cases node_of hb with
    | take x =>
      rw [wid_take] at h
      cases x with
      | str z => exact pos z k h
      | _ => cases h
    | keep p c =>
      rw [wid_keep] at h
      obtain ⟨a, ha, h⟩ := Option.bind_eq_some_iff.mp h
      split at h
      · cases h; exact ih (lt p (by rw [parts_keep]; exact List.mem_singleton.mpr rfl)) ha
      · cases h
    | pick p c =>
      rw [wid_pick] at h
      obtain ⟨a, ha, h⟩ := Option.bind_eq_some_iff.mp h
      split at h
      · rename_i hc; cases h; exact cols_len hc
      · cases h
    | make p c =>
      rw [wid_make] at h
      obtain ⟨a, ha, h⟩ := Option.bind_eq_some_iff.mp h
      split at h
      · rename_i hc; cases h; omega
      · cases h
    | both p q =>
      rw [wid_both] at h
      obtain ⟨a, ha, h⟩ := Option.bind_eq_some_iff.mp h
      obtain ⟨b, hb, h⟩ := Option.bind_eq_some_iff.mp h
      split at h
      · cases h; exact ih (lt p (by rw [parts_both]; exact List.mem_cons_self)) ha
      · cases h
    | join p q c =>
      rw [wid_join] at h
      obtain ⟨a, ha, h⟩ := Option.bind_eq_some_iff.mp h
      obtain ⟨b, hb, h⟩ := Option.bind_eq_some_iff.mp h
      split at h
      · rename_i hc
        cases h
        have := ih (lt p (by rw [parts_join]; exact List.mem_cons_self)) ha
        omega
      · cases h
theorem wof_pos {ws : List (Str × Nat)} (h : ∀ g ∈ ws, 1 ≤ g.2 ∧ g.2 ≤ 6) : ∀ z k, wof ws z = some k → 1 ≤ k ∧ k ≤ 6 := fun z k e => by
  unfold wof at e
  obtain ⟨g, hg, rfl⟩ := Option.map_eq_some_iff.mp e
  exact h g (List.mem_of_find?_eq_some hg)
def isOne (z : Str) : List PyData → Bool
  | [e] => strB z e
  | _ => false
def lastW (ws : List (Str × Nat)) (r : List PyData) : Nat := match r with
  | [.str z] => (wof ws z).getD 0
  | _ => 0
theorem is_one {z : Str} {r : List PyData} (h : isOne z r = true) : r = [.str z] := by
  match r, h with
  | [], h => cases h
  | _ :: _ :: _, h => cases h
  | [e], h =>
    have h : strB z e = true := h
    cases e with
    | str g => rw [show g = z from of_decide_eq_true h]
    | _ => cases h
/-- the sum of the widths of a name -/
theorem sum_last {ws : List (Str × Nat)} (nd : (ws.map (·.1)).Nodup) (r : List PyData) : (((ws.filter fun g => isOne g.1 r).map fun g => ((g.2 : Nat) : Int))).sum = ((lastW ws r : Nat) : Int) := by
  by_cases hr : ∃ z, r = [.str z]
  · obtain ⟨z, rfl⟩ := hr
    show _ = (((wof ws z).getD 0 : Nat) : Int)
    have ef : (fun g : Str × Nat => isOne g.1 [.str z]) = fun g => decide (g.1 = z) := by
      funext g
      show decide (z = g.1) = decide (g.1 = z)
      exact decide_eq_decide.mpr eq_comm
    rw [ef]
    unfold wof
    clear ef
    induction ws with
    | nil => rfl
    | cons g ws ih =>
      rw [List.map_cons, List.nodup_cons] at nd
      rw [List.filter_cons, List.find?_cons]
      by_cases e : g.1 = z
      · rw [decide_eq_true e, if_pos rfl]
        have : (ws.filter fun g => decide (g.1 = z)) = [] := by
          rw [List.filter_eq_nil_iff]
          intro g' hg' e'
          exact nd.1 (List.mem_map.mpr ⟨g', hg', (of_decide_eq_true e').trans e.symm⟩)
        rw [this]
        simp
      · rw [decide_eq_false e, if_neg (by decide)]
        exact ih nd.2
  · have e0 : (ws.filter fun g => isOne g.1 r) = [] := by
      rw [List.filter_eq_nil_iff]
      intro g _ e
      exact hr ⟨g.1, is_one e⟩
    rw [e0]
    have e1 : lastW ws r = 0 := by
      unfold lastW
      split
      · exact absurd ⟨_, rfl⟩ hr
      · rfl
    rw [e1]
    rfl
theorem wL_none {ws : List (Str × Nat)} {d : PyData} (h : nodeB d = false) : wL ws d = 0 := by
  unfold wL
  rw [widT_eq, h]
  rfl
theorem wL_take {ws : List (Str × Nat)} {r : List PyData} : wL ws (.tuple (.str take_ :: r)) = lastW ws r := by
  match r with
  | [x] =>
    unfold wL
    rw [wid_take]
    cases x <;> rfl
  | [] => exact wL_none (by unfold nodeB; simp only [k_take]; rfl)
  | x :: y :: r =>
    rw [wL_none (by unfold nodeB; simp only [k_take]; exact decide_eq_false (by simp))]
    unfold lastW
    cases x <;> rfl
/-- an `if` that may return: what stands where it doesn't -/
theorem seq_ifR {t : TT} {ts u : TS} {D : Ends} {σ : L2.St} {H : Hp} (B : L2.St → Hp → Prop) (h : ∀ nx', (∀ τ H', B τ H' → nx' τ H') → tIfS t ts tNext { nx := nx', rt := D.rt, bk := D.bk, ct := D.ct } σ H) (n : ∀ τ H', B τ H' → u D τ H') : tSeq (tIfS t ts tNext) u D σ H := h _ n
theorem next_seq_ifR {t : TT} {ts u : TS} {D : Ends} {r : VK} {b c : L2.St → Hp → Prop} {σ : L2.St} {H : Hp} (B : L2.St → Hp → Prop) (h : ∀ nx', (∀ τ H', B τ H' → nx' τ H') → tIfS t ts tNext { nx := nx', rt := D.rt, bk := D.bk, ct := D.ct } σ H) (n : ∀ τ H', B τ H' → u D τ H') : tNext { nx := tSeq (tIfS t ts tNext) u D, rt := r, bk := b, ct := c } σ H := seq_ifR B h n
theorem eqv_str {z : Str} (e : PyData) : PyData.eqv (.str z) e = strB z (flat e) := by
  cases e with
  | str g =>
    rw [PyData.eqv, flat]
    show (z == g) = decide (g = z)
    rw [Bool.eq_iff_iff, beq_iff_eq, decide_eq_true_iff]
    exact eq_comm
    all_goals (intros; contradiction)
  | _ => simp [PyData.eqv, flat, strB]
theorem eqv_one {z : Str} : ∀ es : List PyData, PyData.eqv (.list [.str z]) (.list es) = isOne z (flats es)
  | [] => by
    rw [PyData.eqv, PyData.eqvAll, flats]
    rfl
    all_goals (intros; contradiction)
  | [e] => by
    rw [PyData.eqv, PyData.eqvAll, PyData.eqvAll, Bool.and_true, eqv_str, flats, flats]
    rfl
  | e :: e' :: es => by
    rw [PyData.eqv, PyData.eqvAll, PyData.eqvAll, Bool.and_false, flats, flats]
    rfl
    all_goals (intros; contradiction)
theorem fd_all {K : PySem.W.Frag} {H : Hp} : ∀ {xs : List V} {ds : List PyData}, Paired (FD K H) xs ds → ∃ es, DpAll K H xs es ∧ flats es = ds
  | _, _, .nil => ⟨[], .nil, rfl⟩
  | _, _, .cons ⟨d', h, e⟩ p => by
    obtain ⟨es, h1, h2⟩ := fd_all p
    exact ⟨d' :: es, .cons h h1, by rw [flats, e, h2]⟩
theorem slice_go {K : PySem.W.Frag} {H : Hp} {a : Addr} {xs : List V} {Q : VK} (hs : SqL K H a xs ∨ SqT K H a xs) (h1 : 1 ≤ xs.length) (q : ∀ (p : Addr) (H' : Hp), Same H H' → (SqL K H' p (xs.drop 1) ∨ SqT K H' p (xs.drop 1)) → Q (.ref p) H') : rSlL K (.ref a) (some 1) none H Q ∨ L2.rSlA K (.ref a) (some 1) none H Q := by
  have cut : cutV xs (some 1) none = xs.drop 1 := by
    unfold cutV
    rw [show (some (1 : Int)) = some ((1 : Nat) : Int) from rfl, HT.sIx_nat, Nat.min_eq_left h1]
    show ((xs.drop 1).take (xs.length - 1)) = _
    rw [List.take_of_length_le (by rw [List.length_drop]; omega)]
  have notAll : ¬ (HT.sIx xs.length 0 (some 1) = 0 ∧ HT.sIx xs.length xs.length none = xs.length) := fun z => by
    have z1 := z.1
    rw [show (some (1 : Int)) = some ((1 : Nat) : Int) from rfl, HT.sIx_nat] at z1
    omega
  rcases hs with h | h
  · refine .inl ⟨a, xs, rfl, h, fun r nr => ?_⟩
    rw [cut]
    exact q r _ (sm_new sm_refl nr) (.inl (SqL.of upd_same))
  · refine .inr ⟨a, xs, rfl, h, fun z => absurd z notAll, fun _ r nr => ?_⟩
    rw [cut]
    exact q r _ (sm_new sm_refl nr) (.inr (SqT.of upd_same))
/-- e and f: both say what they hold -/
theorem andv_go {ta tb : TE} {σ : L2.St} {H : Hp} {Q : VK} (g1 g2 : Bool) (ha : ∀ Q1 : VK, (∀ H', Same H H' → Q1 (.bl g1) H') → ta σ H Q1) (hb : ∀ H1, Same H H1 → ∀ Q2 : VK, (∀ H', Same H1 H' → Q2 (.bl g2) H') → tb σ H1 Q2) (q : ∀ H', Same H H' → Q (.bl (g1 && g2)) H') : tAndV ta tb σ H Q := by
  refine ha _ fun H1 s1 => ⟨g1, rfl, ?_⟩
  cases g1 with
  | true => exact hb H1 s1 Q fun H2 s2 => q H2 (s1.trans s2)
  | false => exact q H1 s1
theorem mul_go {a : Nat} {b : Bool} {H : Hp} {Q : VK} (h : a ≤ 1000) (q : Q (.int ((if b = true then a else 0 : Nat) : Int)) H) : rI CMulW (fun i j => V.int (i * j)) (.int (a : Int)) (.int (if b = true then (1 : Int) else 0)) H Q := by
  refine ⟨_, _, rfl, rfl, ?_, ?_⟩
  · cases b
    · exact cm_nat (b := 0) (by omega)
    · exact cm_nat (b := 1) (by omega)
  · show Q (.int _) H
    rw [bit_mul]
    exact q
/-- a sign in a list of signs -/
theorem in_go {K : PySem.W.Frag} {H : Hp} {D : Addr} {z : Str} {zs : List Str} {Q : VK} (h : H D = some (.lst (zs.map V.str))) (q : Q (.bl (decide (z ∈ zs))) H) : rIn K false (.str z) (.ref D) H Q := by
  refine ⟨D, zs.map V.str, rfl, .inl (SqL.of h), rfl, flat_strs _, ?_⟩
  show Q (.bl (inV (V.str z) (zs.map V.str))) H
  rw [inV_dec]
  exact q
theorem nin_go {K : PySem.W.Frag} {H : Hp} {D : Addr} {z : Str} {zs : List Str} {Q : VK} (h : H D = some (.lst (zs.map V.str))) (q : Q (.bl (!decide (z ∈ zs))) H) : rIn K true (.str z) (.ref D) H Q := by
  refine ⟨D, zs.map V.str, rfl, .inl (SqL.of h), rfl, flat_strs _, ?_⟩
  show Q (.bl (!inV (V.str z) (zs.map V.str))) H
  rw [inV_dec]
  exact q
theorem none_left {f : PyData → Bool} {cs : List PyData} {n : Nat} (h : n = (cs.filter fun c => !f c).length) : decide (V.int (n : Int) = V.int 0) = cs.all f := by
  rw [Bool.eq_iff_iff, decide_eq_true_iff, List.all_eq_true, h]
  constructor
  · intro h c hc
    have h : (List.filter (fun c => !f c) cs).length = 0 := by have := V.int.inj h; omega
    have := List.filter_eq_nil_iff.mp (List.length_eq_zero_iff.mp h) c hc
    simpa using this
  · intro h
    rw [List.filter_eq_nil_iff.mpr fun c hc => by simp [h c hc]]
    rfl
theorem wl_rest {ws : List (Str × Nat)} {z : Str} {r : List PyData} (hz : z ≠ take_) (n1 : z = keep_ → wL ws (.tuple (.str z :: r)) = 0) (n2 : z = pick_ → wL ws (.tuple (.str z :: r)) = 0) (n3 : z = make_ → wL ws (.tuple (.str z :: r)) = 0) (nj : z ≠ join_) (nb : z ≠ both_) : wL ws (.tuple (.str z :: r)) = 0 := by
  cases hb : nodeB (.tuple (.str z :: r)) with
  | false => exact wL_none hb
  | true =>
    have nt := node_of hb
    generalize ed : PyData.tuple (.str z :: r) = d at nt
    cases nt with
    | take y => cases ed; exact absurd rfl hz
    | keep p c => cases ed; exact n1 rfl
    | pick p c => cases ed; exact n2 rfl
    | make p c => cases ed; exact n3 rfl
    | both p c => cases ed; exact absurd rfl nb
    | join p q c => cases ed; exact absurd rfl nj
theorem asg_seq_ifR {t : TT} {ts u : TS} {D : Ends} {i : Nat} {v : V} {r : VK} {b c : L2.St → Hp → Prop} {σ : L2.St} {H : Hp} (B : L2.St → Hp → Prop) (h : ∀ nx', (∀ τ H', B τ H' → nx' τ H') → tIfS t ts tNext { nx := nx', rt := D.rt, bk := D.bk, ct := D.ct } (σ.set i (some v)) H) (n : ∀ τ H', B τ H' → u D τ H') : gName i v σ H (Ends.nx { nx := tSeq (tIfS t ts tNext) u D, rt := r, bk := b, ct := c }) := seq_ifR B h n
theorem wl_first {ws : List (Str × Nat)} {z : Str} {x : PyData} {r : List PyData} (hz : z ≠ take_) (h : widT (wof ws) x = none) : wL ws (.tuple (.str z :: x :: r)) = 0 := by
  cases hb : nodeB (.tuple (.str z :: x :: r)) with
  | false => exact wL_none hb
  | true =>
    have nt := node_of hb
    have : widT (wof ws) (.tuple (.str z :: x :: r)) = none := by
      refine wid_part nt (e := x) ?_ h
      generalize ed : PyData.tuple (.str z :: x :: r) = d at nt
      cases nt with
      | take y => cases ed; exact absurd rfl hz
      | keep p c => cases ed; rw [parts_keep]; exact List.mem_cons_self
      | pick p c => cases ed; rw [parts_pick]; exact List.mem_cons_self
      | make p c => cases ed; rw [parts_make]; exact List.mem_cons_self
      | both p c => cases ed; rw [parts_both]; exact List.mem_cons_self
      | join p q c => cases ed; rw [parts_join]; exact List.mem_cons_self
    unfold wL
    rw [this]
    rfl
theorem wl_len {ws : List (Str × Nat)} {z : Str} {x : PyData} {r : List PyData} (hz : z ≠ take_) (h : r.length + 2 ≠ 3 + (if z = join_ then 1 else 0)) : wL ws (.tuple (.str z :: x :: r)) = 0 := by
  cases hb : nodeB (.tuple (.str z :: x :: r)) with
  | false => exact wL_none hb
  | true =>
    exfalso
    have nt := node_of hb
    generalize ed : PyData.tuple (.str z :: x :: r) = d at nt
    cases nt with
    | take y => cases ed; exact hz rfl
    | keep p c => cases ed; exact h (by rw [if_neg (by decide +kernel)]; rfl)
    | pick p c => cases ed; exact h (by rw [if_neg (by decide +kernel)]; rfl)
    | make p c => cases ed; exact h (by rw [if_neg (by decide +kernel)]; rfl)
    | both p c => cases ed; exact h (by rw [if_neg (by decide +kernel)]; rfl)
    | join p q c => cases ed; exact h (by rw [if_pos rfl]; rfl)
theorem wl_other {ws : List (Str × Nat)} {z : Str} {r : List PyData} (h : kindT z = none) : wL ws (.tuple (.str z :: r)) = 0 := wL_none (by unfold nodeB; simp only [h])
def spLW (K : PySem.W.Frag) (n : Nat) : Sp := fun vs H Q _ => ∃ (v : V) (d : PyData) (T : Addr) (ys : List V) (ws : List (Str × Nat)), vs = [v, .ref T] ∧ FD K H v d ∧ Tv n d ∧ n ≤ 50 ∧ (SqL K H T ys ∨ SqT K H T ys) ∧ Paired (NmW K H) ys ws ∧ ws.length ≤ 1000 ∧ (ws.map (·.1)).Nodup ∧ (∀ g ∈ ws, 1 ≤ g.2 ∧ g.2 ≤ 6) ∧
  ∀ H', Same H H' → Q (.int (wL ws d : Nat)) H'
def spLWs (K : PySem.W.Frag) : Nat → Sp
  | 0 => fun _ _ _ _ => False
  | n + 1 => spLW K n
section
variable {P : Program} {w : World} {K : PySem.W.Frag} {mg : Str → Option Value} {base : Heap} {T cN fN : Addr}
abbrev lwiN : List Str := ["program", "widths", "width", "name", "good", "many", "i", "wide", "pair"]
theorem scLWi : FnScope lwiN ["program", "widths"] (defScope t__law_width) := ⟨rfl, rfl, rfl, by decide +kernel, rfl, by decide +kernel, by decide +kernel⟩
theorem ok_lWi {f : Addr} {fd : FuncData} (F : Fun K "_law_width" "_law_width" t__law_width f fd) (b : Binds K fd ["program", "widths"] []) (g : mg "_law_width" = some (.ref f)) (kp : PySem.W.keepIn K (.ref f) = true) (N : Nm mg) (sm : mg "sum" = none) (Gr : Df P w K mg base 1 "_law_is_row" ["value", "many"] (spMany K)) (Gc : Df P w K mg base 2 "_law_is_column" ["value", "width"] (spChk K colB)) (Gs : Df P w K mg base 3 "_law_is_side" ["value", "width"] (spChk K sideB)) : ∀ n : Nat, FnOk P w K mg base CX0 (n + 3) f fd ["program", "widths"] (spLWs K n) := by
  obtain ⟨fR, fdR, gR, kR, bR, GR⟩ := Gr.ok
  obtain ⟨fC, fdC, gC, kC, bC, GC⟩ := Gc.ok
  obtain ⟨fS, fdS, gS, kS, bS, GS⟩ := Gs.ok
  intro n
  induction n with
  | zero => exact ⟨fun _ _ _ _ h => False.elim h, fun _ _ _ _ _ _ _ _ _ _ _ _ _ h => False.elim h⟩
  | succ n ih =>
    refine F.ok scLWi (fun vs H Q E h => ?_) (fun cdv A outer s H vs Q E hr h => ?_)
    · obtain ⟨v, d, T, ys, ws, rfl, _⟩ := h
      rfl
    · obtain ⟨v, d, T, ys, ws, rfl, hf, ht, n50, hT, hys, wl, wnd, wpos, q⟩ := h
      have hr1 : Room 1 _ := hr.mono (by omega)
      have hr2 : Room 2 _ := hr.mono (by omega)
      have hr3 : Room 3 _ := hr.mono (by omega)
      --BODYA
      refine ⟨_, pss_cons (ps_if (PW.pt (pw_or (pt_not (pt_val (pe_callB (show CallR _ _ (rIsiT K) from call_isiT) (by rfl) N.isi (by decide +kernel) (pa_cons (pv 0) (pa_cons (pe_tup (pa_cons (pe_bltn (v := .ty "tuple") (by rfl) N.tup (by decide +kernel) rfl) (pa_cons (pe_bltn (v := .ty "list") (by rfl) N.lst (by decide +kernel) rfl) pa_nil))) pa_nil))))) (pw_or (pt_cmpR op_lt (pe_callB (show CallR _ _ (rLenQ K) from call_len_seq) (by rfl) N.len PySem.boot_len (pa_cons (pv 0) pa_nil)) pe_int (nomark _)) (pw_or1 (pt_not (pt_val (pe_callB (show CallR _ _ (rIsi K) from call_isi) (by rfl) N.isi (by decide +kernel) (pa_cons (pe_ix (show IxR _ (rIx K) from ix_seq) (pv 0) pe_int (fun _ _ => rfl)) (pa_cons (pe_bltn (v := .ty "str") (by rfl) N.str (by decide +kernel) rfl) pa_nil))))))))) (pss_one (ps_ret pe_int)) pss_nil)
      (pss_cons (ps_if (pt_cmpR op_eq (pe_ix (show IxR _ (rIx K) from ix_seq) (pv 0) pe_int (fun _ _ => rfl)) pe_str (nomark _)) (pss_one (ps_ret (pe_callB (show CallR _ _ (rSum K) from cr_sum rfl) (by rfl) sm (by rfl) (pa_cons (pe_lc (own := [("name", 3), ("width", 2)]) (g := gSeq K 2 (gCons (gName 3) (gCons (gName 2) gNil))) (tt := _) rfl scLWi.nd (show PI _ _ _ (iAny K _) from pi_any (pv 1)) (blkOk_by (N := lwiN) (sc := defScope t__law_width) (by decide +kernel))
          (fun _ _ _ _ _ => (pg_seq rfl (pgs_cons (pg_name (i := 3) scLWi.nd rfl (Or.inl rfl)) (pgs_cons (pg_name (i := 2) scLWi.nd rfl (Or.inl rfl)) pgs_nil)))) (fun _ _ _ _ _ => pts_one (pt_cmpR (show OpR _ _ (Dw.rEqP K) from Dw.op_eqP (u64 hr)) (pe_lst (pa_cons (pv 3) pa_nil)) (pe_callTy (show CallR _ _ (rListO K) from call_list_of) (by rfl) N.lst (by decide +kernel) (pa_cons (pe_slice (SlR.or (show SlR _ (rSlL K) from sl_list) (show SlR _ (L2.rSlA K) from L2.sl_tupA)) (pv 0) (po_some pe_int) po_none) pa_nil)) (nomark _))) (fun _ _ _ _ _ => (pv 2))) pa_nil)))) pss_nil)
      (pss_cons (ps_set (i := 2) scLWi.nd rfl (Or.inr rfl) (pe_call ih hr rfl g kp b .nil pass0 (pa_cons (pe_ix (show IxR _ (rIx K) from ix_seq) (pv 0) pe_int (fun _ _ => rfl)) (pa_cons (pv 1) pa_nil))))
      (pss_cons (ps_if (PW.pt (pw_or (pt_cmpR op_eq (pv 2) pe_int (nomark _)) (pw_or1 (pt_cmpR op_ne (pe_callB (show CallR _ _ (rLenQ K) from call_len_seq) (by rfl) N.len PySem.boot_len (pa_cons (pv 0) pa_nil)) (pe_op op_add pe_int (pe_callTy call_int1 (by rfl) N.int (by decide +kernel) (pa_cons (pe_cmpR op_eq (pe_ix (show IxR _ (rIx K) from ix_seq) (pv 0) pe_int (fun _ _ => rfl)) pe_str (nomark _)) pa_nil))) (nomark _))))) (pss_one (ps_ret pe_int)) pss_nil)
      (pss_cons (ps_if (PW.pt (pw_and (pt_cmpR op_eq (pe_ix (show IxR _ (rIx K) from ix_seq) (pv 0) pe_int (fun _ _ => rfl)) pe_str (nomark _)) (pw_and (pt_val (pe_call GR hr1 rfl gR kR bR .nil pass0 (pa_cons (pe_ix (show IxR _ (rIx K) from ix_seq) (pv 0) pe_int (fun _ _ => rfl)) (pa_cons pe_int pa_nil)))) (pw_and1 (pt_val (pe_callB (show CallR _ _ (rIsi K) from call_isi) (by rfl) N.isi (by decide +kernel) (pa_cons (pe_ix (show IxR _ (rIx K) from ix_seq) (pe_ix (show IxR _ (rIx K) from ix_seq) (pv 0) pe_int (fun _ _ => rfl)) pe_int (fun _ _ => rfl)) (pa_cons (pe_bltn (v := .ty "str") (by rfl) N.str (by decide +kernel) rfl) pa_nil)))))))) (pss_cons (ps_set (i := 4) scLWi.nd rfl (Or.inl rfl) (pe_and (pe_cmpR (show OpR _ _ (rIn K false) from op_in_seq) (pe_ix (show IxR _ (rIx K) from ix_seq) (pe_ix (show IxR _ (rIx K) from ix_seq) (pv 0) pe_int (fun _ _ => rfl)) pe_int (fun _ _ => rfl)) (pe_lst (pa_cons pe_str (pa_cons pe_str (pa_cons pe_str pa_nil)))) (by rfl)) (pe_one (pe_call GS hr3 rfl gS kS bS .nil pass0 (pa_cons (pe_ix (show IxR _ (rIx K) from ix_seq) (pe_ix (show IxR _ (rIx K) from ix_seq) (pv 0) pe_int (fun _ _ => rfl)) pe_int (fun _ _ => rfl)) (pa_cons (pv 2) pa_nil))))))
      (pss_one (ps_ret (pe_op op_mulW (pv 2) (pe_callTy call_int1 (by rfl) N.int (by decide +kernel) (pa_cons (pe_and (pv 4) (pe_one (pe_call GS hr3 rfl gS kS bS .nil pass0 (pa_cons (pe_ix (show IxR _ (rIx K) from ix_seq) (pe_ix (show IxR _ (rIx K) from ix_seq) (pv 0) pe_int (fun _ _ => rfl)) pe_int (fun _ _ => rfl)) (pa_cons (pv 2) pa_nil))))) pa_nil)))))) pss_nil)
      (pss_cons (ps_if (PW.pt (pw_and (pt_cmpR op_eq (pe_ix (show IxR _ (rIx K) from ix_seq) (pv 0) pe_int (fun _ _ => rfl)) pe_str (nomark _)) (pw_and1 (pt_val (pe_callB (show CallR _ _ (rIsiT K) from call_isiT) (by rfl) N.isi (by decide +kernel) (pa_cons (pe_ix (show IxR _ (rIx K) from ix_seq) (pv 0) pe_int (fun _ _ => rfl)) (pa_cons (pe_tup (pa_cons (pe_bltn (v := .ty "tuple") (by rfl) N.tup (by decide +kernel) rfl) (pa_cons (pe_bltn (v := .ty "list") (by rfl) N.lst (by decide +kernel) rfl) pa_nil))) pa_nil))))))) (pss_cons (ps_set (i := 5) scLWi.nd rfl (Or.inl rfl) (pe_callB (show CallR _ _ (rLenQ K) from call_len_seq) (by rfl) N.len PySem.boot_len (pa_cons (pe_ix (show IxR _ (rIx K) from ix_seq) (pv 0) pe_int (fun _ _ => rfl)) pa_nil)))
      (pss_one (ps_ret (pe_op op_mulW (pv 5) (pe_callTy call_int1 (by rfl) N.int (by decide +kernel) (pa_cons (pe_and (pe_cmpR op_lt (pv 5) pe_int (nomark _)) (pe_one (pe_cmpR op_eq (pe_callB (show CallR _ _ (rLenQ K) from call_len_seq) (by rfl) N.len PySem.boot_len (pa_cons (pe_lc (own := [("i", 6)]) (g := gName 6) (tt := _) rfl scLWi.nd (show PI _ _ _ (iAny K _) from pi_any (pe_ix (show IxR _ (rIx K) from ix_seq) (pv 0) pe_int (fun _ _ => rfl))) (blkOk_by (N := lwiN) (sc := defScope t__law_width) (by decide +kernel))
          (fun _ _ _ _ _ => (pg_name (i := 6) scLWi.nd rfl (Or.inl rfl))) (fun _ _ _ _ _ => pts_one (pt_not (pt_val (pe_call GC hr2 rfl gC kC bC .nil pass0 (pa_cons (pv 6) (pa_cons (pv 2) pa_nil)))))) (fun _ _ _ _ _ => (pv 6))) pa_nil)) pe_int (nomark _)))) pa_nil)))))) pss_nil)
      (pss_cons (ps_if (PW.pt (pw_and (pt_cmpR op_eq (pe_ix (show IxR _ (rIx K) from ix_seq) (pv 0) pe_int (fun _ _ => rfl)) pe_str (nomark _)) (pw_and (pt_val (pe_call GR hr1 rfl gR kR bR .nil pass0 (pa_cons (pe_ix (show IxR _ (rIx K) from ix_seq) (pv 0) pe_int (fun _ _ => rfl)) (pa_cons pe_int pa_nil)))) (pw_and1 (pt_val (pe_callB (show CallR _ _ (rIsi K) from call_isi) (by rfl) N.isi (by decide +kernel) (pa_cons (pe_ix (show IxR _ (rIx K) from ix_seq) (pe_ix (show IxR _ (rIx K) from ix_seq) (pv 0) pe_int (fun _ _ => rfl)) pe_int (fun _ _ => rfl)) (pa_cons (pe_bltn (v := .ty "str") (by rfl) N.str (by decide +kernel) rfl) pa_nil)))))))) (pss_cons (ps_set (i := 4) scLWi.nd rfl (Or.inl rfl) (pe_and (pe_cmpR (show OpR _ _ (rIn K false) from op_in_seq) (pe_ix (show IxR _ (rIx K) from ix_seq) (pe_ix (show IxR _ (rIx K) from ix_seq) (pv 0) pe_int (fun _ _ => rfl)) pe_int (fun _ _ => rfl)) (pe_lst (pa_cons pe_str (pa_cons pe_str (pa_cons pe_str (pa_cons pe_str pa_nil))))) (by rfl)) (pe_one (pe_call GC hr2 rfl gC kC bC .nil pass0 (pa_cons (pe_ix (show IxR _ (rIx K) from ix_seq) (pe_ix (show IxR _ (rIx K) from ix_seq) (pv 0) pe_int (fun _ _ => rfl)) pe_int (fun _ _ => rfl)) (pa_cons (pv 2) pa_nil))))))
      (pss_one (ps_ret (pe_op op_mulW (pe_op op_add (pv 2) pe_int) (pe_callTy call_int1 (by rfl) N.int (by decide +kernel) (pa_cons (pe_and (pv 4) (pe_and (pe_call GC hr2 rfl gC kC bC .nil pass0 (pa_cons (pe_ix (show IxR _ (rIx K) from ix_seq) (pe_ix (show IxR _ (rIx K) from ix_seq) (pv 0) pe_int (fun _ _ => rfl)) pe_int (fun _ _ => rfl)) (pa_cons (pv 2) pa_nil))) (pe_one (pe_cmpR op_lt (pv 2) pe_int (nomark _))))) pa_nil)))))) pss_nil)
      (pss_cons (ps_if (pt_cmpR (show OpR _ _ (rIn K true) from op_notIn_seq) (pe_ix (show IxR _ (rIx K) from ix_seq) (pv 0) pe_int (fun _ _ => rfl)) (pe_lst (pa_cons pe_str (pa_cons pe_str pa_nil))) (by rfl)) (pss_one (ps_ret pe_int)) pss_nil)
      (pss_cons (ps_set (i := 7) scLWi.nd rfl (Or.inl rfl) (pe_call ih hr rfl g kp b .nil pass0 (pa_cons (pe_ix (show IxR _ (rIx K) from ix_seq) (pv 0) pe_int (fun _ _ => rfl)) (pa_cons (pv 1) pa_nil))))
      (pss_cons (ps_if (pt_cmpR op_eq (pe_ix (show IxR _ (rIx K) from ix_seq) (pv 0) pe_int (fun _ _ => rfl)) pe_str (nomark _)) (pss_one (ps_ret (pe_op op_mulW (pv 2) (pe_callTy call_int1 (by rfl) N.int (by decide +kernel) (pa_cons (pe_cmpR op_eq (pv 7) (pv 2) (nomark _)) pa_nil))))) pss_nil)
      (pss_cons (ps_if (PW.pt (pw_or (pt_cmpR op_eq (pv 7) pe_int (nomark _)) (pw_or (pt_cmpR op_gt (pe_op op_add (pv 2) (pv 7)) pe_int (nomark _)) (pw_or1 (pt_not (pt_val (pe_callB (show CallR _ _ (rIsiT K) from call_isiT) (by rfl) N.isi (by decide +kernel) (pa_cons (pe_ix (show IxR _ (rIx K) from ix_seq) (pv 0) pe_int (fun _ _ => rfl)) (pa_cons (pe_tup (pa_cons (pe_bltn (v := .ty "tuple") (by rfl) N.tup (by decide +kernel) rfl) (pa_cons (pe_bltn (v := .ty "list") (by rfl) N.lst (by decide +kernel) rfl) pa_nil))) pa_nil))))))))) (pss_one (ps_ret pe_int)) pss_nil)
      (pss_cons (ps_for PassesOwn.never rfl (show PI _ _ _ (iAny K _) from pi_any (pe_ix (show IxR _ (rIx K) from ix_seq) (pv 0) pe_int (fun _ _ => rfl))) (pg_name (i := 8) scLWi.nd rfl (Or.inl rfl))
      (pss_one (ps_if (PW.pt (pw_or (pt_not (pt_val (pe_call GR hr1 rfl gR kR bR .nil pass0 (pa_cons (pv 8) (pa_cons pe_int pa_nil))))) (pw_or (pt_not (pt_val (pe_call GC hr2 rfl gC kC bC .nil pass0 (pa_cons (pe_ix (show IxR _ (rIx K) from ix_seq) (pv 8) pe_int (fun _ _ => rfl)) (pa_cons (pv 2) pa_nil))))) (pw_or1 (pt_not (pt_val (pe_call GC hr2 rfl gC kC bC .nil pass0 (pa_cons (pe_ix (show IxR _ (rIx K) from ix_seq) (pv 8) pe_int (fun _ _ => rfl)) (pa_cons (pv 7) pa_nil))))))))) (pss_one (ps_ret pe_int)) pss_nil)))
      (pss_one (ps_ret (pe_op op_add (pv 2) (pv 7))))))))))))))), ?_⟩
      --END
      refine ⟨_, rfl, (by show 2 ≤ sizeLine; decide), fun p np => ?_⟩
      have s1 : Same H (upd H p (.tup [.ty "tuple", .ty "list"])) := sm_new sm_refl np
      have hp : upd H p (.tup [.ty "tuple", .ty "list"]) p = some (.tup [.ty "tuple", .ty "list"]) := upd_same
      obtain ⟨k, kd, k1, _⟩ := fd_kd (hf.same s1) ht
      have hf := hf.same s1
      have hT := sq_go s1 hT
      have hys := Paired.mapP hys fun _ _ q => NmW.same s1 q
      have q := fun H' (s : Same (upd H p (.tup [.ty "tuple", .ty "list"])) H') => q H' (s1.trans s)
      dsimp only [tNil]
      refine isq_go kd hp ?_
      generalize upd H p (.tup [.ty "tuple", .ty "list"]) = H1 at hf hT hys q ⊢
      have ret0 : wL ws d = 0 → ∀ H', Same H1 H' → Q (.int 0) H' := fun e H' s' => by
        have := q H' s'
        rw [e] at this
        exact this
      refine ⟨_, rfl, ite2 (fun e => ?_) (fun e => ?_)⟩
      · refine ret0 (wL_none ?_) H1 sm_refl
        cases d with
        | tuple ds => exact absurd (decide_eq_true (k1.mpr ⟨ds, rfl⟩)) (by simpa using e)
        | _ => rfl
      obtain ⟨ds, rfl⟩ : ∃ ds, d = .tuple ds := by
        cases d with
        | tuple ds => exact ⟨ds, rfl⟩
        | _ => exfalso; apply e; rw [decide_eq_false (fun z => by obtain ⟨_, z⟩ := k1.mp z; cases z)]; rfl
      obtain ⟨m, rfl⟩ : ∃ m, n = m + 1 := by
        cases n with
        | zero => rcases ht with ⟨_, h⟩ | ⟨_, h, _⟩ | h <;> cases h
        | succ m => exact ⟨m, rfl⟩
      obtain ⟨ln, tk⟩ := ht.kid
      have hf0 := hf
      obtain ⟨a, xs, rfl, hs, hl, hg⟩ := fd_at hf
      refine ⟨_, rfl, a, xs, rfl, hs, _, _, rfl, rfl, _, rfl, ite2 (fun h => ?_) (fun h => ?_)⟩
      · have h : (xs.length : Int) < 2 := of_decide_eq_true h
        refine ret0 (wL_none ?_) H1 sm_refl
        cases hb : nodeB (.tuple ds) with
        | false => rfl
        | true =>
          exfalso
          obtain ⟨z, r, k, l, e, hk, hl2⟩ := node_true hb
          cases e
          obtain ⟨pp, _, _, hp2⟩ := kind_some hk
          rw [hl, List.length_cons] at h
          have : 2 ≤ l := by rw [hp2]; cases pp <;> simp [partsP, restD]
          omega
      have h2 : 2 ≤ xs.length := by
        have : ¬ (xs.length : Int) < 2 := fun z => h (decide_eq_true z)
        omega
      match ds, hl, hg, ht, q, ret0, tk, ln, hf0 with
      | [], hl, _, _, _, _, _, _, _ => exfalso; have : xs.length = 0 := hl; omega
      | [_], hl, _, _, _, _, _, _, _ => exfalso; have : xs.length = 1 := hl; omega
      | e0 :: x :: r, hl, hg, ht, q, ret0, tk, ln, hf0 =>
        obtain ⟨u0, i0, f0⟩ := hg 0 _ rfl
        obtain ⟨u1, i1, f1⟩ := hg 1 _ rfl
        obtain ⟨k', kd', _, k2, _⟩ := fd_kd f0 (tk e0 List.mem_cons_self)
        refine ⟨_, rfl, pick hs 0 i0 _ ?_⟩
        dsimp only [tCons, tNil, tC]
        refine isi_str kd' ⟨_, rfl, ite2 (fun h => ?_) (fun h => ?_)⟩
        · have h : ¬ k' = "str" := by simpa using h
          refine ret0 (wL_none ?_) H1 sm_refl
          cases e0 with
          | str z => exact absurd (k2.mpr ⟨z, rfl⟩) h
          | _ => rfl
        obtain ⟨z, rfl⟩ := k2.mp (by simpa using h)
        cases fd_str f0
        refine ⟨_, rfl, pick hs 0 i0 _ ⟨rfl, _, rfl, ite2 (fun h => ?_) (fun h => ?_)⟩⟩
        · have h : z = take_ := V.str.inj (of_decide_eq_true h)
          subst h
          have all : Paired (FD K H1) (xs.drop 1) (x :: r) := by
            refine paired_mk (by rw [List.length_drop, hl]; rfl) fun i y hy => ?_
            rw [List.getElem?_drop] at hy
            have il : i < (x :: r).length := by
              have h1 := (List.getElem?_eq_some_iff.mp hy).1
              rw [hl, List.length_cons] at h1
              omega
            obtain ⟨y', hy', fy⟩ := hg (1 + i) (x :: r)[i] (by rw [Nat.add_comm, List.getElem?_cons_succ]; exact List.getElem?_eq_getElem il)
            rw [hy] at hy'
            cases hy'
            exact ⟨_, List.getElem?_eq_getElem il, fy⟩
          obtain ⟨es, de, fe⟩ := fd_all all
          have pe : PyData.plainAll es = true := by
            rw [(flats_pd es).1, fe]
            exact plain_all fun e he => (tk e (List.mem_cons_of_mem _ he)).pd.1
          refine ⟨_, rfl, any_go hT fun J G walk hG D nD => ?_⟩
          refine lc_it walk (fun i H2 => Same H1 H2 ∧ ∃ acc : List Int, H2 D = some (.lst (acc.map V.int)) ∧ acc = (((ws.take i).filter fun g => isOne g.1 (x :: r)).map fun g => ((g.2 : Nat) : Int))) ⟨sm_new sm_refl nD, [], upd_same, rfl⟩ (fun i H2 _ ⟨s2, _⟩ => hG H2 s2.seq (sqT_same s2)) ?_ ?_
          · rintro i y _ H2 hi ⟨s2, acc, hD, ea⟩ ⟨rfl, hy⟩
            obtain ⟨g, hg', U, rfl, hU⟩ := paired_get hys hy
            have la : acc.length ≤ 1000 := by
              rw [ea, List.length_map]
              refine Nat.le_trans (List.length_filter_le _ _) ?_
              rw [List.length_take]
              omega
            have en : (((ws.take (i + 1)).filter fun g => isOne g.1 (x :: r)).map fun g => ((g.2 : Nat) : Int)) = acc ++ if isOne g.1 (x :: r) = true then [((g.2 : Nat) : Int)] else [] := by
              rw [ea, List.take_succ, hg', List.filter_append, List.map_append]
              congr 1
              show List.map _ ([g].filter _) = _
              rw [List.filter_cons]
              cases isOne g.1 (x :: r) <;> rfl
            refine ⟨U, _, rfl, sq_go s2 hU, rfl, _, _, rfl, _, _, rfl, rfl, rfl, _, rfl, (by show 1 ≤ sizeLine; decide), fun p1 n1 => ?_⟩
            have s3 : Same H2 (upd H2 p1 (.lst [.str g.1])) := sm_new sm_refl n1
            have h1 : upd H2 p1 (.lst [.str g.1]) p1 = some (.lst [.str g.1]) := upd_same
            generalize upd H2 p1 (.lst [.str g.1]) = H3 at s3 h1 ⊢
            refine ⟨_, rfl, _, rfl, slice_go (sq_go (s2.trans s3) hs) (by omega) fun p2 H4 s4 h2 => ⟨p2, _, rfl, h2, fun p3 n3 => ?_⟩⟩
            have s5 : Same H4 (upd H4 p3 (.lst (xs.drop 1))) := sm_new sm_refl n3
            have h3 : upd H4 p3 (.lst (xs.drop 1)) p3 = some (.lst (xs.drop 1)) := upd_same
            generalize upd H4 p3 (.lst (xs.drop 1)) = H5 at s5 h3 ⊢
            have s25 := s3.trans (s4.trans s5)
            refine ⟨.list [.str g.1], .list es, .lst (SqL.of (s5 _ _ (s4 _ _ h1))) (.cons (.str _) .nil), .lst (SqL.of h3) (dpAll_same (s2.trans s25) de), rfl, pe, by simp [PyData.depth, PyData.depthAll], _, rfl, ?_⟩
            rw [eqv_one, fe]
            refine ite2 (fun ho => ?_) (fun ho => ?_)
            · refine ⟨_, rfl, acc.map V.int, s25 _ _ hD, by rw [List.length_map, sizeLine_eq]; omega, ?_⟩
              refine ⟨?_, acc ++ [((g.2 : Nat) : Int)], ?_, ?_⟩
              · exact sm_new (s2.trans s25) nD
              · rw [upd_same, List.map_append]; rfl
              · rw [en, if_pos ho]
            · exact ⟨s2.trans s25, acc, s25 _ _ hD, by rw [en, if_neg ho, List.append_nil]⟩
          · rintro H2 ⟨s2, acc, hD, ea⟩
            have ll : ys.length = ws.length := paired_len hys
            rw [ll, List.take_length] at ea
            refine ⟨D, acc, rfl, SqL.of hD, ?_⟩
            rw [ea, sum_last wnd]
            rw [wL_take] at q
            exact q H2 s2
        · have hz : z ≠ take_ := fun e => h (decide_eq_true (by rw [e]; rfl))
          have tx := tk x (List.mem_cons_of_mem _ List.mem_cons_self)
          refine ⟨_, rfl, pick hs 1 i1 _ ⟨_, rfl, u1, x, T, ys, ws, rfl, f1, tx, by omega, hT, hys, wl, wnd, wpos, fun H2 s2 => ?_⟩⟩
          obtain ⟨w0, hw0⟩ : ∃ w0, wL ws x = w0 := ⟨_, rfl⟩
          rw [hw0]
          have hs2 := sq_go s2 hs
          refine ⟨_, rfl, rfl, _, rfl, ite2 (fun h0 => ?_) (fun h0 => ?_)⟩
          · have h0 : w0 = 0 := by have := V.int.inj (of_decide_eq_true h0); omega
            refine ret0 (wl_first hz ?_) H2 s2
            cases e : widT (wof ws) x with
            | none => rfl
            | some k =>
              have h1 := wid_pos (wof_pos wpos) (Nat.lt_succ_self _) e
              unfold wL at hw0
              rw [e] at hw0
              have : k = w0 := hw0
              omega
          have h0 : w0 ≠ 0 := fun e => h0 (decide_eq_true (by rw [e]; rfl))
          have hx : widT (wof ws) x = some w0 := by
            unfold wL at hw0
            cases e : widT (wof ws) x with
            | none => rw [e] at hw0; exact absurd hw0.symm h0
            | some k => rw [e] at hw0; rw [show k = w0 from hw0]
          have w6 := wid_pos (wof_pos wpos) (Nat.lt_succ_self _) hx
          refine ⟨_, rfl, a, xs, rfl, hs2, _, rfl, pick hs2 0 i0 _ ⟨rfl, .inr ⟨_, rfl, _, _, rfl, rfl, rfl, _, rfl, ite2 (fun hln => ?_) (fun hln => ?_)⟩⟩⟩
          · refine ret0 (wl_len hz fun e => ?_) H2 s2
            have hn : ¬ (V.int (xs.length : Int) = V.int (3 + (if decide (V.str z = V.str (Str.ofString "join")) = true then (1 : Int) else 0))) := by simpa using hln
            refine hn (congrArg V.int ?_)
            rw [hl]
            show ((r.length + 2 : Nat) : Int) = _
            rw [e]
            by_cases hj : z = join_
            · rw [if_pos hj, if_pos (decide_eq_true (by rw [hj]; rfl))]; rfl
            · rw [if_neg hj, if_neg (by rw [decide_eq_true_iff]; intro e; exact hj (V.str.inj e))]; rfl
          have hlen : r.length + 2 = 3 + (if z = join_ then 1 else 0) := by
            have hn : V.int (xs.length : Int) = V.int (3 + (if decide (V.str z = V.str (Str.ofString "join")) = true then (1 : Int) else 0)) := by simpa using hln
            have hn := V.int.inj hn
            rw [hl] at hn
            have hn : ((r.length + 2 : Nat) : Int) = (3 + (if decide (V.str z = V.str (Str.ofString "join")) = true then (1 : Int) else 0)) := hn
            by_cases hj : z = join_
            · rw [if_pos (decide_eq_true (by rw [hj]; rfl))] at hn
              rw [if_pos hj]
              omega
            · rw [if_neg (by rw [decide_eq_true_iff]; intro e; exact hj (V.str.inj e))] at hn
              rw [if_neg hj]
              omega
          obtain ⟨c, r', rfl⟩ : ∃ c r', r = c :: r' := by
            cases r with
            | nil => exfalso; have : 2 = 3 + (if z = join_ then 1 else 0) := hlen; omega
            | cons c r' => exact ⟨c, r', rfl⟩
          obtain ⟨u2, i2, f2⟩ := hg 2 _ rfl
          have tc := tk c (List.mem_cons_of_mem _ (List.mem_cons_of_mem _ List.mem_cons_self))
          have tc50 : Tv 50 c := tc.le (by omega)
          have f2 := f2.same s2
          have q2 : ∀ (k : Nat) (H' : Hp), Same H2 H' → k = wL ws (.tuple (.str z :: x :: c :: r')) → Q (.int (k : Int)) H' := fun k H' s' e => by rw [e]; exact q H' (s2.trans s')
          -- keep
          refine next_seq_ifR (fun τ H' => τ = [some (.ref a), some (.ref T), some (.int w0), none, none, none, none, none, none] ∧ Same H2 H' ∧ (z = keep_ → wL ws (.tuple (.str z :: x :: c :: r')) = 0)) (fun nx hn => ?_) (fun τ H3 ⟨e, s3, nk⟩ => ?_)
          · refine ⟨_, rfl, pick hs2 0 i0 _ ⟨rfl, _, rfl, ite2 (fun hk => ?_) (fun hk => iteF (hn _ _ ⟨rfl, sm_refl, fun e => absurd (decide_eq_true (by rw [e]; rfl)) hk⟩))⟩⟩
            have hk : z = keep_ := V.str.inj (of_decide_eq_true hk)
            subst hk
            have er : r' = [] := by
              have : r'.length + 3 = 3 + (if keep_ = join_ then 1 else 0) := hlen
              rw [if_neg (by decide +kernel)] at this
              exact List.length_eq_zero_iff.mp (by omega)
            subst er
            have ew : wL ws (.tuple [.str keep_, x, c]) = if cmpB w0 c = true then w0 else 0 := by
              unfold wL
              rw [wid_keep, hx, Option.bind_some]
              split <;> rfl
            have no : cmpB w0 c = false → wL ws (.tuple [.str keep_, x, c]) = 0 := fun e => by rw [ew, e]; rfl
            refine ⟨_, rfl, pick hs2 2 i2 _ ⟨u2, c, 3, rfl, f2, tc50, fun H3 s3 => ⟨_, rfl, ite2 (fun hm => ?_) (fun hm => ?_)⟩⟩⟩
            · obtain ⟨cs, b1, us, rfl, hcl, rfl, hb, gc⟩ := two_of tc50 (f2.same s3) hm
              match cs, hcl with
              | [l0, g0, r0], _ =>
                obtain ⟨t0, v0, j0, d0⟩ := gc 0 _ rfl
                obtain ⟨t1, v1, j1, d1⟩ := gc 1 _ rfl
                obtain ⟨t2, v2, j2, d2⟩ := gc 2 _ rfl
                obtain ⟨k3, kd3, _, k32, _⟩ := fd_kd d1 t1
                have hs3 := sq_go s3 hs2
                refine ⟨_, rfl, pick hs3 2 i2 _ (pick hb 1 j1 _ ?_)⟩
                dsimp only [tCons, tNil, tC]
                refine isi_str kd3 ⟨_, rfl, ite2 (fun hstr => ?_) (fun hstr => ?_)⟩
                · obtain ⟨gz, rfl⟩ := k32.mp (of_decide_eq_true hstr)
                  cases fd_str d1
                  refine andv_go (decide (gz ∈ signs)) (sideB w0 l0) (fun Q1 q1 => ⟨_, rfl, pick hs3 2 i2 _ (pick hb 1 j1 _ ⟨by show 3 ≤ sizeLine; decide, fun LL nLL => in_go (zs := signs) upd_same (q1 _ (sm_new sm_refl nLL))⟩)⟩) (fun H4 s4 Q2 q3 => ⟨_, rfl, pick (sq_go s4 hs3) 2 i2 _ (pick (sq_go s4 hb) 0 j0 _ ⟨_, rfl, v0, l0, w0, rfl, d0.same s4, t0, q3⟩)⟩) (fun H4 s4 => ?_)
                  refine ⟨_, rfl, andv_go (decide (gz ∈ signs) && sideB w0 l0) (sideB w0 r0) (fun Q1 q1 => ⟨_, rfl, q1 _ sm_refl⟩) (fun H5 s5 Q2 q3 => ⟨_, rfl, pick (sq_go (s4.trans s5) hs3) 2 i2 _ (pick (sq_go (s4.trans s5) hb) 2 j2 _ ⟨_, rfl, v2, r0, w0, rfl, d2.same (s4.trans s5), t2, q3⟩)⟩) (fun H5 s5 => .inr ⟨_, rfl, mul_go (by omega) (q2 _ H5 (s3.trans (s4.trans s5)) ?_)⟩)⟩
                  rw [ew, show cmpB w0 (.tuple [l0, .str gz, r0]) = (decide (gz ∈ signs) && (sideB w0 l0 && sideB w0 r0)) from rfl, Bool.and_assoc]
                · have hstr : ¬ k3 = "str" := fun e => hstr (decide_eq_true e)
                  refine hn _ _ ⟨rfl, s3, fun _ => no ?_⟩
                  cases g0 with
                  | str zz => exact absurd (k32.mpr ⟨zz, rfl⟩) hstr
                  | _ => rfl
            · refine iteF (hn _ _ ⟨rfl, s3, fun _ => no ?_⟩)
              have hm : manyB 3 c = false := by simpa using hm
              match c with
              | .tuple [_, _, _] => cases hm
              | .tuple [] => rfl
              | .tuple [_] => rfl
              | .tuple [_, _] => rfl
              | .tuple (_ :: _ :: _ :: _ :: _) => rfl
              | .int _ => rfl
              | .str _ => rfl
              | .none => rfl
              | .bool _ => rfl
              | .list _ => rfl
              | .dict _ => rfl
          · subst e
            have hs3 := sq_go s3 hs2
            have f3 := f2.same s3
            have q3 : ∀ (k : Nat) (H' : Hp), Same H3 H' → k = wL ws (.tuple (.str z :: x :: c :: r')) → Q (.int (k : Int)) H' := fun k H' s' e => q2 k H' (s3.trans s') e
            -- pick
            refine seq_ifR (fun τ H' => τ = [some (.ref a), some (.ref T), some (.int w0), none, none, none, none, none, none] ∧ Same H3 H' ∧ (z = pick_ → wL ws (.tuple (.str z :: x :: c :: r')) = 0)) (fun nx hn => ?_) (fun τ H4 ⟨e, s4, np⟩ => ?_)
            · refine ⟨_, rfl, pick hs3 0 i0 _ ⟨rfl, _, rfl, ite2 (fun hk => ?_) (fun hk => iteF (hn _ _ ⟨rfl, sm_refl, fun e => absurd (decide_eq_true (by rw [e]; rfl)) hk⟩))⟩⟩
              have hk : z = pick_ := V.str.inj (of_decide_eq_true hk)
              subst hk
              have er : r' = [] := by
                have : r'.length + 3 = 3 + (if pick_ = join_ then 1 else 0) := hlen
                rw [if_neg (by decide +kernel)] at this
                exact List.length_eq_zero_iff.mp (by omega)
              subst er
              have ew : wL ws (.tuple [.str pick_, x, c]) = if colsB w0 c = true then lenD c else 0 := by
                unfold wL
                rw [wid_pick, hx, Option.bind_some]
                split <;> rfl
              obtain ⟨k3, kd3, k31, _⟩ := fd_kd f3 tc50
              refine ⟨_, rfl, pick hs3 2 i2 _ ⟨by show 2 ≤ sizeLine; decide, fun p np => ?_⟩⟩
              have s4 : Same H3 (upd H3 p (.tup [.ty "tuple", .ty "list"])) := sm_new sm_refl np
              have hp : upd H3 p (.tup [.ty "tuple", .ty "list"]) p = some (.tup [.ty "tuple", .ty "list"]) := upd_same
              generalize upd H3 p (.tup [.ty "tuple", .ty "list"]) = H4 at s4 hp ⊢
              dsimp only [tNil]
              refine isq_go (kd3.same s4) hp ⟨_, rfl, ite2 (fun hq => ?_) (fun hq => ?_)⟩
              · obtain ⟨cs, rfl⟩ := k31.mp (of_decide_eq_true hq)
                obtain ⟨b1, us, rfl, hb, hbl, gc⟩ := fd_seq f3
                have lc := tc.kids
                refine ⟨_, rfl, pick (sq_go s4 hs3) 2 i2 _ ⟨_, us, rfl, sq_go s4 hb, _, rfl, andv_go (decide (((us.length : Nat) : Int) < 7)) (cs.all (colB w0)) (fun Q1 q1 => ⟨_, rfl, _, _, rfl, rfl, q1 _ sm_refl⟩) (fun H5 s5 Q2 q5 => ?_) (fun H5 s5 => .inr ⟨_, rfl, mul_go (by omega) (q3 _ H5 (s4.trans s5) ?_)⟩)⟩⟩
                · have s35 := s4.trans s5
                  refine ⟨_, rfl, pick (sq_go s35 hs3) 2 i2 _ (any_go (sq_go s35 hb) fun J G walk hG D nD => ?_)⟩
                  refine lc_it walk (fun i H6 => Same H5 H6 ∧ ∃ acc : List V, H6 D = some (.lst acc) ∧ acc.length = ((cs.take i).filter fun c => !colB w0 c).length) ⟨sm_new sm_refl nD, [], upd_same, rfl⟩ (fun i H6 _ ⟨s6, _⟩ => hG H6 s6.seq (sqT_same s6)) ?_ ?_
                  · rintro i y _ H6 hi ⟨s6, acc, hD, la⟩ ⟨rfl, hy⟩
                    obtain ⟨e, he, fe⟩ := gc i y hy
                    have te := tc50.kids.2 e (List.mem_of_getElem? he)
                    have ef : ((cs.take (i + 1)).filter fun c => !colB w0 c) = ((cs.take i).filter fun c => !colB w0 c) ++ (if colB w0 e = true then [] else [e]) := by
                      rw [List.take_succ, he, List.filter_append]
                      congr 1
                      show [e].filter _ = _
                      rw [List.filter_cons]
                      cases colB w0 e <;> rfl
                    have fl := List.length_filter_le (fun c => !colB w0 c) (cs.take i)
                    rw [List.length_take] at fl
                    refine ⟨rfl, _, rfl, _, rfl, y, e, w0, rfl, fe.same (s35.trans s6), te, fun H7 s7 => ⟨_, rfl, ite2 (fun h => ?_) (fun h => ?_)⟩⟩
                    · have h : colB w0 e = false := by simpa using h
                      refine ⟨_, rfl, acc, s7 _ _ hD, by rw [la, sizeLine_eq]; omega, sm_new (s6.trans s7) nD, _, upd_same, ?_⟩
                      rw [ef, h, List.length_append, List.length_append, la]
                      rfl
                    · have h : colB w0 e = true := by simpa using h
                      refine ⟨s6.trans s7, acc, s7 _ _ hD, ?_⟩
                      rw [ef, if_pos h, List.append_nil]
                      exact la
                  · rintro H6 ⟨s6, acc, hD, la⟩
                    rw [hbl, List.take_length] at la
                    refine ⟨D, acc, rfl, .inl (SqL.of hD), rfl, ?_⟩
                    rw [none_left la]
                    exact q5 H6 s6
                · rw [ew, show colsB w0 (.tuple cs) = (decide (1 ≤ cs.length) && decide (cs.length ≤ 6) && cs.all (colB w0)) from rfl, show lenD (.tuple cs) = cs.length from rfl, hbl]
                  rw [show decide (((cs.length : Nat) : Int) < 7) = decide (cs.length ≤ 6) from decide_eq_decide.mpr (by omega)]
                  by_cases h1 : 1 ≤ cs.length
                  · rw [decide_eq_true h1, Bool.true_and]
                  · have : cs.length = 0 := by omega
                    rw [this]
                    split <;> split <;> rfl
              · refine hn _ _ ⟨rfl, s4, fun _ => ?_⟩
                rw [ew]
                cases c with
                | tuple cs => exact absurd (decide_eq_true (k31.mpr ⟨cs, rfl⟩)) hq
                | _ => rfl
            subst e
            have hs4 := sq_go s4 hs3
            have f4 := f3.same s4
            -- make
            refine seq_ifR (fun τ H' => τ = [some (.ref a), some (.ref T), some (.int w0), none, none, none, none, none, none] ∧ Same H4 H' ∧ (z = make_ → wL ws (.tuple (.str z :: x :: c :: r')) = 0)) (fun nx hn => ?_) (fun τ H5 ⟨e, s5, nm⟩ => ?_)
            · refine ⟨_, rfl, pick hs4 0 i0 _ ⟨rfl, _, rfl, ite2 (fun hk => ?_) (fun hk => iteF (hn _ _ ⟨rfl, sm_refl, fun e => absurd (decide_eq_true (by rw [e]; rfl)) hk⟩))⟩⟩
              have hk : z = make_ := V.str.inj (of_decide_eq_true hk)
              subst hk
              have er : r' = [] := by
                have : r'.length + 3 = 3 + (if make_ = join_ then 1 else 0) := hlen
                rw [if_neg (by decide +kernel)] at this
                exact List.length_eq_zero_iff.mp (by omega)
              subst er
              have ew : wL ws (.tuple [.str make_, x, c]) = if (mkgB w0 c && decide ((w0 : Int) < 6)) = true then w0 + 1 else 0 := by
                unfold wL
                rw [wid_make, hx, Option.bind_some]
                by_cases h6 : w0 < 6
                · rw [decide_eq_true (show (w0 : Int) < 6 by omega), Bool.and_true]
                  by_cases hm : mkgB w0 c = true
                  · rw [if_pos ⟨hm, h6⟩, if_pos hm]; rfl
                  · rw [if_neg (fun z => hm z.1), if_neg hm]; rfl
                · rw [decide_eq_false (show ¬ (w0 : Int) < 6 by omega), Bool.and_false, if_neg (fun z => h6 z.2)]
                  rfl
              have no : mkgB w0 c = false → wL ws (.tuple [.str make_, x, c]) = 0 := fun e => by rw [ew, e]; rfl
              refine ⟨_, rfl, pick hs4 2 i2 _ ⟨u2, c, 3, rfl, f4, tc50, fun H5 s5 => ⟨_, rfl, ite2 (fun hm => ?_) (fun hm => ?_)⟩⟩⟩
              · obtain ⟨cs, b1, us, rfl, hcl, rfl, hb, gc⟩ := two_of tc50 (f4.same s5) hm
                match cs, hcl with
                | [g0, l0, r0], _ =>
                  obtain ⟨t0, v0, j0, d0⟩ := gc 0 _ rfl
                  obtain ⟨t1, v1, j1, d1⟩ := gc 1 _ rfl
                  obtain ⟨t2, v2, j2, d2⟩ := gc 2 _ rfl
                  obtain ⟨k3, kd3, _, k32, _⟩ := fd_kd d0 t0
                  have hs5 := sq_go s5 hs4
                  refine ⟨_, rfl, pick hs5 2 i2 _ (pick hb 0 j0 _ ?_)⟩
                  dsimp only [tCons, tNil, tC]
                  refine isi_str kd3 ⟨_, rfl, ite2 (fun hstr => ?_) (fun hstr => ?_)⟩
                  · obtain ⟨gz, rfl⟩ := k32.mp (of_decide_eq_true hstr)
                    cases fd_str d0
                    refine andv_go (decide (gz ∈ makes_)) (colB w0 l0) (fun Q1 q1 => ⟨_, rfl, pick hs5 2 i2 _ (pick hb 0 j0 _ ⟨by show 4 ≤ sizeLine; decide, fun LL nLL => in_go (zs := makes_) upd_same (q1 _ (sm_new sm_refl nLL))⟩)⟩) (fun H6 s6 Q2 q6 => ⟨_, rfl, pick (sq_go s6 hs5) 2 i2 _ (pick (sq_go s6 hb) 1 j1 _ ⟨_, rfl, v1, l0, w0, rfl, d1.same s6, t1, q6⟩)⟩) (fun H6 s6 => ?_)
                    refine ⟨_, rfl, _, _, rfl, rfl, andv_go (decide (gz ∈ makes_) && colB w0 l0) (colB w0 r0 && decide ((w0 : Int) < 6)) (fun Q1 q1 => ⟨_, rfl, q1 _ sm_refl⟩) (fun H7 s7 Q2 q7 => andv_go (colB w0 r0) (decide ((w0 : Int) < 6)) (fun Q3 q8 => ⟨_, rfl, pick (sq_go (s6.trans s7) hs5) 2 i2 _ (pick (sq_go (s6.trans s7) hb) 2 j2 _ ⟨_, rfl, v2, r0, w0, rfl, d2.same (s6.trans s7), t2, q8⟩)⟩) (fun H8 s8 Q3 q8 => ⟨_, rfl, _, _, rfl, rfl, q8 _ sm_refl⟩) q7) (fun H7 s7 => .inr ⟨_, rfl, mul_go (a := w0 + 1) (by omega) (q3 _ H7 (s4.trans (s5.trans (s6.trans s7))) ?_)⟩)⟩
                    rw [ew, show mkgB w0 (.tuple [.str gz, l0, r0]) = (decide (gz ∈ makes_) && (colB w0 l0 && colB w0 r0)) from rfl, Bool.and_assoc, Bool.and_assoc, Bool.and_assoc]
                  · have hstr : ¬ k3 = "str" := fun e => hstr (decide_eq_true e)
                    refine hn _ _ ⟨rfl, s5, fun _ => no ?_⟩
                    cases g0 with
                    | str zz => exact absurd (k32.mpr ⟨zz, rfl⟩) hstr
                    | _ => rfl
              · refine iteF (hn _ _ ⟨rfl, s5, fun _ => no ?_⟩)
                have hm : manyB 3 c = false := by simpa using hm
                match c with
                | .tuple [_, _, _] => cases hm
                | .tuple [] => rfl
                | .tuple [_] => rfl
                | .tuple [_, _] => rfl
                | .tuple (_ :: _ :: _ :: _ :: _) => rfl
                | .int _ => rfl
                | .str _ => rfl
                | .none => rfl
                | .bool _ => rfl
                | .list _ => rfl
                | .dict _ => rfl
            subst e
            have hs5 := sq_go s5 hs4
            have f5 := f4.same s5
            -- not in [join, both]
            refine seq_ifR (fun τ H' => τ = [some (.ref a), some (.ref T), some (.int w0), none, none, none, none, none, none] ∧ Same H5 H' ∧ (z = join_ ∨ z = both_)) (fun nx hn => ?_) (fun τ H6 ⟨e, s6, jb⟩ => ?_)
            · refine ⟨_, rfl, pick hs5 0 i0 _ ⟨by show 2 ≤ sizeLine; decide, fun LL nLL => nin_go (zs := [join_, both_]) upd_same ⟨_, rfl, ite2 (fun hq => ?_) (fun hq => ?_)⟩⟩⟩
              · have hq : ¬ z ∈ [join_, both_] := by simpa using hq
                have hq : z ≠ join_ ∧ z ≠ both_ := ⟨fun e => hq (by rw [e]; exact List.mem_cons_self), fun e => hq (by rw [e]; simp)⟩
                exact q3 0 _ (s4.trans (s5.trans (sm_new sm_refl nLL))) (wl_rest hz nk np nm hq.1 hq.2).symm
              · have hq : z ∈ [join_, both_] := of_decide_eq_true (by simpa only [Bool.not_eq_true, Bool.not_eq_false', Bool.not_eq_false] using hq)
                refine hn _ _ ⟨rfl, sm_new sm_refl nLL, ?_⟩
                rcases List.mem_cons.mp hq with h | h
                · exact .inl h
                · exact .inr (List.mem_singleton.mp h)
            subst e
            have hs6 := sq_go s6 hs5
            have f6 := f5.same s6
            have s36 := s4.trans (s5.trans s6)
            have s16 := s2.trans (s3.trans s36)
            refine ⟨_, rfl, pick hs6 2 i2 _ ⟨_, rfl, u2, c, T, ys, ws, rfl, f6, tc, by omega, sq_go s16 hT, Paired.mapP hys fun _ _ q => NmW.same s16 q, wl, wnd, wpos, fun H7 s7 => ?_⟩⟩
            obtain ⟨w1, hw1⟩ : ∃ w1, wL ws c = w1 := ⟨_, rfl⟩
            rw [hw1]
            have hs7 := sq_go s7 hs6
            have s37 := s36.trans s7
            have cn : widT (wof ws) c = if w1 = 0 then none else some w1 := by
              unfold wL at hw1
              cases e : widT (wof ws) c with
              | none => rw [e] at hw1; rw [if_pos (show w1 = 0 from hw1.symm)]
              | some k =>
                have h1 := wid_pos (wof_pos wpos) (Nat.lt_succ_self _) e
                rw [e] at hw1
                have : k = w1 := hw1
                rw [if_neg (by omega), this]
            -- both
            refine asg_seq_ifR (fun τ H' => τ = [some (.ref a), some (.ref T), some (.int w0), none, none, none, none, some (.int w1), none] ∧ Same H7 H' ∧ z = join_) (fun nx hn => ?_) (fun τ H8 ⟨e, s8, ej⟩ => ?_)
            · refine ⟨_, rfl, pick hs7 0 i0 _ ⟨rfl, _, rfl, ite2 (fun hk => ?_) (fun hk => ?_)⟩⟩
              · have hk : z = both_ := V.str.inj (of_decide_eq_true hk)
                subst hk
                have er : r' = [] := by
                  have : r'.length + 3 = 3 + (if both_ = join_ then 1 else 0) := hlen
                  rw [if_neg (by decide +kernel)] at this
                  exact List.length_eq_zero_iff.mp (by omega)
                subst er
                refine ⟨_, rfl, _, rfl, _, rfl, rfl, .inr ⟨_, rfl, mul_go (by omega) (q3 _ H7 s37 ?_)⟩⟩
                have ew : wL ws (.tuple [.str both_, x, c]) = if w0 = w1 then w0 else 0 := by
                  unfold wL
                  rw [wid_both, hx, Option.bind_some, cn]
                  by_cases h0 : w1 = 0
                  · rw [if_pos h0, if_neg (by omega)]; rfl
                  · rw [if_neg h0, Option.bind_some]
                    split <;> rfl
                rw [ew]
                by_cases h : w0 = w1
                · rw [if_pos h, if_pos (decide_eq_true (by rw [h]))]
                · rw [if_neg h, if_neg (by rw [decide_eq_true_iff]; intro e; have := V.int.inj e; omega)]
              · refine hn _ _ ⟨rfl, sm_refl, jb.elim id fun e => absurd (decide_eq_true (by rw [e]; rfl)) hk⟩
            subst e
            subst ej
            obtain ⟨c3, rfl⟩ : ∃ c3, r' = [c3] := by
              have : r'.length + 3 = 3 + (if join_ = join_ then 1 else 0) := hlen
              rw [if_pos rfl] at this
              exact List.length_eq_one_iff.mp (by omega)
            have hs8 := sq_go s8 hs7
            have s38 := s37.trans s8
            have s18 := s2.trans (s3.trans s38)
            obtain ⟨u3, i3, f3'⟩ := hg 3 _ rfl
            have f8 := f3'.same s18
            have t3 := tk c3 (by simp)
            have t350 : Tv 50 c3 := t3.le (by omega)
            have w16 : w1 ≤ 6 := by
              by_cases h0 : w1 = 0
              · omega
              · rw [if_neg h0] at cn
                exact (wid_pos (wof_pos wpos) (Nat.lt_succ_self _) cn).2
            have ew : wL ws (.tuple [.str join_, x, c, c3]) = if w1 ≠ 0 ∧ prsB w0 w1 c3 = true ∧ w0 + w1 ≤ 6 then w0 + w1 else 0 := by
              unfold wL
              rw [wid_join, hx, Option.bind_some, cn]
              by_cases h0 : w1 = 0
              · rw [if_pos h0, if_neg (fun z => z.1 h0)]; rfl
              · rw [if_neg h0, Option.bind_some]
                by_cases h : prsB w0 w1 c3 = true ∧ w0 + w1 ≤ 6
                · rw [if_pos h, if_pos ⟨h0, h⟩]; rfl
                · rw [if_neg h, if_neg (fun z => h z.2)]; rfl
            have no : ¬ (w1 ≠ 0 ∧ prsB w0 w1 c3 = true ∧ w0 + w1 ≤ 6) → ∀ H', Same H8 H' → Q (.int 0) H' := fun e H' s' => q3 0 H' (s38.trans s') (by rw [ew, if_neg e])
            refine seq_ifR (fun τ H' => τ = [some (.ref a), some (.ref T), some (.int w0), none, none, none, none, some (.int w1), none] ∧ Same H8 H' ∧ w1 ≠ 0 ∧ w0 + w1 ≤ 6 ∧ ∃ cs, c3 = .tuple cs) (fun nx hn => ?_) (fun τ H9 ⟨e, s9, w10, w6', cs, ec⟩ => ?_)
            · refine ⟨_, rfl, rfl, _, rfl, ite2 (fun h => ?_) (fun h => ?_)⟩
              · have h : w1 = 0 := by have := V.int.inj (of_decide_eq_true h); omega
                exact no (fun z => z.1 h) H8 sm_refl
              have h10 : w1 ≠ 0 := fun e => h (decide_eq_true (by rw [e]; rfl))
              refine ⟨_, rfl, _, rfl, _, _, rfl, rfl, _, _, rfl, rfl, _, rfl, ite2 (fun h => ?_) (fun h => ?_)⟩
              · have h : (6 : Int) < (w0 : Int) + (w1 : Int) := of_decide_eq_true h
                exact no (fun z => by have := z.2.2; omega) H8 sm_refl
              have h6 : ¬ (6 : Int) < (w0 : Int) + (w1 : Int) := fun e => h (decide_eq_true e)
              obtain ⟨k3, kd3, k31, _⟩ := fd_kd f8 t350
              refine ⟨_, rfl, pick hs8 3 i3 _ ⟨by show 2 ≤ sizeLine; decide, fun p np => ?_⟩⟩
              have s9 : Same H8 (upd H8 p (.tup [.ty "tuple", .ty "list"])) := sm_new sm_refl np
              have hp : upd H8 p (.tup [.ty "tuple", .ty "list"]) p = some (.tup [.ty "tuple", .ty "list"]) := upd_same
              generalize upd H8 p (.tup [.ty "tuple", .ty "list"]) = H9 at s9 hp ⊢
              dsimp only [tNil]
              refine isq_go (kd3.same s9) hp ⟨_, rfl, ite2 (fun hq => ?_) (fun hq => ?_)⟩
              · have hq : ¬ (k3 = "tuple" ∨ k3 = "list") := by simpa using hq
                refine no (fun z => ?_) H9 s9
                have z := z.2.1
                cases c3 with
                | tuple cs => exact hq (k31.mpr ⟨cs, rfl⟩)
                | _ => cases z
              · have hq : k3 = "tuple" ∨ k3 = "list" := of_decide_eq_true (by simpa only [Bool.not_eq_true, Bool.not_eq_false', Bool.not_eq_false] using hq)
                exact hn _ _ ⟨rfl, s9, h10, by omega, k31.mp hq⟩
            subst e
            subst ec
            have hs9 := sq_go s9 hs8
            have s39 := s38.trans s9
            obtain ⟨b1, us, rfl, hb0, hbl, gc⟩ := fd_seq (f8.same s9)
            have lc := t3.kids
            refine ⟨_, rfl, pick hs9 3 i3 _ (any_go hb0 fun J G walk hG => ?_)⟩
            refine for_it walk (fun i τ H' => (∃ o, τ = [some (.ref a), some (.ref T), some (.int w0), none, none, none, none, some (.int w1), o]) ∧ Same H9 H' ∧ ((cs.take i).all (prB w0 w1) = true)) ⟨⟨none, rfl⟩, sm_refl, rfl⟩ (fun i τ H' _ ⟨_, s', _⟩ => hG H' s'.seq (sqT_same s')) ?_ ?_
            · rintro i y τ Hx Ha hi ⟨⟨o, rfl⟩, sa, al⟩ ⟨e0, hy⟩
              subst e0
              obtain ⟨e, he, fe⟩ := gc i y hy
              have te := t350.kids.2 e (List.mem_of_getElem? he)
              have bad : prB w0 w1 e = false → ∀ H', Same Ha H' → Q (.int 0) H' := fun hf H' s' => by
                refine no (fun zz => ?_) H' (s9.trans (sa.trans s'))
                have zz : cs.all (prB w0 w1) = true := zz.2.1
                rw [List.all_eq_true] at zz
                rw [zz e (List.mem_of_getElem? he)] at hf
                cases hf
              have ok : prB w0 w1 e = true → (cs.take (i + 1)).all (prB w0 w1) = true := fun h => by
                rw [List.take_succ, he, List.all_append, al, Bool.true_and]
                show [e].all _ = true
                simp [h]
              refine ⟨_, rfl, y, e, 2, rfl, fe.same sa, te, fun Hb sb => ⟨_, rfl, ite2 (fun h => ?_) (fun h => ?_)⟩⟩
              · have h : manyB 2 e = false := by simpa using h
                refine bad ?_ Hb sb
                match e with
                | .tuple [_, _] => cases h
                | .tuple [] => rfl
                | .tuple [_] => rfl
                | .tuple (_ :: _ :: _ :: _) => rfl
                | .int _ => rfl
                | .str _ => rfl
                | .none => rfl
                | .bool _ => rfl
                | .list _ => rfl
                | .dict _ => rfl
              have hm : manyB 2 e = true := by simpa using h
              obtain ⟨es, b2, us2, rfl, hcl, rfl, hb, gc2⟩ := two_of te ((fe.same sa).same sb) hm
              match es, hcl with
              | [l0, r0], _ =>
                obtain ⟨t0, v0, j0, d0⟩ := gc2 0 _ rfl
                obtain ⟨t1, v1, j1, d1⟩ := gc2 1 _ rfl
                refine ⟨_, rfl, pick hb 0 j0 _ ⟨_, rfl, v0, l0, w0, rfl, d0, t0, fun Hc sc => ⟨_, rfl, ite2 (fun h => ?_) (fun h => ?_)⟩⟩⟩
                · have h : colB w0 l0 = false := by simpa using h
                  exact bad (by show (colB w0 l0 && colB w1 r0) = false; rw [h]; rfl) Hc (sb.trans sc)
                have h0 : colB w0 l0 = true := by simpa using h
                refine ⟨_, rfl, pick (sq_go sc hb) 1 j1 _ ⟨_, rfl, v1, r0, w1, rfl, d1.same sc, t1, fun Hd sd => ⟨_, rfl, ite2 (fun h => ?_) (fun h => ?_)⟩⟩⟩
                · have h : colB w1 r0 = false := by simpa using h
                  exact bad (by show (colB w0 l0 && colB w1 r0) = false; rw [h, Bool.and_false]) Hd (sb.trans (sc.trans sd))
                have h1 : colB w1 r0 = true := by simpa using h
                exact ⟨⟨_, rfl⟩, sa.trans (sb.trans (sc.trans sd)), ok (by show (colB w0 l0 && colB w1 r0) = true; rw [h0, h1]; rfl)⟩
            · rintro τ Ha ⟨⟨o, rfl⟩, sa, al⟩
              rw [hbl, List.take_length] at al
              refine ⟨_, rfl, _, rfl, _, _, rfl, rfl, q3 (w0 + w1) Ha (s39.trans sa) ?_⟩
              rw [ew, if_pos ⟨w10, al, w6'⟩]
end
end K14


set_option Elab.async false
set_option linter.all false
set_option maxRecDepth 100000
set_option maxHeartbeats 8000000
namespace K14
open PySem L2 Nd Bk Gd PySem.ExE
/-! where a width is told, all is well formed, and its nodes count -/
theorem ln_int (i : Int) : lawN (.int i) = 0 := by rw [lawN]; intro _ z; cases z
theorem ln_str (z : Str) : lawN (.str z) = 0 := by rw [lawN]; intro _ z; cases z
theorem sum_zero {ds : List PyData} (h : ∀ e ∈ ds, lawN e = 0) : (ds.map lawN).sum = 0 := by
  induction ds with
  | nil => rfl
  | cons d ds ih => rw [List.map_cons, List.sum_cons, h d List.mem_cons_self, ih fun e he => h e (List.mem_cons_of_mem _ he)]
theorem head_none {ds : List PyData} (h : ∀ z r, ds = .str z :: r → z ∉ six) : headN ds = 0 := by
  unfold headN
  split
  · rw [if_neg (h _ _ rfl)]
  · rfl
theorem ln_col {a : Nat} {d : PyData} (h : colB a d = true) : lawN d = 0 ∧ ∃ i, d = .int i := by
  cases d with
  | int i => exact ⟨ln_int i, i, rfl⟩
  | _ => cases h
theorem ln_cell {d : PyData} (h : cellB d = true) : lawN d = 0 := by
  cases d with
  | int i => exact ln_int i
  | str z => exact ln_str z
  | _ => cases h
theorem ln_side {a : Nat} {d : PyData} (h : sideB a d = true) : lawN d = 0 ∧ ∃ ds, d = .tuple ds := by
  match d with
  | .tuple [x, y] =>
    have h : ((strB (Str.ofString "col") x && colB a y) || (strB (Str.ofString "val") x && cellB y)) = true := h
    refine ⟨?_, _, rfl⟩
    rw [Bool.or_eq_true, Bool.and_eq_true, Bool.and_eq_true] at h
    cases x with
    | str z =>
      rw [lawN_eq, sum_zero, head_none]
      · rintro z' r e
        cases e
        rcases h with h | h
        · rw [show z = Str.ofString "col" from of_decide_eq_true h.1]; decide +kernel
        · rw [show z = Str.ofString "val" from of_decide_eq_true h.1]; decide +kernel
      · intro e he
        rcases List.mem_cons.mp he with rfl | he
        · exact ln_str z
        · rw [List.mem_singleton.mp he]
          rcases h with h | h
          · exact (ln_col h.2).1
          · exact ln_cell h.2
    | _ => rcases h with h | h <;> cases h.1
  | .tuple [] => cases h
  | .tuple [_] => cases h
  | .tuple (_ :: _ :: _ :: _) => cases h
  | .int _ => cases h
  | .str _ => cases h
  | .none => cases h
  | .bool _ => cases h
  | .list _ => cases h
  | .dict _ => cases h
theorem ln_cmp {a : Nat} {d : PyData} (h : cmpB a d = true) : lawN d = 0 := by
  match d with
  | .tuple [l, g, r] =>
    have h : (strIn signs g && (sideB a l && sideB a r)) = true := h
    rw [Bool.and_eq_true, Bool.and_eq_true] at h
    obtain ⟨l1, ds, rfl⟩ := ln_side h.2.1
    cases g with
    | str z =>
      rw [lawN_eq, sum_zero, head_none]
      · rintro z' r e
        cases e
      · intro e he
        simp only [List.mem_cons, List.not_mem_nil, or_false] at he
        rcases he with rfl | rfl | rfl
        · exact l1
        · exact ln_str z
        · exact (ln_side h.2.2).1
    | _ => cases h.1
  | .tuple [] => cases h
  | .tuple [_] => cases h
  | .tuple [_, _] => cases h
  | .tuple (_ :: _ :: _ :: _ :: _) => cases h
  | .int _ => cases h
  | .str _ => cases h
  | .none => cases h
  | .bool _ => cases h
  | .list _ => cases h
  | .dict _ => cases h
theorem ln_mkg {a : Nat} {d : PyData} (h : mkgB a d = true) : lawN d = 0 := by
  match d with
  | .tuple [k, i, j] =>
    have h : (strIn makes_ k && (colB a i && colB a j)) = true := h
    rw [Bool.and_eq_true, Bool.and_eq_true] at h
    cases k with
    | str z =>
      have hz : z ∈ makes_ := of_decide_eq_true h.1
      rw [lawN_eq, sum_zero, head_none]
      · rintro z' r e
        cases e
        have key : ∀ z ∈ makes_, z ∉ six := by decide +kernel
        exact key z hz
      · intro e he
        simp only [List.mem_cons, List.not_mem_nil, or_false] at he
        rcases he with rfl | rfl | rfl
        · exact ln_str z
        · exact (ln_col h.2.1).1
        · exact (ln_col h.2.2).1
    | _ => cases h.1
  | .tuple [] => cases h
  | .tuple [_] => cases h
  | .tuple [_, _] => cases h
  | .tuple (_ :: _ :: _ :: _ :: _) => cases h
  | .int _ => cases h
  | .str _ => cases h
  | .none => cases h
  | .bool _ => cases h
  | .list _ => cases h
  | .dict _ => cases h
theorem ln_pr {a b : Nat} {d : PyData} (h : prB a b d = true) : lawN d = 0 ∧ ∃ ds, d = .tuple ds := by
  match d with
  | .tuple [i, j] =>
    have h : (colB a i && colB b j) = true := h
    rw [Bool.and_eq_true] at h
    obtain ⟨l1, i, rfl⟩ := ln_col h.1
    refine ⟨?_, _, rfl⟩
    rw [lawN_eq, sum_zero, head_none]
    · rintro z' r e
      cases e
    · intro e he
      simp only [List.mem_cons, List.not_mem_nil, or_false] at he
      rcases he with rfl | rfl
      · exact l1
      · exact (ln_col h.2).1
  | .tuple [] => cases h
  | .tuple [_] => cases h
  | .tuple (_ :: _ :: _ :: _) => cases h
  | .int _ => cases h
  | .str _ => cases h
  | .none => cases h
  | .bool _ => cases h
  | .list _ => cases h
  | .dict _ => cases h
theorem ln_prs {a b : Nat} {d : PyData} (h : prsB a b d = true) : lawN d = 0 := by
  cases d with
  | tuple ds =>
    have h : ds.all (prB a b) = true := h
    rw [List.all_eq_true] at h
    rw [lawN_eq, sum_zero fun e he => (ln_pr (h e he)).1, head_none]
    rintro z r rfl
    obtain ⟨_, _, e⟩ := ln_pr (h _ List.mem_cons_self)
    cases e
  | _ => cases h
theorem ln_cols {a : Nat} {d : PyData} (h : colsB a d = true) : lawN d = 0 := by
  cases d with
  | tuple ds =>
    have h : (decide (1 ≤ ds.length) && decide (ds.length ≤ 6) && ds.all (colB a)) = true := h
    rw [Bool.and_eq_true, Bool.and_eq_true, List.all_eq_true] at h
    rw [lawN_eq, sum_zero fun e he => (ln_col (h.2 e he)).1, head_none]
    rintro z r rfl
    obtain ⟨_, _, e⟩ := ln_col (h.2 _ List.mem_cons_self)
    cases e
  | _ => cases h
theorem head_six {z : Str} {r : List PyData} (h : z ∈ six) : headN (.str z :: r) = 1 := if_pos h
theorem wid_good {W : Str → Option Nat} : ∀ {n : Nat} {d : PyData} {k : Nat}, sizeOf d < n → widT W d = some k → goodT d = true ∧ numT d = lawN d := by
  intro n
  induction n with
  | zero => intro d k h _; omega
  | succ n ih =>
    intro d k hn h
    have hb : nodeB d = true := by
      cases e : nodeB d with
      | true => rfl
      | false => rw [widT_eq, e] at h; cases h
    have lt : ∀ e ∈ partsT d, sizeOf e < n := fun e he => by have := part_lt he; omega
    rw [goodT_eq, hb, Bool.true_and, numT_eq]
    cases node_of hb with
    | take x =>
      rw [wid_take] at h
      cases x with
      | str z =>
        refine ⟨rfl, ?_⟩
        rw [parts_take, lawN_eq, head_six (by decide +kernel), sum_zero]
        · rfl
        · intro e he
          simp only [List.mem_cons, List.not_mem_nil, or_false] at he
          rcases he with rfl | rfl <;> exact ln_str _
      | _ => cases h
    | keep p c =>
      rw [wid_keep] at h
      obtain ⟨a, ha, h⟩ := Option.bind_eq_some_iff.mp h
      split at h
      · rename_i hc
        obtain ⟨g, e⟩ := ih (lt p (by rw [parts_keep]; exact List.mem_singleton.mpr rfl)) ha
        rw [parts_keep, lawN_eq, head_six (by decide +kernel)]
        refine ⟨by simp [g], ?_⟩
        simp only [List.map_cons, List.map_nil, List.sum_cons, List.sum_nil, ln_str, ln_cmp hc, e]
        omega
      · cases h
    | pick p c =>
      rw [wid_pick] at h
      obtain ⟨a, ha, h⟩ := Option.bind_eq_some_iff.mp h
      split at h
      · rename_i hc
        obtain ⟨g, e⟩ := ih (lt p (by rw [parts_pick]; exact List.mem_singleton.mpr rfl)) ha
        rw [parts_pick, lawN_eq, head_six (by decide +kernel)]
        refine ⟨by simp [g], ?_⟩
        simp only [List.map_cons, List.map_nil, List.sum_cons, List.sum_nil, ln_str, ln_cols hc, e]
        omega
      · cases h
    | make p c =>
      rw [wid_make] at h
      obtain ⟨a, ha, h⟩ := Option.bind_eq_some_iff.mp h
      split at h
      · rename_i hc
        obtain ⟨g, e⟩ := ih (lt p (by rw [parts_make]; exact List.mem_singleton.mpr rfl)) ha
        rw [parts_make, lawN_eq, head_six (by decide +kernel)]
        refine ⟨by simp [g], ?_⟩
        simp only [List.map_cons, List.map_nil, List.sum_cons, List.sum_nil, ln_str, ln_mkg hc.1, e]
        omega
      · cases h
    | both p q =>
      rw [wid_both] at h
      obtain ⟨a, ha, h⟩ := Option.bind_eq_some_iff.mp h
      obtain ⟨b, hb', h⟩ := Option.bind_eq_some_iff.mp h
      obtain ⟨g1, e1⟩ := ih (lt p (by rw [parts_both]; exact List.mem_cons_self)) ha
      obtain ⟨g2, e2⟩ := ih (lt q (by rw [parts_both]; exact List.mem_cons_of_mem _ List.mem_cons_self)) hb'
      rw [parts_both, lawN_eq, head_six (by decide +kernel)]
      refine ⟨by simp [g1, g2], ?_⟩
      simp only [List.map_cons, List.map_nil, List.sum_cons, List.sum_nil, ln_str, e1, e2]
      omega
    | join p q c =>
      rw [wid_join] at h
      obtain ⟨a, ha, h⟩ := Option.bind_eq_some_iff.mp h
      obtain ⟨b, hb', h⟩ := Option.bind_eq_some_iff.mp h
      split at h
      · rename_i hc
        obtain ⟨g1, e1⟩ := ih (lt p (by rw [parts_join]; exact List.mem_cons_self)) ha
        obtain ⟨g2, e2⟩ := ih (lt q (by rw [parts_join]; exact List.mem_cons_of_mem _ List.mem_cons_self)) hb'
        rw [parts_join, lawN_eq, head_six (by decide +kernel)]
        refine ⟨by simp [g1, g2], ?_⟩
        simp only [List.map_cons, List.map_nil, List.sum_cons, List.sum_nil, ln_str, ln_prs hc.1, e1, e2]
        omega
      · cases h
/-- what the law holds due: a width, or none -/
def dueW (ws : List (Str × Nat)) (d : PyData) : Option Nat := if wL ws d = 0 ∨ 20 < lawN d then none else some (wL ws d)
theorem due_some {ws : List (Str × Nat)} {d : PyData} {k : Nat} (h : dueW ws d = some k) : okT d ∧ widT (wof ws) d = some k := by
  unfold dueW at h
  split at h
  · cases h
  · rename_i h0
    cases h
    cases e : widT (wof ws) d with
    | none => exact absurd (.inl (by unfold wL; rw [e]; rfl)) h0
    | some k =>
      obtain ⟨g, n⟩ := wid_good (Nat.lt_succ_self _) e
      exact ⟨⟨g, by omega⟩, by unfold wL; rw [e]; rfl⟩
theorem due_none {ws : List (Str × Nat)} (pos : ∀ g ∈ ws, 1 ≤ g.2 ∧ g.2 ≤ 6) {d : PyData} (h : dueW ws d = none) : ¬ okT d ∨ widT (wof ws) d = none := by
  unfold dueW at h
  split at h
  · rename_i h0
    cases e : widT (wof ws) d with
    | none => exact .inr rfl
    | some k =>
      obtain ⟨g, n⟩ := wid_good (Nat.lt_succ_self _) e
      have h1 := wid_pos (wof_pos pos) (Nat.lt_succ_self _) e
      have : wL ws d = k := by unfold wL; rw [e]; rfl
      refine .inl fun ok => ?_
      have := ok.2
      omega
  · cases h
end K14


set_option Elab.async false
set_option linter.all false
set_option maxRecDepth 100000
set_option maxHeartbeats 8000000
namespace K14
open PySem L2 Nd Bk Gd PySem.ExE
/-! a value of any kind, in part of lists -/
theorem fp_kd {K : PySem.W.Frag} {H : Hp} {av : List Addr} {v : V} {d : PyData} (h : Fp K H av v d) : ∃ k, Kd K H v k ∧ (k = "tuple" ↔ ∃ ds, d = .tuple ds) ∧ (k = "int" ↔ ∃ i, d = .int i) := by
  cases h with
  | non => exact ⟨_, .non, by simp⟩
  | bl b => exact ⟨_, .bl b, by simp⟩
  | int i => exact ⟨_, .int i, by simp [eq_comm]⟩
  | str z => exact ⟨_, .str z, by simp⟩
  | lst h _ _ => exact ⟨_, .lst (SqL.of h), by simp⟩
  | tup h _ => exact ⟨_, .tup h, by simp⟩
theorem isi_tup {K : PySem.W.Frag} {H : Hp} {v : V} {t : String} {Q : VK} (h : Kd K H v t) (q : Q (.bl (decide (t = "tuple"))) H) : rIsi K [v, .ty "tuple"] H Q := by
  cases h with
  | non => exact isi_go .non (by decide +kernel) q
  | bl b => exact isi_go (.bl b) (by decide +kernel) q
  | int i => exact isi_go (.int i) (by decide +kernel) q
  | str z => exact isi_go (.str z) (by decide +kernel) q
  | tup h => exact isi_go (.tup h) (by decide +kernel) q
  | lst h => exact isi_go (.lst h) (by decide +kernel) q
theorem FpAll.get {K : PySem.W.Frag} {H : Hp} {av : List Addr} : ∀ {xs : List V} {ds : List PyData}, FpAll K H av xs ds → ∀ {i : Nat} {x : V}, xs[i]? = some x → ∃ e, ds[i]? = some e ∧ Fp K H av x e
  | _, _, .nil, _, _, h => by cases h
  | _, _, .cons h t, 0, _, e => by cases e; exact ⟨_, rfl, h⟩
  | _, _, .cons h t, i + 1, _, e => FpAll.get t e
theorem FpAll.go {K : PySem.W.Frag} {S : Sta} {H H' : Hp} {av : List Addr} {vs : List V} {ds : List PyData} (st : StAt H S) (g : Go S H H') (m : S.p ∈ av) (h : FpAll K H av vs ds) : FpAll K H' av vs ds := h.but m st.notT g.but
theorem Fp.go {K : PySem.W.Frag} {S : Sta} {H H' : Hp} {av : List Addr} {v : V} {d : PyData} (st : StAt H S) (g : Go S H H') (m : S.p ∈ av) (h : Fp K H av v d) : Fp K H' av v d := h.but m st.notT g.but
theorem flats_take (ds es : List PyData) (i : Nat) (he : flats es = (flats ds).take i) {d d' : PyData} (hd : ds[i]? = some d) (h : flat d' = flat d) : flats (es ++ [d']) = (flats ds).take (i + 1) := by
  rw [flats_map, List.map_append, ← flats_map, he, List.take_succ]
  rw [show (flats ds)[i]? = some (flat d) by rw [flats_map, List.getElem?_map, hd]; rfl]
  rw [← h]
  rfl
def spLLT (K : PySem.W.Frag) (n : Nat) : Sp := fun vs H Q _ => ∃ (S : Sta) (v : V) (d : PyData) (av : List Addr), vs = [.ref S.p, v] ∧ StAt H S ∧ Fp K H av v d ∧ Tv n (flat d) ∧ S.p ∈ av ∧ (∀ x ∈ av, H x ≠ none) ∧ ∀ (v' : V) (d' : PyData) (H' : Hp), Go S H H' → flat d' = flat d → Fp K H' av v' d' → (Top H v d → Top H' v' d') → Q v' H'
def spLLTs (K : PySem.W.Frag) : Nat → Sp
  | 0 => fun _ _ _ _ => False
  | n + 1 => spLLT K n
section
variable {P : Program} {w : World} {K : PySem.W.Frag} {mg : Str → Option Value} {base : Heap}
theorem ok_llistsT {f : Addr} {fd : FuncData} (F : Fun K "_law_lists" "_law_lists" t__law_lists f fd) (b : Binds K fd ["state", "value"] []) (g : mg "_law_lists" = some (.ref f)) (kp : PySem.W.keepIn K (.ref f) = true) (N : Nm mg) (Gd : Df P w K mg base 2 "_law_draw" ["state", "limit"] spLDr) :
    ∀ n : Nat, FnOk P w K mg base CX0 (n + 2) f fd ["state", "value"] (spLLTs K n) := by
  obtain ⟨fD, fdD, gD, kD, bD, GD⟩ := Gd.ok
  intro n
  induction n with
  | zero => exact ⟨fun _ _ _ _ h => False.elim h, fun _ _ _ _ _ _ _ _ _ _ _ _ _ h => False.elim h⟩
  | succ n ih =>
    refine F.ok scLLi2 (fun vs H Q E h => ?_) (fun cdv A outer s H vs Q E hr h => ?_)
    · obtain ⟨S, v, t, av, rfl, _⟩ := h
      rfl
    · obtain ⟨S, v, d, av, rfl, hP, hf, ht, hav, hall, k⟩ := h
      have hr2 : Room 2 _ := hr.mono (by omega)
      --BODYA
      refine ⟨_, pss_cons (ps_if (PW.pt (pw_or (pt_not (pt_val (pe_callB (show CallR _ _ (rIsi K) from call_isi) (by rfl) N.isi (by decide +kernel) (pa_cons (pv 1) (pa_cons (pe_bltn (v := .ty "tuple") (by rfl) N.tup (by decide +kernel) rfl) pa_nil))))) (pw_or1 (pt_cmpR op_eq (pe_call GD hr2 rfl gD kD bD .nil pass0 (pa_cons (pv 0) (pa_cons pe_int pa_nil))) pe_int (nomark _))))) (pss_one (ps_ret (pv 1))) pss_nil)
      (pss_cons (ps_setLc (i := 3) (own := [("part", 2)]) (g := gName 2) (tt := tYes) rfl scLLi2.nd rfl rfl (sw_true rfl rfl rfl (by decide +kernel)) (pi_tup (pv 1)) (blkOk_by (N := lliN2) (sc := defScope t__law_lists) (by decide +kernel))
          (fun _ _ _ _ _ => (pg_name (i := 2) scLLi2.nd rfl (Or.inl rfl))) (fun _ _ _ _ _ => pts_nil) (fun _ _ _ _ _ => (pe_call ih hr rfl g kp b .nil pass0 (pa_cons (pv 0) (pa_cons (pv 2) pa_nil)))))
      (pss_one (ps_ret (pe_ix (show IxR _ (rIx K) from ix_seq) (pe_lst (pa_cons (pv 3) (pa_cons (pe_callTy (show CallR _ _ (rTupF K) from call_tupleF) (by rfl) N.tup (by rfl) (pa_cons (pv 3) pa_nil)) pa_nil))) (pe_call GD hr2 rfl gD kD bD .nil pass0 (pa_cons (pv 0) (pa_cons pe_int pa_nil))) (fun _ _ => rfl))))), ?_⟩
      --END
      obtain ⟨kd, hkd, k1, _⟩ := fp_kd hf
      refine ⟨_, rfl, ?_⟩
      dsimp only [tCons, tNil, tC]
      refine isi_tup hkd ⟨_, rfl, ite2 (fun e => ⟨_, rfl, k v d H (Go.refl hP) rfl hf id⟩) (fun e => ?_)⟩
      obtain ⟨ds, rfl⟩ := k1.mp (by simpa using e)
      cases hf with
      | @tup a xs _ hxs hx =>
      have lx := hx.len
      have hfl : flat (.tuple ds) = .tuple (flats ds) := by rw [flat]
      rw [hfl] at ht
      obtain ⟨m, rfl⟩ : ∃ m, n = m + 1 := by
        cases n with
        | zero => rcases ht with ⟨_, h⟩ | ⟨_, h, _⟩ | h <;> cases h
        | succ m => exact ⟨m, rfl⟩
      have hl : xs.length ≤ 1000 := by
        have := ht.kid.1
        rw [flats_map, List.length_map] at this
        omega
      refine ⟨_, rfl, S, 3, rfl, by decide, by decide, hP, fun r H1 _ g1 => ⟨rfl, _, rfl, ?_⟩⟩
      have hx1 : FpAll K H1 av xs ds := hx.go hP g1 hav
      have k1 : KeepT H H1 := Go.kt hP g1
      have hxs1 := sqT_kt k1 hxs
      refine ite2 (fun _ => ⟨_, rfl, k _ (.tuple ds) H1 g1 rfl (.tup hxs1 hx1) fun t => fun ds' e => let ⟨T, e1, e2⟩ := t ds' e; ⟨T, e1, e2.kt k1⟩⟩) (fun _ => ?_)
      have hall1 : ∀ x ∈ av, H1 x ≠ none := fun x hx z => hall x hx (g1.free z)
      refine ⟨_, rfl, a, rfl, ⟨_, hxs1⟩, fun D nD => ?_⟩
      have Dp := g1.st.off nD
      have Dav : D ∉ av := fun q => hall1 D q nD
      have hx1D : FpAll K H1 (D :: av) xs ds := (fp_move (.same sm_refl) fun a xs h1 h2 => ⟨h1, fun q => (List.mem_cons.mp q).elim (fun e => by rw [e, nD] at h1; cases h1) h2⟩).2 hx1
      refine lc_tup (K := K) (a := a) (xs := xs) (fun i H2 => Go S H1 H2 ∧ ∃ ys es, H2 D = some (.lst ys) ∧ FpAll K H2 (D :: av) ys es ∧ flats es = (flats ds).take i) ⟨Go.mine g1.st (Go.refl g1.st) nD, [], [], upd_same, .nil, rfl⟩
        (fun i H2 _ ⟨g2, _⟩ => sqT_kt (Go.kt g1.st g2) hxs1) ?_ ?_
      · rintro i x H2 hi ⟨g2, ys, es, hD, hys, he⟩
        have ly : ys.length ≤ 1000 := by
          have e1 := hys.len
          have e2 := congrArg List.length he
          rw [flats_map, List.length_map, List.length_take] at e2
          have := ht.kid.1
          omega
        obtain ⟨e, hti, hxi⟩ := hx1D.get hi
        have te : Tv m (flat e) := ht.kid.2 _ (by rw [flats_map]; exact List.mem_map_of_mem (List.mem_of_getElem? hti))
        refine ⟨rfl, _, rfl, _, rfl, S, x, e, D :: av, rfl, g2.st, hxi.go g1.st g2 (List.mem_cons_of_mem _ hav), te, List.mem_cons_of_mem _ hav, fun y hy => ?_, fun v' d' H3 g3 ef hv' _ => ?_⟩
        · rcases List.mem_cons.mp hy with q | q
          · rw [q, hD]
            exact fun z => nomatch z
          · exact fun z => hall1 y q (g2.free z)
        · have hD3 : H3 D = some (.lst ys) := g3.but D _ hD Dp
          have hys3 : FpAll K H3 (D :: av) ys es := hys.go g2.st g3 (List.mem_cons_of_mem _ hav)
          have nt3 : NotT (H3 D) := by rw [hD3]; exact notT_lst
          refine ⟨ys, hD3, small1000 ly, Go.mine g1.st (g2.trans g3) nD, ys ++ [v'], es ++ [d'], upd_same, ?_, flats_take ds es i he hti ef⟩
          exact (FpAll.snoc hys3 hv').but List.mem_cons_self nt3 But.upd
      · rintro H2 ⟨g2, ys, es, hD, hys, he⟩
        rw [lx, show ds.length = (flats ds).length by rw [flats_map, List.length_map], List.take_length] at he
        have hysA : FpAll K H2 av ys es := hys.less fun x hx => List.mem_cons_of_mem _ hx
        refine ⟨_, rfl, _, rfl, D, ys, rfl, SqL.of hD, fun T o nT ho => ?_⟩
        have sT : Same H2 (upd H2 T (.frz o (.tup ys))) := sm_new sm_refl nT
        have hT : upd H2 T (.frz o (.tup ys)) T = some (.frz o (.tup ys)) := upd_same
        have g3 := g2.same sT
        generalize upd H2 T (.frz o (.tup ys)) = H3 at sT hT g3 ⊢
        refine ⟨(by show 2 ≤ sizeLine; decide), fun L nL => ?_⟩
        refine ⟨_, rfl, S, 2, rfl, by decide, by decide, g3.st.same (sm_new sm_refl nL), fun r H5 hr5 g5 => ?_⟩
        obtain ⟨hL5, g35⟩ := disp (K := K) g3.st nL g5
        have k35 := Go.kt g3.st g35
        have gAll := g1.trans (g3.trans g35)
        have all5 : FpAll K H5 av ys es := (hysA.same sT).go g3.st g35 hav
        match r, hr5 with
        | 0, _ => exact pick hL5 0 rfl _ (k _ (.list es) _ gAll (by rw [flat, flat, he]) (.lst (g35.but D _ (sT _ _ hD) Dp) Dav all5) fun _ => fun ds' e => by cases e)
        | 1, _ => exact pick hL5 1 rfl _ (k _ (.tuple es) _ gAll (by rw [flat, flat, he]) (.tup (sqT_kt k35 (.inl (.inr ⟨o, hT⟩))) all5) fun _ => fun ds' _ => ⟨T, rfl, PlainT.kt k35 ⟨o, ys, hT, ho⟩⟩)
        | n + 2, h => omega
end
end K14


set_option Elab.async false
set_option linter.all false
set_option maxRecDepth 100000
set_option maxHeartbeats 8000000
namespace K14
open PySem L2 Nd Bk Gd PySem.ExE
/-! width_of, asked in two ways -/
structure Tz (K : PySem.W.Frag) (mg : Str → Option Value) (T C fI : Addr) : Prop where
  X : Tp K mg T C fI
  gT : mg "TraceError" = some (.ref T)
  ne : T ≠ C
  hdT : PySem.W.hasDictIn K T = true
  tT : PySem.W.typeIn K (.ref T) = some (.type "type")
  hc : HasCls K
theorem cls_of {K : PySem.W.Frag} {T : Addr} (h : PySem.W.hasDictIn K T = true) : (PySem.W.clsIn K T).isSome = true := by
  unfold PySem.W.hasDictIn at h
  cases e : PySem.W.clsIn K T with
  | none => rw [e] at h; cases h
  | some c => rfl
theorem xf_of {K : PySem.W.Frag} {C T fI : Addr} {f : Str} (E : EC K C T f fI) : XfC K C := ⟨E.ga, E.gg, E.exC, E.hd⟩
/-- what is due: a width, or the error -/
def DueR (r : Option Nat) (H : Hp) (Q : VK) : Prop := match r with
  | some k => ∀ H', Same H H' → Q (.int (k : Int)) H'
  | none => ∀ (L : Addr) (H' : Hp), Same H H' → H' L = some (.lst [.str (Str.ofString "bad"), .int 0, .bl true]) → Q (.ref L) H'
def spAskT (K : PySem.W.Frag) : Sp := fun vs H Q _ => ∃ (v u : V) (nm : Bool) (d : PyData) (ws : List (Str × Nat)), vs = [v, u, .bl nm] ∧ FD K H v d ∧ Tv 50 d ∧ WidsAt K H u ws ∧ (ws.map (·.1)).Nodup ∧ (∀ g ∈ ws, 1 ≤ g.2 ∧ g.2 ≤ 6) ∧ DueR (dueW ws d) H Q
section
variable {P : Program} {w : World} {K : PySem.W.Frag} {mg : Str → Option Value} {base : Heap} {T C fI : Addr}
abbrev askN : List Str := ["program", "names", "named", "e"]
theorem scAsk : FnScope askN ["program", "names", "named"] (defScope t__law_asked) := ⟨rfl, rfl, rfl, by decide +kernel, rfl, by decide +kernel, by decide +kernel⟩
theorem ok_askT {f : Addr} {fd : FuncData} (F : Fun K "_law_asked" "_law_asked" t__law_asked f fd) (N : Nm mg) (Z : Tz K mg T C fI)
    {fR : Addr} {fdR : FuncData} (gR : mg "width_of" = some (.ref fR)) (kR : PySem.W.keepIn K (.ref fR) = true) (bR : Binds K fdR ["program", "widths"] []) (kbR : KBinds K fdR ["program", "widths"] ["widths", "program"] sw2 sw2) (GR : FnOk P w K mg base (L2.CX P w) 57 fR fdR ["program", "widths"] (spWidOfT K C)) :
    FnOk P w K mg base CX0 58 f fd ["program", "names", "named"] (spAskT K) := by
  refine F.ok scAsk (fun vs H Q E h => ?_) (fun cdv A outer s H vs Q E hr h => ?_)
  · obtain ⟨v, u, nm, d, ws, rfl, _⟩ := h
    rfl
  · obtain ⟨v, u, nm, d, ws, rfl, hf, ht, hW, hnd, hpos, fin⟩ := h
    have hrR : Room 57 _ := hr
    refine ⟨_, pss_one (ps_try_named rfl rfl scAsk.nd takes0 (fun W pn xe tk _ => (pss_cons (ps_if (pt_val (pv 2)) (pss_one (ps_ret (Kw.pe_kwsS GR hrR rfl gR kR kbR (fun σ => passAt tk σ) (pk_cons (pv 1) (pk_cons (pv 0) pk_nil))))) pss_nil) (pss_one (ps_ret (pe_callS GR hrR rfl gR kR bR (fun σ => passAt tk σ) (pa_cons (pv 0) (pa_cons (pv 1) pa_nil))))))) (.cons (i := 3) ⟨rfl, by decide, .inl Z.X.gB⟩ rfl rfl (fun b oe cls d pn hz hf => (pss_one (ps_ret (pe_lst (pa_cons pe_str (pa_cons (pe_xf (xf_of Z.X.EB) Z.X.EB.no hz hf (pv 3)) (pa_cons
        (pe_callB (show CallR _ _ (rIsX K b cls d) from call_isX Z.hc hz hf) (by rfl) N.isi (by decide +kernel) (pa_cons (pv 3) (pa_cons (pe_glob (v := .ref T) rfl Z.gT rfl) pa_nil))) pa_nil))))))) .nil)), ?_⟩
    have exm : PySem.W.exmOne K (.ref C) (.ref C) = some true := PySem.W.exm_ref Z.X.EB.exC Z.X.EB.hd Z.X.EB.tyC Z.X.EB.self
    have kT : PySem.W.kitOne K (.ref C) (.ref T) = some true := kit_own Z.X.EB (cls_of Z.hdT) Z.tT Z.X.EB.base Z.ne
    refine ⟨_, rfl, nm, rfl, ?_⟩
    cases nm with
    | true =>
      refine iteT ⟨_, rfl, _, rfl, v, u, d, ws, rfl, hf, ht, hW, hnd, ?_, ?_⟩
      · intro k h1 h2 H' s'
        have e : dueW ws d = some k := by
          cases e : dueW ws d with
          | none =>
            rcases due_none hpos e with h | h
            · exact absurd h1 h
            · rw [h2] at h; cases h
          | some k' =>
            have := (due_some e).2
            rw [h2] at this
            cases this
            rfl
        rw [e] at fin
        exact fin H' s'
      · intro h
        have e : dueW ws d = none := by
          cases e : dueW ws d with
          | none => rfl
          | some k' =>
            obtain ⟨o1, o2⟩ := due_some e
            rcases h with h | h
            · exact absurd o1 h
            · rw [h] at o2; cases o2
        rw [e] at fin
        intro d H' s' hd
        refine ⟨true, exm, fun _ e ne => ?_, fun z => nomatch z⟩
        refine ⟨_, rfl, rfl, rfl, d, _, _, rfl, hd, rfl, _, rfl, C, T, fI, "at", _, _, true, d, _, rfl, rfl, .own _, Z.X.EB, rfl, hd, kT, (by show 3 ≤ sizeLine; decide), fun L nL => ?_⟩
        exact fin L _ (s'.trans (sm_new sm_refl nL)) upd_same
    | false =>
      refine iteF ⟨_, rfl, _, rfl, v, u, d, ws, rfl, hf, ht, hW, hnd, ?_, ?_⟩
      · intro k h1 h2 H' s'
        have e : dueW ws d = some k := by
          cases e : dueW ws d with
          | none =>
            rcases due_none hpos e with h | h
            · exact absurd h1 h
            · rw [h2] at h; cases h
          | some k' =>
            have := (due_some e).2
            rw [h2] at this
            cases this
            rfl
        rw [e] at fin
        exact fin H' s'
      · intro h
        have e : dueW ws d = none := by
          cases e : dueW ws d with
          | none => rfl
          | some k' =>
            obtain ⟨o1, o2⟩ := due_some e
            rcases h with h | h
            · exact absurd o1 h
            · rw [h] at o2; cases o2
        rw [e] at fin
        intro d H' s' hd
        refine ⟨true, exm, fun _ e ne => ?_, fun z => nomatch z⟩
        refine ⟨_, rfl, rfl, rfl, d, _, _, rfl, hd, rfl, _, rfl, C, T, fI, "at", _, _, true, d, _, rfl, rfl, .own _, Z.X.EB, rfl, hd, kT, (by show 3 ≤ sizeLine; decide), fun L nL => ?_⟩
        exact fin L _ (s'.trans (sm_new sm_refl nL)) upd_same
end
end K14


set_option Elab.async false
set_option linter.all false
set_option maxRecDepth 100000
set_option maxHeartbeats 8000000
namespace K14
open PySem L2 Nd Bk Gd PySem.ExE
/-! whether width_of is right of a value -/
def gD (g : Str × Nat) : PyData := .tuple [.str g.1, .int (g.2 : Nat)]
def nmD (ws : List (Str × Nat)) : PyData := .tuple (ws.map gD)
theorem nm_of {K : PySem.W.Frag} {H : Hp} {x : V} {g : Str × Nat} (h : FD K H x (gD g)) : NmW K H x g := by
  obtain ⟨a, xs, rfl, hs, hl, hg⟩ := fd_at h
  obtain ⟨u0, e0, f0⟩ := hg 0 _ rfl
  obtain ⟨u1, e1, f1⟩ := hg 1 _ rfl
  cases fd_str f0
  cases fd_int f1
  match xs, hl with
  | [_, _], _ =>
    cases e0
    cases e1
    exact ⟨a, rfl, hs⟩
theorem nms_of {K : PySem.W.Frag} {H : Hp} {v : V} {ws : List (Str × Nat)} (h : FD K H v (nmD ws)) : ∃ a ys, v = .ref a ∧ (SqL K H a ys ∨ SqT K H a ys) ∧ Paired (NmW K H) ys ws := by
  obtain ⟨a, xs, rfl, hs, hl, hg⟩ := fd_seq h
  refine ⟨a, xs, rfl, hs, paired_mk (by rw [hl, List.length_map]) fun i x hx => ?_⟩
  obtain ⟨d, hd, fx⟩ := hg i x hx
  rw [List.getElem?_map] at hd
  obtain ⟨g, hg', rfl⟩ := Option.map_eq_some_iff.mp hd
  exact ⟨g, hg', nm_of fx⟩
theorem wgs_paired {K : PySem.W.Frag} {H : Hp} {ys : List V} {ws : List (Str × Nat)} (h : Paired (NmW K H) ys ws) : Paired (PairV K H) ys (wgs ws) := by
  induction h with
  | nil => exact .nil
  | cons a _ ih => exact .cons a ih
theorem wids_of {K : PySem.W.Frag} {H : Hp} {av : List Addr} {v : V} {d : PyData} {ws : List (Str × Nat)} (h : Fp K H av v d) (e : flat d = nmD ws) (t : Top H v d) : WidsAt K H v ws := by
  obtain ⟨a, ys, rfl, hs, hp⟩ := nms_of (h.fd e)
  cases h with
  | @lst _ xs ds h1 h2 h3 =>
    refine ⟨a, xs, rfl, .inl (SqL.of h1), wgs_paired ?_⟩
    rw [flat] at e
    refine paired_mk ?_ fun i x hx => ?_
    · rw [h3.len]
      have := congrArg List.length (PyData.tuple.inj e)
      rw [flats_map, List.length_map, List.length_map] at this
      exact this
    obtain ⟨d', hd, fx⟩ := h3.get hx
    have := congrArg (fun l => l[i]?) (PyData.tuple.inj e)
    simp only [flats_map, List.getElem?_map, hd, Option.map_some] at this
    obtain ⟨g, hg', e'⟩ := Option.map_eq_some_iff.mp this.symm
    exact ⟨g, hg', nm_of (fx.fd e'.symm)⟩
  | @tup _ xs ds h1 h3 =>
    obtain ⟨T, e1, e2⟩ := t ds rfl
    cases e1
    refine ⟨a, xs, rfl, .inr ⟨e2, h1⟩, wgs_paired ?_⟩
    rw [flat] at e
    refine paired_mk ?_ fun i x hx => ?_
    · rw [h3.len]
      have := congrArg List.length (PyData.tuple.inj e)
      rw [flats_map, List.length_map, List.length_map] at this
      exact this
    obtain ⟨d', hd, fx⟩ := h3.get hx
    have := congrArg (fun l => l[i]?) (PyData.tuple.inj e)
    simp only [flats_map, List.getElem?_map, hd, Option.map_some] at this
    obtain ⟨g, hg', e'⟩ := Option.map_eq_some_iff.mp this.symm
    exact ⟨g, hg', nm_of (fx.fd e'.symm)⟩
/-- what is due, as it lies there -/
def ValAt (r : Option Nat) (H : Hp) (x : V) : Prop := match r with
  | some k => x = .int (k : Int)
  | none => ∃ L, x = .ref L ∧ H L = some (.lst [.str (Str.ofString "bad"), .int 0, .bl true])
theorem ValAt.same {r : Option Nat} {H H' : Hp} {x : V} (s : Same H H') (h : ValAt r H x) : ValAt r H' x := by
  cases r with
  | some k => exact h
  | none => obtain ⟨L, e, h⟩ := h; exact ⟨L, e, s _ _ h⟩
theorem ValAt.go {r : Option Nat} {H H' : Hp} {S : Sta} {x : V} (st : StAt H S) (g : Go S H H') (h : ValAt r H x) : ValAt r H' x := by
  cases r with
  | some k => exact h
  | none =>
    obtain ⟨L, e, h⟩ := h
    obtain ⟨d1, d2, d3, d4, d5, _, hp⟩ := st.lst
    exact ⟨L, e, g.but L _ h (ne_of h hp fun z => by cases z)⟩
theorem due_told {r : Option Nat} {H : Hp} {Q : VK} (f : ∀ x H', Same H H' → ValAt r H' x → Q x H') : DueR r H Q := by
  cases r with
  | some k => exact fun H' s' => f _ H' s' rfl
  | none => exact fun L H' s' h => f _ H' s' ⟨L, rfl, h⟩
theorem val_sm {K : PySem.W.Frag} {r : Option Nat} {H : Hp} {x y : V} (h1 : ValAt r H x) (h2 : ValAt r H y) : Sm K H 2 x y := by
  cases r with
  | some k =>
    rw [show x = .int (k : Int) from h1, show y = .int (k : Int) from h2]
    exact .inl ⟨rfl, .inl ⟨_, rfl⟩⟩
  | none =>
    obtain ⟨a, rfl, ha⟩ := h1
    obtain ⟨b, rfl, hb⟩ := h2
    exact .inr ⟨a, b, _, _, rfl, rfl, .inr ⟨SqL.of ha, SqL.of hb⟩, by decide, .cons (.inl ⟨rfl, .inr (.inl ⟨_, rfl⟩)⟩) (.cons (.inl ⟨rfl, .inl ⟨_, rfl⟩⟩) (.cons (.inl ⟨rfl, .inr (.inr ⟨_, rfl⟩)⟩) .nil))⟩
theorem nm_tv {ws : List (Str × Nat)} (hl : ws.length ≤ 1000) (h : ∀ g ∈ ws, g.1.length ≤ 1000) : Tv 2 (nmD ws) := by
  refine .inr ⟨ws.map gD, rfl, by rw [List.length_map]; exact hl, fun e he => ?_⟩
  obtain ⟨g, hg, rfl⟩ := List.mem_map.mp he
  refine .inr ⟨_, rfl, by show 2 ≤ 1000; decide, fun e he => ?_⟩
  simp only [List.mem_cons, List.not_mem_nil, or_false] at he
  rcases he with rfl | rfl
  · exact .inr (.inl ⟨_, rfl, h g hg⟩)
  · exact .inl ⟨_, rfl⟩
def spRt (K : PySem.W.Frag) : Sp := fun vs H Q _ => ∃ (S : Sta) (v u : V) (d e : PyData) (ws : List (Str × Nat)), vs = [.ref S.p, v, u] ∧ StAt H S ∧ Fp K H [S.p] v d ∧ Tv 49 (flat d) ∧ Fp K H [S.p] u e ∧ flat e = nmD ws ∧ Top H u e ∧ ws.length ≤ 1000 ∧ (ws.map (·.1)).Nodup ∧ (∀ g ∈ ws, 1 ≤ g.2 ∧ g.2 ≤ 6 ∧ g.1.length ≤ 1000) ∧
  ∀ H', Go S H H' → Q (.bl true) H'
section
variable {P : Program} {w : World} {K : PySem.W.Frag} {mg : Str → Option Value} {base : Heap} {T C fI : Addr}
abbrev rtN : List Str := ["state", "program", "names", "due", "told"]
theorem scRt : FnScope rtN ["state", "program", "names"] (defScope t__law_right) := ⟨rfl, rfl, rfl, by decide +kernel, rfl, by decide +kernel, by decide +kernel⟩
theorem ok_rt {f : Addr} {fd : FuncData} (F : Fun K "_law_right" "_law_right" t__law_right f fd) (N : Nm mg) (Gw : Df P w K mg base 54 "_law_width" ["program", "widths"] (spLW K 50)) (Go' : Df P w K mg base 51 "_law_nodes" ["program"] (spLNo K 50)) (Gq : Df P w K mg base 58 "_law_asked" ["program", "names", "named"] (spAskT K)) (Gl : Df P w K mg base 53 "_law_lists" ["state", "value"] (spLLT K 50)) (Gs : Df P w K mg base 4 "_law_same" ["actual", "due"] (spLSm K 3)) :
    FnOk P w K mg base CX0 59 f fd ["state", "program", "names"] (spRt K) := by
  obtain ⟨fW, fdW, gW, kW, bW, GW⟩ := Gw.ok
  obtain ⟨fO, fdO, gO, kO, bO, GO⟩ := Go'.ok
  obtain ⟨fQ, fdQ, gQ, kQ, bQ, GQ⟩ := Gq.ok
  obtain ⟨fL, fdL, gL, kL, bL, GL⟩ := Gl.ok
  obtain ⟨fS, fdS, gS, kS, bS, GS⟩ := Gs.ok
  refine F.ok scRt (fun vs H Q E h => ?_) (fun cdv A outer s H vs Q E hr h => ?_)
  · obtain ⟨S, v, u, d, e, ws, rfl, _⟩ := h
    rfl
  · obtain ⟨S, v, u, d, e, ws, rfl, hP, hf, ht, hu, he, hT, hlen, hnd, hpos, fin⟩ := h
    have hrW : Room 54 _ := hr.mono (by decide)
    have hrO : Room 51 _ := hr.mono (by decide)
    have hrQ : Room 58 _ := hr.mono (by decide)
    have hrL : Room 53 _ := hr.mono (by decide)
    have hrS : Room 4 _ := hr.mono (by decide)
    --BODYA
    refine ⟨_, pss_cons (ps_set (i := 3) scRt.nd rfl (Or.inl rfl) (pe_call GW hrW rfl gW kW bW .nil pass0 (pa_cons (pv 1) (pa_cons (pv 2) pa_nil))))
      (pss_cons (ps_if (PW.pt (pw_or (pt_cmpR op_eq (pv 3) pe_int (nomark _)) (pw_or1 (pt_cmpR op_gt (pe_call GO hrO rfl gO kO bO .nil pass0 (pa_cons (pv 1) pa_nil)) pe_int (nomark _))))) (pss_one (ps_set (i := 3) scRt.nd rfl (Or.inl rfl) (pe_lst (pa_cons pe_str (pa_cons pe_int (pa_cons pe_bl pa_nil)))))) pss_nil)
      (pss_cons (ps_set (i := 4) scRt.nd rfl (Or.inl rfl) (pe_lst (pa_cons (pe_call GQ hrQ rfl gQ kQ bQ .nil pass0 (pa_cons (pv 1) (pa_cons (pv 2) (pa_cons pe_bl pa_nil)))) (pa_cons (pe_call GQ hrQ rfl gQ kQ bQ .nil pass0 (pa_cons (pe_call GL hrL rfl gL kL bL .nil pass0 (pa_cons (pv 0) (pa_cons (pv 1) pa_nil))) (pa_cons (pe_call GL hrL rfl gL kL bL .nil pass0 (pa_cons (pv 0) (pa_cons (pv 2) pa_nil))) (pa_cons pe_bl pa_nil)))) pa_nil))))
      (pss_one (ps_ret (pe_call GS hrS rfl gS kS bS .nil pass0 (pa_cons (pe_op op_cat (pv 4) (pe_lst (pa_cons (pe_call GQ hrQ rfl gQ kQ bQ .nil pass0 (pa_cons (pv 1) (pa_cons (pv 2) (pa_cons pe_bl pa_nil)))) pa_nil))) (pa_cons (pe_op op_rep (pe_lst (pa_cons (pv 3) pa_nil)) pe_int) pa_nil))))))), ?_⟩
    --END
    obtain ⟨Tn, ys, rfl, hs, hp⟩ := nms_of (hu.fd he)
    have fd0 : FD K H v (flat d) := hf.fd rfl
    have tv50 : Tv 50 (flat d) := ht.le (by decide)
    have pos' : ∀ g ∈ ws, 1 ≤ g.2 ∧ g.2 ≤ 6 := fun g hg => ⟨(hpos g hg).1, (hpos g hg).2.1⟩
    refine ⟨_, rfl, _, rfl, v, flat d, Tn, ys, ws, rfl, fd0, tv50, by decide, hs, hp, hlen, hnd, pos', fun H1 s1 => ?_⟩
    refine asg_seq_ifR (fun τ H' => ∃ x, τ = [some (.ref S.p), some v, some (.ref Tn), some x, none] ∧ Same H1 H' ∧ ValAt (dueW ws (flat d)) H' x) (fun nx hn => ?_) (fun τ H2 ⟨x, e2, s2, vx⟩ => ?_)
    · have body : ∀ H', Same H1 H' → (wL ws (flat d) = 0 ∨ 20 < lawN (flat d)) → ∀ L, H' L = none → nx [some (.ref S.p), some v, some (.ref Tn), some (.ref L), none] (upd H' L (.lst [.str (Str.ofString "bad"), .int 0, .bl true])) := fun H' s' h L nL => by
        refine hn _ _ ⟨_, rfl, s'.trans (sm_new sm_refl nL), ?_⟩
        have : dueW ws (flat d) = none := if_pos h
        rw [this]
        exact ⟨L, rfl, upd_same⟩
      refine ⟨_, rfl, rfl, _, rfl, ite2 (fun h => ?_) (fun h => ?_)⟩
      · have h : wL ws (flat d) = 0 := by have := V.int.inj (of_decide_eq_true h); omega
        exact ⟨by show 3 ≤ sizeLine; decide, fun L nL => body H1 sm_refl (.inl h) L nL⟩
      have h0 : wL ws (flat d) ≠ 0 := fun e => h (decide_eq_true (by rw [e]; rfl))
      refine ⟨_, rfl, v, flat d, rfl, fd0.same s1, tv50, by decide, fun H2 s2 => ⟨_, _, rfl, rfl, _, rfl, ite2 (fun h => ?_) (fun h => ?_)⟩⟩
      · have h : (20 : Int) < ((lawN (flat d) : Nat) : Int) := of_decide_eq_true h
        exact ⟨by show 3 ≤ sizeLine; decide, fun L nL => body H2 s2 (.inr (by omega)) L nL⟩
      · have h : ¬ (20 : Int) < ((lawN (flat d) : Nat) : Int) := fun e => h (decide_eq_true e)
        refine hn _ _ ⟨_, rfl, s2, ?_⟩
        have : dueW ws (flat d) = some (wL ws (flat d)) := if_neg (by omega)
        rw [this]
        exact rfl
    subst e2
    have s02 := s1.trans s2
    have st2 := hP.same s02
    have w0 := (wids_of hu he hT)
    refine ⟨_, rfl, _, rfl, v, .ref Tn, false, flat d, ws, rfl, fd0.same s02, tv50, w0.same s02, hnd, pos', due_told fun t1 H3 s3 v1 => ?_⟩
    have s03 := s02.trans s3
    have st3 := st2.same s3
    have all3 : ∀ y ∈ [S.p], H3 y ≠ none := fun y hy => by
      rw [List.mem_singleton.mp hy]
      obtain ⟨d1, d2, d3, d4, d5, _, hp⟩ := st3.lst
      rw [hp]
      exact fun z => nomatch z
    refine ⟨_, rfl, _, rfl, S, v, d, [S.p], rfl, st3, hf.same s03, tv50, List.mem_singleton.mpr rfl, all3, fun v' d' H4 g4 e4 f4 _ => ?_⟩
    have all4 : ∀ y ∈ [S.p], H4 y ≠ none := fun y hy => by
      rw [List.mem_singleton.mp hy]
      obtain ⟨d1, d2, d3, d4, d5, _, hp⟩ := g4.st.lst
      rw [hp]
      exact fun z => nomatch z
    have tT : Top H (.ref Tn) e → Top H4 (.ref Tn) e := fun t ds ed => let ⟨U, h1, h2⟩ := t ds ed; ⟨U, h1, PlainT.kt (Go.kt st3 g4) (h2.same s03)⟩
    refine ⟨_, rfl, _, rfl, S, .ref Tn, e, [S.p], rfl, g4.st, (hu.same s03).go st3 g4 (List.mem_singleton.mpr rfl), by rw [he]; exact (nm_tv hlen fun g hg => (hpos g hg).2.2).le (by decide), List.mem_singleton.mpr rfl, all4, fun u' e' H5 g5 e5 f5 t5 => ?_⟩
    have g35 := g4.trans g5
    refine ⟨v', u', false, flat d, ws, rfl, (f4.go g4.st g5 (List.mem_singleton.mpr rfl)).fd e4, tv50, wids_of f5 (e5.trans he) (t5 (tT hT)), hnd, pos', due_told fun t2 H6 s6 v2 => ⟨by show 2 ≤ sizeLine; decide, fun L nL => ?_⟩⟩
    have s7 : Same H6 (upd H6 L (.lst [t1, t2])) := sm_new sm_refl nL
    have hL : upd H6 L (.lst [t1, t2]) L = some (.lst [t1, t2]) := upd_same
    generalize upd H6 L (.lst [t1, t2]) = H7 at s7 hL ⊢
    have s57 := s6.trans s7
    have g37 := g35.same s57
    have fd7 : FD K H7 v (flat d) := ((hf.same s03).go st3 g37 (List.mem_singleton.mpr rfl)).fd rfl
    have w7 : WidsAt K H7 (.ref Tn) ws := wids_of ((hu.same s03).go st3 g37 (List.mem_singleton.mpr rfl)) he (fun ds ed => let ⟨U, h1, h2⟩ := hT ds ed; ⟨U, h1, PlainT.kt (Go.kt st3 g37) (h2.same s03)⟩)
    refine ⟨_, rfl, _, rfl, _, rfl, v, .ref Tn, true, flat d, ws, rfl, fd7, tv50, w7, hnd, pos', due_told fun t3 H8 s8 v3 => ⟨by show 1 ≤ sizeLine; decide, fun L2 n2 => ?_⟩⟩
    have s9 : Same H8 (upd H8 L2 (.lst [t3])) := sm_new sm_refl n2
    have hL2 : upd H8 L2 (.lst [t3]) L2 = some (.lst [t3]) := upd_same
    generalize upd H8 L2 (.lst [t3]) = H9 at s9 hL2 ⊢
    have s79 := s8.trans s9
    refine ⟨L, L2, [t1, t2], [t3], rfl, rfl, s79 _ _ hL, hL2, by show 3 ≤ sizeLine; decide, fun L3 n3 => ?_⟩
    have sA : Same H9 (upd H9 L3 (.lst ([t1, t2] ++ [t3]))) := sm_new sm_refl n3
    have hL3 : upd H9 L3 (.lst ([t1, t2] ++ [t3])) L3 = some (.lst [t1, t2, t3]) := upd_same
    generalize upd H9 L3 (.lst ([t1, t2] ++ [t3])) = HA at sA hL3 ⊢
    refine ⟨_, rfl, ⟨by show 1 ≤ sizeLine; decide, fun L4 n4 => ?_⟩⟩
    have sB : Same HA (upd HA L4 (.lst [x])) := sm_new sm_refl n4
    have hL4 : upd HA L4 (.lst [x]) L4 = some (.lst [x]) := upd_same
    generalize upd HA L4 (.lst [x]) = HB at sB hL4 ⊢
    refine ⟨L4, 3, [x], rfl, rfl, hL4, by decide, by decide, by show 3 ≤ sizeLine; decide, fun L5 n5 => ?_⟩
    have sC : Same HB (upd HB L5 (.lst (List.replicate (3 : Int).toNat [x]).flatten)) := sm_new sm_refl n5
    have hL5 : upd HB L5 (.lst (List.replicate (3 : Int).toNat [x]).flatten) L5 = some (.lst [x, x, x]) := upd_same
    generalize upd HB L5 (.lst (List.replicate (3 : Int).toNat [x]).flatten) = HC at sC hL5 ⊢
    have s7C := s79.trans (sA.trans (sB.trans sC))
    have gC : Go S H3 HC := g37.same s7C
    have x3 : ValAt (dueW ws (flat d)) HC x := (vx.same s3).go st3 gC
    have y1 : ValAt (dueW ws (flat d)) HC t1 := v1.go st3 gC
    have y2 : ValAt (dueW ws (flat d)) HC t2 := v2.same (s7.trans s7C)
    have y3 : ValAt (dueW ws (flat d)) HC t3 := v3.same (s9.trans (sA.trans (sB.trans sC)))
    refine ⟨.ref L3, .ref L5, rfl, .inr ⟨L3, L5, _, _, rfl, rfl, .inr ⟨SqL.of ((sB.trans sC) _ _ hL3), SqL.of hL5⟩, by show 3 ≤ 1000000; decide, ?_⟩, fin HC ((Go.new hP s03).trans gC)⟩
    exact .cons (val_sm y1 x3) (.cons (val_sm y2 x3) (.cons (val_sm y3 x3) .nil))
end
end K14


set_option Elab.async false
set_option linter.all false
set_option maxRecDepth 100000
set_option maxHeartbeats 8000000
namespace K14
open PySem L2 Nd Bk Gd PySem.ExE
/-! a value, changed at one place -/
/-- a value of so many layers, its lists not the state -/
def Vl (K : PySem.W.Frag) (H : Hp) (S : Sta) (n : Nat) (v : V) : Prop := ∃ d, Fp K H [S.p] v d ∧ Tv n (flat d)
section
variable {K : PySem.W.Frag} {H H' : Hp} {S : Sta} {n m : Nat} {v : V}
theorem Vl.same (s : Same H H') (h : Vl K H S n v) : Vl K H' S n v := let ⟨d, h1, h2⟩ := h; ⟨d, h1.same s, h2⟩
theorem Vl.go (st : StAt H S) (g : Go S H H') (h : Vl K H S n v) : Vl K H' S n v := let ⟨d, h1, h2⟩ := h; ⟨d, h1.go st g (List.mem_singleton.mpr rfl), h2⟩
theorem Vl.le (h : Vl K H S n v) (l : n ≤ m) : Vl K H S m v := let ⟨d, h1, h2⟩ := h; ⟨d, h1, h2.le l⟩
theorem leaf_tv {d : PyData} (h : leafD d) : Tv n d := by
  cases n with
  | zero => exact h
  | succ n => exact .inl h
theorem Vl.int (i : Int) : Vl K H S n (.int i) := ⟨_, .int i, leaf_tv (.inl ⟨i, by rw [flat]; intros; contradiction; intros; contradiction⟩)⟩
theorem Vl.str (z : Str) (h : z.length ≤ 1000) : Vl K H S n (.str z) := ⟨_, .str z, leaf_tv (.inr (.inl ⟨z, by rw [flat]; intros; contradiction; intros; contradiction, h⟩))⟩
theorem Vl.non : Vl K H S n .non := ⟨_, .non, leaf_tv (.inr (.inr (by rw [flat]; intros; contradiction; intros; contradiction)))⟩
theorem vl_all : ∀ {xs : List V}, (∀ x ∈ xs, Vl K H S n x) → ∃ ds, FpAll K H [S.p] xs ds ∧ ∀ e ∈ flats ds, Tv n e
  | [], _ => ⟨[], .nil, fun e he => by rw [flats] at he; cases he⟩
  | x :: xs, h => by
    obtain ⟨d, h1, h2⟩ := h x List.mem_cons_self
    obtain ⟨ds, h3, h4⟩ := vl_all fun y hy => h y (List.mem_cons_of_mem _ hy)
    refine ⟨d :: ds, .cons h1 h3, fun e he => ?_⟩
    rw [flats] at he
    rcases List.mem_cons.mp he with rfl | he
    · exact h2
    · exact h4 e he
theorem Vl.tup {a : Addr} {xs : List V} (hs : SqT K H a xs) (hl : xs.length ≤ 1000) (h : ∀ x ∈ xs, Vl K H S n x) : Vl K H S (n + 1) (.ref a) := by
  obtain ⟨ds, h1, h2⟩ := vl_all h
  refine ⟨.tuple ds, .tup hs h1, .inr ⟨flats ds, by rw [flat], ?_, h2⟩⟩
  rw [flats_map, List.length_map, ← h1.len]
  exact hl
theorem Vl.lst {a : Addr} {xs : List V} (hs : H a = some (.lst xs)) (na : a ≠ S.p) (hl : xs.length ≤ 1000) (h : ∀ x ∈ xs, Vl K H S n x) : Vl K H S (n + 1) (.ref a) := by
  obtain ⟨ds, h1, h2⟩ := vl_all h
  refine ⟨.list ds, .lst hs (by simpa using na) h1, .inr ⟨flats ds, by rw [flat], ?_, h2⟩⟩
  rw [flats_map, List.length_map, ← h1.len]
  exact hl
end
/-- what is handed in: numbers and texts that are not too long, tuples -/
def lfV (v : V) : Prop := (∃ i : Int, v = .int i ∧ -99999 ≤ i ∧ i ≤ 99999) ∨ ∃ z : Str, v = .str z ∧ z.length ≤ 900
def Vi (K : PySem.W.Frag) (H : Hp) : Nat → V → Prop
  | 0, v => lfV v
  | n + 1, v => lfV v ∨ ∃ a xs, v = .ref a ∧ SqT K H a xs ∧ xs.length ≤ 400 ∧ ∀ x ∈ xs, Vi K H n x
section
variable {K : PySem.W.Frag} {H H' : Hp} {S : Sta}
theorem Vi.kt (k : KeepT H H') : ∀ {n : Nat} {v : V}, Vi K H n v → Vi K H' n v
  | 0, _, h => h
  | n + 1, _, h => h.imp id fun ⟨a, xs, e, h1, h2, h3⟩ => ⟨a, xs, e, sqT_kt k h1, h2, fun x hx => (h3 x hx).kt k⟩
theorem lf_vl {n : Nat} {v : V} (h : lfV v) : Vl K H S n v := by
  rcases h with ⟨i, rfl, _⟩ | ⟨z, rfl, h⟩
  · exact .int i
  · exact .str z (by omega)
theorem Vi.vl : ∀ {n : Nat} {v : V}, Vi K H n v → Vl K H S n v
  | 0, _, h => lf_vl h
  | n + 1, _, h => by
    rcases h with h | ⟨a, xs, rfl, h1, h2, h3⟩
    · exact lf_vl h
    · exact .tup h1 (by omega) fun x hx => (h3 x hx).vl
theorem Vi.parts {n : Nat} {v : V} (h : Vi K H n v) : lfV v ∨ ∃ m a xs, n = m + 1 ∧ v = .ref a ∧ SqT K H a xs ∧ xs.length ≤ 400 ∧ ∀ x ∈ xs, Vi K H m x := by
  cases n with
  | zero => exact .inl h
  | succ m =>
    rcases h with h | ⟨a, xs, h⟩
    · exact .inl h
    · exact .inr ⟨m, a, xs, rfl, h⟩
end
/-- t[lo:hi], t + u: somewhere -/
theorem slA_go {K : PySem.W.Frag} {H : Hp} {a : Addr} {xs : List V} {lo hi : Option Int} {Q : VK} (hs : SqT K H a xs) (q : ∀ (p : Addr) (H' : Hp), Same H H' → SqT K H' p (cutV xs lo hi) → Q (.ref p) H') : rSlA K (.ref a) lo hi H Q := by
  refine ⟨a, xs, rfl, hs, fun z => q a H sm_refl ?_, fun _ p np => q p _ (sm_new sm_refl np) (SqT.of upd_same)⟩
  unfold cutV
  rw [z.1, z.2, List.drop_zero, Nat.sub_zero, List.take_length]
  exact hs
theorem slA_no {K : PySem.W.Frag} {x : V} {lo : Option Int} {σ : L2.St} {H : Hp} {Q : VK} (h : rSlA K x lo none H Q) : tNoPart σ H (fun u H3 => rSlA K x lo u H3 Q) := h
theorem catA_go {K : PySem.W.Frag} {H : Hp} {a b : Addr} {xs ys : List V} {Q : VK} (ha : SqT K H a xs) (hb : SqT K H b ys) (hl : xs.length + ys.length ≤ 10000) (q : ∀ (p : Addr) (H' : Hp), Same H H' → SqT K H' p (xs ++ ys) → Q (.ref p) H') : rCatA K (.ref a) (.ref b) H Q := by
  refine ⟨a, b, xs, ys, rfl, rfl, ha, hb, by rw [sizeLine_eq]; omega, fun e => q b H sm_refl (by rw [e]; exact hb), fun _ e => q a H sm_refl (by rw [e, List.append_nil]; exact ha), fun _ _ p np => q p _ (sm_new sm_refl np) (SqT.of upd_same)⟩
theorem cut_to {xs : List V} {n : Nat} : cutV xs none (some (n : Int)) = xs.take n := by
  unfold cutV
  rw [HT.sIx_nat]
  show (xs.drop 0).take (min n xs.length - 0) = _
  rw [List.drop_zero, Nat.sub_zero]
  by_cases h : n ≤ xs.length
  · rw [Nat.min_eq_left h]
  · rw [Nat.min_eq_right (by omega), List.take_length, List.take_of_length_le (by omega)]
theorem cut_from {xs : List V} {n : Nat} : cutV xs (some (n : Int)) none = xs.drop n := by
  unfold cutV
  rw [HT.sIx_nat]
  show (xs.drop (min n xs.length)).take (xs.length - min n xs.length) = _
  by_cases h : n ≤ xs.length
  · rw [Nat.min_eq_left h, List.take_of_length_le (by rw [List.length_drop]; omega)]
  · rw [Nat.min_eq_right (by omega), List.drop_length, List.drop_of_length_le (by omega), List.take_nil]
theorem ix_all {K : PySem.W.Frag} {S : Sta} {H H5 : Hp} {L : Addr} {xs : List V} {n r : Nat} {Q : VK} (st : StAt H S) (nL : H L = none) (g : Go S (upd H L (.lst xs)) H5) (hr : r < xs.length) (all : ∀ x ∈ xs, Vl K H S n x) (k : ∀ v', Go S H H5 → Vl K H5 S n v' → Q v' H5) : rIx K (.ref L) (.int (r : Int)) H5 Q := by
  have s1 : Same H (upd H L (.lst xs)) := sm_new sm_refl nL
  have hL : H5 L = some (.lst xs) := g.but L _ upd_same (st.off nL)
  have e : xs[r]? = some xs[r] := List.getElem?_eq_getElem hr
  exact pick (.inl (SqL.of hL)) r e _ (k _ ((Go.new st s1).trans g) (((all _ (List.getElem_mem hr)).same s1).go (st.same s1) g))
theorem int_len {i : Int} (h0 : -99999 ≤ i) (h1 : i ≤ 99999) : (Str.ofString (toString i)).length ≤ 1000 := by
  have pos : ∀ n : Nat, n ≤ 99999 → (Str.ofString (toString ((n : Nat) : Int))).length ≤ 5 := fun n hn => PyProof.Rows.toString_length_le (by omega) (by decide) (by omega)
  cases i with
  | ofNat n =>
    have : n ≤ 99999 := by have := Int.ofNat_eq_natCast (n := n); omega
    have := pos n this
    exact Nat.le_trans this (by decide)
  | negSucc m =>
    have hm : m + 1 ≤ 99999 := by have := Int.negSucc_eq m; omega
    have h := pos (m + 1) hm
    rw [ofString_length] at h ⊢
    have e : toString (Int.negSucc m) = "-" ++ toString ((m + 1 : Nat) : Int) := rfl
    rw [e, String.length_append]
    have : ("-" : String).length = 1 := rfl
    omega
theorem log_small {i : Int} (h0 : -99999 ≤ i) (h1 : i ≤ 99999) : i.natAbs.log2 < 1920 := by
  by_cases h : i.natAbs = 0
  · rw [h]; decide
  · exact (Nat.log2_lt h).mpr (Nat.lt_of_lt_of_le (show i.natAbs < 2 ^ 17 by omega) (Nat.pow_le_pow_right (by decide) (by decide)))
def spPt (K : PySem.W.Frag) (n : Nat) : Sp := fun vs H Q _ => ∃ (S : Sta) (v : V), vs = [.ref S.p, v] ∧ StAt H S ∧ Vi K H n v ∧ ∀ (v' : V) (H' : Hp), Go S H H' → Vl K H' S (n + 1) v' → Q v' H'
def spPts (K : PySem.W.Frag) : Nat → Sp
  | 0 => fun _ _ _ _ => False
  | n + 1 => spPt K n
section
variable {P : Program} {w : World} {K : PySem.W.Frag} {mg : Str → Option Value} {base : Heap} {T C fI : Addr}
abbrev ptN : List Str := ["state", "value", "at", "more", "words"]
theorem scPt : FnScope ptN ["state", "value"] (defScope t__law_part) := ⟨rfl, rfl, rfl, by decide +kernel, rfl, by decide +kernel, by decide +kernel⟩
theorem ok_pt {f : Addr} {fd : FuncData} (F : Fun K "_law_part" "_law_part" t__law_part f fd) (b : Binds K fd ["state", "value"] []) (g : mg "_law_part" = some (.ref f)) (kp : PySem.W.keepIn K (.ref f) = true) (N : Nm mg) (Gd : Df P w K mg base 2 "_law_draw" ["state", "limit"] spLDr) : ∀ n : Nat, FnOk P w K mg base CX0 (n + 2) f fd ["state", "value"] (spPts K n) := by
  obtain ⟨fD, fdD, gD, kD, bD, GD⟩ := Gd.ok
  intro n
  induction n with
  | zero => exact ⟨fun _ _ _ _ h => False.elim h, fun _ _ _ _ _ _ _ _ _ _ _ _ _ h => False.elim h⟩
  | succ n ih =>
    refine F.ok scPt (fun vs H Q E h => ?_) (fun cdv A outer s H vs Q E hr h => ?_)
    · obtain ⟨S, v, rfl, _⟩ := h
      rfl
    · obtain ⟨S, v, rfl, hP, ht, k⟩ := h
      have hr2 : Room 2 _ := hr.mono (by omega)
      --BODYA
      refine ⟨_, pss_cons (ps_if (PW.pt (pw_and (pt_val (pe_callB (show CallR _ _ (rIsi K) from call_isi) (by rfl) N.isi (by decide +kernel) (pa_cons (pv 1) (pa_cons (pe_bltn (v := .ty "tuple") (by rfl) N.tup (by decide +kernel) rfl) pa_nil)))) (pw_and (pt_cmpR op_gt (pe_callB (show CallR _ _ (rLenQ K) from call_len_seq) (by rfl) N.len PySem.boot_len (pa_cons (pv 1) pa_nil)) pe_int (nomark _)) (pw_and1 (pt_cmpR op_gt (pe_call GD hr2 rfl gD kD bD .nil pass0 (pa_cons (pv 0) (pa_cons pe_int pa_nil))) pe_int (nomark _)))))) (pss_cons (ps_set (i := 2) scPt.nd rfl (Or.inl rfl) (pe_call GD hr2 rfl gD kD bD .nil pass0 (pa_cons (pv 0) (pa_cons (pe_callB (show CallR _ _ (rLenQ K) from call_len_seq) (by rfl) N.len PySem.boot_len (pa_cons (pv 1) pa_nil)) pa_nil))))
      (pss_one (ps_ret (pe_op (show OpR _ _ (rCatA K) from op_catA) (pe_op (show OpR _ _ (rCatA K) from op_catA) (pe_slice (show SlR _ (L2.rSlA K) from L2.sl_tupA) (pv 1) po_none (po_some (pv 2))) (pe_tup (pa_cons (pe_call ih hr rfl g kp b .nil pass0 (pa_cons (pv 0) (pa_cons (pe_ix (show IxR _ (rIx K) from ix_seq) (pv 1) (pv 2) (fun _ _ => rfl)) pa_nil))) pa_nil))) (pe_slice (show SlR _ (L2.rSlA K) from L2.sl_tupA) (pv 1) (po_some (pe_op op_add (pv 2) pe_int)) po_none))))) pss_nil)
      (pss_cons (ps_if (pt_val (pe_callB (show CallR _ _ (rIsi K) from call_isi) (by rfl) N.isi (by decide +kernel) (pa_cons (pv 1) (pa_cons (pe_bltn (v := .ty "tuple") (by rfl) N.tup (by decide +kernel) rfl) pa_nil)))) (pss_cons (ps_set (i := 2) scPt.nd rfl (Or.inl rfl) (pe_call GD hr2 rfl gD kD bD .nil pass0 (pa_cons (pv 0) (pa_cons (pe_op op_add (pe_callB (show CallR _ _ (rLenQ K) from call_len_seq) (by rfl) N.len PySem.boot_len (pa_cons (pv 1) pa_nil)) pe_int) pa_nil))))
      (pss_cons (ps_set (i := 3) scPt.nd rfl (Or.inl rfl) (pe_lst (pa_cons (pe_op (show OpR _ _ (rCatA K) from op_catA) (pe_slice (show SlR _ (L2.rSlA K) from L2.sl_tupA) (pv 1) po_none (po_some (pv 2))) (pe_slice (show SlR _ (L2.rSlA K) from L2.sl_tupA) (pv 1) (po_some (pe_op op_add (pv 2) pe_int)) po_none)) (pa_cons (pe_op (show OpR _ _ (rCatA K) from op_catA) (pv 1) (pe_slice (show SlR _ (L2.rSlA K) from L2.sl_tupA) (pv 1) po_none (po_some pe_int))) (pa_cons (pe_op (show OpR _ _ (rCatA K) from op_catA) (pv 1) (pe_tup (pa_cons pe_int pa_nil))) (pa_cons (pe_tup pa_nil) (pa_cons (pe_op (show OpR _ _ (rCatA K) from op_catA) (pv 1) (pe_tup (pa_cons (pe_tup (pa_cons pe_int (pa_cons pe_int pa_nil))) pa_nil))) (pa_cons (pe_tup (pa_cons (pv 1) pa_nil)) (pa_cons pe_non pa_nil)))))))))
      (pss_one (ps_ret (pe_ix (show IxR _ (rIx K) from ix_seq) (pv 3) (pe_call GD hr2 rfl gD kD bD .nil pass0 (pa_cons (pv 0) (pa_cons pe_int pa_nil))) (fun _ _ => rfl)))))) pss_nil)
      (pss_cons (ps_if (pt_val (pe_callB (show CallR _ _ (rIsi K) from call_isi) (by rfl) N.isi (by decide +kernel) (pa_cons (pv 1) (pa_cons (pe_bltn (v := .ty "int") (by rfl) N.int (by decide +kernel) rfl) pa_nil)))) (pss_one (ps_ret (pe_ix (show IxR _ (rIx K) from ix_seq) (pe_lst (pa_cons (pe_op op_add (pv 1) pe_int) (pa_cons (pe_op op_sub (pv 1) pe_int) (pa_cons pe_int (pa_cons (pe_un un_neg pe_int) (pa_cons pe_int (pa_cons (pe_un un_neg pe_int) (pa_cons pe_non (pa_cons (pe_callTy call_str_int (by rfl) N.str (by decide +kernel) (pa_cons (pv 1) pa_nil)) (pa_cons (pe_tup (pa_cons (pv 1) pa_nil)) pa_nil)))))))))) (pe_call GD hr2 rfl gD kD bD .nil pass0 (pa_cons (pv 0) (pa_cons pe_int pa_nil))) (fun _ _ => rfl)))) pss_nil)
      (pss_cons (ps_set (i := 4) scPt.nd rfl (Or.inl rfl) (pe_lst (pa_cons pe_str (pa_cons pe_str (pa_cons pe_str (pa_cons pe_str (pa_cons pe_str (pa_cons pe_str (pa_cons pe_str (pa_cons pe_str pa_nil))))))))))
      (pss_cons (ps_set (i := 4) scPt.nd rfl (Or.inl rfl) (pe_op op_cat (pv 4) (pe_lst (pa_cons pe_str (pa_cons pe_str (pa_cons pe_str (pa_cons pe_str (pa_cons pe_str (pa_cons pe_str (pa_cons pe_str (pa_cons pe_str pa_nil)))))))))))
      (pss_cons (ps_set (i := 4) scPt.nd rfl (Or.inl rfl) (pe_op op_cat (pv 4) (pe_lst (pa_cons pe_str (pa_cons pe_str (pa_cons pe_str (pa_cons pe_str (pa_cons (pe_op op_add_str (pv 1) pe_str) (pa_cons pe_int (pa_cons pe_non (pa_cons (pe_tup (pa_cons (pv 1) pa_nil)) (pa_cons (pe_lst (pa_cons (pv 1) pa_nil)) pa_nil))))))))))))
      (pss_one (ps_ret (pe_ix (show IxR _ (rIx K) from ix_seq) (pv 4) (pe_call GD hr2 rfl gD kD bD .nil pass0 (pa_cons (pv 0) (pa_cons pe_int pa_nil))) (fun _ _ => rfl))))))))), ?_⟩
      --END
      rcases ht.parts with h | ⟨m, a, xs, rfl, rfl, hs, hl, hx⟩
      · rcases h with ⟨i, rfl, i0, i1⟩ | ⟨z, rfl, hz⟩
        · refine seq_ifR (fun τ H' => τ = [some (.ref S.p), some (.int i), none, none, none] ∧ H = H') (fun nx hn => ?_) (fun τ H' ⟨e1, e2⟩ => ?_)
          · refine ⟨_, rfl, ?_⟩
            dsimp only [tCons, tNil, tC]
            exact isi_tup (.int i) ⟨_, rfl, ite2 (fun e => absurd e (by decide)) (fun _ => iteF (hn _ _ ⟨rfl, rfl⟩))⟩
          subst e1
          subst e2
          refine seq_ifR (fun τ H' => τ = [some (.ref S.p), some (.int i), none, none, none] ∧ H = H') (fun nx hn => ?_) (fun τ H' ⟨e1, e2⟩ => ?_)
          · refine ⟨_, rfl, ?_⟩
            dsimp only [tCons, tNil, tC]
            exact isi_tup (.int i) ⟨_, rfl, ite2 (fun e => absurd e (by decide)) (fun _ => hn _ _ ⟨rfl, rfl⟩)⟩
          subst e1
          subst e2
          refine seq_ifR (fun τ H' => False) (fun nx hn => ?_) (fun τ H' hf => hf.elim)
          refine ⟨_, rfl, ?_⟩
          dsimp only [tCons, tNil, tC]
          refine isi_go (.int i) (b := true) (by decide +kernel) ⟨_, rfl, iteT ?_⟩
          refine ⟨_, rfl, _, _, rfl, rfl, _, rfl, _, _, rfl, rfl, _, rfl, _, rfl, _, rfl, _, rfl, log_small i0 i1, _, rfl, by show 1 ≤ sizeLine; decide, fun U nU => ?_⟩
          have s1 : Same H (upd H U (.tup [.int i])) := sm_new sm_refl nU
          have hU : upd H U (.tup [.int i]) U = some (.tup [.int i]) := upd_same
          generalize upd H U (.tup [.int i]) = H1 at s1 hU ⊢
          refine ⟨by show 9 ≤ sizeLine; decide, fun L nL => ⟨_, rfl, S, 9, rfl, by decide, by decide, (hP.same s1).same (sm_new sm_refl nL), fun r H5 hr5 g5 => ?_⟩⟩
          refine ix_all (hP.same s1) nL g5 hr5 (fun x hx => ?_) fun v' g hv => k v' H5 ((Go.new hP s1).trans g) (hv.le (Nat.le_refl _))
          simp only [List.mem_cons, List.not_mem_nil, or_false] at hx
          rcases hx with rfl | rfl | rfl | rfl | rfl | rfl | rfl | rfl | rfl
          · exact .int _
          · exact .int _
          · exact .int _
          · exact .int _
          · exact .int _
          · exact .int _
          · exact .non
          · exact .str _ (int_len i0 i1)
          · exact .tup (SqT.of hU) (by show 1 ≤ 1000; decide) fun x hx => by rw [List.mem_singleton.mp hx]; exact .int _
        · refine seq_ifR (fun τ H' => τ = [some (.ref S.p), some (.str z), none, none, none] ∧ H = H') (fun nx hn => ?_) (fun τ H' ⟨e1, e2⟩ => ?_)
          · refine ⟨_, rfl, ?_⟩
            dsimp only [tCons, tNil, tC]
            exact isi_tup (.str z) ⟨_, rfl, ite2 (fun e => absurd e (by decide)) (fun _ => iteF (hn _ _ ⟨rfl, rfl⟩))⟩
          subst e1
          subst e2
          refine seq_ifR (fun τ H' => τ = [some (.ref S.p), some (.str z), none, none, none] ∧ H = H') (fun nx hn => ?_) (fun τ H' ⟨e1, e2⟩ => ?_)
          · refine ⟨_, rfl, ?_⟩
            dsimp only [tCons, tNil, tC]
            exact isi_tup (.str z) ⟨_, rfl, ite2 (fun e => absurd e (by decide)) (fun _ => hn _ _ ⟨rfl, rfl⟩)⟩
          subst e1
          subst e2
          refine seq_ifR (fun τ H' => τ = [some (.ref S.p), some (.str z), none, none, none] ∧ H = H') (fun nx hn => ?_) (fun τ H' ⟨e1, e2⟩ => ?_)
          · refine ⟨_, rfl, ?_⟩
            dsimp only [tCons, tNil, tC]
            exact isi_go (.str z) (b := false) (by decide +kernel) ⟨_, rfl, iteF (hn _ _ ⟨rfl, rfl⟩)⟩
          subst e1
          subst e2
          have ws1 : ∀ x ∈ ["take", "keep", "pick", "join", "both", "make", "sum", "least"].map (fun y : String => V.str (Str.ofString y)), Vl K H S 1 x := fun x hx => by
            obtain ⟨y, hy, rfl⟩ := List.mem_map.mp hx
            refine .str _ ?_
            have key : ∀ y ∈ ["take", "keep", "pick", "join", "both", "make", "sum", "least"], (Str.ofString y).length ≤ 1000 := by decide +kernel
            exact key y hy
          have ws2 : ∀ x ∈ ["col", "val", "=", "<", "!", ">", "sold", "b"].map (fun y : String => V.str (Str.ofString y)), Vl K H S 1 x := fun x hx => by
            obtain ⟨y, hy, rfl⟩ := List.mem_map.mp hx
            refine .str _ ?_
            have key : ∀ y ∈ ["col", "val", "=", "<", "!", ">", "sold", "b"], (Str.ofString y).length ≤ 1000 := by decide +kernel
            exact key y hy
          have ws3 : ∀ x ∈ ["nobody", "", "A", "abcdefghi"].map (fun y : String => V.str (Str.ofString y)), Vl K H S 1 x := fun x hx => by
            obtain ⟨y, hy, rfl⟩ := List.mem_map.mp hx
            refine .str _ ?_
            have key : ∀ y ∈ ["nobody", "", "A", "abcdefghi"], (Str.ofString y).length ≤ 1000 := by decide +kernel
            exact key y hy
          refine ⟨by show 8 ≤ sizeLine; decide, fun L1 n1 => ?_⟩
          generalize ew1 : (["take", "keep", "pick", "join", "both", "make", "sum", "least"].map fun y : String => V.str (Str.ofString y)) = wl1 at ws1
          have l1 : wl1.length = 8 := by rw [← ew1]; rfl
          have s1 : Same H (upd H L1 (.lst wl1)) := sm_new sm_refl n1
          have h1 : upd H L1 (.lst wl1) L1 = some (.lst wl1) := upd_same
          show tSeq _ _ _ [some (.ref S.p), some (.str z), none, none, some (.ref L1)] (upd H L1 (.lst (["take", "keep", "pick", "join", "both", "make", "sum", "least"].map fun y : String => V.str (Str.ofString y))))
          rw [ew1]
          generalize upd H L1 (.lst wl1) = H1 at s1 h1 ⊢
          refine ⟨_, rfl, by show 8 ≤ sizeLine; decide, fun L2 n2 => ?_⟩
          generalize ew2 : (["col", "val", "=", "<", "!", ">", "sold", "b"].map fun y : String => V.str (Str.ofString y)) = wl2 at ws2
          have l2 : wl2.length = 8 := by rw [← ew2]; rfl
          refine ⟨L1, L2, wl1, wl2, rfl, rfl, (sm_new sm_refl n2) _ _ h1, (by rw [← ew2]; exact upd_same), (by rw [l1, l2, sizeLine_eq]; decide), fun L3 n3 => ?_⟩
          show tSeq _ _ _ [some (.ref S.p), some (.str z), none, none, some (.ref L3)] (upd (upd H1 L2 (.lst (["col", "val", "=", "<", "!", ">", "sold", "b"].map fun y : String => V.str (Str.ofString y)))) L3 (.lst (wl1 ++ wl2)))
          rw [ew2]
          have s3 : Same H1 (upd (upd H1 L2 (.lst wl2)) L3 (.lst (wl1 ++ wl2))) := (sm_new sm_refl n2).trans (sm_new sm_refl (by
            rw [← ew2]
            exact n3))
          have h3 : upd (upd H1 L2 (.lst wl2)) L3 (.lst (wl1 ++ wl2)) L3 = some (.lst (wl1 ++ wl2)) := upd_same
          generalize upd (upd H1 L2 (.lst wl2)) L3 (.lst (wl1 ++ wl2)) = H3 at s3 h3 ⊢
          have s03 := s1.trans s3
          refine ⟨_, rfl, _, rfl, _, _, rfl, rfl, (by
            have : (Str.ofString "a").length = 1 := by decide +kernel
            rw [this, sizeLine_eq]
            omega), _, rfl, by show 1 ≤ sizeLine; decide, fun U nU => ?_⟩
          have sU : Same H3 (upd H3 U (.tup [.str z])) := sm_new sm_refl nU
          have hU : upd H3 U (.tup [.str z]) U = some (.tup [.str z]) := upd_same
          generalize upd H3 U (.tup [.str z]) = H4 at sU hU ⊢
          refine ⟨_, rfl, by show 1 ≤ sizeLine; decide, fun W nW => ?_⟩
          have sW : Same H4 (upd H4 W (.lst [.str z])) := sm_new sm_refl nW
          have hW : upd H4 W (.lst [.str z]) W = some (.lst [.str z]) := upd_same
          generalize upd H4 W (.lst [.str z]) = H5 at sW hW ⊢
          have s05 := s03.trans (sU.trans sW)
          have st5 := hP.same s05
          have neW : W ≠ S.p := (hP.same (s03.trans sU)).off nW
          refine ⟨by show 9 ≤ sizeLine; decide, fun L4 n4 => ?_⟩
          have ws5 : ∀ x ∈ ["nobody", "", "A", "abcdefghi"].map (fun y : String => V.str (Str.ofString y)) ++ [.str (z ++ Str.ofString "a"), .int 0, .non, .ref U, .ref W], Vl K H5 S 1 x := fun x hx => by
            rcases List.mem_append.mp hx with hx | hx
            · exact (ws3 x hx).same s05
            · simp only [List.mem_cons, List.not_mem_nil, or_false] at hx
              rcases hx with rfl | rfl | rfl | rfl | rfl
              · refine .str _ ?_
                have : (Str.ofString "a").length = 1 := by decide +kernel
                rw [Str.length_append, this]
                omega
              · exact .int _
              · exact .non
              · exact .tup (n := 0) (SqT.of (sW _ _ hU)) (by show 1 ≤ 1000; decide) fun x hx => by rw [List.mem_singleton.mp hx]; exact .str _ (by omega)
              · exact .lst (n := 0) hW neW (by show 1 ≤ 1000; decide) fun x hx => by rw [List.mem_singleton.mp hx]; exact .str _ (by omega)
          generalize ew5 : ["nobody", "", "A", "abcdefghi"].map (fun y : String => V.str (Str.ofString y)) ++ [.str (z ++ Str.ofString "a"), .int 0, .non, .ref U, .ref W] = wl5 at ws5
          have l5 : wl5.length = 9 := by rw [← ew5]; rfl
          refine ⟨L3, L4, wl1 ++ wl2, wl5, rfl, rfl, (sm_new sm_refl n4) _ _ ((sU.trans sW) _ _ h3), (by rw [← ew5]; exact upd_same), (by rw [List.length_append, l1, l2, l5, sizeLine_eq]; decide), fun L6 n6 => ?_⟩
          have s6 : Same H5 (upd H5 L4 (.lst wl5)) := sm_new sm_refl (by exact n4)
          refine ⟨_, rfl, _, rfl, S, 25, rfl, by decide, by decide, (st5.same (sm_new sm_refl n4)).same (sm_new sm_refl n6), fun r H7 hr7 g7 => ?_⟩
          refine ix_all (st5.same (sm_new sm_refl n4)) n6 g7 (by rw [List.length_append, List.length_append, l1, l2, l5]; exact hr7) (fun x hx => ?_) fun v' g hv => k v' H7 (((Go.new hP s05).same (sm_new sm_refl n4)).trans g) hv
          have goal : Vl K H5 S (n + 1) x := by
            rcases List.mem_append.mp hx with hx | hx
            · rcases List.mem_append.mp hx with hx | hx
              · exact ((ws1 x hx).same s05).le (by omega)
              · exact ((ws2 x hx).same s05).le (by omega)
            · exact (ws5 x hx).le (by omega)
          exact goal.same (sm_new sm_refl n4)
      · have hk : ∀ {H' : Hp}, KeepT H H' → ∀ x ∈ xs, Vl K H' S (m + 1) x := fun kt x hx' => ((hx x hx').kt kt).vl.le (Nat.le_succ m)
        refine seq_ifR (fun τ H' => τ = [some (.ref S.p), some (.ref a), none, none, none] ∧ Go S H H') (fun nx hn => ?_) (fun τ H1 ⟨e1, g1⟩ => ?_)
        · refine ⟨_, rfl, ?_⟩
          dsimp only [tCons, tNil, tC]
          refine isi_tup (.tup hs) ⟨_, rfl, ite2 (fun _ => ?_) (fun e => absurd (by decide) e)⟩
          refine ⟨_, rfl, a, xs, rfl, .inr hs, _, _, rfl, rfl, _, rfl, ite2 (fun hgt => ?_) (fun _ => iteF (hn _ _ ⟨rfl, Go.refl hP⟩))⟩
          have hgt : (0 : Int) < (xs.length : Int) := of_decide_eq_true hgt
          refine ⟨_, rfl, S, 5, rfl, by decide, by decide, hP, fun r0 H1 _ g1 => ⟨_, _, rfl, rfl, _, rfl, ite2 (fun _ => ?_) (fun _ => hn _ _ ⟨rfl, g1⟩)⟩⟩
          have hs1 := sqT_kt (Go.kt hP g1) hs
          refine ⟨_, rfl, _, rfl, a, xs, rfl, .inr hs1, S, xs.length, rfl, by omega, by omega, g1.st, fun r H2 hr g2 => ?_⟩
          have g02 := g1.trans g2
          have hs2 := sqT_kt (Go.kt hP g02) hs
          refine ⟨_, rfl, _, rfl, _, rfl, slA_go hs2 fun p1 H3 s3 h3 => ?_⟩
          rw [cut_to] at h3
          have g03 := g02.same s3
          have er : xs[r]? = some xs[r] := List.getElem?_eq_getElem hr
          refine ⟨_, rfl, _, rfl, _, rfl, pick (.inr (sqT_same s3 hs2)) r er _ ⟨S, _, rfl, g03.st, (hx _ (List.getElem_mem hr)).kt (Go.kt hP g03), fun v' H4 g4 hv => ⟨by show 1 ≤ sizeLine; decide, fun U nU => ?_⟩⟩⟩
          have sU : Same H4 (upd H4 U (.tup [v'])) := sm_new sm_refl nU
          have hU : upd H4 U (.tup [v']) U = some (.tup [v']) := upd_same
          generalize upd H4 U (.tup [v']) = H5 at sU hU ⊢
          have g35 := g4.same sU
          have g05 := g03.trans g35
          have lt : (xs.take r).length ≤ 400 := by rw [List.length_take]; omega
          refine catA_go (sqT_kt (Go.kt g03.st g35) h3) (SqT.of hU) (by rw [List.length_singleton]; omega) fun p2 H6 s6 h6 => ?_
          have g06 := g05.same s6
          refine ⟨_, rfl, _, rfl, _, _, rfl, rfl, _, rfl, slA_no (slA_go (sqT_kt (Go.kt hP g06) hs) fun p3 H7 s7 h7 => ?_)⟩
          have h7 : SqT K H7 p3 (xs.drop (r + 1)) := by
            have := h7
            rw [show ((r : Int) + 1) = ((r + 1 : Nat) : Int) from rfl, cut_from] at this
            exact this
          have ld : (xs.drop (r + 1)).length ≤ 400 := by rw [List.length_drop]; omega
          have g07 := g06.same s7
          refine catA_go (sqT_same s7 h6) h7 (by rw [List.length_append, List.length_singleton]; omega) fun p4 H8 s8 h8 => ?_
          have g08 := g07.same s8
          refine k (.ref p4) H8 g08 (.tup h8 ?_ fun x hx' => ?_)
          · rw [List.length_append, List.length_append, List.length_singleton]
            omega
          · rcases List.mem_append.mp hx' with hx' | hx'
            · rcases List.mem_append.mp hx' with hx' | hx'
              · exact hk (Go.kt hP g08) x (List.mem_of_mem_take hx')
              · rw [List.mem_singleton.mp hx']
                exact hv.same (sU.trans (s6.trans (s7.trans s8)))
            · exact hk (Go.kt hP g08) x (List.mem_of_mem_drop hx')
        subst e1
        have hs1 := sqT_kt (Go.kt hP g1) hs
        refine seq_ifR (fun τ H' => False) (fun nx hn => ?_) (fun τ H' hf => hf.elim)
        refine ⟨_, rfl, ?_⟩
        dsimp only [tCons, tNil, tC]
        refine isi_tup (.tup hs1) ⟨_, rfl, ite2 (fun _ => ?_) (fun e => absurd (by decide) e)⟩
        refine ⟨_, rfl, _, rfl, a, xs, rfl, .inr hs1, _, _, rfl, rfl, S, xs.length + 1, rfl, by omega, by omega, g1.st, fun r H2 hr g2 => ?_⟩
        have g02 := g1.trans g2
        have hs2 := sqT_kt (Go.kt hP g02) hs
        have lt : (xs.take r).length ≤ 400 := by rw [List.length_take]; omega
        have lt1 : (xs.take 1).length ≤ 400 := by rw [List.length_take]; omega
        have ld : (xs.drop (r + 1)).length ≤ 400 := by rw [List.length_drop]; omega
        refine ⟨_, rfl, _, rfl, _, rfl, slA_go hs2 fun p1 H3 s3 h3 => ⟨_, rfl, _, rfl, _, _, rfl, rfl, _, rfl, slA_no (slA_go (sqT_same s3 hs2) fun p2 H4 s4 h4 => ?_)⟩⟩
        rw [cut_to] at h3
        have h4 : SqT K H4 p2 (xs.drop (r + 1)) := by
          have := h4
          rw [show ((r : Int) + 1) = ((r + 1 : Nat) : Int) from rfl, cut_from] at this
          exact this
        have s24 := s3.trans s4
        refine catA_go (sqT_same s4 h3) h4 (by omega) fun q1 H5 s5 h5 => ?_
        have s25 := s24.trans s5
        have k5 := Go.kt hP (g02.same s25)
        have m1 : Vl K H5 S (m + 2) (.ref q1) := .tup h5 (by rw [List.length_append]; omega) fun x hx' => (List.mem_append.mp hx').elim (fun h => hk k5 x (List.mem_of_mem_take h)) (fun h => hk k5 x (List.mem_of_mem_drop h))
        refine ⟨_, rfl, _, rfl, _, rfl, slA_go (sqT_same s25 hs2) fun p3 H6 s6 h6 => ?_⟩
        have h6 : SqT K H6 p3 (xs.take 1) := by
          have := h6
          rw [show (1 : Int) = ((1 : Nat) : Int) from rfl, cut_to] at this
          exact this
        have s26 := s25.trans s6
        refine catA_go (sqT_same s26 hs2) h6 (by omega) fun q2 H7 s7 h7 => ?_
        have s27 := s26.trans s7
        have k7 := Go.kt hP (g02.same s27)
        have m2 : Vl K H7 S (m + 2) (.ref q2) := .tup h7 (by rw [List.length_append]; omega) fun x hx' => (List.mem_append.mp hx').elim (hk k7 x) (fun h => hk k7 x (List.mem_of_mem_take h))
        refine ⟨_, rfl, by show 1 ≤ sizeLine; decide, fun U1 n1 => ?_⟩
        have sU1 : Same H7 (upd H7 U1 (.tup [.int 0])) := sm_new sm_refl n1
        have hU1 : upd H7 U1 (.tup [.int 0]) U1 = some (.tup [.int 0]) := upd_same
        generalize upd H7 U1 (.tup [.int 0]) = H8 at sU1 hU1 ⊢
        have s28 := s27.trans sU1
        refine catA_go (sqT_same s28 hs2) (SqT.of hU1) (by rw [List.length_singleton]; omega) fun q3 H9 s9 h9 => ?_
        have s29 := s28.trans s9
        have k9 := Go.kt hP (g02.same s29)
        have m3 : Vl K H9 S (m + 2) (.ref q3) := .tup h9 (by rw [List.length_append, List.length_singleton]; omega) fun x hx' => (List.mem_append.mp hx').elim (hk k9 x) (fun h => by rw [List.mem_singleton.mp h]; exact .int _)
        refine ⟨by show 0 ≤ sizeLine; decide, fun U2 n2 => ?_⟩
        have sU2 : Same H9 (upd H9 U2 (.tup [])) := sm_new sm_refl n2
        have hU2 : upd H9 U2 (.tup []) U2 = some (.tup []) := upd_same
        generalize upd H9 U2 (.tup []) = HA at sU2 hU2 ⊢
        have s2A := s29.trans sU2
        refine ⟨_, rfl, by show 2 ≤ sizeLine; decide, fun U3 n3 => ?_⟩
        have sU3 : Same HA (upd HA U3 (.tup [.int 0, .int 0])) := sm_new sm_refl n3
        have hU3 : upd HA U3 (.tup [.int 0, .int 0]) U3 = some (.tup [.int 0, .int 0]) := upd_same
        generalize upd HA U3 (.tup [.int 0, .int 0]) = HB at sU3 hU3 ⊢
        refine ⟨by show 1 ≤ sizeLine; decide, fun U4 n4 => ?_⟩
        have sU4 : Same HB (upd HB U4 (.tup [.ref U3])) := sm_new sm_refl n4
        have hU4 : upd HB U4 (.tup [.ref U3]) U4 = some (.tup [.ref U3]) := upd_same
        generalize upd HB U4 (.tup [.ref U3]) = HC at sU4 hU4 ⊢
        have s2C := s2A.trans (sU3.trans sU4)
        refine catA_go (sqT_same s2C hs2) (SqT.of hU4) (by rw [List.length_singleton]; omega) fun q5 HD sD hD => ?_
        have s2D := s2C.trans sD
        have kD := Go.kt hP (g02.same s2D)
        have z3 : Vl K HD S (m + 1) (.ref U3) := .tup (n := m) (sqT_same (sU4.trans sD) (SqT.of hU3)) (by show 2 ≤ 1000; decide) fun x hx' => by
          simp only [List.mem_cons, List.not_mem_nil, or_false, or_self] at hx'
          rw [hx']
          exact .int _
        have m5 : Vl K HD S (m + 2) (.ref q5) := .tup hD (by rw [List.length_append, List.length_singleton]; omega) fun x hx' => (List.mem_append.mp hx').elim (hk kD x) (fun h => by rw [List.mem_singleton.mp h]; exact z3)
        refine ⟨_, rfl, by show 1 ≤ sizeLine; decide, fun U6 n6 => ?_⟩
        have sU6 : Same HD (upd HD U6 (.tup [.ref a])) := sm_new sm_refl n6
        have hU6 : upd HD U6 (.tup [.ref a]) U6 = some (.tup [.ref a]) := upd_same
        generalize upd HD U6 (.tup [.ref a]) = HE at sU6 hU6 ⊢
        have s2E := s2D.trans sU6
        have g0E := g02.same s2E
        have kE := Go.kt hP g0E
        have m6 : Vl K HE S (m + 2) (.ref U6) := .tup (SqT.of hU6) (by show 1 ≤ 1000; decide) fun x hx' => by
          rw [List.mem_singleton.mp hx']
          exact .tup (sqT_kt kE hs) (by omega) fun x hx' => ((hx x hx').kt kE).vl
        have m4 : Vl K HE S (m + 2) (.ref U2) := .tup (SqT.of ((sU3.trans (sU4.trans (sD.trans sU6))) _ _ hU2)) (Nat.zero_le _) fun x hx' => nomatch hx'
        refine ⟨by show 7 ≤ sizeLine; decide, fun L nL => ⟨_, rfl, _, rfl, S, 7, rfl, by decide, by decide, g0E.st.same (sm_new sm_refl nL), fun r' HF hrF gF => ?_⟩⟩
        refine ix_all g0E.st nL gF hrF (fun x hx' => ?_) fun v' g hv => k v' HF (g0E.trans g) hv
        simp only [List.mem_cons, List.not_mem_nil, or_false] at hx'
        rcases hx' with rfl | rfl | rfl | rfl | rfl | rfl | rfl
        · exact m1.same (s6.trans (s7.trans (sU1.trans (s9.trans (sU2.trans (sU3.trans (sU4.trans (sD.trans sU6))))))))
        · exact m2.same (sU1.trans (s9.trans (sU2.trans (sU3.trans (sU4.trans (sD.trans sU6))))))
        · exact m3.same (sU2.trans (sU3.trans (sU4.trans (sD.trans sU6))))
        · exact m4
        · exact m5.same sU6
        · exact m6
        · exact .non
end
end K14


set_option Elab.async false
set_option linter.all false
set_option maxRecDepth 100000
set_option maxHeartbeats 8000000
namespace K14
open PySem L2 Nd Bk Gd PySem.ExE
/-! a program one node or two above this one -/
section
variable {K : PySem.W.Frag} {H H' : Hp} {n m : Nat} {v : V}
theorem Vi.up : ∀ {n : Nat} {v : V}, Vi K H n v → Vi K H (n + 1) v
  | 0, _, h => .inl h
  | n + 1, _, h => h.imp id fun ⟨a, xs, e, h1, h2, h3⟩ => ⟨a, xs, e, h1, h2, fun x hx => (h3 x hx).up⟩
theorem Vi.le (h : Vi K H n v) (l : n ≤ m) : Vi K H m v := by
  induction l with
  | refl => exact h
  | step _ ih => exact ih.up
theorem Vi.leaf (h : lfV v) : Vi K H n v := by
  cases n with
  | zero => exact h
  | succ n => exact .inl h
theorem Vi.int {i : Int} (h0 : -99999 ≤ i) (h1 : i ≤ 99999) : Vi K H n (.int i) := .leaf (.inl ⟨i, rfl, h0, h1⟩)
theorem Vi.str {z : Str} (h : z.length ≤ 900) : Vi K H n (.str z) := .leaf (.inr ⟨z, rfl, h⟩)
theorem Vi.tup {a : Addr} {xs : List V} (hs : SqT K H a xs) (hl : xs.length ≤ 400) (h : ∀ x ∈ xs, Vi K H n x) : Vi K H (n + 1) (.ref a) := .inr ⟨a, xs, rfl, hs, hl, h⟩
theorem Vi.same (s : Same H H') (h : Vi K H n v) : Vi K H' n v := h.kt (.same s)
end
def NmT (K : PySem.W.Frag) (H : Hp) (x : V) (g : Str × Nat) : Prop := ∃ U, x = .ref U ∧ SqT K H U [.str g.1, .int (g.2 : Nat)]
def spWr (K : PySem.W.Frag) (n : Nat) : Sp := fun vs H Q _ => ∃ (S : Sta) (v : V) (wd : Nat) (T : Addr) (ys : List V) (ws : List (Str × Nat)), vs = [.ref S.p, v, .int (wd : Int), .ref T] ∧ StAt H S ∧ Vi K H n v ∧ 2 ≤ n ∧ 1 ≤ wd ∧ wd ≤ 6 ∧ SqT K H T ys ∧ Paired (NmT K H) ys ws ∧ 1 ≤ ws.length ∧ ws.length ≤ 1000 ∧ (∀ g ∈ ws, g.1.length ≤ 900) ∧
  ∀ (v' : V) (H' : Hp), Go S H H' → Vi K H' (n + 20) v' → Q v' H'
section
variable {P : Program} {w : World} {K : PySem.W.Frag} {mg : Str → Option Value} {base : Heap} {T C fI : Addr}
abbrev wrN : List Str := ["state", "program", "width", "names", "kind", "other", "k"]
theorem scWr : FnScope wrN ["state", "program", "width", "names"] (defScope t__law_wrapped) := ⟨rfl, rfl, rfl, by decide +kernel, rfl, by decide +kernel, by decide +kernel⟩
theorem ok_wr {f : Addr} {fd : FuncData} (F : Fun K "_law_wrapped" "_law_wrapped" t__law_wrapped f fd) (N : Nm mg) (Gd : Df P w K mg base 2 "_law_draw" ["state", "limit"] spLDr) : ∀ n : Nat, FnOk P w K mg base CX0 3 f fd ["state", "program", "width", "names"] (spWr K n) := by
  obtain ⟨fD, fdD, gD, kD, bD, GD⟩ := Gd.ok
  intro n
  refine F.ok scWr (fun vs H Q E h => ?_) (fun cdv A outer s H vs Q E hr h => ?_)
  · obtain ⟨S, v, wd, T, ys, ws, rfl, _⟩ := h
    rfl
  · obtain ⟨S, v, wd, T, ys, ws, rfl, hP, hv, n2, w1, w6, hT, hys, l1, lm, hz, k⟩ := h
    have hr2 : Room 2 _ := hr.mono (by omega)
    --BODYA
    refine ⟨_, pss_cons (ps_set (i := 4) scWr.nd rfl (Or.inl rfl) (pe_call GD hr2 rfl gD kD bD .nil pass0 (pa_cons (pv 0) (pa_cons pe_int pa_nil))))
      (pss_cons (ps_set (i := 5) scWr.nd rfl (Or.inl rfl) (pe_tup (pa_cons pe_str (pa_cons (pe_ix (show IxR _ (rIx K) from ix_seq) (pe_ix (show IxR _ (rIx K) from ix_seq) (pv 3) (pe_call GD hr2 rfl gD kD bD .nil pass0 (pa_cons (pv 0) (pa_cons (pe_callB (show CallR _ _ (rLenQ K) from call_len_seq) (by rfl) N.len PySem.boot_len (pa_cons (pv 3) pa_nil)) pa_nil))) (fun _ _ => rfl)) pe_int (fun _ _ => rfl)) pa_nil))))
      (pss_cons (ps_if (pt_cmpR op_eq (pv 4) pe_int (nomark _)) (pss_one (ps_ret (pe_tup (pa_cons pe_str (pa_cons (pv 1) (pa_cons (pv 5) (pa_cons (pe_tup (pa_cons (pe_tup (pa_cons (pe_op op_sub (pv 2) (pe_call GD hr2 rfl gD kD bD .nil pass0 (pa_cons (pv 0) (pa_cons pe_int pa_nil)))) (pa_cons pe_int pa_nil))) pa_nil)) pa_nil))))))) pss_nil)
      (pss_cons (ps_if (pt_cmpR op_eq (pv 4) pe_int (nomark _)) (pss_one (ps_ret (pe_tup (pa_cons pe_str (pa_cons (pv 1) (pa_cons (pv 5) pa_nil)))))) pss_nil)
      (pss_cons (ps_if (pt_cmpR op_eq (pv 4) pe_int (nomark _)) (pss_one (ps_ret (pe_tup (pa_cons pe_str (pa_cons (pv 1) (pa_cons (pe_tup (pa_cons pe_str (pa_cons pe_int (pa_cons (pe_op op_add (pe_op op_sub (pv 2) pe_int) (pe_call GD hr2 rfl gD kD bD .nil pass0 (pa_cons (pv 0) (pa_cons pe_int pa_nil)))) pa_nil)))) pa_nil)))))) pss_nil)
      (pss_cons (ps_if (pt_cmpR op_eq (pv 4) pe_int (nomark _)) (pss_one (ps_ret (pe_tup (pa_cons pe_str (pa_cons (pv 1) (pa_cons (pe_callTy (show CallR _ _ (rTupO K) from call_tuple_of) (by rfl) N.tup (by rfl) (pa_cons (pe_lc (own := [("k", 6)]) (g := gName 6) (tt := tYes) rfl scWr.nd (pi_range1 rfl N.rng (pa_cons (pe_call GD hr2 rfl gD kD bD .nil pass0 (pa_cons (pv 0) (pa_cons pe_int pa_nil))) pa_nil)) (blkOk_by (N := wrN) (sc := defScope t__law_wrapped) (by decide +kernel))
          (fun _ _ _ _ _ => (pg_name (i := 6) scWr.nd rfl (Or.inl rfl))) (fun _ _ _ _ _ => pts_nil) (fun _ _ _ _ _ => (pe_call GD hr2 rfl gD kD bD .nil pass0 (pa_cons (pv 0) (pa_cons (pv 2) pa_nil))))) pa_nil)) pa_nil)))))) pss_nil)
      (pss_cons (ps_if (pt_cmpR op_eq (pv 4) pe_int (nomark _)) (pss_one (ps_ret (pe_tup (pa_cons pe_str (pa_cons (pv 5) (pa_cons (pv 1) (pa_cons (pe_tup pa_nil) pa_nil))))))) pss_nil)
      (pss_cons (ps_for PassesOwn.never rfl (pi_range1 rfl N.rng (pa_cons (pe_op op_add pe_int (pe_call GD hr2 rfl gD kD bD .nil pass0 (pa_cons (pv 0) (pa_cons pe_int pa_nil)))) pa_nil)) (pg_name (i := 6) scWr.nd rfl (Or.inl rfl))
      (pss_one (ps_set (i := 1) scWr.nd rfl (Or.inl rfl) (pe_tup (pa_cons pe_str (pa_cons (pv 1) (pa_cons (pe_tup (pa_cons (pe_tup (pa_cons pe_str (pa_cons pe_int pa_nil))) (pa_cons pe_str (pa_cons (pe_tup (pa_cons pe_str (pa_cons pe_str pa_nil))) pa_nil)))) pa_nil)))))))
      (pss_one (ps_ret (pv 1)))))))))), ?_⟩
    --END
    have ly : ys.length = ws.length := paired_len hys
    refine ⟨_, rfl, S, 6, rfl, by decide, by decide, hP, fun r0 H1 hr0 g1 => ?_⟩
    have hT1 := sqT_kt (Go.kt hP g1) hT
    refine ⟨_, rfl, _, rfl, _, rfl, T, ys, rfl, .inr hT1, S, ys.length, rfl, by omega, by omega, g1.st, fun r1 H2 hr1 g2 => ?_⟩
    have g02 := g1.trans g2
    have er : ys[r1]? = some ys[r1] := List.getElem?_eq_getElem hr1
    obtain ⟨gg, hgg, U, hyU, hU⟩ := paired_get hys er
    have hU2 : SqT K H2 U [.str gg.1, .int (gg.2 : Nat)] := sqT_kt (Go.kt hP g02) hU
    rw [hyU] at er
    refine pick (.inr (sqT_kt (Go.kt hP g02) hT)) r1 er _ (pick (.inr hU2) 0 rfl _ ⟨by show 2 ≤ sizeLine; decide, fun O nO => ?_⟩)
    have sO : Same H2 (upd H2 O (.tup [.str (Str.ofString "take"), .str gg.1])) := sm_new sm_refl nO
    have hO : upd H2 O (.tup [.str (Str.ofString "take"), .str gg.1]) O = some (.tup [.str (Str.ofString "take"), .str gg.1]) := upd_same
    generalize upd H2 O (.tup [.str (Str.ofString "take"), .str gg.1]) = H3 at sO hO ⊢
    have g03 := g02.same sO
    have vO : Vi K H3 1 (.ref O) := .tup (SqT.of hO) (by show 2 ≤ 400; decide) fun x hx => by
      simp only [List.mem_cons, List.not_mem_nil, or_false] at hx
      rcases hx with rfl | rfl
      · exact .str (by decide +kernel)
      · exact .str (hz gg (List.mem_of_getElem? hgg))
    have v3 : Vi K H3 n v := hv.kt (Go.kt hP g03)
    let st0 : L2.St := [some (.ref S.p), some v, some (.int (wd : Int)), some (.ref T), some (.int (r0 : Int)), some (.ref O), none]
    -- join
    refine asg_seq_ifR (fun τ H' => τ = st0 ∧ H3 = H') (fun nx hn => ?_) (fun τ H' ⟨e1, e2⟩ => ?_)
    · refine ⟨_, rfl, rfl, _, rfl, ite2 (fun _ => ?_) (fun _ => hn _ _ ⟨rfl, rfl⟩)⟩
      refine ⟨_, rfl, _, rfl, _, rfl, _, rfl, S, 2, rfl, by decide, by decide, g03.st, fun r H4 hr4 g4 => ⟨_, _, rfl, rfl, ⟨by show 2 ≤ sizeLine; decide, fun U1 n1 => ?_⟩⟩⟩
      have s1 : Same H4 (upd H4 U1 (.tup [.int ((wd : Int) - (r : Int)), .int 0])) := sm_new sm_refl n1
      have h1 : upd H4 U1 (.tup [.int ((wd : Int) - (r : Int)), .int 0]) U1 = some (.tup [.int ((wd : Int) - (r : Int)), .int 0]) := upd_same
      generalize upd H4 U1 (.tup [.int ((wd : Int) - (r : Int)), .int 0]) = H5 at s1 h1 ⊢
      refine ⟨by show 1 ≤ sizeLine; decide, fun U2 n2 => ?_⟩
      have s2 : Same H5 (upd H5 U2 (.tup [.ref U1])) := sm_new sm_refl n2
      have h2 : upd H5 U2 (.tup [.ref U1]) U2 = some (.tup [.ref U1]) := upd_same
      generalize upd H5 U2 (.tup [.ref U1]) = H6 at s2 h2 ⊢
      refine ⟨by show 4 ≤ sizeLine; decide, fun U3 n3 => k _ _ ((g03.trans g4).same ((s1.trans s2).trans (sm_new sm_refl n3))) (.tup (n := n + 19) (SqT.of upd_same) (by show 4 ≤ 400; decide) fun x hx => ?_)⟩
      have g36 : Go S H3 (upd H6 U3 (.tup [.str (Str.ofString "join"), v, .ref O, .ref U2])) := g4.same ((s1.trans s2).trans (sm_new sm_refl n3))
      have k36 := Go.kt g03.st g36
      simp only [List.mem_cons, List.not_mem_nil, or_false] at hx
      rcases hx with rfl | rfl | rfl | rfl
      · exact .str (by decide +kernel)
      · exact (v3.kt k36).le (by omega)
      · exact (vO.kt k36).le (by omega)
      · refine Vi.same (sm_new sm_refl n3) (Vi.le (n := 2) (.tup (SqT.of h2) (by show 1 ≤ 400; decide) fun x hx => ?_) (by omega))
        rw [List.mem_singleton.mp hx]
        refine Vi.same s2 (.tup (SqT.of h1) (by show 2 ≤ 400; decide) fun x hx => ?_)
        simp only [List.mem_cons, List.not_mem_nil, or_false] at hx
        rcases hx with rfl | rfl
        · exact .int (by omega) (by omega)
        · exact .int (by decide) (by decide)
    subst e1
    subst e2
    -- both
    refine seq_ifR (fun τ H' => τ = st0 ∧ H3 = H') (fun nx hn => ?_) (fun τ H' ⟨e1, e2⟩ => ?_)
    · refine ⟨_, rfl, rfl, _, rfl, ite2 (fun _ => ?_) (fun _ => hn _ _ ⟨rfl, rfl⟩)⟩
      refine ⟨_, rfl, _, rfl, by show 3 ≤ sizeLine; decide, fun U3 n3 => k _ _ (g03.same (sm_new sm_refl n3)) (.tup (n := n + 19) (SqT.of upd_same) (by show 3 ≤ 400; decide) fun x hx => ?_)⟩
      simp only [List.mem_cons, List.not_mem_nil, or_false] at hx
      rcases hx with rfl | rfl | rfl
      · exact .str (by decide +kernel)
      · exact (v3.same (sm_new sm_refl n3)).le (by omega)
      · exact (vO.same (sm_new sm_refl n3)).le (by omega)
    subst e1
    subst e2
    -- make
    refine seq_ifR (fun τ H' => τ = st0 ∧ H3 = H') (fun nx hn => ?_) (fun τ H' ⟨e1, e2⟩ => ?_)
    · refine ⟨_, rfl, rfl, _, rfl, ite2 (fun _ => ?_) (fun _ => hn _ _ ⟨rfl, rfl⟩)⟩
      refine ⟨_, rfl, _, rfl, _, _, rfl, rfl, _, rfl, S, 2, rfl, by decide, by decide, g03.st, fun r H4 hr4 g4 => ⟨_, _, rfl, rfl, ⟨by show 3 ≤ sizeLine; decide, fun U1 n1 => ?_⟩⟩⟩
      have s1 : Same H4 (upd H4 U1 (.tup [.str (Str.ofString "most"), .int 0, .int ((wd : Int) - 1 + (r : Int))])) := sm_new sm_refl n1
      have h1 : upd H4 U1 (.tup [.str (Str.ofString "most"), .int 0, .int ((wd : Int) - 1 + (r : Int))]) U1 = some (.tup [.str (Str.ofString "most"), .int 0, .int ((wd : Int) - 1 + (r : Int))]) := upd_same
      generalize upd H4 U1 (.tup [.str (Str.ofString "most"), .int 0, .int ((wd : Int) - 1 + (r : Int))]) = H5 at s1 h1 ⊢
      refine ⟨by show 3 ≤ sizeLine; decide, fun U3 n3 => k _ _ ((g03.trans g4).same (s1.trans (sm_new sm_refl n3))) (.tup (n := n + 19) (SqT.of upd_same) (by show 3 ≤ 400; decide) fun x hx => ?_)⟩
      have g36 : Go S H3 (upd H5 U3 (.tup [.str (Str.ofString "make"), v, .ref U1])) := g4.same (s1.trans (sm_new sm_refl n3))
      have k36 := Go.kt g03.st g36
      simp only [List.mem_cons, List.not_mem_nil, or_false] at hx
      rcases hx with rfl | rfl | rfl
      · exact .str (by decide +kernel)
      · exact (v3.kt k36).le (by omega)
      · refine Vi.same (sm_new sm_refl n3) (Vi.le (n := 1) (.tup (SqT.of h1) (by show 3 ≤ 400; decide) fun x hx => ?_) (by omega))
        simp only [List.mem_cons, List.not_mem_nil, or_false] at hx
        rcases hx with rfl | rfl | rfl
        · exact .str (by decide +kernel)
        · exact .int (by decide) (by decide)
        · exact .int (by omega) (by omega)
    subst e1
    subst e2
    -- pick
    refine seq_ifR (fun τ H' => τ = st0 ∧ H3 = H') (fun nx hn => ?_) (fun τ H' ⟨e1, e2⟩ => ?_)
    · refine ⟨_, rfl, rfl, _, rfl, ite2 (fun _ => ?_) (fun _ => hn _ _ ⟨rfl, rfl⟩)⟩
      refine ⟨_, rfl, _, rfl, S, 8, rfl, by decide, by decide, g03.st, fun r H4 hr4 g4 => ⟨_, rfl, by omega, by omega, fun D nD => ?_⟩⟩
      refine lc_range (n := ((r : Nat) : Int).toNat) (fun c HA => ∃ cs : List Nat, cs.length = c ∧ (∀ c ∈ cs, c < wd) ∧ AccG IntV S H4 D cs HA) ⟨[], rfl, (fun _ h => nomatch h), accG_zero g4.st nD⟩ ?_ ?_
      · rintro c HA hc ⟨cs, lc, hcs, ac⟩
        refine ⟨rfl, _, rfl, _, rfl, S, wd, rfl, by omega, by omega, ac.go.st, fun kk HB ck gB => ?_⟩
        obtain ⟨acc, h1, h2, h3⟩ := accG_step IntV.stay ac nD g4.st (by omega) gB (x := kk) (y := .int (kk : Int)) rfl
        refine ⟨acc, h1, h2, cs ++ [kk], by rw [List.length_append, lc]; rfl, fun c hc => ?_, h3⟩
        rcases List.mem_append.mp hc with e | e
        · exact hcs c e
        · rw [List.mem_singleton.mp e]; exact ck
      · rintro HA ⟨cs, lc, hcs, gA, zs, hD, hzs⟩
        have eys := ints_eq hzs
        subst eys
        refine ⟨D, _, rfl, .inl ⟨SqL.of hD, fun A nA => ?_⟩⟩
        have sA : Same HA (upd HA A (.tup (cs.map fun c => V.int (c : Nat)))) := sm_new sm_refl nA
        have hA : upd HA A (.tup (cs.map fun c => V.int (c : Nat))) A = some (.tup (cs.map fun c => V.int (c : Nat))) := upd_same
        generalize upd HA A (.tup (cs.map fun c => V.int (c : Nat))) = HB at sA hA ⊢
        refine ⟨by show 3 ≤ sizeLine; decide, fun U3 n3 => k _ _ (((g03.trans g4).trans gA).same (sA.trans (sm_new sm_refl n3))) (.tup (n := n + 19) (SqT.of upd_same) (by show 3 ≤ 400; decide) fun x hx => ?_)⟩
        have g36 : Go S H3 (upd HB U3 (.tup [.str (Str.ofString "pick"), v, .ref A])) := (g4.trans gA).same (sA.trans (sm_new sm_refl n3))
        have k36 := Go.kt g03.st g36
        simp only [List.mem_cons, List.not_mem_nil, or_false] at hx
        rcases hx with rfl | rfl | rfl
        · exact .str (by decide +kernel)
        · exact (v3.kt k36).le (by omega)
        · refine Vi.same (sm_new sm_refl n3) (Vi.le (n := 1) (.tup (SqT.of hA) (by rw [List.length_map, lc]; omega) fun x hx => ?_) (by omega))
          obtain ⟨c, hc, rfl⟩ := List.mem_map.mp hx
          have := hcs c hc
          exact .int (by omega) (by omega)
    subst e1
    subst e2
    -- join, the other way
    refine seq_ifR (fun τ H' => τ = st0 ∧ H3 = H') (fun nx hn => ?_) (fun τ H' ⟨e1, e2⟩ => ?_)
    · refine ⟨_, rfl, rfl, _, rfl, ite2 (fun _ => ?_) (fun _ => hn _ _ ⟨rfl, rfl⟩)⟩
      refine ⟨_, rfl, _, rfl, by show 0 ≤ sizeLine; decide, fun U1 n1 => ?_⟩
      have s1 : Same H3 (upd H3 U1 (.tup [])) := sm_new sm_refl n1
      have h1 : upd H3 U1 (.tup []) U1 = some (.tup []) := upd_same
      generalize upd H3 U1 (.tup []) = H5 at s1 h1 ⊢
      refine ⟨by show 4 ≤ sizeLine; decide, fun U3 n3 => k _ _ (g03.same (s1.trans (sm_new sm_refl n3))) (.tup (n := n + 19) (SqT.of upd_same) (by show 4 ≤ 400; decide) fun x hx => ?_)⟩
      have s2 := s1.trans (sm_new (o := .tup [.str (Str.ofString "join"), .ref O, v, .ref U1]) sm_refl n3)
      simp only [List.mem_cons, List.not_mem_nil, or_false] at hx
      rcases hx with rfl | rfl | rfl | rfl
      · exact .str (by decide +kernel)
      · exact (vO.same s2).le (by omega)
      · exact (v3.same s2).le (by omega)
      · exact Vi.same (sm_new sm_refl n3) (Vi.le (n := 1) (.tup (SqT.of h1) (Nat.zero_le _) fun x hx => nomatch hx) (by omega))
    subst e1
    subst e2
    -- a chain
    refine ⟨_, rfl, S, 5, rfl, by decide, by decide, g03.st, fun r H4 hr4 g4 => ⟨_, _, rfl, rfl, _, rfl, by omega, by omega, ?_⟩⟩
    refine for_range (n := (15 + (r : Int)).toNat) (fun t σ HA => (∃ u x, σ = [some (.ref S.p), some x, some (.int (wd : Int)), some (.ref T), some (.int (r0 : Int)), some (.ref O), u] ∧ Vi K HA (n + t) x) ∧ Go S H HA) ⟨⟨none, v, rfl, v3.kt (Go.kt g03.st g4)⟩, g03.trans g4⟩ ?_ ?_
    · rintro t σ HA ht ⟨⟨u, x, rfl, vx⟩, gA⟩
      refine ⟨_, rfl, by show 2 ≤ sizeLine; decide, fun U1 n1 => ?_⟩
      have s1 : Same HA (upd HA U1 (.tup [.str (Str.ofString "col"), .int 0])) := sm_new sm_refl n1
      have h1 : upd HA U1 (.tup [.str (Str.ofString "col"), .int 0]) U1 = some (.tup [.str (Str.ofString "col"), .int 0]) := upd_same
      generalize upd HA U1 (.tup [.str (Str.ofString "col"), .int 0]) = H5 at s1 h1 ⊢
      refine ⟨by show 2 ≤ sizeLine; decide, fun U2 n2 => ?_⟩
      have s2 : Same H5 (upd H5 U2 (.tup [.str (Str.ofString "val"), .str (Str.ofString "a")])) := sm_new sm_refl n2
      have h2 : upd H5 U2 (.tup [.str (Str.ofString "val"), .str (Str.ofString "a")]) U2 = some (.tup [.str (Str.ofString "val"), .str (Str.ofString "a")]) := upd_same
      generalize upd H5 U2 (.tup [.str (Str.ofString "val"), .str (Str.ofString "a")]) = H6 at s2 h2 ⊢
      refine ⟨by show 3 ≤ sizeLine; decide, fun U3 n3 => ?_⟩
      have s3 : Same H6 (upd H6 U3 (.tup [.ref U1, .str (Str.ofString "!"), .ref U2])) := sm_new sm_refl n3
      have h3 : upd H6 U3 (.tup [.ref U1, .str (Str.ofString "!"), .ref U2]) U3 = some (.tup [.ref U1, .str (Str.ofString "!"), .ref U2]) := upd_same
      generalize upd H6 U3 (.tup [.ref U1, .str (Str.ofString "!"), .ref U2]) = H7 at s3 h3 ⊢
      refine ⟨by show 3 ≤ sizeLine; decide, fun U4 n4 => ?_⟩
      have s4 : Same H7 (upd H7 U4 (.tup [.str (Str.ofString "keep"), x, .ref U3])) := sm_new sm_refl n4
      refine ⟨⟨_, .ref U4, rfl, .tup (n := n + t) (SqT.of upd_same) (by show 3 ≤ 400; decide) fun y hy => ?_⟩, gA.same (s1.trans (s2.trans (s3.trans s4)))⟩
      simp only [List.mem_cons, List.not_mem_nil, or_false] at hy
      rcases hy with rfl | rfl | rfl
      · exact .str (by decide +kernel)
      · exact vx.same (s1.trans (s2.trans (s3.trans s4)))
      · refine Vi.same s4 (Vi.le (n := 2) (.tup (SqT.of h3) (by show 3 ≤ 400; decide) fun y hy => ?_) (by omega))
        simp only [List.mem_cons, List.not_mem_nil, or_false] at hy
        rcases hy with rfl | rfl | rfl
        · refine .tup (SqT.of ((s2.trans s3) _ _ h1)) (by show 2 ≤ 400; decide) fun y hy => ?_
          simp only [List.mem_cons, List.not_mem_nil, or_false] at hy
          rcases hy with rfl | rfl
          · exact .str (by decide +kernel)
          · exact .int (by decide) (by decide)
        · exact .str (by decide +kernel)
        · refine .tup (SqT.of (s3 _ _ h2)) (by show 2 ≤ 400; decide) fun y hy => ?_
          simp only [List.mem_cons, List.not_mem_nil, or_false] at hy
          rcases hy with rfl | rfl
          · exact .str (by decide +kernel)
          · exact .str (by decide +kernel)
    · rintro σ HA ⟨⟨u, x, rfl, vx⟩, gA⟩
      exact ⟨_, rfl, k x HA gA (vx.le (by omega))⟩
end
end K14


set_option Elab.async false
set_option linter.all false
set_option maxRecDepth 100000
set_option maxHeartbeats 8000000
namespace K14
open PySem L2 Nd Bk Gd PySem.ExE
/-! the programs that are drawn -/
theorem col_nat {a i : Nat} : colB a (.int (i : Int)) = decide (i < a) := by
  show (decide (0 ≤ (i : Int)) && decide ((i : Int) < (a : Int))) = decide (i < a)
  rw [decide_eq_true (show 0 ≤ (i : Int) by omega), Bool.true_and]
  exact decide_eq_decide.mpr (by omega)
theorem side_d {a : Nat} {s : Side} (h : sideOk a s = true) : sideB a (sideD s) = true := by
  cases s with
  | col i =>
    show ((decide (Str.ofString "col" = Str.ofString "col") && colB a (.int (i : Int))) || _) = true
    have h : decide (i < a) = true := h
    rw [col_nat, h]
    rfl
  | val k =>
    have h : cellV (kV k) = true := h
    show ((strB (Str.ofString "col") (sT "val") && colB a (cellD k)) || (decide (Str.ofString "val" = Str.ofString "val") && cellB (cellD k))) = true
    have e : cellB (cellD k) = true := by cases k <;> exact h
    rw [e]
    simp
theorem wid_prog {W : Str → Option Nat} : ∀ {p : Prog} {k : Nat}, widP W p = some k → widT W (progD p) = some k
  | .take n, k, h => by
    show widT W (.tuple [.str take_, .str n]) = _
    rw [wid_take]
    exact h
  | .keep p l g r, k, h => by
    show widT W (.tuple [.str keep_, progD p, cmpD l g r]) = _
    rw [wid_keep]
    rw [widP] at h
    obtain ⟨a, ha, h⟩ := Option.bind_eq_some_iff.mp h
    rw [wid_prog ha, Option.bind_some]
    split at h
    · rename_i hc
      cases h
      refine if_pos ?_
      show (decide (g ∈ signs) && (sideB _ (sideD l) && sideB _ (sideD r))) = true
      rw [decide_eq_true hc.2.1, side_d hc.1, side_d hc.2.2]
      rfl
    · cases h
  | .pick p cs, k, h => by
    show widT W (.tuple [.str pick_, progD p, colsD cs]) = _
    rw [wid_pick]
    rw [widP] at h
    obtain ⟨a, ha, h⟩ := Option.bind_eq_some_iff.mp h
    rw [wid_prog ha, Option.bind_some]
    split at h
    · rename_i hc
      cases h
      have : lenD (colsD cs) = cs.length := List.length_map _
      rw [this]
      refine if_pos ?_
      show (decide (1 ≤ (cs.map fun c : Nat => PyData.int (c : Int)).length) && decide ((cs.map fun c : Nat => PyData.int (c : Int)).length ≤ 6) && (cs.map fun c : Nat => PyData.int (c : Int)).all (colB a)) = true
      rw [List.length_map, decide_eq_true hc.1, decide_eq_true hc.2.1, Bool.true_and, Bool.true_and, List.all_eq_true]
      intro x hx
      obtain ⟨c, hc', rfl⟩ := List.mem_map.mp hx
      rw [col_nat]
      exact decide_eq_true (hc.2.2 c hc')
    · cases h
  | .make p z i j, k, h => by
    show widT W (.tuple [.str make_, progD p, mkgD z i j]) = _
    rw [wid_make]
    rw [widP] at h
    obtain ⟨a, ha, h⟩ := Option.bind_eq_some_iff.mp h
    rw [wid_prog ha, Option.bind_some]
    split at h
    · rename_i hc
      cases h
      refine if_pos ⟨?_, hc.2.2.2⟩
      show (decide (z ∈ makes_) && (colB a (.int (i : Int)) && colB a (.int (j : Int)))) = true
      rw [col_nat, col_nat, decide_eq_true hc.1, decide_eq_true hc.2.1, decide_eq_true hc.2.2.1]
      rfl
    · cases h
  | .both p q, k, h => by
    show widT W (.tuple [.str both_, progD p, progD q]) = _
    rw [wid_both]
    rw [widP] at h
    obtain ⟨a, ha, h⟩ := Option.bind_eq_some_iff.mp h
    obtain ⟨b, hb, h⟩ := Option.bind_eq_some_iff.mp h
    rw [wid_prog ha, Option.bind_some, wid_prog hb, Option.bind_some]
    exact h
  | .join p q ps, k, h => by
    show widT W (.tuple [.str join_, progD p, progD q, prsD ps]) = _
    rw [wid_join]
    rw [widP] at h
    obtain ⟨a, ha, h⟩ := Option.bind_eq_some_iff.mp h
    obtain ⟨b, hb, h⟩ := Option.bind_eq_some_iff.mp h
    rw [wid_prog ha, Option.bind_some, wid_prog hb, Option.bind_some]
    split at h
    · rename_i hc
      cases h
      refine if_pos ⟨?_, hc.2⟩
      show (ps.map fun p : Nat × Nat => PyData.tuple [.int (p.1 : Nat), .int (p.2 : Nat)]).all (prB a b) = true
      rw [List.all_eq_true]
      intro x hx
      obtain ⟨c, hc', rfl⟩ := List.mem_map.mp hx
      show (colB a (.int (c.1 : Int)) && colB b (.int (c.2 : Int))) = true
      rw [col_nat, col_nat, decide_eq_true (hc.1 c hc').1, decide_eq_true (hc.1 c hc').2]
      rfl
    · cases h
section
variable {K : PySem.W.Frag} {H : Hp}
theorem dpAll_vi {n : Nat} : ∀ {xs : List V} {ds : List PyData}, DpAll K H xs ds → (∀ (v : V) (d : PyData), d ∈ ds → Dp K H v d → Vi K H n v) → ∀ x ∈ xs, Vi K H n x
  | _, _, .nil, _, _, h => nomatch h
  | _, _, .cons h t, f, x, hx => by
    rcases List.mem_cons.mp hx with rfl | hx
    · exact f _ _ List.mem_cons_self h
    · exact dpAll_vi t (fun v d hd => f v d (List.mem_cons_of_mem _ hd)) x hx
theorem dp_vi {n : Nat} {v : V} {ds : List PyData} (h : Dp K H v (.tuple ds)) (hl : ds.length ≤ 400) (f : ∀ (v : V) (d : PyData), d ∈ ds → Dp K H v d → Vi K H n v) : Vi K H (n + 1) v := by
  cases h with
  | tup hs ha => exact .tup hs (by rw [dpAll_len ha]; exact hl) (dpAll_vi ha f)
theorem vi_col {n i : Nat} {v : V} (hi : i ≤ 9) (h : Dp K H v (.int (i : Int))) : Vi K H n v := by
  cases dp_int h
  exact .int (by omega) (by omega)
theorem vi_str {n : Nat} {z : Str} {v : V} (hz : z.length ≤ 900) (h : Dp K H v (.str z)) : Vi K H n v := by
  cases dp_str h
  exact .str hz
theorem vi_side {n a : Nat} {s : Side} {v : V} (ha : a ≤ 6) (hs : sideOk a s = true) (h : Dp K H v (sideD s)) : Vi K H (n + 1) v := by
  cases s with
  | col i =>
    have hs : i < a := of_decide_eq_true hs
    refine dp_vi h (by show 2 ≤ 400; decide) fun v d hd hv => ?_
    simp only [List.mem_cons, List.not_mem_nil, or_false] at hd
    rcases hd with rfl | rfl
    · exact vi_str (by decide +kernel) hv
    · exact vi_col (by omega) hv
  | val k =>
    refine dp_vi h (by show 2 ≤ 400; decide) fun v d hd hv => ?_
    simp only [List.mem_cons, List.not_mem_nil, or_false] at hd
    rcases hd with rfl | rfl
    · exact vi_str (by decide +kernel) hv
    · cases k with
      | inl i =>
        have hs : (decide (-9999 ≤ i) && decide (i ≤ 9999)) = true := hs
        rw [Bool.and_eq_true] at hs
        have h1 := of_decide_eq_true hs.1
        have h2 := of_decide_eq_true hs.2
        cases dp_int hv
        exact .int (by omega) (by omega)
      | inr z =>
        have hs : wordB z = true := hs
        unfold wordB at hs
        rw [Bool.and_eq_true] at hs
        have h1 := of_decide_eq_true hs.2
        exact vi_str (by omega) hv
theorem small_sign : ∀ z ∈ signs ++ makes_, z.length ≤ 900 := by decide +kernel
theorem vi_prog {W : Str → Option Nat} (pos : ∀ z k, W z = some k → 1 ≤ k ∧ k ≤ 6) (nm : ∀ z k, W z = some k → z.length ≤ 900) : ∀ {p : Prog} {k : Nat} {v : V}, widP W p = some k → fewJ p → Dp K H v (progD p) → Vi K H (nodesP p + 2) v
  | .take n, k, v, h, _, hv => by
    refine Vi.le (n := 1) (dp_vi hv (by show 2 ≤ 400; decide) fun v d hd hv => ?_) (by omega)
    simp only [List.mem_cons, List.not_mem_nil, or_false] at hd
    rcases hd with rfl | rfl
    · exact vi_str (by decide +kernel) hv
    · exact vi_str (nm n k h) hv
  | .keep p l g r, k, v, h, hf, hv => by
    rw [widP] at h
    obtain ⟨a, ha, h⟩ := Option.bind_eq_some_iff.mp h
    have h6 := (wid_pos pos (Nat.lt_succ_self _) (wid_prog ha)).2
    split at h
    · rename_i hc
      refine dp_vi hv (by show 3 ≤ 400; decide) fun v d hd hv => ?_
      simp only [List.mem_cons, List.not_mem_nil, or_false] at hd
      rcases hd with rfl | rfl | rfl
      · exact vi_str (by decide +kernel) hv
      · exact vi_prog pos nm ha hf hv
      · refine Vi.le (n := 2) (dp_vi hv (by show 3 ≤ 400; decide) fun v d hd hv => ?_) (by simp only [nodesP]; omega)
        simp only [List.mem_cons, List.not_mem_nil, or_false] at hd
        rcases hd with rfl | rfl | rfl
        · exact vi_side h6 hc.1 hv
        · exact vi_str (small_sign g (List.mem_append_left _ hc.2.1)) hv
        · exact vi_side h6 hc.2.2 hv
    · cases h
  | .pick p cs, k, v, h, hf, hv => by
    rw [widP] at h
    obtain ⟨a, ha, h⟩ := Option.bind_eq_some_iff.mp h
    have h6 := (wid_pos pos (Nat.lt_succ_self _) (wid_prog ha)).2
    split at h
    · rename_i hc
      refine dp_vi hv (by show 3 ≤ 400; decide) fun v d hd hv => ?_
      simp only [List.mem_cons, List.not_mem_nil, or_false] at hd
      rcases hd with rfl | rfl | rfl
      · exact vi_str (by decide +kernel) hv
      · exact vi_prog pos nm ha hf hv
      · refine Vi.le (n := 1) (dp_vi hv (by rw [List.length_map]; omega) fun v d hd hv => ?_) (by omega)
        obtain ⟨c, hc', rfl⟩ := List.mem_map.mp hd
        have := hc.2.2 c hc'
        exact vi_col (by omega) hv
    · cases h
  | .make p z i j, k, v, h, hf, hv => by
    rw [widP] at h
    obtain ⟨a, ha, h⟩ := Option.bind_eq_some_iff.mp h
    have h6 := (wid_pos pos (Nat.lt_succ_self _) (wid_prog ha)).2
    split at h
    · rename_i hc
      refine dp_vi hv (by show 3 ≤ 400; decide) fun v d hd hv => ?_
      simp only [List.mem_cons, List.not_mem_nil, or_false] at hd
      rcases hd with rfl | rfl | rfl
      · exact vi_str (by decide +kernel) hv
      · exact vi_prog pos nm ha hf hv
      · refine Vi.le (n := 1) (dp_vi hv (by show 3 ≤ 400; decide) fun v d hd hv => ?_) (by omega)
        simp only [List.mem_cons, List.not_mem_nil, or_false] at hd
        rcases hd with rfl | rfl | rfl
        · exact vi_str (small_sign z (List.mem_append_right _ hc.1)) hv
        · exact vi_col (by omega) hv
        · exact vi_col (by omega) hv
    · cases h
  | .both p q, k, v, h, hf, hv => by
    rw [widP] at h
    obtain ⟨a, ha, h⟩ := Option.bind_eq_some_iff.mp h
    obtain ⟨b, hb, h⟩ := Option.bind_eq_some_iff.mp h
    refine dp_vi hv (by show 3 ≤ 400; decide) fun v d hd hv => ?_
    simp only [List.mem_cons, List.not_mem_nil, or_false] at hd
    rcases hd with rfl | rfl | rfl
    · exact vi_str (by decide +kernel) hv
    · exact (vi_prog pos nm ha hf.1 hv).le (by simp only [nodesP]; omega)
    · exact (vi_prog pos nm hb hf.2 hv).le (by simp only [nodesP]; omega)
  | .join p q ps, k, v, h, hf, hv => by
    rw [widP] at h
    obtain ⟨a, ha, h⟩ := Option.bind_eq_some_iff.mp h
    obtain ⟨b, hb, h⟩ := Option.bind_eq_some_iff.mp h
    have h6 := (wid_pos pos (Nat.lt_succ_self _) (wid_prog ha)).2
    have h7 := (wid_pos pos (Nat.lt_succ_self _) (wid_prog hb)).2
    split at h
    · rename_i hc
      refine dp_vi hv (by show 4 ≤ 400; decide) fun v d hd hv => ?_
      simp only [List.mem_cons, List.not_mem_nil, or_false] at hd
      rcases hd with rfl | rfl | rfl | rfl
      · exact vi_str (by decide +kernel) hv
      · exact (vi_prog pos nm ha hf.1 hv).le (by simp only [nodesP]; omega)
      · exact (vi_prog pos nm hb hf.2.1 hv).le (by simp only [nodesP]; omega)
      · refine Vi.le (n := 2) (dp_vi hv (by rw [List.length_map]; exact Nat.le_trans hf.2.2 (by decide)) fun v d hd hv => ?_) (by simp only [nodesP]; omega)
        obtain ⟨c, hc', rfl⟩ := List.mem_map.mp hd
        have := hc.1 c hc'
        refine dp_vi hv (by show 2 ≤ 400; decide) fun v d hd hv => ?_
        simp only [List.mem_cons, List.not_mem_nil, or_false] at hd
        rcases hd with rfl | rfl
        · exact vi_col (by omega) hv
        · exact vi_col (by omega) hv
    · cases h
end
end K14


set_option Elab.async false
set_option linter.all false
set_option maxRecDepth 100000
set_option maxHeartbeats 8000000
namespace K14
open PySem L2 Nd Bk Gd PySem.ExE
theorem tv_tup {n : Nat} {ds : List PyData} (hl : ds.length ≤ 1000) (f : ∀ d ∈ ds, Tv n d) : Tv (n + 1) (.tuple ds) := .inr ⟨ds, rfl, hl, f⟩
theorem tv_int {n : Nat} {i : Int} : Tv n (.int i) := leaf_tv (.inl ⟨i, rfl⟩)
theorem tv_str {n : Nat} {z : Str} (h : z.length ≤ 900) : Tv n (.str z) := leaf_tv (.inr (.inl ⟨z, rfl, Nat.le_trans h (by decide)⟩))
theorem Tv.le' {n m : Nat} {d : PyData} (h : Tv n d) (l : n ≤ m) : Tv m d := h.le l
theorem tv_side {n a : Nat} {s : Side} (ha : a ≤ 6) (hs : sideOk a s = true) : Tv (n + 1) (sideD s) := by
  cases s with
  | col i =>
    have hs : i < a := of_decide_eq_true hs
    refine tv_tup (by show 2 ≤ 1000; decide) fun d hd => ?_
    simp only [List.mem_cons, List.not_mem_nil, or_false] at hd
    rcases hd with rfl | rfl
    · exact tv_str (by decide +kernel)
    · exact tv_int
  | val k =>
    refine tv_tup (by show 2 ≤ 1000; decide) fun d hd => ?_
    simp only [List.mem_cons, List.not_mem_nil, or_false] at hd
    rcases hd with rfl | rfl
    · exact tv_str (by decide +kernel)
    · cases k with
      | inl i =>
        have hs : (decide (-9999 ≤ i) && decide (i ≤ 9999)) = true := hs
        rw [Bool.and_eq_true] at hs
        have h1 := of_decide_eq_true hs.1
        have h2 := of_decide_eq_true hs.2
        exact tv_int
      | inr z =>
        have hs : wordB z = true := hs
        unfold wordB at hs
        rw [Bool.and_eq_true] at hs
        have h1 := of_decide_eq_true hs.2
        exact tv_str (by omega)
theorem tv_prog {W : Str → Option Nat} (pos : ∀ z k, W z = some k → 1 ≤ k ∧ k ≤ 6) (nm : ∀ z k, W z = some k → z.length ≤ 900) : ∀ {p : Prog} {k : Nat}, widP W p = some k → fewJ p → Tv (nodesP p + 2) (progD p)
  | .take n, k, h, _ => by
    refine Tv.le' (n := 1) (tv_tup (by show 2 ≤ 1000; decide) fun d hd => ?_) (by omega)
    simp only [List.mem_cons, List.not_mem_nil, or_false] at hd
    rcases hd with rfl | rfl
    · exact tv_str (by decide +kernel)
    · exact tv_str (nm n k h)
  | .keep p l g r, k, h, hf => by
    rw [widP] at h
    obtain ⟨a, ha, h⟩ := Option.bind_eq_some_iff.mp h
    have h6 := (wid_pos pos (Nat.lt_succ_self _) (wid_prog ha)).2
    split at h
    · rename_i hc
      refine tv_tup (by show 3 ≤ 1000; decide) fun d hd => ?_
      simp only [List.mem_cons, List.not_mem_nil, or_false] at hd
      rcases hd with rfl | rfl | rfl
      · exact tv_str (by decide +kernel)
      · exact tv_prog pos nm ha hf
      · refine Tv.le' (n := 2) (tv_tup (by show 3 ≤ 1000; decide) fun d hd => ?_) (by simp only [nodesP]; omega)
        simp only [List.mem_cons, List.not_mem_nil, or_false] at hd
        rcases hd with rfl | rfl | rfl
        · exact tv_side h6 hc.1
        · exact tv_str (small_sign g (List.mem_append_left _ hc.2.1))
        · exact tv_side h6 hc.2.2
    · cases h
  | .pick p cs, k, h, hf => by
    rw [widP] at h
    obtain ⟨a, ha, h⟩ := Option.bind_eq_some_iff.mp h
    have h6 := (wid_pos pos (Nat.lt_succ_self _) (wid_prog ha)).2
    split at h
    · rename_i hc
      refine tv_tup (by show 3 ≤ 1000; decide) fun d hd => ?_
      simp only [List.mem_cons, List.not_mem_nil, or_false] at hd
      rcases hd with rfl | rfl | rfl
      · exact tv_str (by decide +kernel)
      · exact tv_prog pos nm ha hf
      · refine Tv.le' (n := 1) (tv_tup (by rw [List.length_map]; omega) fun d hd => ?_) (by omega)
        obtain ⟨c, hc', rfl⟩ := List.mem_map.mp hd
        have := hc.2.2 c hc'
        exact tv_int
    · cases h
  | .make p z i j, k, h, hf => by
    rw [widP] at h
    obtain ⟨a, ha, h⟩ := Option.bind_eq_some_iff.mp h
    have h6 := (wid_pos pos (Nat.lt_succ_self _) (wid_prog ha)).2
    split at h
    · rename_i hc
      refine tv_tup (by show 3 ≤ 1000; decide) fun d hd => ?_
      simp only [List.mem_cons, List.not_mem_nil, or_false] at hd
      rcases hd with rfl | rfl | rfl
      · exact tv_str (by decide +kernel)
      · exact tv_prog pos nm ha hf
      · refine Tv.le' (n := 1) (tv_tup (by show 3 ≤ 1000; decide) fun d hd => ?_) (by omega)
        simp only [List.mem_cons, List.not_mem_nil, or_false] at hd
        rcases hd with rfl | rfl | rfl
        · exact tv_str (small_sign z (List.mem_append_right _ hc.1))
        · exact tv_int
        · exact tv_int
    · cases h
  | .both p q, k, h, hf => by
    rw [widP] at h
    obtain ⟨a, ha, h⟩ := Option.bind_eq_some_iff.mp h
    obtain ⟨b, hb, h⟩ := Option.bind_eq_some_iff.mp h
    refine tv_tup (by show 3 ≤ 1000; decide) fun d hd => ?_
    simp only [List.mem_cons, List.not_mem_nil, or_false] at hd
    rcases hd with rfl | rfl | rfl
    · exact tv_str (by decide +kernel)
    · exact (tv_prog pos nm ha hf.1).le (by simp only [nodesP]; omega)
    · exact (tv_prog pos nm hb hf.2).le (by simp only [nodesP]; omega)
  | .join p q ps, k, h, hf => by
    rw [widP] at h
    obtain ⟨a, ha, h⟩ := Option.bind_eq_some_iff.mp h
    obtain ⟨b, hb, h⟩ := Option.bind_eq_some_iff.mp h
    have h6 := (wid_pos pos (Nat.lt_succ_self _) (wid_prog ha)).2
    have h7 := (wid_pos pos (Nat.lt_succ_self _) (wid_prog hb)).2
    split at h
    · rename_i hc
      refine tv_tup (by show 4 ≤ 1000; decide) fun d hd => ?_
      simp only [List.mem_cons, List.not_mem_nil, or_false] at hd
      rcases hd with rfl | rfl | rfl | rfl
      · exact tv_str (by decide +kernel)
      · exact (tv_prog pos nm ha hf.1).le (by simp only [nodesP]; omega)
      · exact (tv_prog pos nm hb hf.2.1).le (by simp only [nodesP]; omega)
      · refine Tv.le' (n := 2) (tv_tup (by rw [List.length_map]; exact Nat.le_trans hf.2.2 (by decide)) fun d hd => ?_) (by simp only [nodesP]; omega)
        obtain ⟨c, hc', rfl⟩ := List.mem_map.mp hd
        have := hc.1 c hc'
        refine tv_tup (by show 2 ≤ 1000; decide) fun d hd => ?_
        simp only [List.mem_cons, List.not_mem_nil, or_false] at hd
        rcases hd with rfl | rfl
        · exact tv_int
        · exact tv_int
    · cases h
end K14


set_option Elab.async false
set_option linter.all false
set_option maxRecDepth 100000
set_option maxHeartbeats 16000000
namespace K14
open PySem L2 Nd Bk Gd PySem.ExE
/-! the law -/
theorem NmT.stay {K : PySem.W.Frag} : Stay (NmT K) := ⟨fun k ⟨U, e, h⟩ => ⟨U, e, sqT_kt k h⟩⟩
theorem nmT_w {K : PySem.W.Frag} {H : Hp} {ys : List V} {ws : List (Str × Nat)} (h : Paired (NmT K H) ys ws) : Paired (NmW K H) ys ws := Paired.mapP h fun _ _ ⟨U, e, q⟩ => ⟨U, e, .inr q⟩
def nm3 : List Str := ["sold", "b", "abcdefgh"].map Str.ofString
theorem nm_fp {K : PySem.W.Frag} {H : Hp} {av : List Addr} {T : Addr} {ys : List V} {ws : List (Str × Nat)} (hT : SqT K H T ys) (h : Paired (NmT K H) ys ws) : Fp K H av (.ref T) (nmD ws) := by
  refine .tup hT ?_
  clear hT
  induction h with
  | nil => exact .nil
  | cons a _ ih =>
    obtain ⟨U, rfl, q⟩ := a
    exact .cons (.tup q (.cons (.str _) (.cons (.int _) .nil))) ih
theorem flat_nm (ws : List (Str × Nat)) : flat (nmD ws) = nmD ws := by
  unfold nmD
  rw [flat, flats_map, List.map_map]
  refine congrArg PyData.tuple (List.map_congr_left fun g _ => ?_)
  show flat (.tuple [.str g.1, .int (g.2 : Nat)]) = .tuple [.str g.1, .int (g.2 : Nat)]
  simp [flat, flats]
def tr0 (g : Str × Nat) : Trip := (g.1, g.2, [])
theorem wsL_tr (ws : List (Str × Nat)) : wsL (ws.map tr0) = ws := by
  unfold wsL
  rw [List.map_map]
  exact List.map_id _
theorem Go2.toGo {S : Sta} {q : Addr} {H H1 : Hp} {o : HO} (st : StAt H S) (n : H q = none) (g : Go2 S q (upd H q o) H1) : Go S H H1 :=
  ⟨fun a u h ne => g.but a u (by rw [upd_ne (ne_of_none h n)]; exact h) ne (ne_of_none h n), g.st⟩
theorem ends_seq_ifR {t : TT} {ts u : TS} {D : Ends} {r : VK} {b c : L2.St → Hp → Prop} {σ : L2.St} {H : Hp} (B : L2.St → Hp → Prop) (h : ∀ nx', (∀ τ H', B τ H' → nx' τ H') → tIfS t ts tNext { nx := nx', rt := D.rt, bk := D.bk, ct := D.ct } σ H) (n : ∀ τ H', B τ H' → u D τ H') : Ends.nx { nx := tSeq (tIfS t ts tNext) u D, rt := r, bk := b, ct := c } σ H := seq_ifR B h n
def kk6 : List Str := [Str.ofString "take", Str.ofString "keep", Str.ofString "pick", Str.ofString "join", Str.ofString "both", Str.ofString "make"]
def spLaw14 (K : PySem.W.Frag) : Sp := fun vs H Q _ => ∃ (a : Addr) (ns : List Int), vs = [.ref a] ∧ SqL K H a (ns.map V.int) ∧ ns.length ≤ 63 ∧ ∀ H', Q (.bl true) H'
section
variable {P : Program} {w : World} {K : PySem.W.Frag} {mg : Str → Option Value} {base : Heap}
abbrev lawN14 : List Str := ["script", "state", "name", "names", "width", "tables", "kinds", "turn", "program", "k", "wrapped", "values"]
theorem scLaw14 : FnScope lawN14 ["script"] (defScope t_law) := ⟨rfl, rfl, rfl, by decide +kernel, rfl, by decide +kernel, by decide +kernel⟩
theorem ok_law14 {f : Addr} {fd : FuncData} (F : Fun K "law" "law" t_law f fd) (N : Nm mg) (Ga : Df P w K mg base 3 "_law_start" ["script"] (spLSta K)) (Gd : Df P w K mg base 2 "_law_draw" ["state", "limit"] spLDr)
    (Gp : Df P w K mg base 12 "_law_program" ["state", "tables", "kinds", "left"] (spLPg K 8)) (Gw : Df P w K mg base 54 "_law_width" ["program", "widths"] (spLW K 50)) (Gr : Df P w K mg base 59 "_law_right" ["state", "program", "names"] (spRt K)) (Gt : Df P w K mg base 47 "_law_part" ["state", "value"] (spPt K 44)) (Gb : Df P w K mg base 3 "_law_wrapped" ["state", "program", "width", "names"] (spWr K 24)) :
    FnOk P w K mg base CX0 60 f fd ["script"] (spLaw14 K) := by
  obtain ⟨fA, fdA, gA, kA, bA, GA⟩ := Ga.ok
  obtain ⟨fD, fdD, gD, kD, bD, GD⟩ := Gd.ok
  obtain ⟨fP, fdP, gP, kP, bP, GP⟩ := Gp.ok
  obtain ⟨fW, fdW, gW, kW, bW, GW⟩ := Gw.ok
  obtain ⟨fR, fdR, gR, kR, bR, GR⟩ := Gr.ok
  obtain ⟨fT, fdT, gT, kT, bT, GT⟩ := Gt.ok
  obtain ⟨fB, fdB, gB, kB, bB, GB⟩ := Gb.ok
  refine F.ok scLaw14 (fun vs H Q E h => ?_) (fun cdv A outer s H vs Q E hr h => ?_)
  · obtain ⟨a, ns, rfl, _⟩ := h
    rfl
  · obtain ⟨a, ns, rfl, hS, hl, k⟩ := h
    have hrA : Room 3 _ := hr.mono (by decide)
    have hrD : Room 2 _ := hr.mono (by decide)
    have hrP : Room 12 _ := hr.mono (by decide)
    have hrW : Room 54 _ := hr.mono (by decide)
    have hrR : Room 59 _ := hr.mono (by decide)
    have hrT : Room 47 _ := hr.mono (by decide)
    have hrB : Room 3 _ := hr.mono (by decide)
    --BODYA
    refine ⟨_, pss_cons (ps_set (i := 1) scLaw14.nd rfl (Or.inr rfl) (pe_call GA hrA rfl gA kA bA .nil pass0 (pa_cons (pv 0) pa_nil)))
      (pss_cons (ps_set (i := 3) scLaw14.nd rfl (Or.inl rfl) (pe_callTy (show CallR _ _ (rTupF K) from call_tupleF) (by rfl) N.tup (by rfl) (pa_cons (pe_lc (own := [("name", 2)]) (g := gName 2) (tt := tYes) rfl scLaw14.nd (show PI _ _ _ (iAny K _) from pi_any (pe_tup (pa_cons pe_str (pa_cons pe_str (pa_cons pe_str pa_nil))))) (blkOk_by (N := lawN14) (sc := defScope t_law) (by decide +kernel))
          (fun _ _ _ _ _ => (pg_name (i := 2) scLaw14.nd rfl (Or.inl rfl))) (fun _ _ _ _ _ => pts_nil) (fun _ _ _ _ _ => (pe_tup (pa_cons (pv 2) (pa_cons (pe_op op_add pe_int (pe_call GD hrD rfl gD kD bD .nil pass0 (pa_cons (pv 1) (pa_cons pe_int pa_nil)))) pa_nil))))) pa_nil)))
      (pss_cons (ps_set (i := 5) scLaw14.nd rfl (Or.inl rfl) (pe_callTy (show CallR _ _ (rTupO K) from call_tuple_of) (by rfl) N.tup (by rfl) (pa_cons (pe_lc (own := [("name", 2), ("width", 4)]) (g := gSeq K 2 (gCons (gName 2) (gCons (gName 4) gNil))) (tt := tYes) rfl scLaw14.nd (show PI _ _ _ (iAny K _) from pi_any (pv 3)) (blkOk_by (N := lawN14) (sc := defScope t_law) (by decide +kernel))
          (fun _ _ _ _ _ => (pg_seq rfl (pgs_cons (pg_name (i := 2) scLaw14.nd rfl (Or.inl rfl)) (pgs_cons (pg_name (i := 4) scLaw14.nd rfl (Or.inl rfl)) pgs_nil)))) (fun _ _ _ _ _ => pts_nil) (fun _ _ _ _ _ => (pe_tup (pa_cons (pv 2) (pa_cons (pv 4) (pa_cons (pe_tup pa_nil) pa_nil)))))) pa_nil)))
      (pss_cons (ps_set (i := 6) scLaw14.nd rfl (Or.inl rfl) (pe_lst (pa_cons pe_str (pa_cons pe_str (pa_cons pe_str (pa_cons pe_str (pa_cons pe_str (pa_cons pe_str pa_nil))))))))
      (pss_cons (ps_for PassesOwn.never rfl (pi_range1 rfl N.rng (pa_cons pe_int pa_nil)) (pg_name (i := 7) scLaw14.nd rfl (Or.inl rfl))
      (pss_cons (ps_asg (pe_call GP hrP rfl gP kP bP .nil pass0 (pa_cons (pv 1) (pa_cons (pv 5) (pa_cons (pv 6) (pa_cons (pe_lst (pa_cons (pe_op op_add pe_int (pe_call GD hrD rfl gD kD bD .nil pass0 (pa_cons (pv 1) (pa_cons pe_int pa_nil)))) pa_nil)) pa_nil))))) (pg_seq rfl (pgs_cons (pg_name (i := 8) scLaw14.nd rfl (Or.inl rfl)) (pgs_cons (pg_name (i := 4) scLaw14.nd rfl (Or.inl rfl)) pgs_nil))))
      (pss_cons (ps_if (PW.pt (pw_or (pt_cmpR op_ne (pe_call GW hrW rfl gW kW bW .nil pass0 (pa_cons (pv 8) (pa_cons (pv 3) pa_nil))) (pv 4) (nomark _)) (pw_or1 (pt_not (pt_val (pe_call GR hrR rfl gR kR bR .nil pass0 (pa_cons (pv 1) (pa_cons (pv 8) (pa_cons (pv 3) pa_nil))))))))) (pss_one (ps_ret pe_bl)) pss_nil)
      (pss_cons (ps_for PassesOwn.never rfl (pi_range1 rfl N.rng (pa_cons pe_int pa_nil)) (pg_name (i := 9) scLaw14.nd rfl (Or.inl rfl))
      (pss_one (ps_if (pt_not (pt_val (pe_call GR hrR rfl gR kR bR .nil pass0 (pa_cons (pv 1) (pa_cons (pe_call GT hrT rfl gT kT bT .nil pass0 (pa_cons (pv 1) (pa_cons (pv 8) pa_nil))) (pa_cons (pv 3) pa_nil)))))) (pss_one (ps_ret pe_bl)) pss_nil)))
      (pss_cons (ps_set (i := 10) scLaw14.nd rfl (Or.inl rfl) (pe_call GB hrB rfl gB kB bB .nil pass0 (pa_cons (pv 1) (pa_cons (pv 8) (pa_cons (pv 4) (pa_cons (pv 3) pa_nil))))))
      (pss_one (ps_if (PW.pt (pw_or (pt_not (pt_val (pe_call GR hrR rfl gR kR bR .nil pass0 (pa_cons (pv 1) (pa_cons (pv 10) (pa_cons (pv 3) pa_nil)))))) (pw_or1 (pt_not (pt_val (pe_call GR hrR rfl gR kR bR .nil pass0 (pa_cons (pv 1) (pa_cons (pe_call GT hrT rfl gT kT bT .nil pass0 (pa_cons (pv 1) (pa_cons (pv 10) pa_nil))) (pa_cons (pv 3) pa_nil))))))))) (pss_one (ps_ret pe_bl)) pss_nil)))))))
      (pss_cons (ps_set (i := 11) scLaw14.nd rfl (Or.inl rfl) (pe_lst (pa_cons pe_non (pa_cons pe_int (pa_cons pe_str (pa_cons pe_str (pa_cons (pe_tup pa_nil) (pa_cons (pe_lst pa_nil) (pa_cons (pe_tup (pa_cons (pe_tup pa_nil) pa_nil)) (pa_cons (pe_tup (pa_cons pe_str pa_nil)) pa_nil))))))))))
      (pss_cons (ps_set (i := 11) scLaw14.nd rfl (Or.inl rfl) (pe_op op_cat (pv 11) (pe_lst (pa_cons (pe_tup (pa_cons pe_str (pa_cons pe_str (pa_cons pe_str pa_nil)))) (pa_cons (pe_tup (pa_cons pe_str (pa_cons (pe_tup (pa_cons pe_str pa_nil)) pa_nil))) (pa_cons (pe_tup (pa_cons pe_str pa_nil)) (pa_cons (pe_tup (pa_cons pe_int (pa_cons pe_int pa_nil))) pa_nil)))))))
      (pss_one (ps_ret (pe_call GR hrR rfl gR kR bR .nil pass0 (pa_cons (pv 1) (pa_cons (pe_ix (show IxR _ (rIx K) from ix_seq) (pv 11) (pe_call GD hrD rfl gD kD bD .nil pass0 (pa_cons (pv 1) (pa_cons pe_int pa_nil))) (fun _ _ => rfl)) (pa_cons (pv 3) pa_nil)))))))))))), ?_⟩
    --END
    refine ⟨_, rfl, a, ns, rfl, .inl hS, by omega, fun St H1 s1 st1 => ?_⟩
    refine ⟨by show 3 ≤ sizeLine; decide, fun T0 n0 => ⟨T0, rfl, .inr ⟨⟨_, SqT.of upd_same⟩, fun D nD => ?_⟩⟩⟩
    have s2 : Same H1 (upd H1 T0 (.tup (nm3.map V.str))) := sm_new sm_refl n0
    have h0 : SqT K (upd H1 T0 (.tup (nm3.map V.str))) T0 (nm3.map V.str) := SqT.of upd_same
    have st2 := st1.same s2
    change (upd H1 T0 (.tup (nm3.map V.str))) D = none at nD
    refine lc_tup (K := K) (a := T0) (xs := nm3.map V.str) (fun i H3 => ∃ ws, AccG (NmT K) St (upd H1 T0 (.tup (nm3.map V.str))) D ws H3 ∧ ws.map (·.1) = nm3.take i ∧ ∀ g ∈ ws, 1 ≤ g.2 ∧ g.2 ≤ 6) ⟨[], accG_zero st2 nD, rfl, fun _ h => nomatch h⟩
      (fun i H3 _ ⟨ws, a3, _⟩ => sqT_kt (Go.kt st2 a3.go) h0) ?_ ?_
    · rintro i x H3 hi ⟨ws, a3, hn, hw⟩
      rw [List.getElem?_map] at hi
      obtain ⟨z, hz, rfl⟩ := Option.map_eq_some_iff.mp hi
      refine ⟨rfl, _, rfl, _, rfl, St, 6, rfl, by decide, by decide, a3.go.st, fun r H4 hr4 g4 => ⟨_, _, rfl, rfl, ⟨by show 2 ≤ sizeLine; decide, fun U nU => ?_⟩⟩⟩
      have lw : ws.length ≤ 1000000 := by
        have := congrArg List.length hn
        rw [List.length_map, List.length_take] at this
        have : nm3.length = 3 := rfl
        omega
      obtain ⟨acc, h1, h2, h3⟩ := accG_step NmT.stay a3 nD st2 lw (g4.same (sm_new (o := .tup [.str z, .int ((1 : Int) + (r : Int))]) sm_refl nU)) (x := (z, 1 + r)) (y := .ref U) ⟨U, rfl, SqT.of upd_same⟩
      refine ⟨acc, h1, h2, ws ++ [(z, 1 + r)], h3, ?_, fun g hg => ?_⟩
      · rw [List.map_append, hn, List.take_succ, hz]
        rfl
      · rcases List.mem_append.mp hg with hg | hg
        · exact hw g hg
        · rw [List.mem_singleton.mp hg]
          exact ⟨by show 1 ≤ 1 + r; omega, by show 1 + r ≤ 6; omega⟩
    · rintro H3 ⟨ws, a3, hn, hw⟩
      have hn : ws.map (·.1) = nm3 := hn
      obtain ⟨ys, hD, hp⟩ := a3.at_
      refine ⟨D, ys, rfl, SqL.of hD, fun T o nT ho => ?_⟩
      have g3 := a3.go
      have sT : Same H3 (upd H3 T (.frz o (.tup ys))) := sm_new sm_refl nT
      have hTf : upd H3 T (.frz o (.tup ys)) T = some (.frz o (.tup ys)) := upd_same
      generalize upd H3 T (.frz o (.tup ys)) = H4 at sT hTf ⊢
      have st4 := g3.st.same sT
      have hT4 : SqT K H4 T ys := .inl (.inr ⟨o, hTf⟩)
      have hp4 : Paired (NmT K H4) ys ws := Paired.mapP hp fun _ _ q => NmT.stay.kt (.same sT) q
      have pT4 : PlainT H4 T := ⟨o, ys, hTf, ho⟩
      have lws : ws.length = 3 := by
        have := congrArg List.length hn
        rw [List.length_map] at this
        exact this
      have lys : ys.length = 3 := (paired_len hp4).trans lws
      have wnd : (ws.map (·.1)).Nodup := by rw [hn]; decide +kernel
      have wz : ∀ g ∈ ws, g.1.length ≤ 900 := fun g hg => by
        have : g.1 ∈ nm3 := by rw [← hn]; exact List.mem_map_of_mem hg
        have key : ∀ z ∈ nm3, z.length ≤ 900 := by decide +kernel
        exact key _ this
      refine ⟨_, rfl, T, rfl, .inr ⟨⟨_, hT4⟩, fun D2 nD2 => ?_⟩⟩
      refine lc_tup (K := K) (a := T) (xs := ys) (fun i H5 => AccG (LTrip K) St H4 D2 ((ws.take i).map tr0) H5) (accG_zero st4 nD2) (fun i H5 _ a5 => sqT_kt (Go.kt st4 a5.go) hT4) ?_ ?_
      · rintro i x H5 hi a5
        obtain ⟨g, hg, U, rfl, hU⟩ := paired_get hp4 hi
        refine ⟨U, _, rfl, .inr (sqT_kt (Go.kt st4 a5.go) hU), rfl, _, _, rfl, _, _, rfl, rfl, rfl, _, rfl, _, rfl, by show 0 ≤ sizeLine; decide, fun E1 nE => ?_⟩
        have sE : Same H5 (upd H5 E1 (.tup [])) := sm_new sm_refl nE
        have hE : upd H5 E1 (.tup []) E1 = some (.tup []) := upd_same
        generalize upd H5 E1 (.tup []) = H6 at sE hE ⊢
        refine ⟨by show 3 ≤ sizeLine; decide, fun B nB => ?_⟩
        have sB : Same H6 (upd H6 B (.tup [.str g.1, .int (g.2 : Nat), .ref E1])) := sm_new sm_refl nB
        obtain ⟨acc, h1, h2, h3⟩ := accG_step LTrip.stay a5 nD2 st4 (by rw [List.length_map, List.length_take]; omega) ((Go.refl a5.go.st).same (sE.trans sB)) (x := tr0 g) (y := .ref B) ⟨B, E1, rfl, SqT.of upd_same, [], SqT.of (sB _ _ hE), .nil⟩
        refine ⟨acc, h1, h2, ?_⟩
        rw [List.take_succ, hg, List.map_append]
        exact h3
      · rintro H5 a5
        rw [lys, ← lws, List.take_length] at a5
        obtain ⟨us, hD2, hus⟩ := a5.at_
        refine ⟨D2, us, rfl, .inl ⟨SqL.of hD2, fun T2 nT2 => ?_⟩⟩
        have s6 : Same H5 (upd H5 T2 (.tup us)) := sm_new sm_refl nT2
        have h6 : upd H5 T2 (.tup us) T2 = some (.tup us) := upd_same
        generalize upd H5 T2 (.tup us) = H6 at s6 h6 ⊢
        refine ⟨by show 6 ≤ sizeLine; decide, fun kd nkd => ?_⟩
        have st6 := a5.go.st.same s6
        have kp0 := st6.off nkd
        have g46 : Go St H4 H6 := a5.go.same s6
        have hT6 := sqT_kt (Go.kt st4 g46) hT4
        have hp6 : Paired (NmT K H6) ys ws := Paired.mapP hp4 fun _ _ q => NmT.stay.kt (Go.kt st4 g46) q
        have pT6 := PlainT.kt (Go.kt st4 g46) pT4
        have hus6 : Paired (LTrip K H6) us (ws.map tr0) := Paired.mapP hus fun _ _ q => LTrip.stay.kt (.same s6) q
        have hT26 : SqT K H6 T2 us := SqT.of h6
        have pos3 : ∀ g ∈ ws, 1 ≤ g.2 ∧ g.2 ≤ 6 ∧ g.1.length ≤ 1000 := fun g hg => ⟨(hw g hg).1, (hw g hg).2, Nat.le_trans (wz g hg) (by decide)⟩
        have rt : ∀ (H' : Hp) (x : V) (n : Nat) (Q' : VK) (E' : XK), Go St H6 H' → Vl K H' St n x → n ≤ 49 → (∀ H'', Go St H' H'' → Q' (.bl true) H'') → spRt K [.ref St.p, x, .ref T] H' Q' E' := fun H' x n Q' E' g ⟨d, h1, h2⟩ hn q =>
          ⟨St, x, .ref T, d, nmD ws, ws, rfl, g.st, h1, h2.le hn, nm_fp (sqT_kt (Go.kt st6 g) hT6) (Paired.mapP hp6 fun _ _ z => NmT.stay.kt (Go.kt st6 g) z), flat_nm ws, fun _ _ => ⟨T, rfl, PlainT.kt (Go.kt st6 g) pT6⟩, by omega, wnd, pos3, q⟩
        refine ⟨_, rfl, by omega, by omega, ?_⟩
        refine for_range (n := 3) (fun i σ H' => (∃ u2 u4 u7 u8 u9 u10, σ = [some (.ref a), some (.ref St.p), u2, some (.ref T), u4, some (.ref T2), some (.ref kd), u7, u8, u9, u10, none]) ∧ Go St H6 H' ∧ H' kd = some (.lst (kk6.map V.str))) ⟨⟨_, _, _, _, _, _, rfl⟩, Go.new st6 (sm_new sm_refl nkd), upd_same⟩ ?_ ?_
        · rintro i σ H8 hi ⟨⟨u2, u4, u7, u8, u9, u10, rfl⟩, g8, hk8⟩
          refine ⟨_, rfl, _, rfl, _, rfl, _, rfl, St, 8, rfl, by decide, by decide, g8.st, fun r H9 hr9 g9 => ⟨_, _, rfl, rfl, by show 1 ≤ sizeLine; decide, fun q nq => ?_⟩⟩
          have hk9 := g9.but _ _ hk8 kp0
          have g09 := g8.trans g9
          have kq : kd ≠ q := ne_of_none hk9 nq
          have sq : Same H9 (upd H9 q (.lst [.int ((1 : Int) + (r : Int))])) := sm_new sm_refl nq
          have k9 := Go.kt st6 g09
          refine ⟨St, T2, kd, q, us, ws.map tr0, kk6, (1 : Int) + (r : Int), rfl, g09.st.same sq, sqT_same sq (sqT_kt k9 hT26), Paired.mapP hus6 fun _ _ z => (LTrip.stay.kt k9 z).same sq, by rw [List.length_map]; omega, by rw [List.length_map]; omega, (by rw [List.map_map]; exact wnd), (fun l hl => by obtain ⟨g, hg, rfl⟩ := List.mem_map.mp hl; exact hw g hg), sq _ _ hk9, kp0, kq, by decide, by decide, by decide +kernel, upd_same, g09.st.off nq, (ne_of_none g09.st.cells nq).symm, (ne_of_none g09.st.mods nq).symm, by decide, by omega, fun U v p wd m' HA gA hU dv fj hq' lt few hwd w1 w6 => ?_⟩
          rw [wsL_tr] at hwd
          have g9A : Go St H9 HA := Go2.toGo g09.st nq gA
          have g0A := g09.trans g9A
          have hkA := g9A.but _ _ hk9 kp0
          have kA := Go.kt st6 g0A
          have hTA := sqT_kt kA hT6
          have hpA : Paired (NmT K HA) ys ws := Paired.mapP hp6 fun _ _ z => NmT.stay.kt kA z
          have nod : nodesP p ≤ 22 := by
            have : yet ((1 : Int) + (r : Int)) ≤ 7 := by unfold yet; omega
            omega
          have nmz : ∀ z k, wof ws z = some k → z.length ≤ 900 := fun z k e => by
            unfold wof at e
            obtain ⟨g, hg, rfl⟩ := Option.map_eq_some_iff.mp e
            have h1 := wz g (List.mem_of_find?_eq_some hg)
            have h2 := List.find?_some hg
            rw [of_decide_eq_true h2] at h1
            exact h1
          have vi : Vi K HA 24 v := (vi_prog (wof_pos hw) nmz hwd fj dv).le (by omega)
          have wlp : wL ws (progD p) = wd := by unfold wL; rw [wid_prog hwd]; rfl
          refine ⟨U, _, rfl, .inr (SqT.of hU), rfl, _, _, rfl, _, _, rfl, rfl, ?_⟩
          have viV : ∀ {H' : Hp}, Go St HA H' → Vl K H' St 24 v := fun g => (vi.kt (Go.kt g0A.st g)).vl
          refine ends_seq_ifR (fun τ H' => (∃ u7 u9 u10, τ = [some (.ref a), some (.ref St.p), u2, some (.ref T), some (.int (wd : Int)), some (.ref T2), some (.ref kd), u7, some v, u9, u10, none]) ∧ Go St HA H') (fun nx hn => ?_) (fun τ HB ⟨⟨v7, v9, v10, eB⟩, gB⟩ => ?_)
          · refine ⟨_, rfl, _, rfl, v, progD p, T, ys, ws, rfl, FD.of dv (tu_prog p), ?_, by decide, .inr hTA, nmT_w hpA, by omega, wnd, hw, fun HB sB => ⟨_, rfl, rfl, _, rfl, ite2 (fun h => ?_) (fun h => ?_)⟩⟩
            · exact (tv_prog (wof_pos hw) nmz hwd fj).le (by omega)
            · rw [wlp] at h
              simp at h
            · refine ⟨_, rfl, _, rfl, _, rfl, ?_⟩
              dsimp only [tNil]
              exact rt HB v 24 _ _ (g0A.same sB) (viV ((Go.refl g0A.st).same sB)) (by decide) fun HC gC => ⟨_, rfl, iteF (hn _ _ ⟨⟨_, _, _, rfl⟩, (Go.refl g0A.st).same sB |>.trans gC⟩)⟩
          subst eB
          have g0B := g0A.trans gB
          refine ⟨_, rfl, by omega, by omega, ?_⟩
          refine for_range (n := 6) (fun j σ H' => (∃ u9, σ = [some (.ref a), some (.ref St.p), u2, some (.ref T), some (.int (wd : Int)), some (.ref T2), some (.ref kd), v7, some v, u9, v10, none]) ∧ Go St HA H') ⟨⟨_, rfl⟩, gB⟩ ?_ ?_
          · rintro j σ HC hj ⟨⟨u9', rfl⟩, gC⟩
            refine ⟨_, rfl, _, rfl, _, rfl, St, v, rfl, gC.st, (vi.kt (Go.kt g0A.st gC)).le (by decide), fun x HD gD' vx => ⟨_, rfl, ?_⟩⟩
            dsimp only [tNil]
            exact rt HD x 45 _ _ ((g0A.trans gC).trans gD') vx (by decide) fun HE gE => ⟨_, rfl, iteF ⟨⟨_, rfl⟩, (gC.trans gD').trans gE⟩⟩
          · rintro σ HC ⟨⟨u9', rfl⟩, gC⟩
            have g0C := g0A.trans gC
            have kC := Go.kt st6 g0C
            refine ⟨_, rfl, _, rfl, _, rfl, _, rfl, St, v, wd, T, ys, ws, rfl, gC.st, vi.kt (Go.kt g0A.st gC), by decide, w1, w6, sqT_kt kC hT6, Paired.mapP hp6 fun _ _ z => NmT.stay.kt kC z, by omega, by omega, wz, fun x HD gD' vx => ?_⟩
            have g0D := g0C.trans gD'
            refine ⟨_, rfl, _, rfl, _, rfl, ?_⟩
            dsimp only [tNil]
            refine rt HD x 44 _ _ g0D vx.vl (by decide) fun HE gE => ⟨_, rfl, iteF ?_⟩
            have g0E := g0D.trans gE
            refine ⟨_, rfl, _, rfl, _, rfl, St, x, rfl, g0E.st, vx.kt (Go.kt g0D.st gE), fun y HF gF vy => ⟨_, rfl, ?_⟩⟩
            dsimp only [tNil]
            refine rt HF y 45 _ _ (g0E.trans gF) vy (by decide) fun HG gG => ⟨_, rfl, iteF ⟨⟨_, _, _, _, _, _, rfl⟩, (g0E.trans gF).trans gG, ?_⟩⟩
            exact gG.but _ _ (gF.but _ _ (gE.but _ _ (gD'.but _ _ (gC.but _ _ hkA kp0) kp0) kp0) kp0) kp0
        · rintro σ H8 ⟨⟨u2, u4, u7, u8, u9, u10, rfl⟩, g8, _⟩
          refine ⟨by show 0 ≤ sizeLine; decide, fun E1 nE1 => ?_⟩
          have sE1 : Same H8 (upd H8 E1 (.tup [])) := sm_new sm_refl nE1
          have hE1 : upd H8 E1 (.tup []) E1 = some (.tup []) := upd_same
          generalize upd H8 E1 (.tup []) = X1 at sE1 hE1 ⊢
          refine ⟨by show 0 ≤ sizeLine; decide, fun L0 nL0 => ?_⟩
          have sL0 : Same X1 (upd X1 L0 (.lst [])) := sm_new sm_refl nL0
          have hL0 : upd X1 L0 (.lst []) L0 = some (.lst []) := upd_same
          generalize upd X1 L0 (.lst []) = X2 at sL0 hL0 ⊢
          refine ⟨by show 0 ≤ sizeLine; decide, fun E2 nE2 => ?_⟩
          have sE2 : Same X2 (upd X2 E2 (.tup [])) := sm_new sm_refl nE2
          have hE2 : upd X2 E2 (.tup []) E2 = some (.tup []) := upd_same
          generalize upd X2 E2 (.tup []) = X3 at sE2 hE2 ⊢
          refine ⟨by show 1 ≤ sizeLine; decide, fun E3 nE3 => ?_⟩
          have sE3 : Same X3 (upd X3 E3 (.tup [.ref E2])) := sm_new sm_refl nE3
          have hE3 : upd X3 E3 (.tup [.ref E2]) E3 = some (.tup [.ref E2]) := upd_same
          generalize upd X3 E3 (.tup [.ref E2]) = X4 at sE3 hE3 ⊢
          refine ⟨by show 1 ≤ sizeLine; decide, fun E4 nE4 => ?_⟩
          have sE4 : Same X4 (upd X4 E4 (.tup [.str (Str.ofString "take")])) := sm_new sm_refl nE4
          have hE4 : upd X4 E4 (.tup [.str (Str.ofString "take")]) E4 = some (.tup [.str (Str.ofString "take")]) := upd_same
          generalize upd X4 E4 (.tup [.str (Str.ofString "take")]) = X5 at sE4 hE4 ⊢
          refine ⟨by show 8 ≤ sizeLine; decide, fun L1 nL1 => ?_⟩
          have sL1 : Same X5 (upd X5 L1 (.lst [.non, .int 0, .str (Str.ofString ""), .str (Str.ofString "take sold"), .ref E1, .ref L0, .ref E3, .ref E4])) := sm_new sm_refl nL1
          have hL1 : upd X5 L1 (.lst [.non, .int 0, .str (Str.ofString ""), .str (Str.ofString "take sold"), .ref E1, .ref L0, .ref E3, .ref E4]) L1 = some (.lst [.non, .int 0, .str (Str.ofString ""), .str (Str.ofString "take sold"), .ref E1, .ref L0, .ref E3, .ref E4]) := upd_same
          generalize upd X5 L1 (.lst [.non, .int 0, .str (Str.ofString ""), .str (Str.ofString "take sold"), .ref E1, .ref L0, .ref E3, .ref E4]) = X6 at sL1 hL1 ⊢
          refine ⟨_, rfl, by show 3 ≤ sizeLine; decide, fun F1 nF1 => ?_⟩
          have sF1 : Same X6 (upd X6 F1 (.tup [.str (Str.ofString "take"), .str (Str.ofString "sold"), .str (Str.ofString "b")])) := sm_new sm_refl nF1
          have hF1 : upd X6 F1 (.tup [.str (Str.ofString "take"), .str (Str.ofString "sold"), .str (Str.ofString "b")]) F1 = some (.tup [.str (Str.ofString "take"), .str (Str.ofString "sold"), .str (Str.ofString "b")]) := upd_same
          generalize upd X6 F1 (.tup [.str (Str.ofString "take"), .str (Str.ofString "sold"), .str (Str.ofString "b")]) = Y1 at sF1 hF1 ⊢
          refine ⟨by show 1 ≤ sizeLine; decide, fun F2 nF2 => ?_⟩
          have sF2 : Same Y1 (upd Y1 F2 (.tup [.str (Str.ofString "sold")])) := sm_new sm_refl nF2
          have hF2 : upd Y1 F2 (.tup [.str (Str.ofString "sold")]) F2 = some (.tup [.str (Str.ofString "sold")]) := upd_same
          generalize upd Y1 F2 (.tup [.str (Str.ofString "sold")]) = Y2 at sF2 hF2 ⊢
          refine ⟨by show 2 ≤ sizeLine; decide, fun F3 nF3 => ?_⟩
          have sF3 : Same Y2 (upd Y2 F3 (.tup [.str (Str.ofString "take"), .ref F2])) := sm_new sm_refl nF3
          have hF3 : upd Y2 F3 (.tup [.str (Str.ofString "take"), .ref F2]) F3 = some (.tup [.str (Str.ofString "take"), .ref F2]) := upd_same
          generalize upd Y2 F3 (.tup [.str (Str.ofString "take"), .ref F2]) = Y3 at sF3 hF3 ⊢
          refine ⟨by show 1 ≤ sizeLine; decide, fun F4 nF4 => ?_⟩
          have sF4 : Same Y3 (upd Y3 F4 (.tup [.str (Str.ofString "keep")])) := sm_new sm_refl nF4
          have hF4 : upd Y3 F4 (.tup [.str (Str.ofString "keep")]) F4 = some (.tup [.str (Str.ofString "keep")]) := upd_same
          generalize upd Y3 F4 (.tup [.str (Str.ofString "keep")]) = Y4 at sF4 hF4 ⊢
          refine ⟨by show 2 ≤ sizeLine; decide, fun F5 nF5 => ?_⟩
          have sF5 : Same Y4 (upd Y4 F5 (.tup [.int 0, .int 1])) := sm_new sm_refl nF5
          have hF5 : upd Y4 F5 (.tup [.int 0, .int 1]) F5 = some (.tup [.int 0, .int 1]) := upd_same
          generalize upd Y4 F5 (.tup [.int 0, .int 1]) = Y5 at sF5 hF5 ⊢
          refine ⟨by show 4 ≤ sizeLine; decide, fun L2 nL2 => ?_⟩
          have sL2 : Same Y5 (upd Y5 L2 (.lst [.ref F1, .ref F3, .ref F4, .ref F5])) := sm_new sm_refl nL2
          have hL2 : upd Y5 L2 (.lst [.ref F1, .ref F3, .ref F4, .ref F5]) L2 = some (.lst [.ref F1, .ref F3, .ref F4, .ref F5]) := upd_same
          generalize upd Y5 L2 (.lst [.ref F1, .ref F3, .ref F4, .ref F5]) = Y6 at sL2 hL2 ⊢
          have s86 : Same H8 Y6 := sE1.trans (sL0.trans (sE2.trans (sE3.trans (sE4.trans (sL1.trans (sF1.trans (sF2.trans (sF3.trans (sF4.trans (sF5.trans (sL2)))))))))))
          have g6 : Go St H6 Y6 := g8.same s86
          have neL : L0 ≠ St.p := (g8.st.same sE1).off nL0
          refine ⟨L1, L2, _, _, rfl, rfl, (sF1.trans (sF2.trans (sF3.trans (sF4.trans (sF5.trans (sL2)))))) _ _ hL1, hL2, by show 12 ≤ sizeLine; decide, fun L3 nL3 => ?_⟩
          refine ⟨_, rfl, _, rfl, _, rfl, St, 12, rfl, by decide, by decide, g6.st.same (sm_new sm_refl nL3), fun r Z hr gZ => ix_all (n := 2) g6.st nL3 gZ hr (fun x hx => ?_) fun x gx vx => ⟨_, rfl, ?_⟩⟩
          · simp only [List.cons_append, List.nil_append, List.mem_cons, List.not_mem_nil, or_false] at hx
            rcases hx with rfl | rfl | rfl | rfl | rfl | rfl | rfl | rfl | rfl | rfl | rfl | rfl
            · exact .non
            · exact .int _
            · exact .str _ (by decide +kernel)
            · exact .str _ (by decide +kernel)
            · exact .tup (n := 1) (SqT.of ((sL0.trans (sE2.trans (sE3.trans (sE4.trans (sL1.trans (sF1.trans (sF2.trans (sF3.trans (sF4.trans (sF5.trans (sL2))))))))))) _ _ hE1)) (Nat.zero_le _) fun x hx => nomatch hx
            · exact .lst (n := 1) ((sE2.trans (sE3.trans (sE4.trans (sL1.trans (sF1.trans (sF2.trans (sF3.trans (sF4.trans (sF5.trans (sL2)))))))))) _ _ hL0) neL (Nat.zero_le _) fun x hx => nomatch hx
            · exact .tup (n := 1) (SqT.of ((sE4.trans (sL1.trans (sF1.trans (sF2.trans (sF3.trans (sF4.trans (sF5.trans (sL2)))))))) _ _ hE3)) (by show 1 ≤ 1000; decide) fun x hx => by rw [List.mem_singleton.mp hx]; exact .tup (n := 0) (SqT.of ((sE3.trans (sE4.trans (sL1.trans (sF1.trans (sF2.trans (sF3.trans (sF4.trans (sF5.trans (sL2))))))))) _ _ hE2)) (Nat.zero_le _) fun x hx => nomatch hx
            · exact .tup (n := 1) (SqT.of ((sL1.trans (sF1.trans (sF2.trans (sF3.trans (sF4.trans (sF5.trans (sL2))))))) _ _ hE4)) (by show 1 ≤ 1000; decide) fun x hx => by rw [List.mem_singleton.mp hx]; exact .str _ (by decide +kernel)
            · refine .tup (n := 1) (SqT.of ((sF2.trans (sF3.trans (sF4.trans (sF5.trans (sL2))))) _ _ hF1)) (by show 3 ≤ 1000; decide) fun x hx => ?_
              simp only [List.mem_cons, List.not_mem_nil, or_false] at hx
              rcases hx with rfl | rfl | rfl <;> exact .str _ (by decide +kernel)
            · refine .tup (n := 1) (SqT.of ((sF4.trans (sF5.trans (sL2))) _ _ hF3)) (by show 2 ≤ 1000; decide) fun x hx => ?_
              simp only [List.mem_cons, List.not_mem_nil, or_false] at hx
              rcases hx with rfl | rfl
              · exact .str _ (by decide +kernel)
              · exact .tup (n := 0) (SqT.of ((sF3.trans (sF4.trans (sF5.trans (sL2)))) _ _ hF2)) (by show 1 ≤ 1000; decide) fun x hx => by rw [List.mem_singleton.mp hx]; exact .str _ (by decide +kernel)
            · exact .tup (n := 1) (SqT.of ((sF5.trans (sL2)) _ _ hF4)) (by show 1 ≤ 1000; decide) fun x hx => by rw [List.mem_singleton.mp hx]; exact .str _ (by decide +kernel)
            · refine .tup (n := 1) (SqT.of ((sL2) _ _ hF5)) (by show 2 ≤ 1000; decide) fun x hx => ?_
              simp only [List.mem_cons, List.not_mem_nil, or_false] at hx
              rcases hx with rfl | rfl <;> exact .int _
          dsimp only [tNil]
          exact rt Z x 2 _ _ (g6.trans gx) vx (by decide) fun H9 g9 => k H9
end
end K14


set_option Elab.async false
set_option linter.all false
set_option maxRecDepth 100000
set_option maxHeartbeats 4000000
namespace K14
open PySem L2 Nd Bk Gd PySem.ExE
theorem sq_k {K : PySem.W.Frag} {a : Addr} {its : List Value} {n : Nat} {dd : Option Addr} {sl : Array (Option Value)} {xs : List V} (h : K.lookup a = some ⟨.type "tuple", dd, .seq its.toArray n, sl⟩) (hz : its.length ≤ 10) (r : Vals xs its) (H : Hp) : SqT K H a xs :=
  .inr ⟨_, its.toArray, n, h, rfl, rfl, by rw [sizeLine_eq, List.size_toArray]; omega, r⟩
def KeysAmong (xs : List Str) : List DictEntry → Prop
  | [] => True
  | e :: r => (∃ x t, e.key = .str x t ∧ x ∈ xs) ∧ KeysAmong xs r
theorem among_none {xs : List Str} {z : Str} (hz : z ∉ xs) : ∀ {es : List DictEntry}, KeysAmong xs es → es.find? (·.key.isStr z) = none ∧ es.any (·.refKey) = false
  | [], _ => ⟨rfl, rfl⟩
  | e :: r, ⟨⟨x, t, hk, hx⟩, h⟩ => by
    obtain ⟨h1, h2⟩ := among_none hz h
    have e1 : e.key.isStr z = false := by
      rw [hk, PySem.W.isStr_of]
      show (x == z) = false
      rw [beq_eq_false_iff_ne]
      exact fun q => hz (q ▸ hx)
    have e2 : e.refKey = false := by
      unfold DictEntry.refKey
      rw [hk]
    refine ⟨?_, ?_⟩
    · rw [List.find?_cons, e1]; exact h1
    · rw [List.any_cons, e2, h2]; rfl
theorem unk_of {K : PySem.W.Frag} {a : Addr} {es : Array DictEntry} {n : Nat} (hl : K.lookup a = some ⟨.type "dict", none, .dict es n, #[]⟩) (h : KeysAmong kk6 es.toList) : ∀ z, kindT z = none → PySem.W.nsIn K a z = some none := fun z hz => by
  have hn : z ∉ kk6 := fun hm => by
    have key : ∀ z ∈ kk6, kindT z ≠ none := by decide +kernel
    exact key z hm hz
  obtain ⟨h1, h2⟩ := among_none hn h
  unfold PySem.W.nsIn
  rw [hl]
  simp only [h1, h2]
  rfl
theorem all_mk {l : PySem.W.OpenLaw} {w : World} {K : PySem.W.Frag} {h : Heap} {mg : Str → Option Value} {fa : Addr} (X : K.In h) (G : h.Ns mainGlobals mg) (hfa : mg "law" = some (.ref fa))
    {T C fI sgA mkA ptA lnA xN : Addr}
    {ucMc ucMl ucGc ucMn : Tok} {sgt0 sgt1 sgt2 mkt0 mkt1 mkt2 mkt3 : Tok} {ptt_take ptt_keep ptt_pick ptt_join ptt_both ptt_make lnt_take lnt_keep lnt_pick lnt_join lnt_both lnt_make : Tok} {sgd mkd : Option Addr} {sgn mkn ptn lnn : Nat} {sgs mks : Array (Option Value)} {ptes lnes : Array DictEntry}
    {xbs xsub : List Value} {xnm xqn : Str} {xsn : List Str} {xab : Bool} {xcol : Option Bool} {xdd xod xan : Option Addr} {xr0 xr1 xr2 xr3 xr5 : Option Value} {xsl : Array (Option Value)} {xoc xdc xpm xcd xct : Value}
    {f0 : Addr} {fod0 fan0 : Option Addr} {fsl0 : Array (Option Value)} {foc0 fkV0 fdc0 fpm0 fcd0 fct0 : Value}
    {f1 : Addr} {fod1 fan1 : Option Addr} {fsl1 : Array (Option Value)} {foc1 fkV1 fdc1 fpm1 fcd1 fct1 : Value}
    {f2 : Addr} {fod2 fan2 : Option Addr} {fsl2 : Array (Option Value)} {foc2 fkV2 fdc2 fpm2 fcd2 fct2 : Value}
    {f3 : Addr} {fod3 fan3 : Option Addr} {fsl3 : Array (Option Value)} {foc3 fkV3 fdc3 fpm3 fcd3 fct3 : Value}
    {f4 : Addr} {fod4 fan4 : Option Addr} {fsl4 : Array (Option Value)} {foc4 fkV4 fdc4 fpm4 fcd4 fct4 : Value}
    {f5 : Addr} {fod5 fan5 : Option Addr} {fsl5 : Array (Option Value)} {foc5 fkV5 fdc5 fpm5 fcd5 fct5 : Value}
    {f6 : Addr} {fod6 fan6 : Option Addr} {fsl6 : Array (Option Value)} {foc6 fkV6 fdc6 fpm6 fcd6 fct6 : Value}
    {f7 : Addr} {fod7 fan7 : Option Addr} {fsl7 : Array (Option Value)} {foc7 fkV7 fdc7 fpm7 fcd7 fct7 : Value}
    {f8 : Addr} {fod8 fan8 : Option Addr} {fsl8 : Array (Option Value)} {foc8 fkV8 fdc8 fpm8 fcd8 fct8 : Value}
    {f9 : Addr} {fod9 fan9 : Option Addr} {fsl9 : Array (Option Value)} {foc9 fkV9 fdc9 fpm9 fcd9 fct9 : Value}
    {f10 : Addr} {fod10 fan10 : Option Addr} {fsl10 : Array (Option Value)} {foc10 fkV10 fdc10 fpm10 fcd10 fct10 : Value}
    {f11 : Addr} {fod11 fan11 : Option Addr} {fsl11 : Array (Option Value)} {foc11 fkV11 fdc11 fpm11 fcd11 fct11 : Value}
    {f12 : Addr} {fod12 fan12 : Option Addr} {fsl12 : Array (Option Value)} {foc12 fkV12 fdc12 fpm12 fcd12 fct12 : Value}
    {f13 : Addr} {fod13 fan13 : Option Addr} {fsl13 : Array (Option Value)} {foc13 fkV13 fdc13 fpm13 fcd13 fct13 : Value}
    {f14 : Addr} {fod14 fan14 : Option Addr} {fsl14 : Array (Option Value)} {foc14 fkV14 fdc14 fpm14 fcd14 fct14 : Value}
    {f15 : Addr} {fod15 fan15 : Option Addr} {fsl15 : Array (Option Value)} {foc15 fkV15 fdc15 fpm15 fcd15 fct15 : Value}
    {f16 : Addr} {fod16 fan16 : Option Addr} {fsl16 : Array (Option Value)} {foc16 fkV16 fdc16 fpm16 fcd16 fct16 : Value}
    {f17 : Addr} {fod17 fan17 : Option Addr} {fsl17 : Array (Option Value)} {foc17 fkV17 fdc17 fpm17 fcd17 fct17 : Value}
    {f18 : Addr} {fod18 fan18 : Option Addr} {fsl18 : Array (Option Value)} {foc18 fkV18 fdc18 fpm18 fcd18 fct18 : Value}
    {f19 : Addr} {fod19 fan19 : Option Addr} {fsl19 : Array (Option Value)} {foc19 fkV19 fdc19 fpm19 fcd19 fct19 : Value}
    {f20 : Addr} {fod20 fan20 : Option Addr} {fsl20 : Array (Option Value)} {foc20 fkV20 fdc20 fpm20 fcd20 fct20 : Value}
    {f21 : Addr} {fod21 fan21 : Option Addr} {fsl21 : Array (Option Value)} {foc21 fkV21 fdc21 fpm21 fcd21 fct21 : Value}
    {f22 : Addr} {fod22 fan22 : Option Addr} {fsl22 : Array (Option Value)} {foc22 fkV22 fdc22 fpm22 fcd22 fct22 : Value}
    {f23 : Addr} {fod23 fan23 : Option Addr} {fsl23 : Array (Option Value)} {foc23 fkV23 fdc23 fpm23 fcd23 fct23 : Value}
    {f24 : Addr} {fod24 fan24 : Option Addr} {fsl24 : Array (Option Value)} {foc24 fkV24 fdc24 fpm24 fcd24 fct24 : Value}
    {f25 : Addr} {fod25 fan25 : Option Addr} {fsl25 : Array (Option Value)} {foc25 fkV25 fdc25 fpm25 fcd25 fct25 : Value}
    {f26 : Addr} {fod26 fan26 : Option Addr} {fsl26 : Array (Option Value)} {foc26 fkV26 fdc26 fpm26 fcd26 fct26 : Value}
    {f27 : Addr} {fod27 fan27 : Option Addr} {fsl27 : Array (Option Value)} {foc27 fkV27 fdc27 fpm27 fcd27 fct27 : Value}
    {f28 : Addr} {fod28 fan28 : Option Addr} {fsl28 : Array (Option Value)} {foc28 fkV28 fdc28 fpm28 fcd28 fct28 : Value}
    {f29 : Addr} {fod29 fan29 : Option Addr} {fsl29 : Array (Option Value)} {foc29 fkV29 fdc29 fpm29 fcd29 fct29 : Value}
    {f30 : Addr} {fod30 fan30 : Option Addr} {fsl30 : Array (Option Value)} {foc30 fkV30 fdc30 fpm30 fcd30 fct30 : Value}
    {f31 : Addr} {fod31 fan31 : Option Addr} {fsl31 : Array (Option Value)} {foc31 fkV31 fdc31 fpm31 fcd31 fct31 : Value}
    {f32 : Addr} {fod32 fan32 : Option Addr} {fsl32 : Array (Option Value)} {foc32 fkV32 fdc32 fpm32 fcd32 fct32 : Value}
    {f33 : Addr} {fod33 fan33 : Option Addr} {fsl33 : Array (Option Value)} {foc33 fkV33 fdc33 fpm33 fcd33 fct33 : Value}
    {f34 : Addr} {fod34 fan34 : Option Addr} {fsl34 : Array (Option Value)} {foc34 fkV34 fdc34 fpm34 fcd34 fct34 : Value}
    {f35 : Addr} {fod35 fan35 : Option Addr} {fsl35 : Array (Option Value)} {foc35 fkV35 fdc35 fpm35 fcd35 fct35 : Value}
    {f36 : Addr} {fod36 fan36 : Option Addr} {fsl36 : Array (Option Value)} {foc36 fkV36 fdc36 fpm36 fcd36 fct36 : Value}
    {f37 : Addr} {fod37 fan37 : Option Addr} {fsl37 : Array (Option Value)} {foc37 fkV37 fdc37 fpm37 fcd37 fct37 : Value}
    {f38 : Addr} {fod38 fan38 : Option Addr} {fsl38 : Array (Option Value)} {foc38 fkV38 fdc38 fpm38 fcd38 fct38 : Value}
    (cMc : PySem.W.nsIn K mainGlobals "MOST_CELLS" = some (some (.int 6 ucMc)))
    (cMl : PySem.W.nsIn K mainGlobals "MOST_LETTERS" = some (some (.int 8 ucMl)))
    (cGc : PySem.W.nsIn K mainGlobals "GREATEST_CELL" = some (some (.int 9999 ucGc)))
    (cMn : PySem.W.nsIn K mainGlobals "MOST_NODES" = some (some (.int 20 ucMn)))
    (sgg : PySem.W.nsIn K mainGlobals "SIGNS" = some (some (.ref sgA)))
    (sgl : K.lookup sgA = some ⟨.type "tuple", sgd, .seq [.str "=" sgt0, .str "<" sgt1, .str "!" sgt2].toArray sgn, sgs⟩)
    (mkg : PySem.W.nsIn K mainGlobals "MADE_CELLS" = some (some (.ref mkA)))
    (mkl : K.lookup mkA = some ⟨.type "tuple", mkd, .seq [.str "sum" mkt0, .str "less" mkt1, .str "least" mkt2, .str "most" mkt3].toArray mkn, mks⟩)
    (ptg : PySem.W.nsIn K mainGlobals "PARTS" = some (some (.ref ptA)))
    (ptl : K.lookup ptA = some ⟨.type "dict", none, .dict ptes ptn, #[]⟩)
    (ptk : PySem.W.KeysLit w.params ptes.toList)
    (pto : (ptA == sysModules) = false)
    (pt_take : PySem.W.nsIn K ptA "take" = some (some (.int 0 ptt_take)))
    (pt_keep : PySem.W.nsIn K ptA "keep" = some (some (.int 1 ptt_keep)))
    (pt_pick : PySem.W.nsIn K ptA "pick" = some (some (.int 1 ptt_pick)))
    (pt_join : PySem.W.nsIn K ptA "join" = some (some (.int 2 ptt_join)))
    (pt_both : PySem.W.nsIn K ptA "both" = some (some (.int 2 ptt_both)))
    (pt_make : PySem.W.nsIn K ptA "make" = some (some (.int 1 ptt_make)))
    (lng : PySem.W.nsIn K mainGlobals "LENGTHS" = some (some (.ref lnA)))
    (lnl : K.lookup lnA = some ⟨.type "dict", none, .dict lnes lnn, #[]⟩)
    (lnk : PySem.W.KeysLit w.params lnes.toList)
    (lno : (lnA == sysModules) = false)
    (ln_take : PySem.W.nsIn K lnA "take" = some (some (.int 2 lnt_take)))
    (ln_keep : PySem.W.nsIn K lnA "keep" = some (some (.int 3 lnt_keep)))
    (ln_pick : PySem.W.nsIn K lnA "pick" = some (some (.int 3 lnt_pick)))
    (ln_join : PySem.W.nsIn K lnA "join" = some (some (.int 4 lnt_join)))
    (ln_both : PySem.W.nsIn K lnA "both" = some (some (.int 3 lnt_both)))
    (ln_make : PySem.W.nsIn K lnA "make" = some (some (.int 3 lnt_make)))
    (ptu : KeysAmong kk6 ptes.toList)
    (aTE : PySem.W.nsIn K mainGlobals "TraceError" = some (some (.ref T)))
    (tTE : PySem.W.typeIn K (.ref T) = some (.type "type"))
    (hTE : PySem.W.hasDictIn K T = true)
    (hsn : PySem.W.specialIn K (.builtin "object.__class__") "__get__" = some (some (.builtin "getset_descriptor.__get__")))
    (htk : PySem.W.takesIn K (.builtin "object.__class__") = some true)
    (aTM : PySem.W.nsIn K mainGlobals "BadProgram" = some (some (.ref C)))
    (xTM : K.lookup C = some (excClassObj xnm xqn C xN xbs [.ref T, .type "Exception", .type "BaseException", .type "object"] true xsn xsub xab xcol xdd xr0 xr1 xr2 xr3 xr5 "Exception.__new__"))
    (saTM : PySem.W.findIn K (.ref C) "__setattr__" = some (some (.builtin "object.__setattr__")))
    (gaTM : PySem.W.findIn K (.ref C) "__getattribute__" = some (some (.builtin "BaseException.__getattribute__")))
    (ggTM : PySem.W.findIn K (.ref C) "__getattr__" = some none)
    (caTM : PySem.W.findIn K (.ref C) "__class__" = some (some (.builtin "object.__class__")))
    (noTM : PySem.W.findIn K (.ref C) "at" = some none)
    (iiTM : PySem.W.findIn K (.ref C) "__init__" = some (some (.ref fI)))
    (tiTM : PySem.W.typeIn K (.ref fI) = some (.type "function"))
    (liTM : K.lookup fI = some ⟨xoc, xod, .func (PySem.W.fnOf "__init__" "BadProgram.__init__" (defArgs (inClass (topS 11) 0)) (defBody (inClass (topS 11) 0)) (defScope (inClass (topS 11) 0)) .none .none xdc xpm xan xcd xct), xsl⟩)
    (ciTM : PySem.W.codeIn K xcd "BadProgram.__init__" = true)
    (kcTM : PySem.W.keepIn K (.ref C) = true)
    (tyTM : PySem.W.typeIn K (.ref C) = some (.type "type"))
    (neTM : ([T, C] : List Addr).Nodup)
    (fa0 : PySem.W.nsIn K mainGlobals "is_sequence" = some (some (.ref f0)))
    (fl0 : K.lookup f0 = some ⟨foc0, fod0, .func (PySem.W.fnOf "is_sequence" "is_sequence" (defArgs t_is_sequence) (defBody t_is_sequence) (defScope t_is_sequence) .none fkV0 fdc0 fpm0 fan0 fcd0 fct0), fsl0⟩)
    (fc0 : PySem.W.codeIn K fcd0 "is_sequence" = true)
    (fk0 : PySem.W.keepIn K (.ref f0) = true)
    (fa1 : PySem.W.nsIn K mainGlobals "is_integer" = some (some (.ref f1)))
    (fl1 : K.lookup f1 = some ⟨foc1, fod1, .func (PySem.W.fnOf "is_integer" "is_integer" (defArgs t_is_integer) (defBody t_is_integer) (defScope t_is_integer) .none fkV1 fdc1 fpm1 fan1 fcd1 fct1), fsl1⟩)
    (fc1 : PySem.W.codeIn K fcd1 "is_integer" = true)
    (fk1 : PySem.W.keepIn K (.ref f1) = true)
    (fa2 : PySem.W.nsIn K mainGlobals "is_letters" = some (some (.ref f2)))
    (fl2 : K.lookup f2 = some ⟨foc2, fod2, .func (PySem.W.fnOf "is_letters" "is_letters" (defArgs t_is_letters) (defBody t_is_letters) (defScope t_is_letters) .none fkV2 fdc2 fpm2 fan2 fcd2 fct2), fsl2⟩)
    (fc2 : PySem.W.codeIn K fcd2 "is_letters" = true)
    (fk2 : PySem.W.keepIn K (.ref f2) = true)
    (fa3 : PySem.W.nsIn K mainGlobals "is_word" = some (some (.ref f3)))
    (fl3 : K.lookup f3 = some ⟨foc3, fod3, .func (PySem.W.fnOf "is_word" "is_word" (defArgs t_is_word) (defBody t_is_word) (defScope t_is_word) .none fkV3 fdc3 fpm3 fan3 fcd3 fct3), fsl3⟩)
    (fc3 : PySem.W.codeIn K fcd3 "is_word" = true)
    (fk3 : PySem.W.keepIn K (.ref f3) = true)
    (fa4 : PySem.W.nsIn K mainGlobals "is_cell" = some (some (.ref f4)))
    (fl4 : K.lookup f4 = some ⟨foc4, fod4, .func (PySem.W.fnOf "is_cell" "is_cell" (defArgs t_is_cell) (defBody t_is_cell) (defScope t_is_cell) .none fkV4 fdc4 fpm4 fan4 fcd4 fct4), fsl4⟩)
    (fc4 : PySem.W.codeIn K fcd4 "is_cell" = true)
    (fk4 : PySem.W.keepIn K (.ref f4) = true)
    (fa5 : PySem.W.nsIn K mainGlobals "width_of" = some (some (.ref f5)))
    (fl5 : K.lookup f5 = some ⟨foc5, fod5, .func (PySem.W.fnOf "width_of" "width_of" (defArgs t_width_of) (defBody t_width_of) (defScope t_width_of) .none fkV5 fdc5 fpm5 fan5 fcd5 fct5), fsl5⟩)
    (fc5 : PySem.W.codeIn K fcd5 "width_of" = true)
    (fk5 : PySem.W.keepIn K (.ref f5) = true)
    (fa6 : PySem.W.nsIn K mainGlobals "parts_of" = some (some (.ref f6)))
    (fl6 : K.lookup f6 = some ⟨foc6, fod6, .func (PySem.W.fnOf "parts_of" "parts_of" (defArgs t_parts_of) (defBody t_parts_of) (defScope t_parts_of) .none fkV6 fdc6 fpm6 fan6 fcd6 fct6), fsl6⟩)
    (fc6 : PySem.W.codeIn K fcd6 "parts_of" = true)
    (fk6 : PySem.W.keepIn K (.ref f6) = true)
    (fa7 : PySem.W.nsIn K mainGlobals "_need" = some (some (.ref f7)))
    (fl7 : K.lookup f7 = some ⟨foc7, fod7, .func (PySem.W.fnOf "_need" "_need" (defArgs t__need) (defBody t__need) (defScope t__need) .none fkV7 fdc7 fpm7 fan7 fcd7 fct7), fsl7⟩)
    (fc7 : PySem.W.codeIn K fcd7 "_need" = true)
    (fk7 : PySem.W.keepIn K (.ref f7) = true)
    (fa8 : PySem.W.nsIn K mainGlobals "_check_nodes" = some (some (.ref f8)))
    (fl8 : K.lookup f8 = some ⟨foc8, fod8, .func (PySem.W.fnOf "_check_nodes" "_check_nodes" (defArgs t__check_nodes) (defBody t__check_nodes) (defScope t__check_nodes) .none fkV8 fdc8 fpm8 fan8 fcd8 fct8), fsl8⟩)
    (fc8 : PySem.W.codeIn K fcd8 "_check_nodes" = true)
    (fk8 : PySem.W.keepIn K (.ref f8) = true)
    (fa9 : PySem.W.nsIn K mainGlobals "_is_node" = some (some (.ref f9)))
    (fl9 : K.lookup f9 = some ⟨foc9, fod9, .func (PySem.W.fnOf "_is_node" "_is_node" (defArgs t__is_node) (defBody t__is_node) (defScope t__is_node) .none fkV9 fdc9 fpm9 fan9 fcd9 fct9), fsl9⟩)
    (fc9 : PySem.W.codeIn K fcd9 "_is_node" = true)
    (fk9 : PySem.W.keepIn K (.ref f9) = true)
    (fa10 : PySem.W.nsIn K mainGlobals "_width" = some (some (.ref f10)))
    (fl10 : K.lookup f10 = some ⟨foc10, fod10, .func (PySem.W.fnOf "_width" "_width" (defArgs t__width) (defBody t__width) (defScope t__width) .none fkV10 fdc10 fpm10 fan10 fcd10 fct10), fsl10⟩)
    (fc10 : PySem.W.codeIn K fcd10 "_width" = true)
    (fk10 : PySem.W.keepIn K (.ref f10) = true)
    (fa11 : PySem.W.nsIn K mainGlobals "_is_many" = some (some (.ref f11)))
    (fl11 : K.lookup f11 = some ⟨foc11, fod11, .func (PySem.W.fnOf "_is_many" "_is_many" (defArgs t__is_many) (defBody t__is_many) (defScope t__is_many) .none fkV11 fdc11 fpm11 fan11 fcd11 fct11), fsl11⟩)
    (fc11 : PySem.W.codeIn K fcd11 "_is_many" = true)
    (fk11 : PySem.W.keepIn K (.ref f11) = true)
    (fa12 : PySem.W.nsIn K mainGlobals "is_column" = some (some (.ref f12)))
    (fl12 : K.lookup f12 = some ⟨foc12, fod12, .func (PySem.W.fnOf "is_column" "is_column" (defArgs t_is_column) (defBody t_is_column) (defScope t_is_column) .none fkV12 fdc12 fpm12 fan12 fcd12 fct12), fsl12⟩)
    (fc12 : PySem.W.codeIn K fcd12 "is_column" = true)
    (fk12 : PySem.W.keepIn K (.ref f12) = true)
    (fa13 : PySem.W.nsIn K mainGlobals "_are_columns" = some (some (.ref f13)))
    (fl13 : K.lookup f13 = some ⟨foc13, fod13, .func (PySem.W.fnOf "_are_columns" "_are_columns" (defArgs t__are_columns) (defBody t__are_columns) (defScope t__are_columns) .none fkV13 fdc13 fpm13 fan13 fcd13 fct13), fsl13⟩)
    (fc13 : PySem.W.codeIn K fcd13 "_are_columns" = true)
    (fk13 : PySem.W.keepIn K (.ref f13) = true)
    (fa14 : PySem.W.nsIn K mainGlobals "_are_pairs" = some (some (.ref f14)))
    (fl14 : K.lookup f14 = some ⟨foc14, fod14, .func (PySem.W.fnOf "_are_pairs" "_are_pairs" (defArgs t__are_pairs) (defBody t__are_pairs) (defScope t__are_pairs) .none fkV14 fdc14 fpm14 fan14 fcd14 fct14), fsl14⟩)
    (fc14 : PySem.W.codeIn K fcd14 "_are_pairs" = true)
    (fk14 : PySem.W.keepIn K (.ref f14) = true)
    (fa15 : PySem.W.nsIn K mainGlobals "_is_comparison" = some (some (.ref f15)))
    (fl15 : K.lookup f15 = some ⟨foc15, fod15, .func (PySem.W.fnOf "_is_comparison" "_is_comparison" (defArgs t__is_comparison) (defBody t__is_comparison) (defScope t__is_comparison) .none fkV15 fdc15 fpm15 fan15 fcd15 fct15), fsl15⟩)
    (fc15 : PySem.W.codeIn K fcd15 "_is_comparison" = true)
    (fk15 : PySem.W.keepIn K (.ref f15) = true)
    (fa16 : PySem.W.nsIn K mainGlobals "_is_side" = some (some (.ref f16)))
    (fl16 : K.lookup f16 = some ⟨foc16, fod16, .func (PySem.W.fnOf "_is_side" "_is_side" (defArgs t__is_side) (defBody t__is_side) (defScope t__is_side) .none fkV16 fdc16 fpm16 fan16 fcd16 fct16), fsl16⟩)
    (fc16 : PySem.W.codeIn K fcd16 "_is_side" = true)
    (fk16 : PySem.W.keepIn K (.ref f16) = true)
    (fa17 : PySem.W.nsIn K mainGlobals "_is_making" = some (some (.ref f17)))
    (fl17 : K.lookup f17 = some ⟨foc17, fod17, .func (PySem.W.fnOf "_is_making" "_is_making" (defArgs t__is_making) (defBody t__is_making) (defScope t__is_making) .none fkV17 fdc17 fpm17 fan17 fcd17 fct17), fsl17⟩)
    (fc17 : PySem.W.codeIn K fcd17 "_is_making" = true)
    (fk17 : PySem.W.keepIn K (.ref f17) = true)
    (fa18 : PySem.W.nsIn K mainGlobals "_law_mixed" = some (some (.ref f18)))
    (fl18 : K.lookup f18 = some ⟨foc18, fod18, .func (PySem.W.fnOf "_law_mixed" "_law_mixed" (defArgs t__law_mixed) (defBody t__law_mixed) (defScope t__law_mixed) .none fkV18 fdc18 fpm18 fan18 fcd18 fct18), fsl18⟩)
    (fc18 : PySem.W.codeIn K fcd18 "_law_mixed" = true)
    (fk18 : PySem.W.keepIn K (.ref f18) = true)
    (fa19 : PySem.W.nsIn K mainGlobals "_law_draw" = some (some (.ref f19)))
    (fl19 : K.lookup f19 = some ⟨foc19, fod19, .func (PySem.W.fnOf "_law_draw" "_law_draw" (defArgs t__law_draw) (defBody t__law_draw) (defScope t__law_draw) .none fkV19 fdc19 fpm19 fan19 fcd19 fct19), fsl19⟩)
    (fc19 : PySem.W.codeIn K fcd19 "_law_draw" = true)
    (fk19 : PySem.W.keepIn K (.ref f19) = true)
    (fa20 : PySem.W.nsIn K mainGlobals "_law_start" = some (some (.ref f20)))
    (fl20 : K.lookup f20 = some ⟨foc20, fod20, .func (PySem.W.fnOf "_law_start" "_law_start" (defArgs t__law_start) (defBody t__law_start) (defScope t__law_start) .none fkV20 fdc20 fpm20 fan20 fcd20 fct20), fsl20⟩)
    (fc20 : PySem.W.codeIn K fcd20 "_law_start" = true)
    (fk20 : PySem.W.keepIn K (.ref f20) = true)
    (fa21 : PySem.W.nsIn K mainGlobals "_law_same" = some (some (.ref f21)))
    (fl21 : K.lookup f21 = some ⟨foc21, fod21, .func (PySem.W.fnOf "_law_same" "_law_same" (defArgs t__law_same) (defBody t__law_same) (defScope t__law_same) .none fkV21 fdc21 fpm21 fan21 fcd21 fct21), fsl21⟩)
    (fc21 : PySem.W.codeIn K fcd21 "_law_same" = true)
    (fk21 : PySem.W.keepIn K (.ref f21) = true)
    (fa22 : PySem.W.nsIn K mainGlobals "_law_cell" = some (some (.ref f22)))
    (fl22 : K.lookup f22 = some ⟨foc22, fod22, .func (PySem.W.fnOf "_law_cell" "_law_cell" (defArgs t__law_cell) (defBody t__law_cell) (defScope t__law_cell) .none fkV22 fdc22 fpm22 fan22 fcd22 fct22), fsl22⟩)
    (fc22 : PySem.W.codeIn K fcd22 "_law_cell" = true)
    (fk22 : PySem.W.keepIn K (.ref f22) = true)
    (fa23 : PySem.W.nsIn K mainGlobals "_law_lists" = some (some (.ref f23)))
    (fl23 : K.lookup f23 = some ⟨foc23, fod23, .func (PySem.W.fnOf "_law_lists" "_law_lists" (defArgs t__law_lists) (defBody t__law_lists) (defScope t__law_lists) .none fkV23 fdc23 fpm23 fan23 fcd23 fct23), fsl23⟩)
    (fc23 : PySem.W.codeIn K fcd23 "_law_lists" = true)
    (fk23 : PySem.W.keepIn K (.ref f23) = true)
    (fa24 : PySem.W.nsIn K mainGlobals "_law_side" = some (some (.ref f24)))
    (fl24 : K.lookup f24 = some ⟨foc24, fod24, .func (PySem.W.fnOf "_law_side" "_law_side" (defArgs t__law_side) (defBody t__law_side) (defScope t__law_side) .none fkV24 fdc24 fpm24 fan24 fcd24 fct24), fsl24⟩)
    (fc24 : PySem.W.codeIn K fcd24 "_law_side" = true)
    (fk24 : PySem.W.keepIn K (.ref f24) = true)
    (fa25 : PySem.W.nsIn K mainGlobals "_law_program" = some (some (.ref f25)))
    (fl25 : K.lookup f25 = some ⟨foc25, fod25, .func (PySem.W.fnOf "_law_program" "_law_program" (defArgs t__law_program) (defBody t__law_program) (defScope t__law_program) .none fkV25 fdc25 fpm25 fan25 fcd25 fct25), fsl25⟩)
    (fc25 : PySem.W.codeIn K fcd25 "_law_program" = true)
    (fk25 : PySem.W.keepIn K (.ref f25) = true)
    (fa26 : PySem.W.nsIn K mainGlobals "_law_is_integer" = some (some (.ref f26)))
    (fl26 : K.lookup f26 = some ⟨foc26, fod26, .func (PySem.W.fnOf "_law_is_integer" "_law_is_integer" (defArgs t__law_is_integer) (defBody t__law_is_integer) (defScope t__law_is_integer) .none fkV26 fdc26 fpm26 fan26 fcd26 fct26), fsl26⟩)
    (fc26 : PySem.W.codeIn K fcd26 "_law_is_integer" = true)
    (fk26 : PySem.W.keepIn K (.ref f26) = true)
    (fa27 : PySem.W.nsIn K mainGlobals "_law_is_word" = some (some (.ref f27)))
    (fl27 : K.lookup f27 = some ⟨foc27, fod27, .func (PySem.W.fnOf "_law_is_word" "_law_is_word" (defArgs t__law_is_word) (defBody t__law_is_word) (defScope t__law_is_word) .none fkV27 fdc27 fpm27 fan27 fcd27 fct27), fsl27⟩)
    (fc27 : PySem.W.codeIn K fcd27 "_law_is_word" = true)
    (fk27 : PySem.W.keepIn K (.ref f27) = true)
    (fa28 : PySem.W.nsIn K mainGlobals "_law_is_cell" = some (some (.ref f28)))
    (fl28 : K.lookup f28 = some ⟨foc28, fod28, .func (PySem.W.fnOf "_law_is_cell" "_law_is_cell" (defArgs t__law_is_cell) (defBody t__law_is_cell) (defScope t__law_is_cell) .none fkV28 fdc28 fpm28 fan28 fcd28 fct28), fsl28⟩)
    (fc28 : PySem.W.codeIn K fcd28 "_law_is_cell" = true)
    (fk28 : PySem.W.keepIn K (.ref f28) = true)
    (fa29 : PySem.W.nsIn K mainGlobals "_law_is_row" = some (some (.ref f29)))
    (fl29 : K.lookup f29 = some ⟨foc29, fod29, .func (PySem.W.fnOf "_law_is_row" "_law_is_row" (defArgs t__law_is_row) (defBody t__law_is_row) (defScope t__law_is_row) .none fkV29 fdc29 fpm29 fan29 fcd29 fct29), fsl29⟩)
    (fc29 : PySem.W.codeIn K fcd29 "_law_is_row" = true)
    (fk29 : PySem.W.keepIn K (.ref f29) = true)
    (fa30 : PySem.W.nsIn K mainGlobals "_law_is_column" = some (some (.ref f30)))
    (fl30 : K.lookup f30 = some ⟨foc30, fod30, .func (PySem.W.fnOf "_law_is_column" "_law_is_column" (defArgs t__law_is_column) (defBody t__law_is_column) (defScope t__law_is_column) .none fkV30 fdc30 fpm30 fan30 fcd30 fct30), fsl30⟩)
    (fc30 : PySem.W.codeIn K fcd30 "_law_is_column" = true)
    (fk30 : PySem.W.keepIn K (.ref f30) = true)
    (fa31 : PySem.W.nsIn K mainGlobals "_law_is_side" = some (some (.ref f31)))
    (fl31 : K.lookup f31 = some ⟨foc31, fod31, .func (PySem.W.fnOf "_law_is_side" "_law_is_side" (defArgs t__law_is_side) (defBody t__law_is_side) (defScope t__law_is_side) .none fkV31 fdc31 fpm31 fan31 fcd31 fct31), fsl31⟩)
    (fc31 : PySem.W.codeIn K fcd31 "_law_is_side" = true)
    (fk31 : PySem.W.keepIn K (.ref f31) = true)
    (fa32 : PySem.W.nsIn K mainGlobals "_law_nodes" = some (some (.ref f32)))
    (fl32 : K.lookup f32 = some ⟨foc32, fod32, .func (PySem.W.fnOf "_law_nodes" "_law_nodes" (defArgs t__law_nodes) (defBody t__law_nodes) (defScope t__law_nodes) .none fkV32 fdc32 fpm32 fan32 fcd32 fct32), fsl32⟩)
    (fc32 : PySem.W.codeIn K fcd32 "_law_nodes" = true)
    (fk32 : PySem.W.keepIn K (.ref f32) = true)
    (fa33 : PySem.W.nsIn K mainGlobals "_law_width" = some (some (.ref f33)))
    (fl33 : K.lookup f33 = some ⟨foc33, fod33, .func (PySem.W.fnOf "_law_width" "_law_width" (defArgs t__law_width) (defBody t__law_width) (defScope t__law_width) .none fkV33 fdc33 fpm33 fan33 fcd33 fct33), fsl33⟩)
    (fc33 : PySem.W.codeIn K fcd33 "_law_width" = true)
    (fk33 : PySem.W.keepIn K (.ref f33) = true)
    (fa34 : PySem.W.nsIn K mainGlobals "_law_part" = some (some (.ref f34)))
    (fl34 : K.lookup f34 = some ⟨foc34, fod34, .func (PySem.W.fnOf "_law_part" "_law_part" (defArgs t__law_part) (defBody t__law_part) (defScope t__law_part) .none fkV34 fdc34 fpm34 fan34 fcd34 fct34), fsl34⟩)
    (fc34 : PySem.W.codeIn K fcd34 "_law_part" = true)
    (fk34 : PySem.W.keepIn K (.ref f34) = true)
    (fa35 : PySem.W.nsIn K mainGlobals "_law_wrapped" = some (some (.ref f35)))
    (fl35 : K.lookup f35 = some ⟨foc35, fod35, .func (PySem.W.fnOf "_law_wrapped" "_law_wrapped" (defArgs t__law_wrapped) (defBody t__law_wrapped) (defScope t__law_wrapped) .none fkV35 fdc35 fpm35 fan35 fcd35 fct35), fsl35⟩)
    (fc35 : PySem.W.codeIn K fcd35 "_law_wrapped" = true)
    (fk35 : PySem.W.keepIn K (.ref f35) = true)
    (fa36 : PySem.W.nsIn K mainGlobals "_law_asked" = some (some (.ref f36)))
    (fl36 : K.lookup f36 = some ⟨foc36, fod36, .func (PySem.W.fnOf "_law_asked" "_law_asked" (defArgs t__law_asked) (defBody t__law_asked) (defScope t__law_asked) .none fkV36 fdc36 fpm36 fan36 fcd36 fct36), fsl36⟩)
    (fc36 : PySem.W.codeIn K fcd36 "_law_asked" = true)
    (fk36 : PySem.W.keepIn K (.ref f36) = true)
    (fa37 : PySem.W.nsIn K mainGlobals "_law_right" = some (some (.ref f37)))
    (fl37 : K.lookup f37 = some ⟨foc37, fod37, .func (PySem.W.fnOf "_law_right" "_law_right" (defArgs t__law_right) (defBody t__law_right) (defScope t__law_right) .none fkV37 fdc37 fpm37 fan37 fcd37 fct37), fsl37⟩)
    (fc37 : PySem.W.codeIn K fcd37 "_law_right" = true)
    (fk37 : PySem.W.keepIn K (.ref f37) = true)
    (fa38 : PySem.W.nsIn K mainGlobals "law" = some (some (.ref f38)))
    (fl38 : K.lookup f38 = some ⟨foc38, fod38, .func (PySem.W.fnOf "law" "law" (defArgs t_law) (defBody t_law) (defScope t_law) .none fkV38 fdc38 fpm38 fan38 fcd38 fct38), fsl38⟩)
    (fc38 : PySem.W.codeIn K fcd38 "law" = true)
    (fk38 : PySem.W.keepIn K (.ref f38) = true)
    (z_isinstance : PySem.W.nsIn K mainGlobals "isinstance" = some none)
    (z_tuple : PySem.W.nsIn K mainGlobals "tuple" = some none)
    (z_list : PySem.W.nsIn K mainGlobals "list" = some none)
    (z_len : PySem.W.nsIn K mainGlobals "len" = some none)
    (z_range : PySem.W.nsIn K mainGlobals "range" = some none)
    (z_bool : PySem.W.nsIn K mainGlobals "bool" = some none)
    (z_str : PySem.W.nsIn K mainGlobals "str" = some none)
    (z_int : PySem.W.nsIn K mainGlobals "int" = some none)
    (z_all : PySem.W.nsIn K mainGlobals "all" = some none)
    (z_sum : PySem.W.nsIn K mainGlobals "sum" = some none)
    (z_dict : PySem.W.nsIn K mainGlobals "dict" = some none)
    : ∃ fd : FuncData, (∀ (s : Shared) (v : Value), BindsTo s fd ⟨[v], []⟩ [("script", v)]) ∧ ∀ base : Heap, K.In base → base.Ns mainGlobals mg → FnG l.prog w K mg base 60 fa fd ["script"] (spLaw14 K) := by
  have e := hfa.symm.trans (PySem.W.mg_of X G fa38)
  cases e
  have F0 := fun_mk (st := t_is_sequence) fl0 fc0 fk0
  have b0 := F0.binds (ps := ["value"]) fun _ _ _ _ _ _ us hl => match us, hl with | [_], _ => rfl
  have F1 := fun_mk (st := t_is_integer) fl1 fc1 fk1
  have b1 := F1.binds (ps := ["value"]) fun _ _ _ _ _ _ us hl => match us, hl with | [_], _ => rfl
  have F2 := fun_mk (st := t_is_letters) fl2 fc2 fk2
  have b2 := F2.binds (ps := ["value"]) fun _ _ _ _ _ _ us hl => match us, hl with | [_], _ => rfl
  have F3 := fun_mk (st := t_is_word) fl3 fc3 fk3
  have b3 := F3.binds (ps := ["value"]) fun _ _ _ _ _ _ us hl => match us, hl with | [_], _ => rfl
  have F4 := fun_mk (st := t_is_cell) fl4 fc4 fk4
  have b4 := F4.binds (ps := ["value"]) fun _ _ _ _ _ _ us hl => match us, hl with | [_], _ => rfl
  have F5 := fun_mk (st := t_width_of) fl5 fc5 fk5
  have b5 := F5.binds (ps := ["program", "widths"]) fun _ _ _ _ _ _ us hl => match us, hl with | [_, _], _ => rfl
  have F6 := fun_mk (st := t_parts_of) fl6 fc6 fk6
  have b6 := F6.binds (ps := ["node"]) fun _ _ _ _ _ _ us hl => match us, hl with | [_], _ => rfl
  have F7 := fun_mk (st := t__need) fl7 fc7 fk7
  have b7 := F7.binds (ps := ["holds"]) fun _ _ _ _ _ _ us hl => match us, hl with | [_], _ => rfl
  have F8 := fun_mk (st := t__check_nodes) fl8 fc8 fk8
  have b8 := F8.binds (ps := ["program"]) fun _ _ _ _ _ _ us hl => match us, hl with | [_], _ => rfl
  have F9 := fun_mk (st := t__is_node) fl9 fc9 fk9
  have b9 := F9.binds (ps := ["value"]) fun _ _ _ _ _ _ us hl => match us, hl with | [_], _ => rfl
  have F10 := fun_mk (st := t__width) fl10 fc10 fk10
  have b10 := F10.binds (ps := ["node", "widths"]) fun _ _ _ _ _ _ us hl => match us, hl with | [_, _], _ => rfl
  have F11 := fun_mk (st := t__is_many) fl11 fc11 fk11
  have b11 := F11.binds (ps := ["value", "many"]) fun _ _ _ _ _ _ us hl => match us, hl with | [_, _], _ => rfl
  have F12 := fun_mk (st := t_is_column) fl12 fc12 fk12
  have b12 := F12.binds (ps := ["value", "width"]) fun _ _ _ _ _ _ us hl => match us, hl with | [_, _], _ => rfl
  have F13 := fun_mk (st := t__are_columns) fl13 fc13 fk13
  have b13 := F13.binds (ps := ["value", "width"]) fun _ _ _ _ _ _ us hl => match us, hl with | [_, _], _ => rfl
  have F14 := fun_mk (st := t__are_pairs) fl14 fc14 fk14
  have b14 := F14.binds (ps := ["value", "width", "other"]) fun _ _ _ _ _ _ us hl => match us, hl with | [_, _, _], _ => rfl
  have F15 := fun_mk (st := t__is_comparison) fl15 fc15 fk15
  have b15 := F15.binds (ps := ["value", "width"]) fun _ _ _ _ _ _ us hl => match us, hl with | [_, _], _ => rfl
  have F16 := fun_mk (st := t__is_side) fl16 fc16 fk16
  have b16 := F16.binds (ps := ["value", "width"]) fun _ _ _ _ _ _ us hl => match us, hl with | [_, _], _ => rfl
  have F17 := fun_mk (st := t__is_making) fl17 fc17 fk17
  have b17 := F17.binds (ps := ["value", "width"]) fun _ _ _ _ _ _ us hl => match us, hl with | [_, _], _ => rfl
  have F18 := fun_mk (st := t__law_mixed) fl18 fc18 fk18
  have b18 := F18.binds (ps := ["cell", "turn"]) fun _ _ _ _ _ _ us hl => match us, hl with | [_, _], _ => rfl
  have F19 := fun_mk (st := t__law_draw) fl19 fc19 fk19
  have b19 := F19.binds (ps := ["state", "limit"]) fun _ _ _ _ _ _ us hl => match us, hl with | [_, _], _ => rfl
  have F20 := fun_mk (st := t__law_start) fl20 fc20 fk20
  have b20 := F20.binds (ps := ["script"]) fun _ _ _ _ _ _ us hl => match us, hl with | [_], _ => rfl
  have F21 := fun_mk (st := t__law_same) fl21 fc21 fk21
  have b21 := F21.binds (ps := ["actual", "due"]) fun _ _ _ _ _ _ us hl => match us, hl with | [_, _], _ => rfl
  have F22 := fun_mk (st := t__law_cell) fl22 fc22 fk22
  have b22 := F22.binds (ps := ["state"]) fun _ _ _ _ _ _ us hl => match us, hl with | [_], _ => rfl
  have F23 := fun_mk (st := t__law_lists) fl23 fc23 fk23
  have b23 := F23.binds (ps := ["state", "value"]) fun _ _ _ _ _ _ us hl => match us, hl with | [_, _], _ => rfl
  have F24 := fun_mk (st := t__law_side) fl24 fc24 fk24
  have b24 := F24.binds (ps := ["state", "width"]) fun _ _ _ _ _ _ us hl => match us, hl with | [_, _], _ => rfl
  have F25 := fun_mk (st := t__law_program) fl25 fc25 fk25
  have b25 := F25.binds (ps := ["state", "tables", "kinds", "left"]) fun _ _ _ _ _ _ us hl => match us, hl with | [_, _, _, _], _ => rfl
  have F26 := fun_mk (st := t__law_is_integer) fl26 fc26 fk26
  have b26 := F26.binds (ps := ["value"]) fun _ _ _ _ _ _ us hl => match us, hl with | [_], _ => rfl
  have F27 := fun_mk (st := t__law_is_word) fl27 fc27 fk27
  have b27 := F27.binds (ps := ["value"]) fun _ _ _ _ _ _ us hl => match us, hl with | [_], _ => rfl
  have F28 := fun_mk (st := t__law_is_cell) fl28 fc28 fk28
  have b28 := F28.binds (ps := ["value"]) fun _ _ _ _ _ _ us hl => match us, hl with | [_], _ => rfl
  have F29 := fun_mk (st := t__law_is_row) fl29 fc29 fk29
  have b29 := F29.binds (ps := ["value", "many"]) fun _ _ _ _ _ _ us hl => match us, hl with | [_, _], _ => rfl
  have F30 := fun_mk (st := t__law_is_column) fl30 fc30 fk30
  have b30 := F30.binds (ps := ["value", "width"]) fun _ _ _ _ _ _ us hl => match us, hl with | [_, _], _ => rfl
  have F31 := fun_mk (st := t__law_is_side) fl31 fc31 fk31
  have b31 := F31.binds (ps := ["value", "width"]) fun _ _ _ _ _ _ us hl => match us, hl with | [_, _], _ => rfl
  have F32 := fun_mk (st := t__law_nodes) fl32 fc32 fk32
  have b32 := F32.binds (ps := ["program"]) fun _ _ _ _ _ _ us hl => match us, hl with | [_], _ => rfl
  have F33 := fun_mk (st := t__law_width) fl33 fc33 fk33
  have b33 := F33.binds (ps := ["program", "widths"]) fun _ _ _ _ _ _ us hl => match us, hl with | [_, _], _ => rfl
  have F34 := fun_mk (st := t__law_part) fl34 fc34 fk34
  have b34 := F34.binds (ps := ["state", "value"]) fun _ _ _ _ _ _ us hl => match us, hl with | [_, _], _ => rfl
  have F35 := fun_mk (st := t__law_wrapped) fl35 fc35 fk35
  have b35 := F35.binds (ps := ["state", "program", "width", "names"]) fun _ _ _ _ _ _ us hl => match us, hl with | [_, _, _, _], _ => rfl
  have F36 := fun_mk (st := t__law_asked) fl36 fc36 fk36
  have b36 := F36.binds (ps := ["program", "names", "named"]) fun _ _ _ _ _ _ us hl => match us, hl with | [_, _, _], _ => rfl
  have F37 := fun_mk (st := t__law_right) fl37 fc37 fk37
  have b37 := F37.binds (ps := ["state", "program", "names"]) fun _ _ _ _ _ _ us hl => match us, hl with | [_, _, _], _ => rfl
  have F38 := fun_mk (st := t_law) fl38 fc38 fk38
  have N : Nm mg := ⟨PySem.W.mg_none_of X G z_isinstance, PySem.W.mg_none_of X G z_tuple, PySem.W.mg_none_of X G z_list, PySem.W.mg_none_of X G z_len, PySem.W.mg_none_of X G z_range, PySem.W.mg_none_of X G z_bool, PySem.W.mg_none_of X G z_str, PySem.W.mg_none_of X G z_int⟩
  have A0 : Ncl mg := { all := PySem.W.mg_none_of X G z_all, ml := ⟨_, PySem.W.mg_of X G cMl⟩, gc := ⟨_, PySem.W.mg_of X G cGc⟩ }
  have D0 : Ndi mg := ⟨PySem.W.mg_none_of X G z_dict⟩
  have ptP : ∀ p : Prog, KDct K w ptA (Str.ofString (kindS p)) (.int ((partsP p).length : Nat)) := fun p => by
    cases p with
    | take n => exact ⟨ptes, ptn, _, ptl, ptk, pt_take, ⟨_, rfl⟩⟩
    | keep p a b c => exact ⟨ptes, ptn, _, ptl, ptk, pt_keep, ⟨_, rfl⟩⟩
    | pick p a => exact ⟨ptes, ptn, _, ptl, ptk, pt_pick, ⟨_, rfl⟩⟩
    | make p a b c => exact ⟨ptes, ptn, _, ptl, ptk, pt_make, ⟨_, rfl⟩⟩
    | both p q => exact ⟨ptes, ptn, _, ptl, ptk, pt_both, ⟨_, rfl⟩⟩
    | join p q a => exact ⟨ptes, ptn, _, ptl, ptk, pt_join, ⟨_, rfl⟩⟩
  have lnP : ∀ p : Prog, KDct K w lnA (Str.ofString (kindS p)) (.int (((partsP p).length + (restD p).length + 1 : Nat) : Nat)) := fun p => by
    cases p with
    | take n => exact ⟨lnes, lnn, _, lnl, lnk, ln_take, ⟨_, rfl⟩⟩
    | keep p a b c => exact ⟨lnes, lnn, _, lnl, lnk, ln_keep, ⟨_, rfl⟩⟩
    | pick p a => exact ⟨lnes, lnn, _, lnl, lnk, ln_pick, ⟨_, rfl⟩⟩
    | make p a b c => exact ⟨lnes, lnn, _, lnl, lnk, ln_make, ⟨_, rfl⟩⟩
    | both p q => exact ⟨lnes, lnn, _, lnl, lnk, ln_both, ⟨_, rfl⟩⟩
    | join p q a => exact ⟨lnes, lnn, _, lnl, lnk, ln_join, ⟨_, rfl⟩⟩
  have Np : Npr K w mg := { nodes := ⟨_, PySem.W.mg_of X G cMn⟩, cells := ⟨_, PySem.W.mg_of X G cMc⟩, signs := ⟨sgA, PySem.W.mg_of X G sgg, sq_k (xs := signs.map V.str) sgl (by show 3 ≤ 10; decide) (.cons ⟨_, rfl⟩ (.cons ⟨_, rfl⟩ (.cons ⟨_, rfl⟩ .nil)))⟩, makes := ⟨mkA, PySem.W.mg_of X G mkg, sq_k (xs := makes_.map V.str) mkl (by show 4 ≤ 10; decide) (.cons ⟨_, rfl⟩ (.cons ⟨_, rfl⟩ (.cons ⟨_, rfl⟩ (.cons ⟨_, rfl⟩ .nil))))⟩, parts := ⟨ptA, ptes, ptn, PySem.W.mg_of X G ptg, ⟨ptl, ptk, pto⟩, ptP⟩, lens := ⟨lnA, PySem.W.mg_of X G lng, lnP⟩ }
  have E0x : EC K C T "at" fI := ⟨⟨_, _, _, _, _, _, _, _, _, _, _, _, _, _, xTM⟩, saTM, gaTM, ggTM, caTM, noTM, iiTM, tiTM, kcTM, tyTM⟩
  have Mx0 : Makes K C "at" := Iat.makes E0x (qn := "BadProgram.__init__") ⟨_, _, _, _, _, _, _, _, _, _, _, _, _, _, liTM, ciTM⟩
  have X0 : Tp K mg T C fI := ⟨E0x, Mx0, PySem.W.mg_of X G aTM⟩
  have nd := neTM
  simp only [List.nodup_cons, List.mem_cons, List.not_mem_nil, or_false, not_or] at nd
  have Z0 : Tz K mg T C fI := { X := X0, gT := PySem.W.mg_of X G aTE, ne := nd.1, hdT := hTE, tT := tTE, hc := ⟨hsn, htk⟩ }
  refine ⟨PySem.W.fnOf "law" "law" (defArgs t_law) (defBody t_law) (defScope t_law) .none fkV38 fdc38 fpm38 fan38 fcd38 fct38, fun s v => .of_eq rfl, fun base _ _ => ?_⟩
  have Q1 : FnOk l.prog w K mg base CX0 1 f18 _ ["cell", "turn"] (spLMix) := ok_lmix F18 N.int
  have Q2 : FnOk l.prog w K mg base CX0 2 f19 _ ["state", "limit"] (spLDr) := ok_ldr F19 N ⟨f18, _, PySem.W.mg_of X G fa18, fk18, b18, Q1⟩
  have Q3 : FnOk l.prog w K mg base CX0 3 f20 _ ["script"] (spLSta K) := ok_lsta F20 N ⟨f19, _, PySem.W.mg_of X G fa19, fk19, b19, Q2⟩
  have Q4 : FnOk l.prog w K mg base CX0 3 f22 _ ["state"] (spLCe K) := ok_lceD F22 N ⟨f19, _, PySem.W.mg_of X G fa19, fk19, b19, Q2⟩
  have Q5 : FnOk l.prog w K mg base CX0 4 f24 _ ["state", "width"] (spLSd K) := ok_lside F24 N ⟨f19, _, PySem.W.mg_of X G fa19, fk19, b19, Q2⟩ ⟨f22, _, PySem.W.mg_of X G fa22, fk22, b22, Q4⟩
  have Q6 : FnOk l.prog w K mg base CX0 12 f25 _ ["state", "tables", "kinds", "left"] (spLPg K 8) := ok_lprog F25 b25 (PySem.W.mg_of X G fa25) fk25 N ⟨f19, _, PySem.W.mg_of X G fa19, fk19, b19, Q2⟩ ⟨f24, _, PySem.W.mg_of X G fa24, fk24, b24, Q5⟩ 8
  have Q7 : FnOk l.prog w K mg base CX0 1 f29 _ ["value", "many"] (spMany K) := ok_lRow F29 N
  have Q8 : FnOk l.prog w K mg base CX0 1 f26 _ ["value"] (spLI K isI) := ok_lInt F26 N
  have Q9 : FnOk l.prog w K mg base CX0 2 f30 _ ["value", "width"] (spChk K colB) := ok_lCol F30 ⟨f26, _, PySem.W.mg_of X G fa26, fk26, b26, Q8⟩
  have Q10 : FnOk l.prog w K mg base CX0 1 f27 _ ["value"] (spLI K isW) := ok_lWo F27 N
  have Q11 : FnOk l.prog w K mg base CX0 2 f28 _ ["value"] (spLI K cellB) := ok_lCe F28 ⟨f27, _, PySem.W.mg_of X G fa27, fk27, b27, Q10⟩ ⟨f26, _, PySem.W.mg_of X G fa26, fk26, b26, Q8⟩
  have Q12 : FnOk l.prog w K mg base CX0 3 f31 _ ["value", "width"] (spChk K sideB) := ok_lSi F31 N ⟨f29, _, PySem.W.mg_of X G fa29, fk29, b29, Q7⟩ ⟨f30, _, PySem.W.mg_of X G fa30, fk30, b30, Q9⟩ ⟨f28, _, PySem.W.mg_of X G fa28, fk28, b28, Q11⟩
  have Q13 : FnOk l.prog w K mg base CX0 54 f33 _ ["program", "widths"] (spLW K 50) := ok_lWi F33 b33 (PySem.W.mg_of X G fa33) fk33 N (PySem.W.mg_none_of X G z_sum) ⟨f29, _, PySem.W.mg_of X G fa29, fk29, b29, Q7⟩ ⟨f30, _, PySem.W.mg_of X G fa30, fk30, b30, Q9⟩ ⟨f31, _, PySem.W.mg_of X G fa31, fk31, b31, Q12⟩ 51
  have Q14 : FnOk l.prog w K mg base CX0 51 f32 _ ["program"] (spLNo K 50) := ok_lNo F32 b32 (PySem.W.mg_of X G fa32) fk32 N (PySem.W.mg_none_of X G z_sum) 51
  have Q15 : FnOk l.prog w K mg base (L2.CX l.prog w) 1 f7 _ ["holds"] (spNeedX C) := ok_needX F7 X0
  have Q16 : FnOk l.prog w K mg base CX0 1 f0 _ ["value"] (spIsSeq K) := ok_isSeq F0 N
  have Q17 : FnOk l.prog w K mg base CX0 2 f9 _ ["value"] (spNode K) := ok_node F9 N Np (fun a e z hz => by cases e.symm.trans (PySem.W.mg_of X G ptg); exact unk_of ptl ptu z hz) ⟨f0, _, PySem.W.mg_of X G fa0, fk0, b0, Q16⟩
  have Q18 : FnOk l.prog w K mg base CX0 1 f6 _ ["node"] (spPartsT K) := ok_partsT F6 Np
  have Q19 : FnOk l.prog w K mg base (L2.CX l.prog w) 3 f8 _ ["program"] (spChkT K C) := ok_chkT F8 ⟨_, PySem.W.mg_of X G cMn⟩ (PySem.W.mg_of X G fa7) fk7 b7 Q15 ⟨f9, _, PySem.W.mg_of X G fa9, fk9, b9, Q17⟩ ⟨f6, _, PySem.W.mg_of X G fa6, fk6, b6, Q18⟩
  have Q20 : FnOk l.prog w K mg base CX0 2 f11 _ ["value", "many"] (spMany K) := ok_many F11 N ⟨f0, _, PySem.W.mg_of X G fa0, fk0, b0, Q16⟩
  have Q21 : FnOk l.prog w K mg base CX0 1 f1 _ ["value"] (spIsInt K) := ok_isInt F1 N
  have Q22 : FnOk l.prog w K mg base CX0 2 f12 _ ["value", "width"] (spChk K colB) := ok_colT F12 ⟨f1, _, PySem.W.mg_of X G fa1, fk1, b1, Q21⟩
  have Q23 : FnOk l.prog w K mg base CX0 3 f14 _ ["value", "width", "other"] (spPrs K) := ok_prsT F14 N A0 ⟨f0, _, PySem.W.mg_of X G fa0, fk0, b0, Q16⟩ ⟨f11, _, PySem.W.mg_of X G fa11, fk11, b11, Q20⟩ ⟨f12, _, PySem.W.mg_of X G fa12, fk12, b12, Q22⟩
  have Q24 : FnOk l.prog w K mg base CX0 3 f13 _ ["value", "width"] (spChk K colsB) := ok_colsT F13 N A0 ⟨_, PySem.W.mg_of X G cMc⟩ ⟨f0, _, PySem.W.mg_of X G fa0, fk0, b0, Q16⟩ ⟨f12, _, PySem.W.mg_of X G fa12, fk12, b12, Q22⟩
  have Q25 : FnOk l.prog w K mg base CX0 1 f2 _ ["value"] (spLet K) := ok_let F2 N A0
  have Q26 : FnOk l.prog w K mg base CX0 2 f3 _ ["value"] (spWord K) := ok_word F3 N A0 ⟨f2, _, PySem.W.mg_of X G fa2, fk2, b2, Q25⟩
  have Q27 : FnOk l.prog w K mg base CX0 3 f4 _ ["value"] (spCell K) := ok_cell F4 A0 ⟨f1, _, PySem.W.mg_of X G fa1, fk1, b1, Q21⟩ ⟨f3, _, PySem.W.mg_of X G fa3, fk3, b3, Q26⟩
  have Q28 : FnOk l.prog w K mg base CX0 4 f16 _ ["value", "width"] (spChk K sideB) := ok_sideT F16 ⟨f11, _, PySem.W.mg_of X G fa11, fk11, b11, Q20⟩ ⟨f12, _, PySem.W.mg_of X G fa12, fk12, b12, Q22⟩ ⟨f4, _, PySem.W.mg_of X G fa4, fk4, b4, Q27⟩
  have Q29 : FnOk l.prog w K mg base CX0 5 f15 _ ["value", "width"] (spChk K cmpB) := ok_cmpT F15 (⟨sgA, PySem.W.mg_of X G sgg, sq_k (xs := signs.map V.str) sgl (by show 3 ≤ 10; decide) (.cons ⟨_, rfl⟩ (.cons ⟨_, rfl⟩ (.cons ⟨_, rfl⟩ .nil)))⟩) ⟨f11, _, PySem.W.mg_of X G fa11, fk11, b11, Q20⟩ ⟨f16, _, PySem.W.mg_of X G fa16, fk16, b16, Q28⟩
  have Q30 : FnOk l.prog w K mg base CX0 5 f17 _ ["value", "width"] (spChk K mkgB) := ok_mkgT F17 (⟨mkA, PySem.W.mg_of X G mkg, sq_k (xs := makes_.map V.str) mkl (by show 4 ≤ 10; decide) (.cons ⟨_, rfl⟩ (.cons ⟨_, rfl⟩ (.cons ⟨_, rfl⟩ (.cons ⟨_, rfl⟩ .nil))))⟩) ⟨f11, _, PySem.W.mg_of X G fa11, fk11, b11, Q20⟩ ⟨f12, _, PySem.W.mg_of X G fa12, fk12, b12, Q22⟩
  have Q31 : FnOk l.prog w K mg base (L2.CX l.prog w) 56 f10 _ ["node", "widths"] (spWidT K C 50) := ok_widT F10 b10 (PySem.W.mg_of X G fa10) fk10 N ⟨_, PySem.W.mg_of X G cMc⟩ (PySem.W.mg_of X G fa7) fk7 b7 Q15 ⟨f6, _, PySem.W.mg_of X G fa6, fk6, b6, Q18⟩ ⟨f14, _, PySem.W.mg_of X G fa14, fk14, b14, Q23⟩ ⟨f13, _, PySem.W.mg_of X G fa13, fk13, b13, Q24⟩ ⟨f15, _, PySem.W.mg_of X G fa15, fk15, b15, Q29⟩ ⟨f17, _, PySem.W.mg_of X G fa17, fk17, b17, Q30⟩ 50
  have Q32 : FnOk l.prog w K mg base (L2.CX l.prog w) 57 f5 _ ["program", "widths"] (spWidOfT K C) := ok_widOfT F5 D0 (PySem.W.mg_of X G fa8) fk8 b8 Q19 (PySem.W.mg_of X G fa10) fk10 b10 Q31
  have Q33 : FnOk l.prog w K mg base CX0 58 f36 _ ["program", "names", "named"] (spAskT K) := ok_askT F36 N Z0 (PySem.W.mg_of X G fa5) fk5 b5 (kb_sw2 F5 fun _ _ _ _ _ _ _ _ => rfl) Q32
  have Q34 : FnOk l.prog w K mg base CX0 53 f23 _ ["state", "value"] (spLLT K 50) := ok_llistsT F23 b23 (PySem.W.mg_of X G fa23) fk23 N ⟨f19, _, PySem.W.mg_of X G fa19, fk19, b19, Q2⟩ 51
  have Q35 : FnOk l.prog w K mg base CX0 4 f21 _ ["actual", "due"] (spLSm K 3) := ok_lsm F21 b21 (PySem.W.mg_of X G fa21) fk21 N 4
  have Q36 : FnOk l.prog w K mg base CX0 59 f37 _ ["state", "program", "names"] (spRt K) := ok_rt F37 N ⟨f33, _, PySem.W.mg_of X G fa33, fk33, b33, Q13⟩ ⟨f32, _, PySem.W.mg_of X G fa32, fk32, b32, Q14⟩ ⟨f36, _, PySem.W.mg_of X G fa36, fk36, b36, Q33⟩ ⟨f23, _, PySem.W.mg_of X G fa23, fk23, b23, Q34⟩ ⟨f21, _, PySem.W.mg_of X G fa21, fk21, b21, Q35⟩
  have Q37 : FnOk l.prog w K mg base CX0 47 f34 _ ["state", "value"] (spPt K 44) := ok_pt F34 b34 (PySem.W.mg_of X G fa34) fk34 N ⟨f19, _, PySem.W.mg_of X G fa19, fk19, b19, Q2⟩ 45
  have Q38 : FnOk l.prog w K mg base CX0 3 f35 _ ["state", "program", "width", "names"] (spWr K 24) := ok_wr F35 N ⟨f19, _, PySem.W.mg_of X G fa19, fk19, b19, Q2⟩ 24
  exact FnG.of (ok_law14 F38 N ⟨f20, _, PySem.W.mg_of X G fa20, fk20, b20, Q3⟩ ⟨f19, _, PySem.W.mg_of X G fa19, fk19, b19, Q2⟩ ⟨f25, _, PySem.W.mg_of X G fa25, fk25, b25, Q6⟩ ⟨f33, _, PySem.W.mg_of X G fa33, fk33, b33, Q13⟩ ⟨f37, _, PySem.W.mg_of X G fa37, fk37, b37, Q36⟩ ⟨f34, _, PySem.W.mg_of X G fa34, fk34, b34, Q37⟩ ⟨f35, _, PySem.W.mg_of X G fa35, fk35, b35, Q38⟩)
theorem walk {l : PySem.W.OpenLaw} {q : Program} {loose : List Str} {XP : (Str → Option Value) → Heap → Prop} {YP : World → Heap → Prop} {d : DefRec} {K : Params → PySem.W.Frag} (hn : l.most = some 63) (hdf : d.params.defaults = [])
    (hY : ∀ (w : World) (h : Heap), YP w h → (K w.params).In h)
    (F : ∀ (w : World) (mg : Str → Option Value) (fa : Addr) (h : Heap), (K w.params).In h → h.Ns mainGlobals mg → mg d.name = some (.ref fa) →
      ∃ fd : FuncData, (∀ (s : Shared) (u : Value), BindsTo s fd ⟨[u], []⟩ [("script", u)]) ∧ ∀ base : Heap, (K w.params).In base → base.Ns mainGlobals mg → FnG l.prog w (K w.params) mg base 60 fa fd ["script"] (spLaw14 (K w.params))) :
    PySem.W.WalkO q loose XP YP l.row.toRowW d [] (fun f vs => PySem.call f vs) :=
  walk_still (n := 63) (k := 60) (x := "script") (sp := spLaw14) hn (by decide) hdf ⟨rfl, by decide, by decide⟩ hY F (fun _ _ a ns hl hS => ⟨a, ns, rfl, hS, hl, fun _ => rfl⟩)
end K14


set_option Elab.async false
open PySem PySem.W PyProof.Rows
set_option maxRecDepth 100000 in
set_option maxHeartbeats 0 in
theorem PySem.Challenge.cw_ledgertrace_k14_widths_and_refusals_holds : PySem.Challenge.rw_ledgertrace_k14_widths_and_refusals.Holds := by
  w_on; o_law; k_head; (case hw => w_witness2)
  k_fill
  refine K14.walk (l := PySem.Challenge.rw_ledgertrace_k14_widths_and_refusals) rfl rfl (fun w h Y => PySem.W.kIn_of Y) ?F
  case F =>
    intro w mg fa h KX G hmg
    refine' K14.all_mk KX G hmg ?cMc ?cMl ?cGc ?cMn ?sgg ?sgl ?mkg ?mkl ?ptg ?ptl ?ptk ?pto ?pt_take ?pt_keep ?pt_pick ?pt_join ?pt_both ?pt_make ?lng ?lnl ?lnk ?lno ?ln_take ?ln_keep ?ln_pick ?ln_join ?ln_both ?ln_make ?ptu ?aTE ?tTE ?hTE ?hsn ?htk ?aTM ?xTM ?saTM ?gaTM ?ggTM ?caTM ?noTM ?iiTM ?tiTM ?liTM ?ciTM ?kcTM ?tyTM ?neTM ?fa0 ?fl0 ?fc0 ?fk0 ?fa1 ?fl1 ?fc1 ?fk1 ?fa2 ?fl2 ?fc2 ?fk2 ?fa3 ?fl3 ?fc3 ?fk3 ?fa4 ?fl4 ?fc4 ?fk4 ?fa5 ?fl5 ?fc5 ?fk5 ?fa6 ?fl6 ?fc6 ?fk6 ?fa7 ?fl7 ?fc7 ?fk7 ?fa8 ?fl8 ?fc8 ?fk8 ?fa9 ?fl9 ?fc9 ?fk9 ?fa10 ?fl10 ?fc10 ?fk10 ?fa11 ?fl11 ?fc11 ?fk11 ?fa12 ?fl12 ?fc12 ?fk12 ?fa13 ?fl13 ?fc13 ?fk13 ?fa14 ?fl14 ?fc14 ?fk14 ?fa15 ?fl15 ?fc15 ?fk15 ?fa16 ?fl16 ?fc16 ?fk16 ?fa17 ?fl17 ?fc17 ?fk17 ?fa18 ?fl18 ?fc18 ?fk18 ?fa19 ?fl19 ?fc19 ?fk19 ?fa20 ?fl20 ?fc20 ?fk20 ?fa21 ?fl21 ?fc21 ?fk21 ?fa22 ?fl22 ?fc22 ?fk22 ?fa23 ?fl23 ?fc23 ?fk23 ?fa24 ?fl24 ?fc24 ?fk24 ?fa25 ?fl25 ?fc25 ?fk25 ?fa26 ?fl26 ?fc26 ?fk26 ?fa27 ?fl27 ?fc27 ?fk27 ?fa28 ?fl28 ?fc28 ?fk28 ?fa29 ?fl29 ?fc29 ?fk29 ?fa30 ?fl30 ?fc30 ?fk30 ?fa31 ?fl31 ?fc31 ?fk31 ?fa32 ?fl32 ?fc32 ?fk32 ?fa33 ?fl33 ?fc33 ?fk33 ?fa34 ?fl34 ?fc34 ?fk34 ?fa35 ?fl35 ?fc35 ?fk35 ?fa36 ?fl36 ?fc36 ?fk36 ?fa37 ?fl37 ?fc37 ?fk37 ?fa38 ?fl38 ?fc38 ?fk38 ?z_isinstance ?z_tuple ?z_list ?z_len ?z_range ?z_bool ?z_str ?z_int ?z_all ?z_sum ?z_dict
    (case cMc => k_is)
    (case cMl => k_is)
    (case cGc => k_is)
    (case cMn => k_is)
    (case sgg => k_is)
    (case sgl => k_is)
    (case mkg => k_is)
    (case mkl => k_is)
    (case ptg => k_is)
    (case ptl => k_is)
    (case ptk => (repeat (refine ⟨⟨_, _, rfl, rfl⟩, ?_⟩)); trivial)
    (case pto => decide)
    (case pt_take => k_is)
    (case pt_keep => k_is)
    (case pt_pick => k_is)
    (case pt_join => k_is)
    (case pt_both => k_is)
    (case pt_make => k_is)
    (case lng => k_is)
    (case lnl => k_is)
    (case lnk => (repeat (refine ⟨⟨_, _, rfl, rfl⟩, ?_⟩)); trivial)
    (case lno => decide)
    (case ln_take => k_is)
    (case ln_keep => k_is)
    (case ln_pick => k_is)
    (case ln_join => k_is)
    (case ln_both => k_is)
    (case ln_make => k_is)
    (case ptu => (repeat (refine ⟨⟨_, _, rfl, by decide +kernel⟩, ?_⟩)); trivial)
    (case aTE => k_is)
    (case tTE => k_is)
    (case hTE => k_is)
    (case hsn => k_is)
    (case htk => k_is)
    (case aTM => k_is)
    (case xTM => k_is)
    (case saTM => k_is)
    (case gaTM => k_is)
    (case ggTM => k_is)
    (case caTM => k_is)
    (case noTM => k_is)
    (case iiTM => k_is)
    (case tiTM => k_is)
    (case liTM => k_is)
    (case ciTM => k_is)
    (case kcTM => k_is)
    (case tyTM => k_is)
    (case neTM => decide)
    (case fa0 => k_is)
    (case fl0 => k_is)
    (case fc0 => k_is)
    (case fk0 => k_is)
    (case fa1 => k_is)
    (case fl1 => k_is)
    (case fc1 => k_is)
    (case fk1 => k_is)
    (case fa2 => k_is)
    (case fl2 => k_is)
    (case fc2 => k_is)
    (case fk2 => k_is)
    (case fa3 => k_is)
    (case fl3 => k_is)
    (case fc3 => k_is)
    (case fk3 => k_is)
    (case fa4 => k_is)
    (case fl4 => k_is)
    (case fc4 => k_is)
    (case fk4 => k_is)
    (case fa5 => k_is)
    (case fl5 => k_is)
    (case fc5 => k_is)
    (case fk5 => k_is)
    (case fa6 => k_is)
    (case fl6 => k_is)
    (case fc6 => k_is)
    (case fk6 => k_is)
    (case fa7 => k_is)
    (case fl7 => k_is)
    (case fc7 => k_is)
    (case fk7 => k_is)
    (case fa8 => k_is)
    (case fl8 => k_is)
    (case fc8 => k_is)
    (case fk8 => k_is)
    (case fa9 => k_is)
    (case fl9 => k_is)
    (case fc9 => k_is)
    (case fk9 => k_is)
    (case fa10 => k_is)
    (case fl10 => k_is)
    (case fc10 => k_is)
    (case fk10 => k_is)
    (case fa11 => k_is)
    (case fl11 => k_is)
    (case fc11 => k_is)
    (case fk11 => k_is)
    (case fa12 => k_is)
    (case fl12 => k_is)
    (case fc12 => k_is)
    (case fk12 => k_is)
    (case fa13 => k_is)
    (case fl13 => k_is)
    (case fc13 => k_is)
    (case fk13 => k_is)
    (case fa14 => k_is)
    (case fl14 => k_is)
    (case fc14 => k_is)
    (case fk14 => k_is)
    (case fa15 => k_is)
    (case fl15 => k_is)
    (case fc15 => k_is)
    (case fk15 => k_is)
    (case fa16 => k_is)
    (case fl16 => k_is)
    (case fc16 => k_is)
    (case fk16 => k_is)
    (case fa17 => k_is)
    (case fl17 => k_is)
    (case fc17 => k_is)
    (case fk17 => k_is)
    (case fa18 => k_is)
    (case fl18 => k_is)
    (case fc18 => k_is)
    (case fk18 => k_is)
    (case fa19 => k_is)
    (case fl19 => k_is)
    (case fc19 => k_is)
    (case fk19 => k_is)
    (case fa20 => k_is)
    (case fl20 => k_is)
    (case fc20 => k_is)
    (case fk20 => k_is)
    (case fa21 => k_is)
    (case fl21 => k_is)
    (case fc21 => k_is)
    (case fk21 => k_is)
    (case fa22 => k_is)
    (case fl22 => k_is)
    (case fc22 => k_is)
    (case fk22 => k_is)
    (case fa23 => k_is)
    (case fl23 => k_is)
    (case fc23 => k_is)
    (case fk23 => k_is)
    (case fa24 => k_is)
    (case fl24 => k_is)
    (case fc24 => k_is)
    (case fk24 => k_is)
    (case fa25 => k_is)
    (case fl25 => k_is)
    (case fc25 => k_is)
    (case fk25 => k_is)
    (case fa26 => k_is)
    (case fl26 => k_is)
    (case fc26 => k_is)
    (case fk26 => k_is)
    (case fa27 => k_is)
    (case fl27 => k_is)
    (case fc27 => k_is)
    (case fk27 => k_is)
    (case fa28 => k_is)
    (case fl28 => k_is)
    (case fc28 => k_is)
    (case fk28 => k_is)
    (case fa29 => k_is)
    (case fl29 => k_is)
    (case fc29 => k_is)
    (case fk29 => k_is)
    (case fa30 => k_is)
    (case fl30 => k_is)
    (case fc30 => k_is)
    (case fk30 => k_is)
    (case fa31 => k_is)
    (case fl31 => k_is)
    (case fc31 => k_is)
    (case fk31 => k_is)
    (case fa32 => k_is)
    (case fl32 => k_is)
    (case fc32 => k_is)
    (case fk32 => k_is)
    (case fa33 => k_is)
    (case fl33 => k_is)
    (case fc33 => k_is)
    (case fk33 => k_is)
    (case fa34 => k_is)
    (case fl34 => k_is)
    (case fc34 => k_is)
    (case fk34 => k_is)
    (case fa35 => k_is)
    (case fl35 => k_is)
    (case fc35 => k_is)
    (case fk35 => k_is)
    (case fa36 => k_is)
    (case fl36 => k_is)
    (case fc36 => k_is)
    (case fk36 => k_is)
    (case fa37 => k_is)
    (case fl37 => k_is)
    (case fc37 => k_is)
    (case fk37 => k_is)
    (case fa38 => k_is)
    (case fl38 => k_is)
    (case fc38 => k_is)
    (case fk38 => k_is)
    (case z_isinstance => k_is)
    (case z_tuple => k_is)
    (case z_list => k_is)
    (case z_len => k_is)
    (case z_range => k_is)
    (case z_bool => k_is)
    (case z_str => k_is)
    (case z_int => k_is)
    (case z_all => k_is)
    (case z_sum => k_is)
    (case z_dict => k_is)

