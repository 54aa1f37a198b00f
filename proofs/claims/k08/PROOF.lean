import PyProof.Rows.All
import Wide.All
import OpenK.AllK
import Wide.FinOn
import KE.KDictKeyed
import KE.SortData
import KE.DataCmp
import HandS.ForMost
import HandS.Conv
import HandS.DictTup
import HandS.TupAny
import HandS.Walk
import HandS.ForExc
import HandS.Comp
import HandS.Text
import HandS.Codes
import HandS.IsInst
import HandS.More
import HandS.Wide
import HandS.ForDict
import KE.KDictPairs
import PyProof.ReprRoads
import PyProof.Rows.ReprR
import HandS.Ends
import PyProof.StrLawsRepr
import KE.KExcInit
import KE.KExcIs
import HandS.Exc
import HandS.ExcInit
import HandS.ExcValue
import HandS.ExcField
import HandS.TryOnly
import HandS.ExcIs
import HandS.DeepEq
import HandS.List
import HandS.SortKw
import PyProof.MinMaxWalk
import PyProof.WalkInts
import HandS.SetBool
import HandS.Set
import PyProof.ListIndex
import HandS.Rev
import HandS.RevRange
import HandS.WideBits
import HandS.TupSets
import PyProof.Rows.SetFrom
import HandS.SetFor
import PyProof.FactsAll.set_1
import PyProof.FactsAll.set_2
import PySem.Challenge.RW_ledgertrace_k08_whole_valuing_is_a_homom
set_option Elab.async false
set_option linter.all false
set_option maxRecDepth 100000
set_option maxHeartbeats 2000000
/-! dicts whose keys are tuples of pairs (text, int), their values ints -/
namespace Nd
open PySem PySem.Spec PyProof.Rows L2
abbrev Mono := List (Str × Int)
def mD (m : Mono) : PyData := .tuple (m.map fun p => .tuple [.str p.1, .int p.2])
def mK (m : Mono) : NestedKey := .tup (m.map fun p => .tup [.text p.1, .num p.2])
theorem mK_inj {m n : Mono} (h : mK m = mK n) : m = n := by
  have h' := NestedKey.tup.inj h
  revert n
  induction m with
  | nil =>
    intro n _ h'
    cases n with
    | nil => rfl
    | cons y r => simp at h'
  | cons x r ih =>
    intro n h h'
    cases n with
    | nil => simp at h'
    | cons y r' =>
      simp only [List.map_cons, List.cons.injEq, NestedKey.tup.injEq, NestedKey.text.injEq, NestedKey.num.injEq] at h'
      obtain ⟨⟨h1, h2, _⟩, h3⟩ := h'
      have := ih (n := r') (by show NestedKey.tup _ = NestedKey.tup _; rw [h3]) h3
      rw [this]
      obtain ⟨x1, x2⟩ := x
      obtain ⟨y1, y2⟩ := y
      simp only at h1 h2
      rw [h1, h2]
theorem mK_depth (m : Mono) : (mK m).depth ≤ 8 := by
  have h : ∀ m : Mono, NestedKey.depthAll (m.map fun p => .tup [.text p.1, .num p.2]) ≤ 1 := by
    intro m
    induction m with
    | nil => simp [NestedKey.depthAll]
    | cons x r ih => simp only [List.map_cons, NestedKey.depthAll, NestedKey.depth]; omega
  have := h m
  simp only [mK, NestedKey.depth]
  omega
section
variable {X : Cx} {pins : List (Addr × Obj)} {σ : L2.St} {H : Hp} {s : Shared}
theorem pair_is (I : Inv X pins σ H s) {v : V} {u : Value} {x : Str} {i : Int} (h : Dp X.K H v (.tuple [.str x, .int i])) (r : RelV v u) : NestedIs s.heap (.tup [.text x, .num i]) u := by
  cases h with
  | tup hs ha =>
    cases r
    obtain ⟨its, rv, ⟨o, ho, hc, n, hd⟩, _⟩ := I.tuple hs
    cases ha with
    | cons h1 ha =>
      cases ha with
      | cons h2 ha =>
        cases ha
        cases h1
        cases h2
        cases rv with
        | cons r1 rv =>
          cases rv with
          | cons r2 rv =>
            cases rv
            obtain ⟨t1, rfl⟩ := r1
            obtain ⟨t2, rfl⟩ := r2
            exact .tup ho hc hd (.cons (.text _ _) (.cons (.int _ _) .nil))
theorem pairs_are (I : Inv X pins σ H s) : ∀ {m : Mono} {vs : List V} {us : List Value}, DpAll X.K H vs (m.map fun p => .tuple [.str p.1, .int p.2]) → Vals vs us → NestedAll s.heap (m.map fun p => .tup [.text p.1, .num p.2]) us
  | [], _, _, h, r => by
    cases h
    cases r
    exact .nil
  | p :: m, _, _, h, r => by
    cases h with
    | cons h1 h2 =>
      cases r with
      | cons r1 r2 => exact .cons (pair_is I h1 r1) (pairs_are I h2 r2)
/-- a tuple that is a monomial is a key -/
theorem key_is (I : Inv X pins σ H s) {a : Addr} {m : Mono} (h : Dp X.K H (.ref a) (mD m)) : (nestedKind X.prog X.w).is s.heap (mK m) a := by
  cases h with
  | tup hs ha =>
    obtain ⟨its, rv, ⟨o, ho, hc, n, hd⟩, _⟩ := I.tuple hs
    exact ⟨.tup ho hc hd (by simpa using pairs_are I ha rv), mK_depth m⟩
end
/-- an entry: the key, its tuple, the value -/
abbrev Ent := Mono × Addr × Int
def EntR : List Ent → List (NestedKey × Addr × Value) → Prop := Paired fun p q => mK p.1 = q.1 ∧ p.2.1 = q.2.1 ∧ RelV (.int p.2.2) q.2.2
def ndO (P : Program) (w : World) (d : Addr) (es : List Ent) : HO := .ext fun h => es.length ≤ sizeLine ∧ (d == sysModules) = false ∧ ∃ xs, EntR es xs ∧
  ∃ o ds ep, h.get? d = some o ∧ o.ExactDict ∧ o.data = .dict ds ep ∧ ds.toList = xs.map (entryOfKey (nestedKind P w)) ∧ (xs.map (·.1)).Nodup
theorem ndO_ok {P : Program} {w : World} {H : Hp} {h : Heap} {d : Addr} {es : List Ent} {xs : List (NestedKey × Addr × Value)} (z : es.length ≤ sizeLine) (hd : (d == sysModules) = false) (r : EntR es xs)
    (k : ∃ o ds ep, h.get? d = some o ∧ o.ExactDict ∧ o.data = .dict ds ep ∧ ds.toList = xs.map (entryOfKey (nestedKind P w)) ∧ (xs.map (·.1)).Nodup) : ObjOk P w H h d (ndO P w d es) := by
  obtain ⟨o, ds, ep, ho, k⟩ := k
  refine ⟨⟨z, hd, xs, r, o, ds, ep, ho, k⟩, ⟨o, ho⟩, fun h1 h2 q kk => ?_⟩
  obtain ⟨z', hd', xs', r', o', ds', ep', ho', k'⟩ := q
  exact ⟨z', hd', xs', r', o', ds', ep', kk _ ho', k'⟩
/-- at d: such a dict -/
structure NdAt (K : PySem.W.Frag) (P : Program) (w : World) (H : Hp) (d : Addr) (es : List Ent) : Prop where
  at_ : H d = some (ndO P w d es)
  keys : ∀ e ∈ es, Dp K H (.ref e.2.1) (mD e.1)
/-- what the dict holds -/
def getN (es : List Ent) (m : Mono) : Option Int := (es.find? fun e => decide (e.1 = m)).map (·.2.2)
def putN (es : List Ent) (m : Mono) (a : Addr) (c : Int) : List Ent := if (getN es m).isSome then es.map fun e => if e.1 = m then (e.1, e.2.1, c) else e else es ++ [(m, a, c)]
theorem putN_len (es : List Ent) (m : Mono) (a : Addr) (c : Int) : (putN es m a c).length ≤ es.length + 1 := by
  unfold putN
  split
  · rw [List.length_map]; omega
  · rw [List.length_append]; exact Nat.le_refl _
theorem dec_mK (m n : Mono) : decide (mK m = mK n) = decide (m = n) := by
  by_cases h : m = n
  · rw [h, decide_eq_true rfl, decide_eq_true rfl]
  · rw [decide_eq_false h, decide_eq_false fun q => h (mK_inj q)]
theorem EntR.get : ∀ {es : List Ent} {xs : List (NestedKey × Addr × Value)} (m : Mono), EntR es xs → RelO ((getN es m).map V.int) ((atKey xs (mK m)).map (·.2))
  | [], _, m, r => by
    cases r
    exact True.intro
  | e :: es, _, m, r => by
    cases r with
    | @cons p q ps qs h t =>
      obtain ⟨h1, h2, h3⟩ := h
      have ih := EntR.get (es := es) m t
      have eq : decide (q.1 = mK m) = decide (e.1 = m) := by rw [← h1, dec_mK]
      unfold getN atKey at ih ⊢
      rw [List.find?_cons, List.find?_cons, eq]
      cases hb : decide (e.1 = m) with
      | true => exact h3
      | false => exact ih
theorem EntR.put {es : List Ent} {xs : List (NestedKey × Addr × Value)} (m : Mono) {a : Addr} {c : Int} {u : Value} (r : EntR es xs) (ru : RelV (.int c) u) : EntR (putN es m a c) (storedH xs (mK m) a u) := by
  have e : (getN es m).isSome = (atKey xs (mK m)).isSome := by
    have q := (r.get m).isSome_eq
    rw [Option.isSome_map, Option.isSome_map] at q
    exact q
  unfold putN storedH
  rw [e]
  by_cases q : (atKey xs (mK m)).isSome = true
  · rw [if_pos q, if_pos q]
    clear e q
    induction r with
    | nil => exact .nil
    | @cons p x ps xs' h t ih =>
      refine .cons ?_ ih
      obtain ⟨h1, h2, h3⟩ := h
      unfold putAt
      dsimp only
      by_cases z : p.1 = m
      · rw [if_pos z, if_pos (by rw [← h1, z])]
        exact ⟨h1, h2, ru⟩
      · rw [if_neg z, if_neg (fun y => z (mK_inj (by rw [h1, y])))]
        exact ⟨h1, h2, h3⟩
  · rw [if_neg q, if_neg q]
    exact Paired.snoc r ⟨rfl, rfl, ru⟩
theorem EntR.len {es : List Ent} {xs : List (NestedKey × Addr × Value)} (r : EntR es xs) : es.length = xs.length := Paired.length r
section
variable {X : Cx} {pins : List (Addr × Obj)} {σ : L2.St} {H : Hp} {s : Shared} {d : Addr} {es : List Ent} {A : Around} {E : Value → Shared → Prop}
theorem EntR.all {es : List Ent} {xs : List (NestedKey × Addr × Value)} {h : Heap} {P : Program} {w : World} (r : EntR es xs) (k : ∀ e ∈ es, (nestedKind P w).is h (mK e.1) e.2.1) : ∀ x ∈ xs, (nestedKind P w).is h x.1 x.2.1 := by
  induction r with
  | nil => intro x hx; exact nomatch hx
  | @cons p q ps qs hq t ih =>
    intro x hx
    rcases List.mem_cons.mp hx with e | hx
    · subst e
      have z := k p List.mem_cons_self
      rw [hq.1, hq.2.1] at z
      exact z
    · exact ih (fun e he => k e (List.mem_cons_of_mem _ he)) x hx
theorem NdAt.open (I : Inv X pins σ H s) (n : NdAt X.K X.prog X.w H d es) : es.length ≤ sizeLine ∧ (d == sysModules) = false ∧ ∃ xs, EntR es xs ∧ s.heap.DictOfH (nestedKind X.prog X.w) d xs := by
  obtain ⟨⟨z, hd, xs, r, o, ds, ep, ho, h2, h3, h4, h5⟩, _⟩ : ObjOk X.prog X.w H s.heap d (ndO X.prog X.w d es) := I.hok d _ n.at_
  exact ⟨z, hd, xs, r, o, ds, ep, ho, h2, h3, h4, r.all fun e he => key_is I (n.keys e he), h5⟩
theorem room_in1 (hu : A.units + 9 < cLine) : (nestedKind X.prog X.w).room A.in1 := by
  show A.units + 1 + 8 < cLine
  omega
theorem nd_typeIs (I : Inv X pins σ H s) (n : NdAt X.K X.prog X.w H d es) : s.TypeIs (.ref d) "dict" := by
  obtain ⟨_, _, xs, _, dd⟩ := n.open I
  exact dd.typeIs
theorem nd_noDict (I : Inv X pins σ H s) (n : NdAt X.K X.prog X.w H d es) : ∀ b, Value.ref d = .ref b → ∃ ob, s.heap.get? b = some ob ∧ ob.dict = none := fun b q => by
  cases q
  obtain ⟨_, _, xs, _, ob, _, _, h1, h2, _⟩ := n.open I
  exact ⟨ob, h1, h2.2.1⟩
/-! ### {} -/
def tNdNew (P : Program) (w : World) : TE := fun _ H Q => ∀ p, H p = none → Q (.ref p) (upd H p (ndO P w p []))
theorem pe_ndNew {pos : Pos} : PE X (.Dict [] [] pos) (tNdNew X.prog X.w) := ⟨fun pins s σ H Q I h =>
  wpAny_Dict_empty ⟨.ref s.heap.objs.size, _, I.laid (a := s.heap.objs.size) (o := ndO X.prog X.w s.heap.objs.size []) (t' := s.toks) (fun _ _ q => Heap.get?_push_of_some _ q) (Nat.le_refl _)
    (ndO_ok (Nat.zero_le _) (beq_eq_false_iff_ne.mpr (Ne.symm (Nat.ne_of_lt I.big))) .nil ⟨_, #[], 0, Heap.get?_push_size _ rfl, ⟨rfl, rfl, rfl⟩, rfl, rfl, List.nodup_nil⟩), rfl, h _ (I.hok.fresh (Nat.le_refl _))⟩⟩
/-! ### d[m] -/
def tNdGet (K : PySem.W.Frag) (P : Program) (w : World) (td ty : TE) : TE := fun σ H Q => td σ H fun x H1 => ty σ H1 fun y H2 => ∃ (d a : Addr) (es : List Ent) (m : Mono) (c : Int), x = .ref d ∧ y = .ref a ∧ NdAt K P w H2 d es ∧ Dp K H2 (.ref a) (mD m) ∧ getN es m = some c ∧ Q (.int c) H2
theorem pe_ndGet {o i : Expr} {td ty : TE} {pos : Pos} (hu : X.A.units + 9 < cLine) (ho : PE X o td) (hi : PE X i ty) (hs : NoSl i) : PE X (.Subscript o i pos) (tNdGet X.K X.prog X.w td ty) := by
  refine ⟨fun pins s σ H Q I h => ?_⟩
  refine subD_of PySem.F.slot_dict_getitem.lookup hs (thn (ho.run pins s σ H _ I h) fun u s1 ⟨x, H1, I1, rx, q1⟩ => thn (hi.run pins s1 σ H1 _ I1 q1) fun iv s2 ⟨y, H2, I2, ry, d, a, es, m, c, ex, ey, n, hm, hg, q2⟩ => ?_)
  subst ex ey
  obtain rfl : u = Value.ref d := rx
  obtain rfl : iv = Value.ref a := ry
  obtain ⟨z, hd, xs, rel, dd⟩ := n.open I2
  obtain ⟨w', hw, rw'⟩ := RelO.some_of (v := V.int c) (o := (atKey xs (mK m)).map (·.2)) (by have q := rel.get m; rw [hg] at q; exact q)
  obtain ⟨p, hp, hp2⟩ := Option.map_eq_some_iff.mp hw
  refine ⟨dd.typeIs, wpAny_getItem_heap (room_in1 hu) (key_is I2 hm) dd hp ?_⟩
  rw [hp2]
  exact ⟨.int c, H2, I2.tok _, rw', q2⟩
/-! ### d.get(m, 0) -/
def tNdGetOr (K : PySem.W.Frag) (P : Program) (w : World) (td ty tx : TE) : TE := fun σ H Q => td σ H fun x H1 => ∃ (d : Addr) (es : List Ent), x = .ref d ∧ NdAt K P w H1 d es ∧ ty σ H1 fun y H2 => tx σ H2 fun z H3 => ∃ (a : Addr) (m : Mono) (i : Int), y = .ref a ∧ z = .int i ∧
  NdAt K P w H3 d es ∧ Dp K H3 (.ref a) (mD m) ∧ Q (.int ((getN es m).getD i)) H3
theorem pe_ndGetOr {o e f : Expr} {apos cpos : Pos} {td ty tx : TE} (hu : X.A.units + 9 < cLine) (ho : PE X o td) (he : PE X e ty) (hf : PE X f tx) (m : M2 X o "get" apos e f cpos) : PE X (.Call (.Attribute o "get" apos) [e, f] [] cpos) (tNdGetOr X.K X.prog X.w td ty tx) := by
  refine ⟨fun pins s σ H Q I h => ?_⟩
  refine wpAny_Call_method m.base m.few m.line PySem.F.plainAttrs_dict PySem.F.slot_dict_get PySem.F.type_dict_get (thn (ho.run pins s σ H _ I h) fun u s1 ⟨x, H1, I1, rx, d, es, ex, n, q1⟩ => ?_)
  subst ex
  obtain rfl : u = Value.ref d := rx
  refine ⟨nd_typeIs I1 n, nd_noDict I1 n, ?_⟩
  rw [m.trees]
  refine Calls.callWith_builtin rfl (Calls.evalArgs_plain (Calls.spliced_cons (thn (he.run pins s1 σ H1 _ I1 q1) fun iv s2 ⟨y, H2, I2, ry, q2⟩ =>
    Calls.spliced_cons (thn (hf.run pins s2 σ H2 _ I2 q2) fun fv s3 ⟨z, H3, I3, rz, a, mm, i, ey, ez, n3, hm, q3⟩ => Calls.spliced_nil ?_))))
  subst ey ez
  obtain rfl : iv = Value.ref a := ry
  obtain ⟨z, hd, xs, rel, dd⟩ := n3.open I3
  refine call_meetsIn PySem.F.slot_dict_get dd.typeIs PySem.F.entry_dict_get (PySem.F.args_dict_get_3 _ _ _) (meetsH_dict_get_default (nestedKind X.prog X.w) d a hd fv) ⟨room_in1 hu, mK mm, xs, key_is I3 hm, dd, ?_⟩
  refine ⟨.int ((getN es mm).getD i), H3, I3.tok _, ?_, q3⟩
  have q := (rel.get mm).getD (show RelV (.int i) fv from rz)
  have e : ((getN es mm).map V.int).getD (V.int i) = V.int ((getN es mm).getD i) := by cases getN es mm <;> rfl
  rw [e] at q
  exact q
/-! ### d[m] = c -/
theorem NdAt.put (n : NdAt X.K X.prog X.w H d es) {m : Mono} {a : Addr} {c : Int} (hm : Dp X.K H (.ref a) (mD m)) (dp : ∀ v e, Dp X.K H v e → Dp X.K (upd H d (ndO X.prog X.w d (putN es m a c))) v e) :
    NdAt X.K X.prog X.w (upd H d (ndO X.prog X.w d (putN es m a c))) d (putN es m a c) := by
  refine ⟨upd_same, fun e he => dp _ _ ?_⟩
  unfold putN at he
  split at he
  · obtain ⟨e0, h0, rfl⟩ := List.mem_map.mp he
    split
    · exact n.keys e0 h0
    · exact n.keys e0 h0
  · rcases List.mem_append.mp he with h | h
    · exact n.keys e h
    · rw [List.mem_singleton.mp h]
      exact hm
def rNdSet (K : PySem.W.Frag) (P : Program) (w : World) : TSet := fun o i v H Q => ∃ (d a : Addr) (es : List Ent) (m : Mono) (c : Int), o = .ref d ∧ i = .ref a ∧ v = .int c ∧ NdAt K P w H d es ∧ Dp K H (.ref a) (mD m) ∧ es.length < sizeLine ∧ Q (upd H d (ndO P w d (putN es m a c)))
theorem set_nd (hu : X.A.units + 9 < cLine) : PSet X (rNdSet X.K X.prog X.w) := by
  intro pins s σ H o i v ov iv u Q I ro ri rv h
  obtain ⟨d, a, es, m, c, rfl, rfl, rfl, n, hm, hl, q⟩ := h
  obtain rfl : ov = Value.ref d := ro
  obtain rfl : iv = Value.ref a := ri
  obtain ⟨z, hd, xs, rel, dd⟩ := n.open I
  have hz : xs.length ≤ sizeLine := by rw [← rel.len]; exact z
  refine wpAny_setItem_heap (hsz := hz) (room_in1 hu) (key_is I hm) dd fun h' dd' hs => ?_
  obtain ⟨ob, ds, ep, hq, h2, h3, h4, _, h5⟩ := dd'
  refine ⟨_, d_write I (by rw [n.at_]; exact True.intro) hs ⟨ob, hq⟩ (ndO_ok ?_ hd (rel.put m rv) ⟨ob, ds, ep, hq, h2, h3, h4, h5⟩), q⟩
  have := putN_len es m a c
  omega
/-! ### len(d) -/
theorem len_body {P : Program} {w : World} {A : Around} {E : Value → Shared → Prop} {s : Shared} {d : Addr} {ds : Array DictEntry} {ep : Nat} {Q : Value → Shared → Prop} (hd : (d == sysModules) = false) (hm : s.heap.DictRaw d ds ep) (hfit : (ds.size : Int) < 2 ^ 63)
    (h : Q (.int ds.size (s.toks + 1)) { s with toks := s.toks + 1 + 1 }) : wpAny (model P w) A (Builtin.«len» ⟨[.ref d], []⟩) (fun fin s' => ∃ r, fin = .done (.ret r) ∧ Q r s') E s := by
  unfold Builtin.«len»
  refine wpAny_bind (m := oneArg "len" _) (wpAny_pure ?_)
  refine wpAny_bind (m := callSpecial? (.ref d) (Str.ofString "__len__")) ?_
  refine wpAny_callSpecial?_slot (name := Str.ofString "__len__") hm.typeIs PySem.F.slot_dict_len ?_
  refine call_meetsIn PySem.F.slot_dict_len hm.typeIs PySem.F.entry_dict_len (PySem.F.args_dict_len_1 _) (PySem.meets_dict_len_raw d hd) ⟨ds, ep, hm, ?_⟩
  show wpAny _ _ _ _ _ { s with toks := s.toks + 1 }
  refine wpAny_bind (wpAny_holding (wpAny_pure ?_))
  refine wpAny_bind (wpAny_letGo ?_)
  show wpAny _ _ (if ((ds.size : Nat) : Int) < 0 then _ else _) _ _ _
  rw [if_neg (by omega)]
  show wpAny _ _ (if ((ds.size : Nat) : Int) ≥ 2 ^ 63 then _ else _) _ _ _
  rw [if_neg (by omega)]
  exact wpAny_bind (wpAny_mkInt (wpAny_pure ⟨_, rfl, h⟩))
theorem call_lenNd : CallR X (.builtin "len") (fun xs H Q => ∃ (d : Addr) (es : List Ent), xs = [V.ref d] ∧ NdAt X.K X.prog X.w H d es ∧ Q (.int es.length) H) := by
  intro pins s σ H xs us Q I r h
  obtain ⟨d, es, rfl, n, q⟩ := h
  obtain ⟨u, rfl, ru⟩ := vals1 r
  cases ru
  obtain ⟨z, hd, xs, rel, o, ds, ep, ho, hx, hdt, he, _, _⟩ := n.open I
  have e1 : ds.size = es.length := by rw [size_of_entries he, rel.len]
  refine Calls.call_function_entry kind_len plain_len entry_len (args_len1 _) (len_body (ds := ds) (ep := ep) hd ⟨o, ho, hx, hdt⟩ (by rw [e1]; rw [sizeLine_eq] at z; omega) ?_)
  rw [e1]
  exact ⟨.int es.length, H, I.tok _, ⟨_, rfl⟩, q⟩
end
end Nd


set_option Elab.async false
set_option linter.all false
set_option maxRecDepth 100000
set_option maxHeartbeats 2000000
namespace Nd
open PySem PySem.Spec PyProof.Rows L2
/-! ### < of data -/
section
variable {X : Cx}
def rLtD (K : PySem.W.Frag) : R2 := fun x y H Q => ∃ d e, Dp K H x d ∧ Dp K H y e ∧ PySem.W.alike d e = true ∧ d ≠ .none ∧ d.depth ≤ 20 ∧ Q (.bl (PySem.W.dataLt d e)) H
theorem op_ltD (hu : X.A.units + 64 < cLine) : OpR X (compareOp .Lt) (rLtD X.K) := by
  intro pins s σ H x y v u Q I rx ry h
  obtain ⟨d, e, hd, he, ha, hn, hp, q⟩ := h
  obtain ⟨as, r1⟩ := Dp.reads I d x v hd rx
  obtain ⟨bs, r2⟩ := Dp.reads I e y u he ry
  exact PySem.W.lt_data r1 r2 ha hn (by omega) ⟨.bl _, H, I, rfl, q⟩
end
mutual
theorem dp_same {K : PySem.W.Frag} {H H' : Hp} (s : Same H H') : ∀ {v : V} {d : PyData}, Dp K H v d → Dp K H' v d
  | _, _, .non => .non
  | _, _, .bl b => .bl b
  | _, _, .int i => .int i
  | _, _, .str x => .str x
  | _, _, .lst h a => .lst (s.seq h) (dpAll_same s a)
  | _, _, .tup h a => .tup (by
      rcases h with (h | ⟨o, h⟩) | h
      · exact .inl (.inl (s _ _ h))
      · exact .inl (.inr ⟨o, s _ _ h⟩)
      · exact .inr h) (dpAll_same s a)
theorem dpAll_same {K : PySem.W.Frag} {H H' : Hp} (s : Same H H') : ∀ {v : List V} {d : List PyData}, DpAll K H v d → DpAll K H' v d
  | _, _, .nil => .nil
  | _, _, .cons h t => .cons (dp_same s h) (dpAll_same s t)
end
mutual
theorem reads_lt {h : Heap} : ∀ {v : Value} {d : PyData} {as : List Addr}, Reads h v d as → ∀ a ∈ as, a < h.objs.size
  | _, _, _, .none => fun a ha => nomatch ha
  | _, _, _, .bool _ => fun a ha => nomatch ha
  | _, _, _, .int _ _ => fun a ha => nomatch ha
  | _, _, _, .str _ _ => fun a ha => nomatch ha
  | _, _, _, .list ho _ _ hr => fun a ha => by
    rcases List.mem_cons.mp ha with e | ha
    · rw [e]
      exact Heap.lt_size ho
    · exact readsAll_lt hr a ha
  | _, _, _, .tuple _ _ _ hr => readsAll_lt hr
  | _, _, _, .dict ho _ _ h1 h2 => fun a ha => by
    rcases List.mem_append.mp ha with ha | ha
    · rcases List.mem_cons.mp ha with e | ha
      · rw [e]
        exact Heap.lt_size ho
      · exact readsAll_lt h1 a ha
    · exact readsAll_lt h2 a ha
theorem readsAll_lt {h : Heap} : ∀ {v : List Value} {d : List PyData} {as : List Addr}, ReadsAll h v d as → ∀ a ∈ as, a < h.objs.size
  | _, _, _, .nil => fun a ha => nomatch ha
  | _, _, _, .cons h1 h2 => fun a ha => by
    rcases List.mem_append.mp ha with ha | ha
    · exact reads_lt h1 a ha
    · exact readsAll_lt h2 a ha
end
/-! ### the entries of a dict, of either kind -/
def DEnt (K : PySem.W.Frag) (P : Program) (w : World) (H : Hp) (d : Addr) (prs : List (V × V)) : Prop :=
  (∃ kvs : List (Key × V), H d = some (.dK kvs) ∧ prs = kvs.map fun kv => (kV kv.1, kv.2)) ∨ ∃ es : List Ent, NdAt K P w H d es ∧ prs = es.map fun e => (V.ref e.2.1, V.int e.2.2)
theorem DEnt.k {K : PySem.W.Frag} {P : Program} {w : World} {H : Hp} {d : Addr} {kvs : List (Key × V)} (h : H d = some (.dK kvs)) : DEnt K P w H d (kvs.map fun kv => (kV kv.1, kv.2)) := .inl ⟨kvs, h, rfl⟩
theorem DEnt.n {K : PySem.W.Frag} {P : Program} {w : World} {H : Hp} {d : Addr} {es : List Ent} (h : NdAt K P w H d es) : DEnt K P w H d (es.map fun e => (V.ref e.2.1, V.int e.2.2)) := .inr ⟨es, h, rfl⟩
section
variable {X : Cx} {pins : List (Addr × Obj)} {σ : L2.St} {H : Hp} {s : Shared} {d : Addr} {prs : List (V × V)}
theorem DEnt.raw (I : Inv X pins σ H s) (h : DEnt X.K X.prog X.w H d prs) : (d == sysModules) = false ∧ prs.length ≤ sizeLine ∧ ∃ ds ep, DT.Raw s.heap d ds ep ∧ ds.size = prs.length ∧
    ∀ (j : Nat) (pr : V × V), prs[j]? = some pr → ∃ en, ds[j]? = some en ∧ L2.RelV pr.1 en.key ∧ L2.RelV pr.2 en.val := by
  rcases h with ⟨kvs, hd, rfl⟩ | ⟨es, n, rfl⟩
  · obtain ⟨z, hs, vs, kv, o, ds, ep, ho, hx, hdt, hko, hpr, hnd⟩ := dk_of I.hok hd
    have l1 : ds.size = kvs.length := by rw [← Array.length_toList, hpr.length, kv.length]
    refine ⟨hs, by rw [List.length_map]; exact z, ds, ep, ⟨o, ho, hx, hdt⟩, by rw [List.length_map, l1], fun j pr hj => ?_⟩
    rw [List.getElem?_map] at hj
    cases q : kvs[j]? with
    | none => rw [q] at hj; cases hj
    | some e =>
      rw [q] at hj
      cases hj
      obtain ⟨k, v⟩ := e
      obtain ⟨u, hu, ru⟩ := kv_get kv q
      have hj2 : j < ds.toList.length := by
        rw [Array.length_toList, l1]
        exact (List.getElem?_eq_some_iff.mp q).1
      have hen : ds.toList[j]? = some ds.toList[j] := List.getElem?_eq_getElem hj2
      obtain ⟨k1, k2⟩ := hpr.get? hen hu
      refine ⟨ds.toList[j], by rw [← Array.getElem?_toList]; exact hen, relV_key k1, ?_⟩
      rw [k2]
      exact ru
  · obtain ⟨z, hs, xs, rel, o, ds, ep, ho, hx, hdt, he, _, _⟩ := n.open I
    refine ⟨hs, by rw [List.length_map]; exact z, ds, ep, ⟨o, ho, hx, hdt⟩, by rw [List.length_map, size_of_entries he, rel.len], fun j pr hj => ?_⟩
    rw [List.getElem?_map] at hj
    cases q : es[j]? with
    | none => rw [q] at hj; cases hj
    | some e =>
      rw [q] at hj
      cases hj
      obtain ⟨x, hx', h1, h2, h3⟩ := paired_get rel q
      refine ⟨entryOfKey (nestedKind X.prog X.w) x, ?_, ?_, h3⟩
      · rw [entry_at he j, hx']
        rfl
      · show L2.RelV (.ref e.2.1) (.ref x.2.1)
        rw [h2]
        rfl
theorem DEnt.noDict (I : Inv X pins σ H s) (h : DEnt X.K X.prog X.w H d prs) : ∀ b, Value.ref d = .ref b → ∃ ob, s.heap.get? b = some ob ∧ ob.dict = none := fun b q => by
  cases q
  obtain ⟨_, _, ds, ep, ⟨o, ho, hx, _⟩, _⟩ := h.raw I
  exact ⟨o, ho, hx.2.1⟩
/-! ### d.items() as a value -/
def tItemsV (K : PySem.W.Frag) (P : Program) (w : World) (td : TE) : TE := fun σ H Q => td σ H fun x H1 => ∃ (d : Addr) (prs : List (V × V)), x = .ref d ∧ DEnt K P w H1 d prs ∧ ∀ p, H1 p = none → Q (.ref p) (upd H1 p (L2.DX.itemsO p d))
theorem pe_itemsV {e : Expr} {td : TE} {apos cpos : Pos} (he : PE X e td) (hbase : attributeBase e "items" X.env (eval e X.env) = eval e X.env := by rfl) (hline : (apos.endLine == cpos.line) = true := by rfl) :
    PE X (.Call (.Attribute e "items" apos) [] [] cpos) (tItemsV X.K X.prog X.w td) := by
  refine ⟨fun pins s σ H Q I h => ?_⟩
  refine wpAny_Call_method (T := "dict") (id := "dict.items") hbase rfl hline PySem.F.plainAttrs_dict PySem.F.slot_dict_items PySem.F.type_dict_items (thn (he.run pins s σ H _ I h) fun u s1 ⟨x, H1, I1, rx, d, prs, ex, n, q⟩ => ?_)
  subst ex
  obtain rfl : u = Value.ref d := rx
  obtain ⟨hs, _, ds, ep, hraw, _⟩ := n.raw I1
  refine ⟨hraw.typeIs, n.noDict I1, ?_⟩
  show wpAny _ _ (callWith cpos (.builtin "dict.items") [.ref d] [] []) _ X.xe s1
  refine method_meetsIn PySem.F.slot_dict_items PySem.F.entry_dict_items rfl (PySem.evalArgs_none ⟨rfl, hraw.typeIs, PySem.F.args_dict_items_1 _, _, DT.meetsItems (es := ds) (ep := ep) hs, hraw, ?_⟩)
  have hf : H1 s1.heap.objs.size = none := I1.hok.fresh (Nat.le_refl _)
  exact ⟨.ref s1.heap.objs.size, upd H1 s1.heap.objs.size (L2.DX.itemsO s1.heap.objs.size d), I1.laid (t' := s1.toks) (fun b u e => Heap.get?_push_of_some _ e) (Nat.le_refl _) (L2.DX.itemsO_ok (Heap.get?_push_size _ rfl)), rfl, q _ hf⟩
end
end Nd


set_option Elab.async false
set_option linter.all false
set_option maxRecDepth 100000
set_option maxHeartbeats 4000000
namespace Nd
open PySem PySem.Spec PyProof.Rows L2
/-! ### sorted(d.items()) -/
section
variable {X : Cx}
/-- the data of the pairs -/
def PrD (K : PySem.W.Frag) (H : Hp) : List (V × V) → List PyData → Prop := Paired fun pr dt => ∃ a c, dt = .tuple [a, c] ∧ Dp K H pr.1 a ∧ Dp K H pr.2 c
def rSortItems (K : PySem.W.Frag) (P : Program) (w : World) : List V → Hp → VK → Prop := fun xs H Q => ∃ (p d : Addr) (prs : List (V × V)) (dts : List PyData), xs = [.ref p] ∧ H p = some (L2.DX.itemsO p d) ∧ DEnt K P w H d prs ∧ PrD K H prs dts ∧
  PySem.W.AllAlike dts ∧ (∀ t ∈ dts, t.depth ≤ 20) ∧ ∀ (l : Addr) (H' : Hp) (ys : List V), H l = none → Same H H' → H' l = some (.lst ys) → DpAll K H' ys (dts.mergeSort (PySem.W.dataLe false id)) → Q (.ref l) H'
/-- a made pair in the heap -/
def MadeP (K : PySem.W.Frag) (H : Hp) (h : Heap) (as : List Addr) (v : Value) (dt : PyData) : Prop := ∃ (b : Addr) (pr : V × V) (k u : Value), v = .ref b ∧ b ∈ as ∧ h.get? b = some { cls := .type "tuple", data := .seq #[k, u] } ∧
  L2.RelV pr.1 k ∧ L2.RelV pr.2 u ∧ ∃ a c, dt = .tuple [a, c] ∧ Dp K H pr.1 a ∧ Dp K H pr.2 c
theorem eachIs_of {α β : Type} {R : α → β → Prop} : ∀ {as : List α} {bs : List β}, as.length = bs.length → (∀ (j : Nat) (a : α) (b : β), as[j]? = some a → bs[j]? = some b → R a b) → PySem.W.EachIs R as bs
  | [], [], _, _ => .nil
  | a :: as, b :: bs, hl, h => .cons (h 0 a b rfl rfl) (eachIs_of (by simpa using hl) fun j x y e1 e2 => h (j + 1) x y (by simpa using e1) (by simpa using e2))
  | [], _ :: _, hl, _ => by simp at hl
  | _ :: _, [], hl, _ => by simp at hl
theorem madeP_refs {K : PySem.W.Frag} {H : Hp} {h : Heap} {as : List Addr} : ∀ {vs : List Value} {ds : List PyData}, PySem.W.EachIs (MadeP K H h as) vs ds → ∃ bs : List Addr, vs = bs.map Value.ref ∧ Vals (bs.map V.ref) vs ∧
    (∀ (j : Nat) (b : Addr) (dt : PyData), bs[j]? = some b → ds[j]? = some dt → MadeP K H h as (.ref b) dt) ∧ bs.length = ds.length
  | _, _, .nil => ⟨[], rfl, .nil, fun j b dt h => (by simp at h), rfl⟩
  | _, _, .cons h t => by
    obtain ⟨bs, e, r, q, l⟩ := madeP_refs t
    obtain ⟨b, pr, k, u, rfl, hb⟩ := id h
    refine ⟨b :: bs, by rw [e]; rfl, .cons rfl r, fun j c dt h1 h2 => ?_, by simp [l]⟩
    cases j with
    | zero =>
      simp only [List.getElem?_cons_zero, Option.some.injEq] at h1 h2
      subst h1 h2
      exact h
    | succ j =>
      simp only [List.getElem?_cons_succ] at h1 h2
      exact q j c dt h1 h2
theorem dpAll_of {K : PySem.W.Frag} {H : Hp} : ∀ {bs : List Addr} {ds : List PyData}, bs.length = ds.length → (∀ (j : Nat) (b : Addr) (dt : PyData), bs[j]? = some b → ds[j]? = some dt → Dp K H (.ref b) dt) → DpAll K H (bs.map V.ref) ds
  | [], [], _, _ => .nil
  | b :: bs, d :: ds, hl, h => .cons (h 0 b d rfl rfl) (dpAll_of (by simpa using hl) fun j x y e1 e2 => h (j + 1) x y (by simpa using e1) (by simpa using e2))
  | [], _ :: _, hl, _ => by simp at hl
  | _ :: _, [], hl, _ => by simp at hl
theorem cr_sortItems (hc : X.calm = true) (hu : X.A.units + 64 < cLine) : CallR X (.builtin "sorted") (rSortItems X.K X.prog X.w) := by
  intro pins s σ H xs us Q I r h
  obtain ⟨p, d, prs, dts, rfl, hp, hD, hP, hal, hdep, q⟩ := h
  obtain rfl := Vals.ref1 r
  have view : s.heap.IsItemsView p d := (show ObjOk X.prog X.w H s.heap p (L2.DX.itemsO p d) from I.hok p _ hp).1
  obtain ⟨hs, hz, ds, ep, hraw, hsz, hent⟩ := hD.raw I
  have hh : X.A.handled = none := I.ok.hd hc
  refine DT.sortedI (es := ds) (ep := ep) hh view hraw (by rw [hsz]; exact hz) fun h' tk as hk hlt hl hG => ?_
  have lp : prs.length = dts.length := Paired.length hP
  have nd : as.Nodup := List.Pairwise.imp (fun h => Nat.ne_of_lt h) hG.rise
  have hob : (h'.push { cls := .type "list", data := .seq (as.map Value.ref).toArray }).get? h'.objs.size = some (seqObj "list" (as.map Value.ref).toArray 0) := Heap.get?_push_size _ rfl
  have kb : ∀ b o, s.heap.get? b = some o → (h'.push { cls := .type "list", data := .seq (as.map Value.ref).toArray }).get? b = some o := fun b o e => Heap.get?_push_of_some _ (hk b o e)
  have ne0 : ∀ b o, h'.get? b = some o → b ≠ h'.objs.size := fun b o e => Nat.ne_of_lt (Heap.lt_size e)
  generalize hh2 : h'.push { cls := .type "list", data := .seq (as.map Value.ref).toArray } = h2 at hob kb ⊢
  have ka : ∀ b o, h'.get? b = some o → h2.get? b = some o := fun b o e => by rw [← hh2]; exact Heap.get?_push_of_some _ e
  have made : PySem.W.EachIs (MadeP X.K H h' as) (as.map Value.ref) dts := by
    refine eachIs_of (by rw [List.length_map, hl, hsz, lp]) fun j v dt hj hd => ?_
    rw [List.getElem?_map] at hj
    cases qa : as[j]? with
    | none => rw [qa] at hj; cases hj
    | some b =>
      rw [qa] at hj
      cases hj
      obtain ⟨en, he, hg⟩ := hG.pairs j b qa
      have hjp : j < prs.length := by rw [lp]; exact (List.getElem?_eq_some_iff.mp hd).1
      obtain ⟨en', he', r1, r2⟩ := hent j _ (List.getElem?_eq_getElem hjp)
      rw [he] at he'
      cases he'
      obtain ⟨dt', hd', hpd⟩ := paired_get hP (List.getElem?_eq_getElem hjp)
      rw [hd] at hd'
      cases hd'
      exact ⟨b, prs[j], en.key, en.val, rfl, List.mem_of_getElem? qa, hg, r1, r2, hpd⟩
  have reads : PySem.W.EachIs (fun v dt => ∃ rs, Reads h2 v (id dt) rs ∧ h'.objs.size ∉ rs) (as.map Value.ref) dts := made.mono fun v dt ⟨b, pr, k, u, ev, hb, hg, r1, r2, a, c, ed, d1, d2⟩ => by
    subst ev ed
    obtain ⟨as1, q1⟩ := Dp.reads I a _ _ d1 r1
    obtain ⟨as2, q2⟩ := Dp.reads I c _ _ d2 r2
    have q1' := PyProof.Rows.Reads.keeps kb q1
    have q2' := PyProof.Rows.Reads.keeps kb q2
    refine ⟨_, Reads.tuple (ka _ _ hg) rfl rfl (ReadsAll.cons q1' (ReadsAll.cons q2' ReadsAll.nil)), fun hm => ?_⟩
    have : h'.objs.size < s.heap.objs.size := by
      rcases List.mem_append.mp hm with hm | hm
      · exact reads_lt q1 _ hm
      · rcases List.mem_append.mp hm with hm | hm
        · exact reads_lt q2 _ hm
        · exact nomatch hm
    omega
  have hsort : PySem.W.Sortable (dts.map id) := .inl fun t ht => by
    rw [List.map_id] at ht
    obtain ⟨j, hj⟩ := List.mem_iff_getElem?.mp ht
    have hjp : j < prs.length := by rw [lp]; exact (List.getElem?_eq_some_iff.mp hj).1
    obtain ⟨dt', hd', a, c, e, _⟩ := paired_get hP (List.getElem?_eq_getElem hjp)
    rw [hj] at hd'
    cases hd'
    exact ⟨a, [c], e⟩
  refine PySem.W.list_sort_data (s := { s with heap := h2, toks := tk }) (R := MadeP X.K H h' as) (enc := id) hob made reads (by rw [List.map_id]; exact hal) hsort (by rw [← lp]; exact hz) (fun b hb => ?_) fun out hlen hout => ?_
  · have := hdep b hb
    show X.A.in1.units + 1 + (id b).depth < cLine
    show X.A.units + 1 + 1 + b.depth < cLine
    omega
  show EP X pins σ Q (.ref h'.objs.size) { s with heap := sortedHeap h2 h'.objs.size (as.map Value.ref) out.toArray, toks := tk }
  have kF : ∀ b o, b ≠ h'.objs.size → h2.get? b = some o → (sortedHeap h2 h'.objs.size (as.map Value.ref) out.toArray).get? b = some o := fun b o hb e => (PyProof.Rows.sortedHeap_old hb (Heap.lt_size e)).trans e
  have kS : ∀ b o, s.heap.get? b = some o → (sortedHeap h2 h'.objs.size (as.map Value.ref) out.toArray).get? b = some o := fun b o e => kF b o (ne0 _ _ (hk b o e)) (kb b o e)
  obtain ⟨eF, heF⟩ := PyProof.Rows.sortedHeap_at (vs := as.map Value.ref) (out := out.toArray) hob
  have I1 : Inv X pins σ H { s with heap := sortedHeap h2 h'.objs.size (as.map Value.ref) out.toArray, toks := tk } := I.kept (t' := tk) kS
  have hn0 : H h'.objs.size = none := I.hok.fresh (Nat.le_of_lt hlt)
  obtain ⟨bs, eb, rv, hbs, lbs⟩ := madeP_refs hout
  have hlen2 : (bs.map V.ref).length ≤ sizeLine := by
    rw [List.length_map, lbs, List.length_mergeSort, ← lp]
    exact hz
  have I2 : Inv X pins σ (upd H h'.objs.size (.lst (bs.map V.ref))) { s with heap := sortedHeap h2 h'.objs.size (as.map Value.ref) out.toArray, toks := tk } :=
    I1.take (h' := sortedHeap h2 h'.objs.size (as.map Value.ref) out.toArray) (t' := tk) (fun b ob _ e => e) (I.fpOk (Nat.le_of_lt hlt) hn0) ⟨hlen2, out, eF, rv, heF⟩
  obtain ⟨H2, I3, g, qt⟩ := L2.DX.takeT (P := fun b vs => ∃ (x y : V) (k u : Value), vs = [x, y] ∧ h'.get? b = some { cls := .type "tuple", data := .seq #[k, u] } ∧ L2.RelV x k ∧ L2.RelV y u) I as _ I2 nd fun b hb => by
    obtain ⟨j, hj⟩ := List.mem_iff_getElem?.mp hb
    obtain ⟨en, he, hg⟩ := hG.pairs j b hj
    have hjp : j < prs.length := by
      have := (Array.getElem?_eq_some_iff.mp he).1
      omega
    obtain ⟨en', he', r1, r2⟩ := hent j _ (List.getElem?_eq_getElem hjp)
    rw [he] at he'
    cases he'
    have hbl : s.heap.objs.size ≤ b := Nat.le_of_lt (hG.above b hb)
    refine ⟨hbl, ?_, [prs[j].1, prs[j].2], ⟨_, _, en.key, en.val, rfl, hg, r1, r2⟩, fun H3 => ⟨(by rw [sizeLine_eq]; show 2 ≤ 16777216; omega), [en.key, en.val], .cons r1 (.cons r2 .nil), ⟨_, kF _ _ (ne0 _ _ hg) (ka _ _ hg), rfl, 0, rfl⟩⟩⟩
    rw [upd_ne (ne0 _ _ hg)]
    exact I.hok.fresh hbl
  have gr : Same H H2 := fun b o e => g b o (by rw [upd_ne (ne_of_none e hn0)]; exact e)
  refine ⟨.ref h'.objs.size, H2, I3, rfl, q h'.objs.size H2 (bs.map V.ref) hn0 gr (g _ _ upd_same) ?_⟩
  refine dpAll_of lbs fun j b dt hj hd => ?_
  obtain ⟨b', pr, k, u, eb', hb, hg, r1, r2, a, c, ed, d1, d2⟩ := hbs j b dt hj hd
  cases eb'
  obtain ⟨vs, ⟨x, y, k', u', ev, hg', r1', r2'⟩, hH⟩ := qt b hb
  rw [hg] at hg'
  cases hg'
  have ex : x = pr.1 := Option.some.inj (r1'.abs.symm.trans r1.abs)
  have ey : y = pr.2 := Option.some.inj (r2'.abs.symm.trans r2.abs)
  subst ev ed ex ey
  exact .tup (SqT.of hH) (.cons (dp_same gr d1) (.cons (dp_same gr d2) .nil))
end
end Nd


set_option Elab.async false
set_option linter.all false
set_option maxRecDepth 100000
set_option maxHeartbeats 4000000
namespace Nd
open PySem PySem.Spec PyProof.Rows L2
/-! ### walks over a locked dict of this kind -/
section
variable {X : Cx} {pins : List (Addr × Obj)} {σ : L2.St} {H : Hp} {s : Shared} {d : Addr} {o : Obj} {es : List Ent}
theorem lockedN (I : Inv X pins σ H s) (h : H d = some (.frz o (ndO X.prog X.w d es))) : (d == sysModules) = false ∧ s.heap.get? d = some o ∧ o.ExactDict ∧ ∃ (ds : Array DictEntry) (ep : Nat), o.data = .dict ds ep ∧ ds.size = es.length ∧
    ∀ (j : Nat) (e : Ent), es[j]? = some e → ∃ en, ds[j]? = some en ∧ en.key = .ref e.2.1 ∧ L2.RelV (.int e.2.2) en.val := by
  obtain ⟨hd, ⟨z, hs, xs, rel, o', ds, ep, ho, hx, hdt, he, _⟩, _⟩ : s.heap.get? d = some o ∧ ObjOk X.prog X.w H s.heap d (ndO X.prog X.w d es) := I.hok d _ h
  rw [hd] at ho
  cases ho
  refine ⟨hs, hd, hx, ds, ep, hdt, by rw [size_of_entries he, rel.len], fun j e q => ?_⟩
  obtain ⟨x, hx', h1, h2, h3⟩ := paired_get rel q
  refine ⟨entryOfKey (nestedKind X.prog X.w) x, ?_, ?_, h3⟩
  · rw [entry_at he j, hx']
    rfl
  · show Value.ref x.2.1 = Value.ref e.2.1
    rw [h2]
end
/-- the keys' own tuples -/
def ItkN (P : Program) (w : World) (d : Addr) (o : Obj) (es : List Ent) : It :=
  ⟨fun i H => H d = some (.frz o (ndO P w d es)) ∧ i < es.length, fun i H x H' => H' = H ∧ ∃ e, es[i]? = some e ∧ x = .ref e.2.1, fun i H => H d = some (.frz o (ndO P w d es)) ∧ es.length ≤ i⟩
/-- the pairs, each a new tuple -/
def ItiN (P : Program) (w : World) (d : Addr) (o : Obj) (es : List Ent) : It :=
  ⟨fun i H => H d = some (.frz o (ndO P w d es)) ∧ i < es.length, fun i H x H' => ∃ T e, es[i]? = some e ∧ x = .ref T ∧ H T = none ∧ H' = upd H T (.tup [.ref e.2.1, .int e.2.2]), fun i H => H d = some (.frz o (ndO P w d es)) ∧ es.length ≤ i⟩
section
variable {P : Program} {w : World} {K : PySem.W.Frag} {tg : Expr} {d : Addr} {o : Obj} {ds : Array DictEntry} {ep : Nat}
theorem turn_keysN {es : List Ent} (it : Addr) (hod : o.data = .dict ds ep) : Turn P w K tg (ItkN P w d o es) [it] it (fun i h => h.IsKeyIter it d i es.length ep) where
  mem := List.mem_singleton.mpr rfl
  obj := fun i h st b hb => by
    obtain rfl := List.mem_singleton.mp hb
    obtain ⟨oi, e, c, dd⟩ := st
    exact ⟨oi, e, fun v z => by rw [dd] at z; cases z⟩
  keep := fun i h h' st k => st.at fun oi e => k it (List.mem_singleton.mpr rfl) oi e
  item := by
    intro X hP hw hK hc i pins s σ H E I hf st hg
    subst hP hw hK
    obtain ⟨hd, hi⟩ := hg
    have hit := hf it (List.mem_singleton.mpr rfl)
    obtain ⟨hs, hgd, hx, ds', ep', hdt, hsz, ent⟩ := lockedN I hd
    obtain ⟨rfl, rfl⟩ := dict_ep hod hdt
    obtain ⟨en, hen, hkey, _⟩ := ent i _ (List.getElem?_eq_getElem hi)
    refine next_key_item st hgd hdt hsz hen fun h' st' sb => ?_
    have I1 : Inv X pins σ H { s with heap := h' } := I.turned (t' := s.toks) (fun b ob hb e => (sb.2 b hb).trans e) hit.1 hit.2.1 hit.2.2.2.1 hit.2.2.2.2.1 hit.2.2.2.2.2
    obtain ⟨oi, e, c, dd⟩ := id st'
    exact ⟨en.key, rfl, go_of (s := { s with heap := h' }) e c dd (by decide) ⟨.ref es[i].2.1, H, I1, hkey, ⟨rfl, es[i], List.getElem?_eq_getElem hi, rfl⟩, st', fun b hb => (hf b hb).1⟩⟩
  done := by
    intro X hP hw hK hc i pins s σ H E I hf st hg
    subst hP hw hK
    obtain ⟨hd, hi⟩ := hg
    have hit := hf it (List.mem_singleton.mpr rfl)
    obtain ⟨hs, hgd, hx, ds', ep', hdt, hsz, ent⟩ := lockedN I hd
    obtain ⟨rfl, rfl⟩ := dict_ep hod hdt
    exact next_key_end (I.ok.hd hc) st hgd hdt hsz hi fun h' eb => ⟨rfl, I.turned (t' := s.toks) (fun b ob hb e => eb b ob hb e) hit.1 hit.2.1 hit.2.2.2.1 hit.2.2.2.2.1 hit.2.2.2.2.2⟩
  self := fun A i s Q E st h => by
    refine wpAny_pyIter_slot st.typeIs PySem.F.slot_dict_keyiterator_iter (wpAny_call_entry PySem.F.slot_dict_keyiterator_iter st.typeIs PySem.F.entry_dict_keyiterator_iter ?_ (PySem.F.args_dict_keyiterator_iter_1 _))
    show wpAny _ _ (ret (.ref it)) _ _ s
    exact wpAny_pure ⟨_, rfl, "dict_keyiterator", _, st.typeIs, PySem.F.slot_dict_keyiterator_next.lookup, h⟩
theorem turn_itemsN {es : List Ent} {elts : List Expr} {kk : Nat} {tpos : Pos} (it : Addr) (hod : o.data = .dict ds ep) :
    Turn P w K (.Tuple elts kk tpos) (ItiN P w d o es) [it] it (fun i h => ∃ ok ov, IsItemIter h it d i es.length ep ok ov) where
  mem := List.mem_singleton.mpr rfl
  obj := fun i h st b hb => by
    obtain rfl := List.mem_singleton.mp hb
    obtain ⟨ok, ov, e⟩ := st
    exact ⟨_, e, fun v z => nomatch z⟩
  keep := fun i h h' st k => let ⟨ok, ov, e⟩ := st; ⟨ok, ov, k it (List.mem_singleton.mpr rfl) _ e⟩
  item := by
    intro X hP hw hK hc i pins s σ H E I hf st hg
    subst hP hw hK
    obtain ⟨hd, hi⟩ := hg
    obtain ⟨hs, hgd, hx, ds', ep', hdt, hsz, ent⟩ := lockedN I hd
    obtain ⟨rfl, rfl⟩ := dict_ep hod hdt
    obtain ⟨en, hen, hkey, hval⟩ := ent i _ (List.getElem?_eq_getElem hi)
    obtain ⟨ok, ov, he⟩ := st
    rw [← hsz] at he
    have hlt : it < s.heap.objs.size := Heap.lt_size he
    have hi2 : i < ds'.size := by omega
    have een : ds'[i] = en := by
      rw [Array.getElem?_eq_getElem hi2] at hen
      exact Option.some.inj hen
    refine DT.nextI he ⟨o, hgd, hx, hdt⟩ hi2 fun h' ho hT hz hk => ?_
    refine ⟨_, rfl, wpAny_letOwnedTupleGo_items (s := { s with heap := h' }) ho fun h'' he' sb => ?_⟩
    have hT2 : h''.get? s.heap.objs.size = some { cls := .type "tuple", data := .seq #[ds'[i].key, ds'[i].val] } := (sb.2 _ (Nat.ne_of_gt hlt)).trans hT
    rw [een] at hT2
    have new : ObjOk X.prog X.w (upd H s.heap.objs.size (.tup [.ref es[i].2.1, .int es[i].2.2])) h'' s.heap.objs.size (.tup [.ref es[i].2.1, .int es[i].2.2]) :=
      ⟨by show 2 ≤ sizeLine; decide, [en.key, en.val], .cons hkey (.cons hval .nil), ⟨_, hT2, rfl, _, rfl⟩⟩
    have I1 : Inv X pins σ (upd H s.heap.objs.size (.tup [.ref es[i].2.1, .int es[i].2.2])) { s with heap := h'' } :=
      I.turnedNew (t' := s.toks) (ch := [it]) (fun b ob hb e => (sb.2 b (fun z => hb (List.mem_singleton.mpr z))).trans (hk b ob (fun z => hb (List.mem_singleton.mpr z)) e)) hf (Nat.le_refl _) new
    refine ⟨.ref s.heap.objs.size, _, I1, rfl, ⟨_, es[i], List.getElem?_eq_getElem hi, rfl, I.hok.fresh (Nat.le_refl _), rfl⟩, ⟨ds'[i].key, ds'[i].val, ?_⟩, fun b hb => ?_⟩
    · rw [← hsz]
      exact he'
    · obtain rfl := List.mem_singleton.mp hb
      rw [upd_ne (Nat.ne_of_lt hlt)]
      exact (hf b (List.mem_singleton.mpr rfl)).1
  done := by
    intro X hP hw hK hc i pins s σ H E I hf st hg
    subst hP hw hK
    obtain ⟨hd, hi⟩ := hg
    have hit := hf it (List.mem_singleton.mpr rfl)
    obtain ⟨hs, hgd, hx, ds', ep', hdt, hsz, ent⟩ := lockedN I hd
    obtain ⟨rfl, rfl⟩ := dict_ep hod hdt
    obtain ⟨ok, ov, he⟩ := st
    rw [← hsz] at he
    exact DT.endI (I.ok.hd hc) he ⟨o, hgd, hx, hdt⟩ (by omega) fun h' eb => ⟨rfl, I.turned (t' := s.toks) (fun b ob hb e => eb b ob hb e) hit.1 hit.2.1 hit.2.2.2.1 hit.2.2.2.2.1 hit.2.2.2.2.2⟩
  self := fun A i s Q E st h => let ⟨_, _, e⟩ := st; PySem.W.kcp_self e h
end
def iKeysN (P : Program) (w : World) (td : TE) : TI := fun σ H R => td σ H fun x H1 => ∃ d o es, x = .ref d ∧ H1 d = some (.frz o (ndO P w d es)) ∧ R (ItkN P w d o es) H1
def iItemsN (P : Program) (w : World) (td : TE) : TI := fun σ H R => td σ H fun x H1 => ∃ d o es, x = .ref d ∧ H1 d = some (.frz o (ndO P w d es)) ∧ R (ItiN P w d o es) H1
section
variable {X : Cx} {tg e : Expr} {td : TE} {apos cpos : Pos}
theorem pi_keysN (he : PE X e td) : PI X tg e (iKeysN X.prog X.w td) := by
  refine ⟨fun pins s σ H R I h => ?_⟩
  refine thn (he.run pins s σ H _ I h) fun u s1 ⟨x, H1, I1, rx, d, o, es, ex, hd, q⟩ => ?_
  subst ex
  obtain rfl : u = Value.ref d := rx
  obtain ⟨hs, hgd, hx, ds, ep, hdt, hsz, ent⟩ := lockedN I1 hd
  refine iter_keys hs hgd hx hdt (pi_one (tk := s1.toks) I1 _ (turn_keysN _ hdt) ⟨_, Heap.get?_push_size _ rfl, rfl, ?_⟩ q)
  rw [hsz] <;> rfl
theorem pi_itemsN {elts : List Expr} {kk : Nat} {tpos : Pos} (he : PE X e td) (hbase : attributeBase e "items" X.env (eval e X.env) = eval e X.env := by rfl) (hline : (apos.endLine == cpos.line) = true := by rfl) :
    PI X (.Tuple elts kk tpos) (.Call (.Attribute e "items" apos) [] [] cpos) (iItemsN X.prog X.w td) := by
  refine ⟨fun pins s σ H R I h => ?_⟩
  refine wpAny_Call_method (T := "dict") (id := "dict.items") hbase rfl hline PySem.F.plainAttrs_dict PySem.F.slot_dict_items PySem.F.type_dict_items (thn (he.run pins s σ H _ I h) fun u s1 ⟨x, H1, I1, rx, d, o, es, ex, hd, q⟩ => ?_)
  subst ex
  obtain rfl : u = Value.ref d := rx
  obtain ⟨hs, hgd, hx, ds, ep, hdt, hsz, ent⟩ := lockedN I1 hd
  have hraw : DT.Raw s1.heap d ds ep := ⟨o, hgd, hx, hdt⟩
  refine ⟨hraw.typeIs, fun b z => (by cases z; exact ⟨o, hgd, hx.2.1⟩), ?_⟩
  have I2 : Inv X pins σ H1 { s1 with heap := s1.heap.push { cls := .type "dict_items", data := .fields #[.ref d] } } := I1.kept (t' := s1.toks) fun b ob z => Heap.get?_push_of_some _ z
  show wpAny _ _ (callWith cpos (.builtin "dict.items") [.ref d] [] []) _ X.xe s1
  refine method_meetsIn PySem.F.slot_dict_items PySem.F.entry_dict_items rfl (PySem.evalArgs_none ⟨rfl, hraw.typeIs, PySem.F.args_dict_items_1 _, _, DT.meetsItems (es := ds) (ep := ep) hs, hraw, ?_⟩)
  refine DT.iterI (d := d) (es := ds) (ep := ep) ⟨_, Heap.get?_push_size _ rfl, rfl, rfl⟩ (hraw.push _) (pi_one (tk := s1.toks) I2 _ (turn_itemsN _ hdt) ⟨.none, .none, ?_⟩ q)
  rw [← hsz]
  exact Heap.get?_push_size _ rfl
end
section
variable {P : Program} {w : World} {d : Addr} {o : Obj} {es : List Ent}
theorem walk_keysN : Walk (ItkN P w d o es) es.length (fun H => H d = some (.frz o (ndO P w d es))) (fun i H x H' => H' = H ∧ ∃ e, es[i]? = some e ∧ x = .ref e.2.1) :=
  ⟨fun _ _ hi q => ⟨q, hi⟩, fun _ q => ⟨q, Nat.le_refl _⟩, fun _ _ _ _ _ _ y => y⟩
theorem walk_itemsN : Walk (ItiN P w d o es) es.length (fun H => H d = some (.frz o (ndO P w d es))) (fun i H x H' => ∃ T e, es[i]? = some e ∧ x = .ref T ∧ H T = none ∧ H' = upd H T (.tup [.ref e.2.1, .int e.2.2])) :=
  ⟨fun _ _ hi q => ⟨q, hi⟩, fun _ q => ⟨q, Nat.le_refl _⟩, fun _ _ _ _ _ _ y => y⟩
end
theorem mut_nd {P : Program} {w : World} {d : Addr} {es : List Ent} : Mut (some (ndO P w d es)) := True.intro
end Nd


set_option Elab.async false
set_option linter.all false
set_option maxRecDepth 100000
set_option maxHeartbeats 2000000
/-! books: what is added up by keys; in order -/
namespace Bk
open PySem
class Ky (κ : Type) [DecidableEq κ] where
  enc : κ → PyData
  al : ∀ a b, PySem.W.alike (enc a) (enc b) = true
  inj : ∀ a b, PySem.W.keyToks (enc a) = PySem.W.keyToks (enc b) → a = b
  eqv : ∀ a b, PyData.eqv (enc a) (enc b) = decide (a = b)
  nn : ∀ a, enc a ≠ .none
  dep : ∀ a, (enc a).depth ≤ 10
section
variable {κ : Type} [DecidableEq κ] [Ky κ]
open Ky
def lt (a b : κ) : Bool := PySem.W.dataLt (enc a) (enc b)
theorem lt_irrefl (a : κ) : lt a a = false := PyProof.Rows.lex_irrefl _
theorem lt_trans {a b c : κ} (h1 : lt a b = true) (h2 : lt b c = true) : lt a c = true := (PyProof.Rows.listOrd PyProof.Rows.itemOrd).trans _ _ _ h1 h2
theorem lt_total {a b : κ} (h1 : lt a b = false) (h2 : lt b a = false) : a = b := inj a b ((PyProof.Rows.listOrd PyProof.Rows.itemOrd).total _ _ h1 h2)
theorem lt_asymm {a b : κ} (h : lt a b = true) : lt b a = false := by
  cases e : lt b a with
  | false => rfl
  | true => rw [← lt_trans h e, lt_irrefl]
theorem lt_ne {a b : κ} (h : lt a b = true) : a ≠ b := fun e => by rw [e, lt_irrefl] at h; cases h
abbrev Bag (κ : Type) := List (κ × Int)
/-- rising, each key once -/
def Asc (l : Bag κ) : Prop := l.Pairwise fun a b => lt a.1 b.1 = true
theorem Asc.uniq {l : Bag κ} (h : Asc l) {p q : κ × Int} (hp : p ∈ l) (hq : q ∈ l) (e : p.1 = q.1) : p = q := by
  induction l with
  | nil => exact nomatch hp
  | cons x r ih =>
    obtain ⟨h1, h2⟩ := List.pairwise_cons.mp h
    rcases List.mem_cons.mp hp with e1 | hp1
    · rcases List.mem_cons.mp hq with e2 | hq1
      · rw [e1, e2]
      · rw [e1] at e
        exact absurd e (lt_ne (h1 q hq1))
    · rcases List.mem_cons.mp hq with e2 | hq1
      · rw [e2] at e
        exact absurd e.symm (lt_ne (h1 p hp1))
      · exact ih h2 hp1 hq1
theorem asc_ext : ∀ {l m : Bag κ}, Asc l → Asc m → (∀ p, p ∈ l ↔ p ∈ m) → l = m
  | [], [], _, _, _ => rfl
  | [], y :: m, _, _, h => absurd ((h y).mpr List.mem_cons_self) (by simp)
  | x :: l, [], _, _, h => absurd ((h x).mp List.mem_cons_self) (by simp)
  | x :: l, y :: m, hl, hm, h => by
    obtain ⟨a1, a2⟩ := List.pairwise_cons.mp hl
    obtain ⟨b1, b2⟩ := List.pairwise_cons.mp hm
    have e : x = y := by
      rcases List.mem_cons.mp ((h x).mp List.mem_cons_self) with e | hx
      · exact e
      · rcases List.mem_cons.mp ((h y).mpr List.mem_cons_self) with e | hy
        · exact e.symm
        · have := lt_asymm (a1 y hy)
          rw [b1 x hx] at this
          cases this
    subst e
    have nl : x ∉ l := fun q => lt_ne (a1 x q) rfl
    have nm : x ∉ m := fun q => lt_ne (b1 x q) rfl
    rw [asc_ext a2 b2 fun p => ?_]
    constructor
    · intro hp
      rcases List.mem_cons.mp ((h p).mp (List.mem_cons_of_mem _ hp)) with e | q
      · rw [e] at hp
        exact absurd hp nl
      · exact q
    · intro hp
      rcases List.mem_cons.mp ((h p).mpr (List.mem_cons_of_mem _ hp)) with e | q
      · rw [e] at hp
        exact absurd hp nm
      · exact q
/-! adding up -/
def look (l : Bag κ) (k : κ) : Option Int := (l.find? fun e => decide (e.1 = k)).map (·.2)
def put (l : Bag κ) (k : κ) (v : Int) : Bag κ := if (look l k).isSome then l.map (fun e => if e.1 = k then (e.1, v) else e) else l ++ [(k, v)]
def add1 (l : Bag κ) (p : κ × Int) : Bag κ := put l p.1 ((look l p.1).getD 0 + p.2)
/-- the book of what is told in turn -/
def book (ts : Bag κ) : Bag κ := ts.foldl add1 []
def pr (l : Bag κ) (f : κ → Int) : Int := (l.map fun e => e.2 * f e.1).sum
theorem pr_nil (f : κ → Int) : pr [] f = 0 := rfl
theorem pr_cons (p : κ × Int) (l : Bag κ) (f : κ → Int) : pr (p :: l) f = p.2 * f p.1 + pr l f := by simp [pr]
theorem pr_append (l m : Bag κ) (f : κ → Int) : pr (l ++ m) f = pr l f + pr m f := by simp [pr]
theorem pr_perm {l m : Bag κ} (h : l.Perm m) (f : κ → Int) : pr l f = pr m f := by
  induction h with
  | nil => rfl
  | cons x _ ih => rw [pr_cons, pr_cons, ih]
  | swap x y l => rw [pr_cons, pr_cons, pr_cons, pr_cons]; omega
  | trans _ _ h1 h2 => rw [h1, h2]
theorem look_none {l : Bag κ} {k : κ} (h : look l k = none) : ∀ e ∈ l, e.1 ≠ k := by
  intro e he q
  unfold look at h
  rw [Option.map_eq_none_iff, List.find?_eq_none] at h
  exact h e he (decide_eq_true q)
theorem look_mem {l : Bag κ} {k : κ} {v : Int} (h : look l k = some v) : (k, v) ∈ l := by
  unfold look at h
  obtain ⟨e, he, rfl⟩ := Option.map_eq_some_iff.mp h
  have h1 := List.mem_of_find?_eq_some he
  have h2 := List.find?_some he
  have h3 : e.1 = k := of_decide_eq_true h2
  rw [← h3]
  exact h1
theorem look_of_mem {l : Bag κ} (hn : (l.map (·.1)).Nodup) {k : κ} {v : Int} (h : (k, v) ∈ l) : look l k = some v := by
  induction l with
  | nil => exact nomatch h
  | cons x r ih =>
    rw [List.map_cons, List.nodup_cons] at hn
    unfold look
    rw [List.find?_cons]
    rcases List.mem_cons.mp h with e | h
    · rw [← e]
      simp
    · have hne : ¬ x.1 = k := fun e => hn.1 (by rw [e]; exact List.mem_map.mpr ⟨_, h, rfl⟩)
      rw [decide_eq_false hne]
      exact ih hn.2 h
theorem keys_put (l : Bag κ) (k : κ) (v : Int) : (put l k v).map (·.1) = if (look l k).isSome then l.map (·.1) else l.map (·.1) ++ [k] := by
  unfold put
  split
  · rw [List.map_map]
    refine List.map_congr_left fun e _ => ?_
    show (if e.1 = k then (e.1, v) else e).1 = e.1
    split <;> rfl
  · rw [List.map_append]
    rfl
theorem nodup_put {l : Bag κ} (hn : (l.map (·.1)).Nodup) (k : κ) (v : Int) : ((put l k v).map (·.1)).Nodup := by
  rw [keys_put]
  split
  · exact hn
  · rename_i h
    have hno : look l k = none := by
      cases e : look l k with
      | none => rfl
      | some _ => rw [e] at h; simp at h
    rw [List.nodup_append]
    refine ⟨hn, by simp, fun a ha b hb e => ?_⟩
    rw [List.mem_singleton] at hb
    obtain ⟨x, hx, rfl⟩ := List.mem_map.mp ha
    exact look_none hno x hx (e.trans hb)
theorem map_off {l : Bag κ} {k : κ} {v : Int} (h : ∀ e ∈ l, e.1 ≠ k) : l.map (fun e => if e.1 = k then (e.1, v) else e) = l := by
  induction l with
  | nil => rfl
  | cons x r ih =>
    rw [List.map_cons, if_neg (h x List.mem_cons_self), ih fun e he => h e (List.mem_cons_of_mem _ he)]
theorem pr_set {l : Bag κ} (hn : (l.map (·.1)).Nodup) {k : κ} {u : Int} (h : (k, u) ∈ l) (v : Int) (f : κ → Int) : pr (l.map fun e => if e.1 = k then (e.1, v) else e) f = pr l f + (v - u) * f k := by
  induction l with
  | nil => exact nomatch h
  | cons x r ih =>
    rw [List.map_cons, List.nodup_cons] at hn
    rw [List.map_cons, pr_cons, pr_cons]
    rcases List.mem_cons.mp h with e | h
    · have hoff : ∀ e ∈ r, e.1 ≠ k := fun e' he q => hn.1 (by rw [← e, ← q]; exact List.mem_map.mpr ⟨_, he, rfl⟩)
      rw [map_off hoff, ← e, if_pos rfl]
      simp only [Int.sub_mul]
      omega
    · have hne : ¬ x.1 = k := fun e => hn.1 (by rw [e]; exact List.mem_map.mpr ⟨_, h, rfl⟩)
      rw [if_neg hne, ih hn.2 h]
      omega
theorem pr_add1 {l : Bag κ} (hn : (l.map (·.1)).Nodup) (p : κ × Int) (f : κ → Int) : pr (add1 l p) f = pr l f + p.2 * f p.1 := by
  unfold add1 put
  cases e : look l p.1 with
  | none =>
    simp only [Option.isSome_none, Bool.false_eq_true, if_false, Option.getD_none, Int.zero_add]
    rw [pr_append, pr_cons, pr_nil]
    simp
  | some u =>
    simp only [Option.isSome_some, if_true, Option.getD_some]
    rw [pr_set hn (look_mem e)]
    rw [show u + p.2 - u = p.2 by omega]
theorem nodup_add1 {l : Bag κ} (hn : (l.map (·.1)).Nodup) (p : κ × Int) : ((add1 l p).map (·.1)).Nodup := nodup_put hn _ _
theorem fold_ok : ∀ (ts : Bag κ) (l : Bag κ), (l.map (·.1)).Nodup → ((ts.foldl add1 l).map (·.1)).Nodup ∧ ∀ f, pr (ts.foldl add1 l) f = pr l f + pr ts f
  | [], l, h => ⟨h, fun f => by rw [pr_nil]; simp⟩
  | p :: ts, l, h => by
    obtain ⟨h1, h2⟩ := fold_ok ts (add1 l p) (nodup_add1 h p)
    refine ⟨h1, fun f => ?_⟩
    rw [List.foldl_cons, h2, pr_add1 h, pr_cons]
    omega
theorem book_nodup (ts : Bag κ) : ((book ts).map (·.1)).Nodup := (fold_ok ts [] List.nodup_nil).1
theorem book_pr (ts : Bag κ) (f : κ → Int) : pr (book ts) f = pr ts f := by
  have := (fold_ok ts [] List.nodup_nil).2 f
  rw [pr_nil, Int.zero_add] at this
  exact this
theorem book_snoc (ts : Bag κ) (p : κ × Int) : book (ts ++ [p]) = add1 (book ts) p := by simp [book]
def Pos (l : Bag κ) : Prop := ∀ p ∈ l, 0 < p.2
theorem pos_add1 {l : Bag κ} (h : Pos l) {p : κ × Int} (hp : 0 < p.2) : Pos (add1 l p) := by
  intro q hq
  have h0 : 0 ≤ (look l p.1).getD 0 := by
    cases e : look l p.1 with
    | none => exact Int.le_refl _
    | some u => exact Int.le_of_lt (h _ (look_mem e))
  unfold add1 put at hq
  split at hq
  · obtain ⟨x, hx, rfl⟩ := List.mem_map.mp hq
    split
    · show 0 < (look l p.1).getD 0 + p.2
      omega
    · exact h x hx
  · rcases List.mem_append.mp hq with hq | hq
    · exact h q hq
    · rw [List.mem_singleton.mp hq]
      show 0 < (look l p.1).getD 0 + p.2
      omega
theorem pos_fold : ∀ (ts : Bag κ) (l : Bag κ), Pos l → Pos ts → Pos (ts.foldl add1 l)
  | [], _, h, _ => h
  | p :: ts, l, h, ht => pos_fold ts (add1 l p) (pos_add1 h (ht p List.mem_cons_self)) fun q hq => ht q (List.mem_cons_of_mem _ hq)
theorem pos_book {ts : Bag κ} (h : Pos ts) : Pos (book ts) := pos_fold ts [] (fun _ q => nomatch q) h
theorem len_add1 (l : Bag κ) (p : κ × Int) : (add1 l p).length ≤ l.length + 1 := by
  unfold add1 put
  split
  · rw [List.length_map]; omega
  · rw [List.length_append]; exact Nat.le_refl _
theorem len_fold : ∀ (ts : Bag κ) (l : Bag κ), (ts.foldl add1 l).length ≤ l.length + ts.length
  | [], _ => Nat.le_refl _
  | p :: ts, l => by
    have h1 := len_fold ts (add1 l p)
    have h2 := len_add1 l p
    rw [List.foldl_cons, List.length_cons]
    omega
theorem len_book (ts : Bag κ) : (book ts).length ≤ ts.length := by
  have := len_fold ts []
  rw [List.length_nil, Nat.zero_add] at this
  exact this
/-- whatever holds of all keys told holds of the book's -/
theorem key_book {Pk : κ → Prop} : ∀ (ts l : Bag κ), (∀ p ∈ l, Pk p.1) → (∀ p ∈ ts, Pk p.1) → ∀ p ∈ ts.foldl add1 l, Pk p.1
  | [], _, h, _ => h
  | t :: ts, l, h, ht => by
    refine key_book ts (add1 l t) (fun p hp => ?_) fun q hq => ht q (List.mem_cons_of_mem _ hq)
    have hm : p.1 ∈ (add1 l t).map (·.1) := List.mem_map.mpr ⟨p, hp, rfl⟩
    unfold add1 at hm
    rw [keys_put] at hm
    split at hm
    · obtain ⟨x, hx, e⟩ := List.mem_map.mp hm
      rw [← e]
      exact h x hx
    · rcases List.mem_append.mp hm with hm | hm
      · obtain ⟨x, hx, e⟩ := List.mem_map.mp hm
        rw [← e]
        exact h x hx
      · rw [List.mem_singleton.mp hm]
        exact ht t List.mem_cons_self
/-! in order -/
def encP (p : κ × Int) : PyData := .tuple [enc p.1, .int p.2]
def srt (l : Bag κ) : Bag κ := l.mergeSort (PySem.W.dataLe false encP)
theorem srt_perm (l : Bag κ) : (srt l).Perm l := List.mergeSort_perm l _
theorem srt_asc {l : Bag κ} (hn : (l.map (·.1)).Nodup) : Asc (srt l) := by
  have h1 : (srt l).Pairwise (fun a b => PySem.W.dataLe false encP a b = true) := PySem.W.sort_pairwise (PySem.W.sortLe_total _ false _) l
  have h2 : ((srt l).map (·.1)).Nodup := ((srt_perm l).map _).nodup_iff.mpr hn
  rw [List.Nodup, List.pairwise_map] at h2
  refine (h1.and h2).imp fun {a b} ⟨hle, hne⟩ => ?_
  have hle' : (!PySem.W.dataLt (encP b) (encP a)) = true := hle
  unfold encP at hle'
  have ai : PySem.W.alike (.int b.2) (.int a.2) = true := by simp [PySem.W.alike]
  rw [PySem.W.dataLt_pair (al _ _) ai, eqv, decide_eq_false (Ne.symm hne), if_neg Bool.false_ne_true] at hle'
  have hle2 : lt b.1 a.1 = false := by
    cases e : lt b.1 a.1 with
    | false => rfl
    | true =>
      have e' : PySem.W.dataLt (enc b.1) (enc a.1) = true := e
      rw [e'] at hle'
      cases hle'
  cases e : lt a.1 b.1 with
  | true => rfl
  | false => exact absurd (lt_total e hle2) hne
def nf (ts : Bag κ) : Bag κ := srt (book ts)
theorem nf_asc (ts : Bag κ) : Asc (nf ts) := srt_asc (book_nodup ts)
theorem nf_pr (ts : Bag κ) (f : κ → Int) : pr (nf ts) f = pr ts f := by
  unfold nf
  rw [pr_perm (srt_perm _), book_pr]
theorem nf_pos {ts : Bag κ} (h : Pos ts) : Pos (nf ts) := fun p hp => pos_book h p ((srt_perm _).mem_iff.mp hp)
theorem nf_len (ts : Bag κ) : (nf ts).length ≤ ts.length := by
  unfold nf
  rw [(srt_perm _).length_eq]
  exact len_book ts
theorem nf_key {Pk : κ → Prop} {ts : Bag κ} (h : ∀ p ∈ ts, Pk p.1) : ∀ p ∈ nf ts, Pk p.1 := fun p hp => key_book ts [] (fun _ q => nomatch q) h p ((srt_perm _).mem_iff.mp hp)
/-! one form -/
def del (k : κ) : κ → Int := fun x => if x = k then 1 else 0
theorem pr_off {l : Bag κ} {k : κ} (h : ∀ e ∈ l, e.1 ≠ k) : pr l (del k) = 0 := by
  induction l with
  | nil => rfl
  | cons x r ih =>
    rw [pr_cons, ih fun e he => h e (List.mem_cons_of_mem _ he)]
    unfold del
    rw [if_neg (h x List.mem_cons_self)]
    simp
theorem pr_del {l : Bag κ} (h : Asc l) {k : κ} {v : Int} (hm : (k, v) ∈ l) : pr l (del k) = v := by
  induction l with
  | nil => exact nomatch hm
  | cons x r ih =>
    obtain ⟨h1, h2⟩ := List.pairwise_cons.mp h
    rw [pr_cons]
    rcases List.mem_cons.mp hm with e | hm
    · have hoff : ∀ e ∈ r, e.1 ≠ k := fun e' he q => lt_ne (h1 e' he) (by rw [← e]; exact q.symm)
      rw [pr_off hoff, ← e]
      unfold del
      rw [if_pos rfl]
      simp
    · rw [ih h2 hm]
      unfold del
      rw [if_neg fun q => lt_ne (h1 _ hm) q]
      simp
theorem mem_of_pr {l : Bag κ} (h : Asc l) {k : κ} {v : Int} (hv : v ≠ 0) (e : pr l (del k) = v) : (k, v) ∈ l := by
  by_cases hx : ∃ u, (k, u) ∈ l
  · obtain ⟨u, hu⟩ := hx
    rw [pr_del h hu] at e
    rw [← e]
    exact hu
  · have hoff : ∀ e ∈ l, e.1 ≠ k := fun e' he q => hx ⟨e'.2, by rw [← q]; exact he⟩
    rw [pr_off hoff] at e
    exact absurd e.symm hv
theorem one_form {l m : Bag κ} (hl : Asc l) (hm : Asc m) (pl : Pos l) (pm : Pos m) (h : ∀ f, pr l f = pr m f) : l = m := by
  refine asc_ext hl hm fun p => ⟨fun hp => ?_, fun hp => ?_⟩
  · have := pr_del hl (k := p.1) (v := p.2) hp
    rw [h] at this
    exact mem_of_pr hm (Int.ne_of_gt (pl p hp)) this
  · have := pr_del hm (k := p.1) (v := p.2) hp
    rw [← h] at this
    exact mem_of_pr hl (Int.ne_of_gt (pm p hp)) this
theorem nf_eq {l m : Bag κ} (pl : Pos l) (pm : Pos m) (h : ∀ f, pr l f = pr m f) : nf l = nf m :=
  one_form (nf_asc l) (nf_asc m) (nf_pos pl) (nf_pos pm) fun f => by rw [nf_pr, nf_pr, h]
theorem nf_id {l : Bag κ} (hl : Asc l) (pl : Pos l) : nf l = l := one_form (nf_asc l) hl (nf_pos pl) pl fun f => nf_pr l f
end
end Bk


set_option Elab.async false
set_option linter.all false
set_option maxRecDepth 100000
set_option maxHeartbeats 2000000
/-! polynomials over tokens -/
namespace Bk
open PySem Nd
instance : Ky Str where
  enc := .str
  al := fun a b => by simp [PySem.W.alike]
  inj := fun a b h => by
    simp only [PySem.W.keyToks, List.cons.injEq, Sum.inr.injEq, and_true] at h
    exact PySem.W.str_of_cps h
  eqv := fun a b => by
    by_cases h : a = b
    · subst h
      simp [PyData.eqv]
    · rw [decide_eq_false h]
      simp [PyData.eqv, h]
  nn := fun a h => nomatch h
  dep := fun a => by simp [PyData.depth]
def tkD (p : Str × Int) : PyData := .tuple [.str p.1, .int p.2]
theorem mD_eq (m : Mono) : mD m = .tuple (m.map tkD) := rfl
theorem al_tk (p q : Str × Int) : PySem.W.alike (tkD p) (tkD q) = true := by simp [tkD, PySem.W.alike, PySem.W.alikeAll]
theorem al_tks : ∀ m n : Mono, PySem.W.alikeAll (m.map tkD) (n.map tkD) = true
  | [], _ => by simp [PySem.W.alikeAll]
  | _ :: _, [] => by simp [PySem.W.alikeAll]
  | p :: m, q :: n => by
    rw [List.map_cons, List.map_cons, PySem.W.alikeAll, al_tk, al_tks m n]
    rfl
theorem toks_tk (p : Str × Int) : PySem.W.keyToks (tkD p) = [.inl 1, .inr p.1.cps.toList, .inl 1, .inl p.2, .inl 0] := by simp [tkD, PySem.W.keyToks, PySem.W.keyToksAll]
theorem toks_inj : ∀ m n : Mono, PySem.W.keyToksAll (m.map tkD) = PySem.W.keyToksAll (n.map tkD) → m = n
  | [], [], _ => rfl
  | [], q :: n, h => by simp [PySem.W.keyToksAll] at h
  | p :: m, [], h => by simp [PySem.W.keyToksAll] at h
  | p :: m, q :: n, h => by
    rw [List.map_cons, List.map_cons, PySem.W.toks_all_cons, PySem.W.toks_all_cons, toks_tk, toks_tk] at h
    simp only [List.cons_append, List.nil_append, List.cons.injEq, Sum.inl.injEq, Sum.inr.injEq, true_and] at h
    obtain ⟨h1, h2, h3⟩ := h
    rw [toks_inj m n h3]
    obtain ⟨p1, p2⟩ := p
    obtain ⟨q1, q2⟩ := q
    simp only at h1 h2
    rw [PySem.W.str_of_cps h1, h2]
theorem eqv_tk (p q : Str × Int) : PyData.eqv (tkD p) (tkD q) = decide (p = q) := by
  obtain ⟨p1, p2⟩ := p
  obtain ⟨q1, q2⟩ := q
  by_cases h1 : p1 = q1
  · by_cases h2 : p2 = q2
    · subst h1 h2
      simp [tkD, PyData.eqv, PyData.eqvAll]
    · simp [tkD, PyData.eqv, PyData.eqvAll, h2]
  · simp [tkD, PyData.eqv, PyData.eqvAll, h1]
theorem eqv_tks : ∀ m n : Mono, PyData.eqvAll (m.map tkD) (n.map tkD) = decide (m = n)
  | [], [] => by simp [PyData.eqvAll]
  | [], q :: n => by simp [PyData.eqvAll]
  | p :: m, [] => by simp [PyData.eqvAll]
  | p :: m, q :: n => by
    rw [List.map_cons, List.map_cons, PySem.W.eqv_all_cons, eqv_tk, eqv_tks m n]
    by_cases h1 : p = q
    · by_cases h2 : m = n
      · simp [h1, h2]
      · simp [h2]
    · simp [h1]
theorem dep_tks : ∀ m : Mono, PyData.depthAll (m.map tkD) ≤ 1
  | [] => by simp [PyData.depthAll]
  | p :: m => by
    have := dep_tks m
    simp only [List.map_cons, PyData.depthAll, tkD, PyData.depth]
    omega
instance : Ky Mono where
  enc := mD
  al := fun a b => by
    rw [mD_eq, mD_eq, PySem.W.alike]
    exact al_tks a b
  inj := fun a b h => by
    rw [mD_eq, mD_eq, PySem.W.keyToks, PySem.W.keyToks] at h
    exact toks_inj a b h
  eqv := fun a b => by
    rw [mD_eq, mD_eq, PyData.eqv]
    exact eqv_tks a b
  nn := fun a h => nomatch h
  dep := fun a => by
    have := dep_tks a
    rw [mD_eq, PyData.depth]
    omega
abbrev Poly := Bag Mono
/-- tokens rising, exponents from 1 on -/
def MOk (m : Mono) : Prop := Asc m ∧ Pos m
def POk (p : Poly) : Prop := Asc p ∧ Pos p ∧ ∀ t ∈ p, MOk t.1
def mulM (a b : Mono) : Mono := nf (a ++ b)
def prods (p q : Poly) : Poly := p.flatMap fun a => q.map fun b => (mulM a.1 b.1, a.2 * b.2)
def plusP (p q : Poly) : Poly := nf (p ++ q)
def timesP (p q : Poly) : Poly := nf (prods p q)
theorem pos_append {κ : Type} {l m : Bag κ} (hl : Pos l) (hm : Pos m) : Pos (l ++ m) := fun p hp => (List.mem_append.mp hp).elim (hl p) (hm p)
theorem mulM_ok {a b : Mono} (ha : MOk a) (hb : MOk b) : MOk (mulM a b) := ⟨nf_asc _, nf_pos (pos_append ha.2 hb.2)⟩
theorem mulM_comm {a b : Mono} (ha : MOk a) (hb : MOk b) : mulM a b = mulM b a :=
  nf_eq (pos_append ha.2 hb.2) (pos_append hb.2 ha.2) fun f => by rw [pr_append, pr_append]; omega
theorem mulM_assoc {a b c : Mono} (ha : MOk a) (hb : MOk b) (hc : MOk c) : mulM (mulM a b) c = mulM a (mulM b c) := by
  refine nf_eq (pos_append (mulM_ok ha hb).2 hc.2) (pos_append ha.2 (mulM_ok hb hc).2) fun f => ?_
  rw [pr_append, pr_append]
  unfold mulM
  rw [nf_pr, nf_pr, pr_append, pr_append]
  omega
theorem mulM_nil_left {a : Mono} (ha : MOk a) : mulM [] a = a := by
  unfold mulM
  rw [List.nil_append]
  exact nf_id ha.1 ha.2
theorem mulM_nil_right {a : Mono} (ha : MOk a) : mulM a [] = a := by
  unfold mulM
  rw [List.append_nil]
  exact nf_id ha.1 ha.2
theorem ok_nil : MOk [] := ⟨List.Pairwise.nil, fun _ h => nomatch h⟩
theorem pok_zero : POk [] := ⟨List.Pairwise.nil, fun _ h => (nomatch h), fun _ h => nomatch h⟩
def oneP : Poly := [([], 1)]
theorem pok_one : POk oneP := ⟨List.pairwise_singleton _ _, fun p h => by rw [List.mem_singleton.mp h]; decide, fun p h => by rw [List.mem_singleton.mp h]; exact ok_nil⟩
theorem plusP_ok {p q : Poly} (hp : POk p) (hq : POk q) : POk (plusP p q) :=
  ⟨nf_asc _, nf_pos (pos_append hp.2.1 hq.2.1), nf_key (Pk := MOk) fun t ht => (List.mem_append.mp ht).elim (hp.2.2 t) (hq.2.2 t)⟩
theorem mem_prods {p q : Poly} {t : Mono × Int} (h : t ∈ prods p q) : ∃ a ∈ p, ∃ b ∈ q, t = (mulM a.1 b.1, a.2 * b.2) := by
  unfold prods at h
  obtain ⟨a, ha, h⟩ := List.mem_flatMap.mp h
  obtain ⟨b, hb, rfl⟩ := List.mem_map.mp h
  exact ⟨a, ha, b, hb, rfl⟩
theorem pos_prods {p q : Poly} (hp : Pos p) (hq : Pos q) : Pos (prods p q) := fun t ht => by
  obtain ⟨a, ha, b, hb, rfl⟩ := mem_prods ht
  exact Int.mul_pos (hp a ha) (hq b hb)
theorem timesP_ok {p q : Poly} (hp : POk p) (hq : POk q) : POk (timesP p q) :=
  ⟨nf_asc _, nf_pos (pos_prods hp.2.1 hq.2.1), nf_key (Pk := MOk) fun t ht => by
    obtain ⟨a, ha, b, hb, rfl⟩ := mem_prods ht
    exact mulM_ok (hp.2.2 a ha) (hq.2.2 b hb)⟩
theorem pr_mapmul (q : Poly) (x : Int) (g : Mono → Mono) (f : Mono → Int) : pr (q.map fun b => (g b.1, x * b.2)) f = x * pr q (fun b => f (g b)) := by
  induction q with
  | nil => rw [List.map_nil, pr_nil, pr_nil, Int.mul_zero]
  | cons b r ih =>
    rw [List.map_cons, pr_cons, pr_cons, ih, Int.mul_add, Int.mul_assoc]
theorem pr_prods (p q : Poly) (f : Mono → Int) : pr (prods p q) f = pr p fun a => pr q fun b => f (mulM a b) := by
  induction p with
  | nil => rfl
  | cons a r ih =>
    have e : prods (a :: r) q = (q.map fun b => (mulM a.1 b.1, a.2 * b.2)) ++ prods r q := by simp [prods]
    rw [e, pr_append, ih, pr_cons, pr_mapmul q a.2 (mulM a.1) f]
theorem pr_times (p q : Poly) (f : Mono → Int) : pr (timesP p q) f = pr p fun a => pr q fun b => f (mulM a b) := by
  unfold timesP
  rw [nf_pr, pr_prods]
theorem pr_plus (p q : Poly) (f : Mono → Int) : pr (plusP p q) f = pr p f + pr q f := by
  unfold plusP
  rw [nf_pr, pr_append]
theorem pr_congr {p : Poly} {f g : Mono → Int} (h : ∀ t ∈ p, f t.1 = g t.1) : pr p f = pr p g := by
  induction p with
  | nil => rfl
  | cons a r ih =>
    rw [pr_cons, pr_cons, h a List.mem_cons_self, ih fun t ht => h t (List.mem_cons_of_mem _ ht)]
theorem pr_add (p : Poly) (f g : Mono → Int) : pr p (fun a => f a + g a) = pr p f + pr p g := by
  induction p with
  | nil => rfl
  | cons a r ih =>
    rw [pr_cons, pr_cons, pr_cons, ih, Int.mul_add]
    omega
theorem pr_zero (p : Poly) : pr p (fun _ => 0) = 0 := by
  induction p with
  | nil => rfl
  | cons a r ih => rw [pr_cons, ih]; simp
theorem pr_scale (p : Poly) (x : Int) (f : Mono → Int) : pr p (fun a => x * f a) = x * pr p f := by
  induction p with
  | nil => rw [pr_nil, pr_nil, Int.mul_zero]
  | cons a r ih =>
    rw [pr_cons, pr_cons, ih, Int.mul_add, ← Int.mul_assoc, ← Int.mul_assoc, Int.mul_comm a.2 x]
theorem pr_swap (p q : Poly) (f : Mono → Mono → Int) : pr p (fun a => pr q fun b => f a b) = pr q fun b => pr p fun a => f a b := by
  induction p with
  | nil =>
    rw [pr_nil]
    exact (pr_zero q).symm
  | cons a r ih =>
    rw [pr_cons, ih]
    have e : (fun b => pr (a :: r) fun x => f x b) = fun b => a.2 * f a.1 b + pr r fun x => f x b := by
      funext b
      rw [pr_cons]
    rw [e, pr_add, pr_scale]
section
variable {p q r : Poly}
theorem plus_assoc (hp : POk p) (hq : POk q) (hr : POk r) : plusP (plusP p q) r = plusP p (plusP q r) :=
  nf_eq (pos_append (plusP_ok hp hq).2.1 hr.2.1) (pos_append hp.2.1 (plusP_ok hq hr).2.1) fun f => by rw [pr_append, pr_append, pr_plus, pr_plus]; omega
theorem plus_comm (hp : POk p) (hq : POk q) : plusP p q = plusP q p := nf_eq (pos_append hp.2.1 hq.2.1) (pos_append hq.2.1 hp.2.1) fun f => by rw [pr_append, pr_append]; omega
theorem plus_zero (hp : POk p) : plusP p [] = p := by
  unfold plusP
  rw [List.append_nil]
  exact nf_id hp.1 hp.2.1
theorem zero_plus (hp : POk p) : plusP [] p = p := by
  unfold plusP
  rw [List.nil_append]
  exact nf_id hp.1 hp.2.1
theorem times_comm (hp : POk p) (hq : POk q) : timesP p q = timesP q p :=
  nf_eq (pos_prods hp.2.1 hq.2.1) (pos_prods hq.2.1 hp.2.1) fun f => by
    rw [pr_prods, pr_prods, pr_swap q p]
    exact pr_congr fun a ha => pr_congr fun b hb => by rw [mulM_comm (hp.2.2 a ha) (hq.2.2 b hb)]
theorem times_assoc (hp : POk p) (hq : POk q) (hr : POk r) : timesP (timesP p q) r = timesP p (timesP q r) :=
  nf_eq (pos_prods (timesP_ok hp hq).2.1 hr.2.1) (pos_prods hp.2.1 (timesP_ok hq hr).2.1) fun f => by
    rw [pr_prods, pr_prods, pr_times]
    refine pr_congr fun a ha => ?_
    rw [pr_times]
    exact pr_congr fun b hb => pr_congr fun c hc => by rw [mulM_assoc (hp.2.2 a ha) (hq.2.2 b hb) (hr.2.2 c hc)]
theorem times_plus (hp : POk p) (hq : POk q) (hr : POk r) : timesP p (plusP q r) = plusP (timesP p q) (timesP p r) :=
  nf_eq (pos_prods hp.2.1 (plusP_ok hq hr).2.1) (pos_append (timesP_ok hp hq).2.1 (timesP_ok hp hr).2.1) fun f => by
    rw [pr_prods, pr_append, pr_times, pr_times, ← pr_add]
    exact pr_congr fun a ha => by rw [pr_plus]
theorem times_one (hp : POk p) : timesP p oneP = p := by
  refine one_form (nf_asc _) hp.1 (timesP_ok hp pok_one).2.1 hp.2.1 fun f => ?_
  rw [pr_times]
  refine pr_congr fun a ha => ?_
  unfold oneP
  rw [pr_cons, pr_nil, mulM_nil_right (hp.2.2 a ha)]
  simp
theorem one_times (hp : POk p) : timesP oneP p = p := by rw [times_comm pok_one hp, times_one hp]
theorem times_zero : timesP p [] = [] := by
  have e : prods p [] = [] := by
    unfold prods
    induction p with
    | nil => rfl
    | cons a r ih => rw [List.flatMap_cons, List.map_nil, List.nil_append, ih]
  unfold timesP
  rw [e]
  exact nf_id List.Pairwise.nil fun _ h => nomatch h
theorem zero_times : timesP [] p = [] := nf_id List.Pairwise.nil fun _ h => nomatch h
end
/-! sizes -/
def S {κ : Type} (p : Bag κ) : Int := pr p fun _ => 1
theorem S_plus (p q : Poly) : S (plusP p q) = S p + S q := pr_plus p q _
theorem S_times (p q : Poly) : S (timesP p q) = S p * S q := by
  unfold S
  rw [pr_times]
  have e : (fun _ : Mono => pr q fun _ => 1) = fun _ : Mono => (pr q fun _ => 1) * 1 := by
    funext a
    rw [Int.mul_one]
  rw [e, pr_scale p _ (fun _ => 1), Int.mul_comm]
theorem S_nf {κ : Type} [DecidableEq κ] [Ky κ] (ts : Bag κ) : S (nf ts) = S ts := nf_pr ts _
theorem S_append {κ : Type} (p q : Bag κ) : S (p ++ q) = S p + S q := by
  unfold S pr
  simp
theorem S_nonneg {κ : Type} {l : Bag κ} (h : Pos l) : 0 ≤ S l := by
  induction l with
  | nil => exact Int.le_refl _
  | cons x r ih =>
    have h1 := h x List.mem_cons_self
    have h2 := ih fun q hq => h q (List.mem_cons_of_mem _ hq)
    have e : S (x :: r) = x.2 * 1 + S r := by unfold S pr; simp
    omega
theorem le_S {κ : Type} {l : Bag κ} (h : Pos l) {p : κ × Int} (hp : p ∈ l) : p.2 ≤ S l := by
  induction l with
  | nil => exact nomatch hp
  | cons x r ih =>
    have h1 := h x List.mem_cons_self
    have h0 : Pos r := fun q hq => h q (List.mem_cons_of_mem _ hq)
    have h2 := S_nonneg h0
    have e : S (x :: r) = x.2 * 1 + S r := by unfold S pr; simp
    rcases List.mem_cons.mp hp with q | q
    · rw [q]; omega
    · have := ih h0 q
      omega
theorem S_book {κ : Type} [DecidableEq κ] [Ky κ] (ts : Bag κ) : S (book ts) = S ts := book_pr ts _
theorem S_mulM (a b : Mono) : S (mulM a b) = S a + S b := by
  unfold mulM
  rw [S_nf, S_append]
theorem len_prods (p q : Poly) : (prods p q).length = p.length * q.length := by
  unfold prods
  induction p with
  | nil => simp
  | cons a r ih => rw [List.flatMap_cons, List.length_append, ih, List.length_map, List.length_cons, Nat.add_mul, Nat.one_mul, Nat.add_comm]
/-- degrees at most d -/
def Dg (p : Poly) (d : Int) : Prop := ∀ t ∈ p, S t.1 ≤ d
theorem Dg_nf {ts : Poly} {d : Int} (h : Dg ts d) : Dg (nf ts) d := nf_key (Pk := fun m => S m ≤ d) h
theorem Dg_plus {p q : Poly} {d : Int} (hp : Dg p d) (hq : Dg q d) : Dg (plusP p q) d := Dg_nf fun t ht => (List.mem_append.mp ht).elim (hp t) (hq t)
theorem Dg_times {p q : Poly} {d e : Int} (hp : Dg p d) (hq : Dg q e) : Dg (timesP p q) (d + e) := Dg_nf fun t ht => by
  obtain ⟨a, ha, b, hb, rfl⟩ := mem_prods ht
  have h1 := hp a ha
  have h2 := hq b hb
  show S (mulM a.1 b.1) ≤ d + e
  rw [S_mulM]
  omega
end Bk


set_option Elab.async false
set_option linter.all false
set_option maxRecDepth 100000
set_option maxHeartbeats 2000000
namespace K8
open PySem L2
def topS (i : Nat) : Stmt := PySem.Challenge.pw_ledgertrace_k08_whole_valuing_is_a_homom.main.body.getD i (.Pass ⟨0, 0, 0, 0⟩)
abbrev sCapped : Stmt := topS 7
abbrev sNeed : Stmt := topS 8
abbrev sFrozen : Stmt := topS 10
abbrev sPut : Stmt := topS 11
abbrev sProd : Stmt := topS 12
abbrev sJoin : Stmt := topS 13
abbrev sChk : Stmt := topS 14
abbrev sCkF : Stmt := topS 15
abbrev sAs : Stmt := topS 16
abbrev sPoly : Stmt := topS 17
abbrev sPlus : Stmt := topS 21
abbrev sTimes : Stmt := topS 22
abbrev sTokens : Stmt := topS 23
abbrev sValued : Stmt := topS 27
abbrev sMPlus : Stmt := topS 28
abbrev sMTimes : Stmt := topS 29
abbrev sMZero : Stmt := topS 30
abbrev sMOne : Stmt := topS 31
abbrev sCounted : Stmt := topS 32
abbrev sRaised : Stmt := topS 33
abbrev sLesser : Stmt := topS 34
abbrev sAdded : Stmt := topS 35
abbrev sMixd : Stmt := topS 37
abbrev sPool : Stmt := topS 38
abbrev sTake : Stmt := topS 39
abbrev sPTok : Stmt := topS 40
abbrev sPSort : Stmt := topS 41
abbrev sPPoly : Stmt := topS 42
abbrev sPProd : Stmt := topS 43
abbrev sPDrawn : Stmt := topS 46
abbrev sPTokOf : Stmt := topS 47
abbrev sPListed : Stmt := topS 48
abbrev sPLists : Stmt := topS 49
abbrev sDValC : Stmt := topS 52
abbrev sGivenC : Stmt := topS 58
abbrev sPSame : Stmt := topS 59
abbrev sCLaw : Stmt := topS 61
abbrev sPLaw : Stmt := topS 61
/-- the mixing: some number below 2147483629 -/
def spMix : Sp := fun vs H Q _ => ∃ c s : Int, vs = [.int c, .int s] ∧ ∀ r : Int, 0 ≤ r → Q (.int r) H
section
variable {P : Program} {w : World} {K : PySem.W.Frag} {mg : Str → Option Value} {base : Heap}
end
end K8


set_option Elab.async false
set_option linter.all false
set_option maxRecDepth 100000
set_option maxHeartbeats 4000000
namespace K8
open PySem L2
def bx (d0 d1 at_ s m : Int) (c : Addr) : List V := [.int d0, .int d1, .int at_, .int s, .int m, .ref c]
/-- a box at b, its cells at c -/
structure BoxAt (H : Hp) (b c : Addr) (ns : List Int) : Prop where
  lst : ∃ d0 d1 at_ s m : Int, 0 ≤ at_ ∧ H b = some (.lst (bx d0 d1 at_ s m c))
  cells : H c = some (.lst (ns.map V.int))
  len : ns.length ≤ 1000
theorem bx_ne {d0 d1 at_ s m : Int} {c : Addr} {ns : List Int} : HO.lst (ns.map V.int) ≠ HO.lst (bx d0 d1 at_ s m c) := by
  intro z
  have z' := HO.lst.inj z
  have h5 := congrArg (fun l => l[5]?) z'
  simp only [bx, List.getElem?_map] at h5
  cases e : ns[5]? with
  | none => rw [e] at h5; simp at h5
  | some y => rw [e] at h5; simp at h5
/-- all but b is kept -/
def But (b : Addr) (H H' : Hp) : Prop := ∀ a o, H a = some o → a ≠ b → H' a = some o
theorem But.refl {b : Addr} {H : Hp} : But b H H := fun _ _ h _ => h
theorem But.trans {b : Addr} {H H1 H2 : Hp} (x : But b H H1) (y : But b H1 H2) : But b H H2 := fun a o h n => y a o (x a o h n) n
theorem But.upd {b : Addr} {H : Hp} {o : HO} : But b H (upd H b o) := fun a u h n => by rw [upd_ne n]; exact h
theorem But.same {b : Addr} {H H1 H2 : Hp} (x : But b H H1) (y : Same H1 H2) : But b H H2 := fun a o h n => y a o (x a o h n)
theorem BoxAt.ne {H : Hp} {b c : Addr} {ns : List Int} (x : BoxAt H b c ns) : c ≠ b := by
  obtain ⟨d0, d1, at_, s, m, _, h⟩ := x.lst
  exact ne_of x.cells h bx_ne
theorem BoxAt.put {H : Hp} {b c : Addr} {ns : List Int} (x : BoxAt H b c ns) {d0 d1 at_ s m : Int} (h : 0 ≤ at_) : BoxAt (upd H b (.lst (bx d0 d1 at_ s m c))) b c ns :=
  ⟨⟨d0, d1, at_, s, m, h, upd_same⟩, by rw [upd_ne x.ne]; exact x.cells, x.len⟩
/-- another box stays -/
theorem BoxAt.keep {H H' : Hp} {b b2 c2 : Addr} {ns : List Int} (y : BoxAt H b2 c2 ns) (hb : But b H H') (n1 : b2 ≠ b) (n2 : c2 ≠ b) : BoxAt H' b2 c2 ns := by
  obtain ⟨d0, d1, at_, s, m, h0, h⟩ := y.lst
  exact ⟨⟨d0, d1, at_, s, m, h0, hb _ _ h n1⟩, hb _ _ y.cells n2, y.len⟩
theorem BoxAt.same {H H' : Hp} {b c : Addr} {ns : List Int} (y : BoxAt H b c ns) (s : Same H H') : BoxAt H' b c ns := by
  obtain ⟨d0, d1, at_, s', m, h0, h⟩ := y.lst
  exact ⟨⟨d0, d1, at_, s', m, h0, s _ _ h⟩, s _ _ y.cells, y.len⟩
def spBox (K : PySem.W.Frag) : Sp := fun vs H Q _ => ∃ (a : Addr) (ns : List Int) (n : Int), vs = [.ref a, .int n] ∧ SqL K H a (ns.map V.int) ∧ ns.length ≤ 1000 ∧ 0 ≤ n ∧
  ∀ (b c : Addr) (H' : Hp), H b = none → H c = none → Same H H' → BoxAt H' b c ns → Q (.ref b) H'
def spDraw : Sp := fun vs H Q _ => ∃ (b c : Addr) (ns : List Int) (many : Int), vs = [.ref b, .int many] ∧ 0 < many ∧ many < 10000000 ∧ BoxAt H b c ns ∧
  ∀ (r : Int) (H' : Hp), 0 ≤ r → r < many → BoxAt H' b c ns → But b H H' → Q (.int r) H'
section
variable {P : Program} {w : World} {K : PySem.W.Frag} {mg : Str → Option Value} {base : Heap}
end
end K8


set_option Elab.async false
set_option linter.all false
set_option maxRecDepth 100000
set_option maxHeartbeats 4000000
namespace K8
open PySem L2
def scalV : V → Prop
  | .non => True
  | .bl _ => True
  | .int _ => True
  | .str _ => True
  | _ => False
/-- the same data at both, n deep at most -/
def Alike (K : PySem.W.Frag) (H : Hp) : Nat → V → V → Prop
  | 0, x, y => x = y ∧ scalV x
  | n + 1, x, y => (x = y ∧ scalV x) ∨ ∃ (a b : Addr) (xs ys : List V), x = .ref a ∧ y = .ref b ∧ ((SqT K H a xs ∧ SqT K H b ys) ∨ (SqL K H a xs ∧ SqL K H b ys)) ∧ xs.length = ys.length ∧ ys.length ≤ 1000000 ∧
      ∀ (i : Nat) (u v : V), xs[i]? = some u → ys[i]? = some v → Alike K H n u v
theorem sqT_same {K : PySem.W.Frag} {H H' : Hp} {a : Addr} {xs : List V} (s : Same H H') (h : SqT K H a xs) : SqT K H' a xs := by
  rcases h with (h | ⟨o, h⟩) | h
  · exact .inl (.inl (s _ _ h))
  · exact .inl (.inr ⟨o, s _ _ h⟩)
  · exact .inr h
theorem Alike.same {K : PySem.W.Frag} {H H' : Hp} (s : Same H H') : ∀ {n : Nat} {x y : V}, Alike K H n x y → Alike K H' n x y
  | 0, _, _, h => h
  | n + 1, x, y, h => by
    rcases h with h | ⟨a, b, xs, ys, rfl, rfl, h, hl, h1, h2⟩
    · exact .inl h
    · refine .inr ⟨a, b, xs, ys, rfl, rfl, ?_, hl, h1, fun i u v e1 e2 => (h2 i u v e1 e2).same s⟩
      rcases h with ⟨p, q⟩ | ⟨p, q⟩
      · exact .inl ⟨sqT_same s p, sqT_same s q⟩
      · exact .inr ⟨s.seq p, s.seq q⟩
theorem tyX_T {K : PySem.W.Frag} {H : Hp} {a : Addr} {xs : List V} (h : SqT K H a xs) : TyX K H (.ref a) (.type "tuple") := by
  rcases h with (h | ⟨o, h⟩) | ⟨o, its, n, h1, h2, _⟩
  · exact .base (.tup h)
  · exact .fTuple h
  · exact .kTuple h1 h2
theorem tyX_L {K : PySem.W.Frag} {H : Hp} {a : Addr} {xs : List V} (h : SqL K H a xs) : TyX K H (.ref a) (.type "list") := by
  rcases h with (h | ⟨o, h⟩) | ⟨o, its, n, h1, h2, _⟩
  · exact .base (.lst h)
  · exact .base (.frz h)
  · exact .kList h1 h2
def spAlike (K : PySem.W.Frag) (n : Nat) : Sp := fun vs H Q _ => ∃ x y : V, vs = [x, y] ∧ Alike K H n x y ∧ ∀ H', Same H H' → Q (.bl true) H'
theorem Alike.two {K : PySem.W.Frag} {H : Hp} {n : Nat} {x y : V} (h : Alike K H n x y) : (x = y ∧ scalV x) ∨ ∃ (m : Nat) (a b : Addr) (xs ys : List V), n = m + 1 ∧ x = .ref a ∧ y = .ref b ∧ ((SqT K H a xs ∧ SqT K H b ys) ∨ (SqL K H a xs ∧ SqL K H b ys)) ∧ xs.length = ys.length ∧ ys.length ≤ 1000000 ∧
    ∀ (i : Nat) (u v : V), xs[i]? = some u → ys[i]? = some v → Alike K H m u v := by
  cases n with
  | zero => exact .inl h
  | succ m =>
    rcases h with h | ⟨a, b, xs, ys, h⟩
    · exact .inl h
    · exact .inr ⟨m, a, b, xs, ys, rfl, h⟩
def spA (K : PySem.W.Frag) : Nat → Sp
  | 0 => fun _ _ _ _ => False
  | n + 1 => spAlike K n
theorem kitAnyS {K : PySem.W.Frag} {t : String} (h : t = "tuple" ∨ t = "list") : PySem.W.kitAny K (.type t) [.type "tuple", .type "list"] = some true := by
  rcases h with rfl | rfl
  · exact kitAny_cons (b := true) (kit_ty (by decide +kernel)) (fun z => nomatch z) fun _ => rfl
  · exact kitAny_cons (b := false) (kit_ty (by decide +kernel)) (fun _ => kitAny_cons (b := true) (kit_ty (by decide +kernel)) (fun z => nomatch z) fun _ => rfl) fun z => nomatch z
theorem atI_some {xs : List V} {i : Nat} (h : i < xs.length) : atI xs ((0 : Int) + (i : Int)) = some (xs[i]) := by
  rw [Int.zero_add]
  exact atI_nat (by simp [h])
structure Nm (mg : Str → Option Value) : Prop where
  isi : mg "isinstance" = none
  tup : mg "tuple" = none
  lst : mg "list" = none
  len : mg "len" = none
  rng : mg "range" = none
  bool : mg "bool" = none
  str : mg "str" = none
  int : mg "int" = none
def typName : V → String
  | .non => "NoneType"
  | .bl _ => "bool"
  | .int _ => "int"
  | _ => "str"
theorem scal_ty {K : PySem.W.Frag} {H : Hp} {x : V} (h : scalV x) : TyX K H x (.type (typName x)) := by
  cases x <;> first | exact h.elim | exact .base .non | exact .base (.bl _) | exact .base (.int _) | exact .base (.str _)
theorem kitAny2 {K : PySem.W.Frag} {t a b : String} (h1 : kitB t a = some false) (h2 : kitB t b = some false) : PySem.W.kitAny K (.type t) [.type a, .type b] = some false :=
  kitAny_cons (kit_ty h1) (fun _ => kitAny_cons (kit_ty h2) (fun _ => rfl) fun z => nomatch z) fun z => nomatch z
section
variable {P : Program} {w : World} {K : PySem.W.Frag} {mg : Str → Option Value} {base : Heap}
end
end K8


set_option Elab.async false
set_option linter.all false
set_option maxRecDepth 100000
set_option maxHeartbeats 2000000
namespace K8
open PySem L2 Nd Bk
/-! data of tuples alone -/
mutual
def tupOnly : PyData → Bool
  | .tuple ds => tupOnlyAll ds
  | .int _ => true
  | .str _ => true
  | .none => true
  | .bool _ => true
  | _ => false
def tupOnlyAll : List PyData → Bool
  | [] => true
  | d :: ds => tupOnly d && tupOnlyAll ds
end
def NotT (u : Option HO) : Prop := (∀ xs, u ≠ some (.tup xs)) ∧ ∀ o xs, u ≠ some (.frz o (.tup xs))
theorem notT_none : NotT none := ⟨fun _ h => (nomatch h), fun _ _ h => nomatch h⟩
theorem notT_lst {xs : List V} : NotT (some (.lst xs)) := ⟨fun _ h => (nomatch h), fun _ _ h => nomatch h⟩
theorem notT_dK {xs : List (Key × V)} : NotT (some (.dK xs)) := ⟨fun _ h => (nomatch h), fun _ _ h => nomatch h⟩
theorem notT_nd {P : Program} {w : World} {d : Addr} {es : List Ent} : NotT (some (ndO P w d es)) := ⟨fun _ h => (by unfold ndO at h; cases h), fun _ _ h => (by unfold ndO at h; cases h)⟩
theorem notT_frzN {P : Program} {w : World} {d : Addr} {es : List Ent} {o : Obj} : NotT (some (.frz o (ndO P w d es))) := ⟨fun _ h => (by cases h), fun _ _ h => (by unfold ndO at h; cases h)⟩
theorem notT_frzK {xs : List (Key × V)} {o : Obj} : NotT (some (.frz o (.dK xs))) := ⟨fun _ h => (by cases h), fun _ _ h => (by cases h)⟩
theorem sqT_put {K : PySem.W.Frag} {H : Hp} {D a : Addr} {o : HO} {xs : List V} (n : NotT (H D)) (h : SqT K H a xs) : SqT K (upd H D o) a xs := by
  rcases h with (h | ⟨o', h⟩) | h
  · refine .inl (.inl ?_)
    rw [upd_ne (fun e => n.1 xs (by rw [← e]; exact h))]
    exact h
  · refine .inl (.inr ⟨o', ?_⟩)
    rw [upd_ne (fun e => n.2 o' xs (by rw [← e]; exact h))]
    exact h
  · exact .inr h
mutual
theorem dp_put0 {K : PySem.W.Frag} {H : Hp} {D : Addr} {o : HO} (n : NotT (H D)) : ∀ {v : V} {d : PyData}, Dp K H v d → tupOnly d = true → Dp K (upd H D o) v d
  | _, _, .non => fun _ => .non
  | _, _, .bl b => fun _ => .bl b
  | _, _, .int i => fun _ => .int i
  | _, _, .str x => fun _ => .str x
  | _, _, .lst h a => fun t => by simp [tupOnly] at t
  | _, _, .tup h a => fun t => .tup (sqT_put n h) (dpAll_put0 n a (by simpa [tupOnly] using t))
theorem dpAll_put0 {K : PySem.W.Frag} {H : Hp} {D : Addr} {o : HO} (n : NotT (H D)) : ∀ {v : List V} {d : List PyData}, DpAll K H v d → tupOnlyAll d = true → DpAll K (upd H D o) v d
  | _, _, .nil => fun _ => .nil
  | _, _, .cons h r => fun t => by
    simp only [tupOnlyAll, Bool.and_eq_true] at t
    exact .cons (dp_put0 n h t.1) (dpAll_put0 n r t.2)
end
theorem dp_put {K : PySem.W.Frag} {H : Hp} {D : Addr} {o : HO} (n : NotT (H D)) {v : V} {d : PyData} (t : tupOnly d = true) (h : Dp K H v d) : Dp K (upd H D o) v d := dp_put0 n h t
theorem dpAll_put {K : PySem.W.Frag} {H : Hp} {D : Addr} {o : HO} (n : NotT (H D)) {v : List V} {d : List PyData} (t : tupOnlyAll d = true) (h : DpAll K H v d) : DpAll K (upd H D o) v d := dpAll_put0 n h t
theorem tupOnlyAll_of : ∀ {ds : List PyData}, (∀ d ∈ ds, tupOnly d = true) → tupOnlyAll ds = true
  | [], _ => rfl
  | d :: ds, h => by
    simp only [tupOnlyAll, Bool.and_eq_true]
    exact ⟨h d List.mem_cons_self, tupOnlyAll_of fun e he => h e (List.mem_cons_of_mem _ he)⟩
/-! bags as data -/
section
variable {κ : Type} [DecidableEq κ] [Ky κ]
def bD (l : Bag κ) : PyData := .tuple (l.map encP)
class Tu (κ : Type) [DecidableEq κ] [Ky κ] : Prop where
  tu : ∀ k : κ, tupOnly (Ky.enc k) = true
theorem tu_encP [Tu κ] (p : κ × Int) : tupOnly (encP p) = true := by
  show (tupOnlyAll [Ky.enc p.1, .int p.2]) = true
  simp [tupOnlyAll, tupOnly, Tu.tu]
theorem tu_encPs [Tu κ] (l : Bag κ) : ∀ d ∈ l.map encP, tupOnly d = true := fun d h => by
  obtain ⟨p, _, rfl⟩ := List.mem_map.mp h
  exact tu_encP p
theorem tu_bD [Tu κ] (l : Bag κ) : tupOnly (bD l) = true := by
  show tupOnlyAll (l.map encP) = true
  exact tupOnlyAll_of (tu_encPs l)
end
instance : Tu Str := ⟨fun _ => rfl⟩
theorem mD_bD (m : Mono) : mD m = bD m := rfl
theorem enc_mono (m : Mono) : Ky.enc m = bD m := rfl
instance : Tu Mono := ⟨fun m => tu_bD (κ := Str) m⟩
section
variable {K : PySem.W.Frag} {H : Hp}
theorem dpAll_len : ∀ {xs : List V} {ds : List PyData}, DpAll K H xs ds → xs.length = ds.length
  | _, _, .nil => rfl
  | _, _, .cons _ t => by simp [dpAll_len t]
theorem dpAll_get : ∀ {xs : List V} {ds : List PyData}, DpAll K H xs ds → ∀ {i : Nat} {x : V}, xs[i]? = some x → ∃ d, ds[i]? = some d ∧ Dp K H x d
  | _, _, .cons h t, 0, x, e => by
    simp only [List.getElem?_cons_zero, Option.some.injEq] at e
    exact ⟨_, rfl, by rw [← e]; exact h⟩
  | _, _, .cons h t, i + 1, x, e => by
    simp only [List.getElem?_cons_succ] at e ⊢
    exact dpAll_get t e
theorem dpAll_append : ∀ {xs ys : List V} {ds es : List PyData}, DpAll K H xs ds → DpAll K H ys es → DpAll K H (xs ++ ys) (ds ++ es)
  | _, _, _, _, .nil, h => h
  | _, _, _, _, .cons h t, h2 => .cons h (dpAll_append t h2)
theorem dp_tup {v : V} {ds : List PyData} (h : Dp K H v (.tuple ds)) : ∃ a xs, v = .ref a ∧ SqT K H a xs ∧ DpAll K H xs ds := by
  cases h with
  | tup h a => exact ⟨_, _, rfl, h, a⟩
theorem dp_int {v : V} {i : Int} (h : Dp K H v (.int i)) : v = .int i := by
  cases h
  rfl
theorem dp_str {v : V} {i : Str} (h : Dp K H v (.str i)) : v = .str i := by
  cases h
  rfl
/-- the pair (key, number) at T -/
theorem dp_pair {κ : Type} [DecidableEq κ] [Ky κ] {v : V} {p : κ × Int} (h : Dp K H v (encP p)) : ∃ T k, v = .ref T ∧ SqT K H T [k, .int p.2] ∧ Dp K H k (Ky.enc p.1) := by
  obtain ⟨a, xs, rfl, hs, ha⟩ := dp_tup h
  cases ha with
  | cons h1 h2 =>
    cases h2 with
    | cons h3 h4 =>
      cases h4
      cases h3
      exact ⟨a, _, rfl, hs, h1⟩
theorem dp_mk {κ : Type} [DecidableEq κ] [Ky κ] {T : Addr} {k : V} {c : Int} {x : κ} (h : SqT K H T [k, .int c]) (hk : Dp K H k (Ky.enc x)) : Dp K H (.ref T) (encP (x, c)) := .tup h (.cons hk (.cons (.int c) .nil))
/-- a bag's tuple at a -/
theorem dp_bag {κ : Type} [DecidableEq κ] [Ky κ] {v : V} {l : Bag κ} (h : Dp K H v (bD l)) : ∃ a xs, v = .ref a ∧ SqT K H a xs ∧ xs.length = l.length ∧ DpAll K H xs (l.map encP) := by
  obtain ⟨a, xs, rfl, hs, ha⟩ := dp_tup h
  exact ⟨a, xs, rfl, hs, by rw [dpAll_len ha, List.length_map], ha⟩
theorem bag_get {κ : Type} [DecidableEq κ] [Ky κ] {xs : List V} {l : Bag κ} (h : DpAll K H xs (l.map encP)) {i : Nat} {x : V} (e : xs[i]? = some x) : ∃ p, l[i]? = some p ∧ Dp K H x (encP p) := by
  obtain ⟨d, h1, h2⟩ := dpAll_get h e
  rw [List.getElem?_map] at h1
  cases q : l[i]? with
  | none => rw [q] at h1; cases h1
  | some p =>
    rw [q] at h1
    cases h1
    exact ⟨p, rfl, h2⟩
end
/-! a list that is put together -/
theorem sm_new {H H2 : Hp} {d : Addr} {o : HO} (s : Same H H2) (n : H d = none) : Same H (upd H2 d o) := fun a u h => by
  rw [upd_ne (ne_of_none h n)]
  exact s a u h
theorem sm_refl {H : Hp} : Same H H := fun _ _ h => h
structure AccI (K : PySem.W.Frag) (H1 : Hp) (D : Addr) (ds : List PyData) (i : Nat) (H2 : Hp) : Prop where
  sm : Same H1 H2
  at_ : ∃ ys, H2 D = some (.lst ys) ∧ DpAll K H2 ys (ds.take i)
section
variable {K : PySem.W.Frag} {H1 : Hp} {D : Addr} {ds : List PyData}
theorem acc_zero (n : H1 D = none) : AccI K H1 D ds 0 (upd H1 D (.lst [])) := ⟨sm_new sm_refl n, [], upd_same, by rw [List.take_zero]; exact .nil⟩
theorem acc_step {i : Nat} {H2 H4 : Hp} {y : V} {d : PyData} (a : AccI K H1 D ds i H2) (n : H1 D = none) (hl : ds.length ≤ 1000000) (tu : ∀ d ∈ ds, tupOnly d = true) (s : Same H2 H4) (e : ds[i]? = some d) (h : Dp K H4 y d) :
    ∃ acc, H4 D = some (.lst acc) ∧ acc.length < sizeLine ∧ AccI K H1 D ds (i + 1) (upd H4 D (.lst (acc ++ [y]))) := by
  obtain ⟨s1, ys, hD, hy⟩ := a
  have hD4 := s _ _ hD
  have nt : NotT (H4 D) := by rw [hD4]; exact notT_lst
  have lt : tupOnlyAll (ds.take i) = true := tupOnlyAll_of fun d hd => tu d (List.mem_of_mem_take hd)
  refine ⟨ys, hD4, ?_, sm_new (s1.trans s) n, ys ++ [y], upd_same, ?_⟩
  · have := dpAll_len hy
    rw [List.length_take] at this
    rw [sizeLine_eq]
    omega
  · rw [List.take_succ, e]
    exact dpAll_append (dpAll_put nt lt (dpAll_same s hy)) (.cons (dp_put nt (tu d (List.mem_of_getElem? e)) h) .nil)
theorem acc_end {H2 : Hp} {n : Nat} (a : AccI K H1 D ds n H2) (e : n = ds.length) : Same H1 H2 ∧ ∃ ys, H2 D = some (.lst ys) ∧ DpAll K H2 ys ds := by
  subst e
  obtain ⟨s1, ys, hD, hy⟩ := a
  rw [List.take_length] at hy
  exact ⟨s1, ys, hD, hy⟩
end
/-! what a dict of this kind holds, as a bag -/
def bagOf (es : List Ent) : Poly := es.map fun e => (e.1, e.2.2)
theorem bagOf_len (es : List Ent) : (bagOf es).length = es.length := List.length_map ..
theorem look_bagOf (es : List Ent) (m : Mono) : look (bagOf es) m = getN es m := by
  induction es with
  | nil => rfl
  | cons e r ih =>
    unfold look getN bagOf at ih ⊢
    rw [List.map_cons, List.find?_cons, List.find?_cons]
    by_cases h : e.1 = m
    · simp [h]
    · simp only [decide_eq_false h]
      exact ih
theorem bagOf_put (es : List Ent) (m : Mono) (a : Addr) (c : Int) : bagOf (putN es m a c) = put (bagOf es) m c := by
  unfold putN put
  rw [look_bagOf]
  split
  · unfold bagOf
    rw [List.map_map, List.map_map]
    refine List.map_congr_left fun e _ => ?_
    show (fun e : Ent => (e.1, e.2.2)) (if e.1 = m then (e.1, e.2.1, c) else e) = if e.1 = m then (e.1, c) else (e.1, e.2.2)
    split <;> rfl
  · unfold bagOf
    rw [List.map_append]
    rfl
end K8


set_option Elab.async false
set_option linter.all false
set_option maxRecDepth 100000
set_option maxHeartbeats 2000000
namespace K8
open PySem L2 Nd Bk PySem.Spec PyProof.Rows
/-! dict(tuple of pairs), the tuple known to be without a dict of its own -/
def PlainT (H : Hp) (a : Addr) : Prop := ∃ o xs, H a = some (.frz o (.tup xs)) ∧ o.dict = none
theorem PlainT.same {H H' : Hp} {a : Addr} (s : Same H H') (h : PlainT H a) : PlainT H' a := let ⟨o, xs, h1, h2⟩ := h; ⟨o, xs, s _ _ h1, h2⟩
theorem PlainT.put {H : Hp} {a D : Addr} {u : HO} (n : NotT (H D)) (h : PlainT H a) : PlainT (upd H D u) a := by
  obtain ⟨o, xs, h1, h2⟩ := h
  refine ⟨o, xs, ?_, h2⟩
  rw [upd_ne (fun e => n.2 o xs (by rw [← e]; exact h1))]
  exact h1
def tx (m : Mono) : List (Key × V) := m.map fun p => (.inr p.1, .int p.2)
section
variable {X : Cx}
theorem call_tupleF : CallR X (.type "tuple") (fun xs H Q => ∃ p ys, xs = [.ref p] ∧ SqL X.K H p ys ∧ ∀ l o, H l = none → o.dict = none → Q (.ref l) (upd H l (.frz o (.tup ys)))) := by
  intro pins s σ H xs us Q I r h
  obtain ⟨p, ys, rfl, hq, q⟩ := h
  obtain ⟨u, rfl, rx⟩ := vals1 r
  cases rx
  obtain ⟨its, r', pl, hz⟩ := I.list hq
  have hlen := r'.length
  refine call_tuple_list pl.isList (fun h' kp => ?_) (by simp only [List.size_toArray] <;> omega)
  have I1 : Inv X pins σ H { s with heap := h' } := I.kept (t' := s.toks) kp
  have I2 : Inv X pins σ (upd H h'.objs.size (.frz { cls := .type "tuple", data := .seq its.toArray } (.tup ys))) { s with heap := h'.push { cls := .type "tuple", data := .seq its.toArray } } :=
    I1.laid (t' := s.toks) (fun b o e => Heap.get?_push_of_some _ e) (Nat.le_refl _) (show ObjOk X.prog X.w _ _ _ (.frz _ (.tup ys)) from ⟨Heap.get?_push_size _ rfl, hz, its, r', IsTup.new _ _⟩)
  exact ⟨.ref h'.objs.size, _, I2, rfl, q _ _ (I1.hok.fresh (Nat.le_refl _)) rfl⟩
theorem pairs_ofT {pins : List (Addr × Obj)} {σ : L2.St} {H : Hp} {s : Shared} (I : Inv X pins σ H s) : ∀ {m : Mono} {xs : List V} {us : List Value}, DpAll X.K H xs (m.map tkD) → Vals xs us →
    ∃ (as : List Addr) (ps : List (Value × Value)) (prs : List (Key × Value)), us = as.map Value.ref ∧ KV (tx m) prs ∧ as.length = m.length ∧ ps.length = m.length ∧
      ∀ (j : Nat) (k v : Value), ps[j]? = some (k, v) → (∃ a, as[j]? = some a ∧ PairAt s.heap a k v) ∧ ∃ key, prs[j]? = some (key, v) ∧ (mixKind X.prog X.w).is key k = true
  | [], _, _, h, r => by
    cases h
    cases r
    exact ⟨[], [], [], rfl, .nil, rfl, rfl, fun j k v e => by simp at e⟩
  | p :: m, _, _, h, r => by
    cases h with
    | cons h1 h2 =>
      cases r with
      | cons r1 r2 =>
        obtain ⟨as, ps, prs, rfl, kv, la, lp, hh⟩ := pairs_ofT I h2 r2
        obtain ⟨T, k, rfl, hs, hk⟩ := dp_pair (κ := Str) (p := p) h1
        cases dp_str (i := p.1) hk
        cases r1
        obtain ⟨its, rv, ht, _⟩ := I.tuple hs
        obtain ⟨u, y, ei, ru, ry⟩ := vals2 rv
        subst ei
        refine ⟨T :: as, (u, y) :: ps, (.inr p.1, y) :: prs, rfl, .cons ⟨rfl, ry⟩ kv, by simp [la], by simp [lp], fun j k v e => ?_⟩
        cases j with
        | zero =>
          simp only [List.getElem?_cons_zero, Option.some.injEq, Prod.mk.injEq] at e
          obtain ⟨rfl, rfl⟩ := e
          exact ⟨⟨T, rfl, .inl ht⟩, .inr p.1, rfl, kV_is (P := X.prog) (w := X.w) ru⟩
        | succ j =>
          simp only [List.getElem?_cons_succ] at e ⊢
          exact hh j k v e
theorem merge_snoc {k : Key} {v : V} : ∀ (more kvs : List (Key × V)), (kvs ++ more).map (·.1) |>.Nodup → mergeK kvs more = kvs ++ more
  | [], kvs, _ => by
    rw [List.append_nil]
    rfl
  | p :: r, kvs, h => by
    have hn : valV kvs p.1 = none := by
      cases e : valV kvs p.1 with
      | none => rfl
      | some y =>
        unfold valV at e
        obtain ⟨q, hq, _⟩ := Option.map_eq_some_iff.mp e
        have h1 := List.mem_of_find?_eq_some hq
        have h2' := List.find?_some hq
        have h2 : q.1 = p.1 := of_decide_eq_true h2'
        rw [List.map_append, List.nodup_append] at h
        exact absurd h2 (h.2.2 q.1 (List.mem_map.mpr ⟨q, h1, rfl⟩) p.1 (by simp))
    show mergeK (putK kvs p.1 p.2) r = _
    rw [putK_new _ hn, merge_snoc r (k := k) (v := v) _ (by simpa using h)]
    simp
theorem tx_nodup {m : Mono} (h : (m.map (·.1)).Nodup) : ((tx m).map (·.1)).Nodup := by
  unfold tx
  rw [List.map_map]
  have e : ((fun kv : Key × V => kv.1) ∘ fun p : Str × Int => ((Sum.inr p.1 : Key), V.int p.2)) = (fun x : Str => (Sum.inr x : Key)) ∘ fun p : Str × Int => p.1 := rfl
  rw [e, ← List.map_map]
  rw [List.Nodup, List.pairwise_map]
  exact h.imp fun {a b} hab e => hab (Sum.inr.inj e)
theorem call_dictT (hcalm : X.calm = true) : CallR X (.type "dict") (fun xs H Q => ∃ (a : Addr) (m : Mono), xs = [.ref a] ∧ PlainT H a ∧ Dp X.K H (.ref a) (mD m) ∧ (m.map (·.1)).Nodup ∧
    ∀ p, H p = none → Q (.ref p) (upd H p (.dK (tx m)))) := by
  intro pins s σ H xs us Q I r q
  obtain ⟨a, m, ex, hp, hd, hnd, q⟩ := q
  subst ex
  obtain ⟨u, eu, rx⟩ := vals1 r
  subst eu
  cases rx
  obtain ⟨a', ys, ea, hs, hl, ha⟩ := dp_bag (κ := Str) hd
  cases ea
  obtain ⟨its, rv, ht, hz⟩ := I.tuple hs
  obtain ⟨as, ps, prs, rfl, kv, la, lp, hh⟩ := pairs_ofT I ha rv
  obtain ⟨o, zs, hH, ho⟩ := hp
  have hk : s.heap.get? a = some o := (show ObjOk X.prog X.w H s.heap a (.frz o (.tup zs)) from I.hok a _ hH).1
  obtain ⟨o', ho', hc', n', hd'⟩ := ht
  rw [hk] at ho'
  cases ho'
  have tl : (tx m).length = m.length := List.length_map ..
  have pl : prs.length = m.length := by rw [← tl, kv.length]
  refine PySem.call_dict_pairs (knd := mixKind X.prog X.w) (kvs := prs) (PairArg.tuple a (as.map Value.ref).toArray (fun j => as.getD j 0) ps) (I.ok.hd hcalm) ⟨⟨o, n', hk, hc', ho, hd'⟩, by simp [la, lp], fun j k v e => ?_⟩ ⟨by rw [pl, lp], fun i key v e => ?_⟩ (by rw [lp, ← hl]; exact hz) fun h' tk hdd hkk => ?_
  · obtain ⟨⟨b, hb, hpa⟩, _⟩ := hh j k v e
    have e2 : as.getD j 0 = b := by rw [List.getD_eq_getElem?_getD, hb]; rfl
    show (List.map Value.ref as).toArray[j]? = some (Value.ref (as.getD j 0)) ∧ PairAt s.heap (as.getD j 0) k v
    rw [e2]
    exact ⟨by simp [hb], hpa⟩
  · obtain ⟨_, key', h1, h2⟩ := hh i key v e
    exact ⟨key', h1, h2⟩
  · have hm : (s.heap.objs.size == sysModules) = false := beq_eq_false_iff_ne.mpr (Nat.ne_of_gt I.big)
    have em : mergeK [] (tx m) = tx m := merge_snoc (k := .inl 0) (v := .non) (tx m) [] (by rw [List.nil_append]; exact tx_nodup hnd)
    have mr := KV.merge kv (kvs := []) (vs := []) .nil
    rw [em] at mr
    refine ⟨.ref s.heap.objs.size, upd H s.heap.objs.size (.dK (tx m)), I.laid (t' := tk) (fun b o e => hkk b o (by simp) e) (Nat.le_refl _) (show ObjOk X.prog X.w _ _ _ (.dK (tx m)) from ⟨?_, hm, merged [] prs, mr, hdd⟩), rfl, q _ (I.hok.fresh (Nat.le_refl _))⟩
    rw [tl, ← hl]
    exact hz
end
end K8


set_option Elab.async false
set_option linter.all false
set_option maxRecDepth 100000
set_option maxHeartbeats 4000000
namespace K8
open PySem L2 Nd Bk
def BEY : Int := 10 ^ 100
/-- the names that are used -/
structure Cn (K : PySem.W.Frag) (mg : Str → Option Value) : Prop where
  N : Nm mg
  min : mg "min" = none
  any : mg "any" = none
  dict : mg "dict" = none
  srt : mg "sorted" = none
  bey : ∃ t, mg "BEYOND_FIGURES" = some (.int BEY t)
  most : ∃ t, mg "MOST_TERMS" = some (.int 400 t)
  zero : ∃ a, mg "ZERO" = some (.ref a) ∧ ∀ H, Dp K H (.ref a) (bD ([] : Poly))
  one : ∃ a, mg "ONE" = some (.ref a) ∧ ∀ H, Dp K H (.ref a) (bD oneP)
/-- a def of the program, as it is called -/
structure Df (P : Program) (w : World) (K : PySem.W.Frag) (mg : Str → Option Value) (base : Heap) (k : Nat) (x : Str) (ps : List Str) (sp : Sp) : Prop where
  ok : ∃ (f : Addr) (fd : FuncData), mg x = some (.ref f) ∧ PySem.W.keepIn K (.ref f) = true ∧ Binds K fd ps [] ∧ FnOk P w K mg base CX0 k f fd ps sp
theorem u9 {k : Nat} {A : Around} (hr : Room k A) : A.units + 9 < cLine := by
  have := hr.un
  omega
theorem u64 {k : Nat} {A : Around} (hr : Room k A) : A.units + 64 < cLine := by
  have := hr.un
  omega
def spPut (K : PySem.W.Frag) (P : Program) (w : World) : Sp := fun vs H Q _ => ∃ (d a : Addr) (es : List Ent) (m : Mono) (c : Int), vs = [.ref d, .ref a, .int c] ∧ NdAt K P w H d es ∧ Dp K H (.ref a) (mD m) ∧ es.length ≤ 1000000 ∧
  (getN es m).getD 0 + c < BEY ∧ Q .non (upd H d (ndO P w d (putN es m a ((getN es m).getD 0 + c))))
def spChk (K : PySem.W.Frag) (P : Program) (w : World) : Sp := fun vs H Q _ => ∃ (d : Addr) (es : List Ent), vs = [.ref d] ∧ NdAt K P w H d es ∧ es.length ≤ 400 ∧ Q .non H
section
variable {P : Program} {w : World} {K : PySem.W.Frag} {mg : Str → Option Value} {base : Heap}
theorem scPut : FnScope ["found", "monomial", "coefficient"] ["found", "monomial", "coefficient"] (defScope sPut) := ⟨rfl, rfl, rfl, by decide +kernel, rfl, by decide +kernel, by decide +kernel⟩
theorem ok_put {f : Addr} {fd : FuncData} (F : Fun K "put" "put" sPut f fd) (C : Cn K mg) : FnOk P w K mg base CX0 1 f fd ["found", "monomial", "coefficient"] (spPut K P w) := by
  refine F.ok scPut (fun vs H Q E h => ?_) (fun cdv A outer s H vs Q E hr h => ?_)
  · obtain ⟨d, a, es, m, c, rfl, _⟩ := h
    rfl
  · obtain ⟨d, a, es, m, c, rfl, n, hm, hl, hc, k⟩ := h
    obtain ⟨t, ht⟩ := C.bey
    refine ⟨_, pss_one (ps_asg (pe_callB (call_min2 rfl) (by rfl) C.min (by rfl) (pa_cons (pe_op op_add (pe_ndGetOr (u9 hr) (pv 0) (pv 1) pe_int ⟨rfl, rfl, rfl, rfl⟩) (pv 2)) (pa_cons (pe_glob (v := .int BEY) (by rfl) ht ⟨_, rfl⟩) pa_nil)))
      (pg_sub (pv 0) (pv 1) (set_nd (u9 hr)))), ?_⟩
    refine ⟨_, rfl, d, es, rfl, n, _, rfl, a, m, 0, rfl, rfl, n, hm, _, rfl, _, _, rfl, rfl, _, _, rfl, ?_⟩
    rw [if_neg (by omega)]
    exact ⟨_, rfl, _, rfl, d, a, es, m, _, rfl, rfl, rfl, n, hm, (by rw [sizeLine_eq]; omega), k⟩
theorem scChk : FnScope ["terms"] ["terms"] (defScope sChk) := ⟨rfl, rfl, rfl, by decide +kernel, rfl, by decide +kernel, by decide +kernel⟩
theorem ok_chk {f : Addr} {fd : FuncData} (F : Fun K "check_terms" "check_terms" sChk f fd) (C : Cn K mg) : FnOk P w K mg base CX0 1 f fd ["terms"] (spChk K P w) := by
  refine F.ok scChk (fun vs H Q E h => ?_) (fun cdv A outer s H vs Q E hr h => ?_)
  · obtain ⟨d, es, rfl, _⟩ := h
    rfl
  · obtain ⟨d, es, rfl, n, hl, k⟩ := h
    obtain ⟨t, ht⟩ := C.most
    refine ⟨_, pss_one (ps_if (pt_cmpR op_gt (pe_callB call_lenNd (by rfl) C.N.len PySem.boot_len (pa_cons (pv 0) pa_nil)) (pe_glob (v := .int 400) (by rfl) ht ⟨_, rfl⟩) (nomark _)) (pss_one ps_never) pss_nil), ?_⟩
    refine ⟨_, rfl, d, es, rfl, n, _, _, rfl, rfl, _, rfl, ?_⟩
    rw [show decide ((400 : Int) < (es.length : Int)) = false from decide_eq_false (by omega)]
    exact iteF k
end
end K8


set_option Elab.async false
set_option linter.all false
set_option maxRecDepth 100000
set_option maxHeartbeats 4000000
namespace K8
open PySem L2 Nd Bk
theorem lock_back {H H' : Hp} {d : Addr} {u : HO} {od : Obj} (e : H d = some u) (s : Same (upd H d (.frz od u)) H') : Same H (upd H' d u) := fun a o h => by
  by_cases q : a = d
  · rw [q] at h ⊢
    rw [upd_same]
    rw [h] at e
    exact e.symm ▸ rfl
  · rw [upd_ne q]
    exact s a o (by rw [upd_ne q]; exact h)
theorem nd_back {K : PySem.W.Frag} {P : Program} {w : World} {H H' : Hp} {d : Addr} {es : List Ent} (n : NdAt K P w H d es) (s : Same H H') : NdAt K P w H' d es := ⟨s _ _ n.at_, fun e he => dp_same s (n.keys e he)⟩
theorem nd_other {K : PySem.W.Frag} {P : Program} {w : World} {H : Hp} {d D : Addr} {es : List Ent} {o : HO} (n : NdAt K P w H d es) (ne : d ≠ D) (nt : NotT (H D)) : NdAt K P w (upd H D o) d es :=
  ⟨by rw [upd_ne ne]; exact n.at_, fun e he => dp_put nt (tu_bD (κ := Str) e.1) (n.keys e he)⟩
theorem map_srt {κ : Type} [DecidableEq κ] [Ky κ] (l : Bag κ) : (l.map encP).mergeSort (PySem.W.dataLe false id) = (srt l).map encP := by
  unfold srt
  rw [List.map_mergeSort]
  intro a _ b _
  rfl
theorem al_encP {κ : Type} [DecidableEq κ] [Ky κ] (p q : κ × Int) : PySem.W.alike (encP p) (encP q) = true := by
  have ai : PySem.W.alike (.int p.2) (.int q.2) = true := by simp [PySem.W.alike]
  simp [encP, PySem.W.alike, PySem.W.alikeAll, Ky.al]
theorem dep_encP {κ : Type} [DecidableEq κ] [Ky κ] (p : κ × Int) : (encP p).depth ≤ 20 := by
  have := Ky.dep p.1
  simp only [encP, PyData.depth, PyData.depthAll]
  omega
theorem prd_of {K : PySem.W.Frag} {P : Program} {w : World} {H : Hp} {d : Addr} {es : List Ent} (n : NdAt K P w H d es) : PrD K H (es.map fun e => (V.ref e.2.1, V.int e.2.2)) ((bagOf es).map encP) := by
  have h := n.keys
  clear n
  induction es with
  | nil => exact .nil
  | cons e r ih => exact .cons ⟨_, _, rfl, h e List.mem_cons_self, .int _⟩ (ih fun x hx => h x (List.mem_cons_of_mem _ hx))
def spPoly (K : PySem.W.Frag) (P : Program) (w : World) : Sp := fun vs H Q _ => ∃ (d : Addr) (es : List Ent), vs = [.ref d] ∧ NdAt K P w H d es ∧ es.length ≤ 400 ∧ (∀ t ∈ bagOf es, t.2 < BEY ∧ t.1.length ≤ 1000 ∧ ∀ x ∈ t.1, x.2 < BEY) ∧
  ∀ (v : V) (H' : Hp), Same H H' → Dp K H' v (bD (srt (bagOf es))) → Q v H'
def spAs (K : PySem.W.Frag) (P : Program) (w : World) : Sp := fun vs H Q _ => ∃ (d : Addr) (es : List Ent), vs = [.ref d] ∧ NdAt K P w H d es ∧ ∀ (v : V) (H' : Hp), Same H H' → Dp K H' v (bD (srt (bagOf es))) → Q v H'
def spCkF (K : PySem.W.Frag) : Sp := fun vs H Q _ => ∃ (v : V) (B : Poly), vs = [v] ∧ Dp K H v (bD B) ∧ (∀ t ∈ B, t.2 < BEY ∧ t.1.length ≤ 1000 ∧ ∀ x ∈ t.1, x.2 < BEY) ∧ ∀ H', Same H H' → Q .non H'
section
variable {P : Program} {w : World} {K : PySem.W.Frag} {mg : Str → Option Value} {base : Heap}
theorem scAs : FnScope ["found"] ["found"] (defScope sAs) := ⟨rfl, rfl, rfl, by decide +kernel, rfl, by decide +kernel, by decide +kernel⟩
theorem ok_as {f : Addr} {fd : FuncData} (F : Fun K "as_terms" "as_terms" sAs f fd) (C : Cn K mg) : FnOk P w K mg base CX0 1 f fd ["found"] (spAs K P w) := by
  refine F.ok scAs (fun vs H Q E h => ?_) (fun cdv A outer s H vs Q E hr h => ?_)
  · obtain ⟨d, es, rfl, _⟩ := h
    rfl
  · obtain ⟨d, es, rfl, n, k⟩ := h
    refine ⟨_, pss_one (ps_ret (pe_callTy call_tuple_of (by rfl) C.N.tup (by rfl) (pa_cons (pe_callB (cr_sortItems rfl (u64 hr)) (by rfl) C.srt (by rfl) (pa_cons (pe_itemsV (pv 0)) pa_nil)) pa_nil))), ?_⟩
    refine ⟨_, rfl, d, _, rfl, DEnt.n n, fun p np => ?_⟩
    have n4 : NdAt K P w (upd H p (L2.DX.itemsO p d)) d es := nd_other n (ne_of_none n.at_ np) (by rw [np]; exact notT_none)
    refine ⟨p, d, _, (bagOf es).map encP, rfl, upd_same, DEnt.n n4, prd_of n4, ?_, ?_, fun l H4 ys nl s4 hys hall => ?_⟩
    · intro x hx y hy
      obtain ⟨px, _, rfl⟩ := List.mem_map.mp hx
      obtain ⟨py, _, rfl⟩ := List.mem_map.mp hy
      exact al_encP px py
    · intro x hx
      obtain ⟨px, _, rfl⟩ := List.mem_map.mp hx
      exact dep_encP px
    · rw [map_srt] at hall
      refine ⟨l, ys, rfl, .inl ⟨SqL.of hys, fun v nv => ?_⟩⟩
      have s5 : Same H H4 := fun q o hq => s4 q o (by rw [upd_ne (ne_of_none hq np)]; exact hq)
      refine k _ _ (sm_new s5 (s5.free nv)) (.tup (SqT.of upd_same) (dpAll_put (by rw [nv]; exact notT_none) (tupOnlyAll_of (tu_encPs _)) hall))
theorem scCkF : FnScope ["terms", "monomial", "coefficient", "pair"] ["terms"] (defScope sCkF) := ⟨rfl, rfl, rfl, by decide +kernel, rfl, by decide +kernel, by decide +kernel⟩
theorem ok_ckF {f : Addr} {fd : FuncData} (F : Fun K "check_figures" "check_figures" sCkF f fd) (C : Cn K mg) : FnOk P w K mg base CX0 1 f fd ["terms"] (spCkF K) := by
  refine F.ok scCkF (fun vs H Q E h => ?_) (fun cdv A outer s H vs Q E hr h => ?_)
  · obtain ⟨d, es, rfl, _⟩ := h
    rfl
  · obtain ⟨v, B, rfl, hv, hb, k⟩ := h
    obtain ⟨t, ht⟩ := C.bey
    obtain ⟨a, xs, rfl, sq, len, all⟩ := dp_bag (κ := Mono) hv
    refine ⟨_, pss_one (ps_for PassesOwn.never rfl (pi_tup (pv 0)) (pg_tup rfl (pgs_cons (pg_name (i := 1) scCkF.nd rfl (Or.inl rfl)) (pgs_cons (pg_name (i := 2) scCkF.nd rfl (Or.inl rfl)) pgs_nil)))
        (pss_one (ps_if (PW.pt (pw_or (pt_cmpR op_ge (pv 2) (pe_glob (v := .int BEY) (by rfl) ht ⟨_, rfl⟩) (nomark _))
          (pw_or1 (pt_val (pe_callB (cr_any rfl) (by rfl) C.any (by rfl) (pa_cons (pe_lc (own := [("pair", 3)]) (g := gName 3) (tt := tYes) rfl scCkF.nd (pi_tup (pv 1)) (blkOk_by (N := ["terms", "monomial", "coefficient", "pair"]) (sc := defScope sCkF) (by decide +kernel))
            (fun _ _ _ _ _ => pg_name (i := 3) scCkF.nd rfl (Or.inl rfl)) (fun _ _ _ _ _ => pts_nil)
            (fun _ _ _ _ _ => pe_cmpR op_ge (pe_ix (show IxR _ (rIx K) from ix_seq) (pv 3) pe_int (fun _ _ => rfl)) (pe_glob (v := .int BEY) (by rfl) ht ⟨_, rfl⟩) (nomark _))) pa_nil)))))) (pss_one ps_never) pss_nil))), ?_⟩
    refine ⟨_, rfl, a, rfl, ⟨_, sq⟩, ?_⟩
    refine for_tup (K := K) (a := a) (xs := xs) (fun i σ H2 => (∃ a' b, σ = [some (.ref a), a', b, none]) ∧ Same H H2) ⟨⟨none, none, rfl⟩, sm_refl⟩ (fun i σ H2 _ ⟨_, s2⟩ => sqT_same s2 sq) ?_ ?_
    · rintro i x σ H2 hi ⟨⟨a', b, rfl⟩, s2⟩
      obtain ⟨e, he, hx⟩ := bag_get all hi
      obtain ⟨T, kk, rfl, hT, hk⟩ := dp_pair (dp_same s2 hx)
      obtain ⟨m', xs', rfl, hsq, hlen, hall⟩ := dp_bag (κ := Str) hk
      obtain ⟨hc, hlm, hm⟩ := hb e (List.mem_of_getElem? he)
      refine ⟨T, _, rfl, hT, rfl, _, _, rfl, _, _, rfl, rfl, ?_⟩
      refine ⟨_, rfl, _, _, rfl, rfl, _, rfl, ?_⟩
      rw [show decide (BEY ≤ e.2) = false from decide_eq_false (by omega)]
      refine iteF ?_
      refine ⟨_, rfl, m', rfl, ⟨_, hsq⟩, fun D nD => ?_⟩
      refine lc_tup (K := K) (a := m') (xs := xs') (fun i H4 => Same H2 H4 ∧ H4 D = some (.lst ((List.replicate i false).map V.bl))) ⟨sm_new sm_refl nD, upd_same⟩ (fun i H4 _ ⟨s4, _⟩ => sqT_same s4 hsq) ?_ ?_
      · rintro j y H4 hj ⟨s4, hD⟩
        obtain ⟨p, hp, hy⟩ := bag_get hall hj
        obtain ⟨U, kk, rfl, hu, _⟩ := dp_pair (dp_same s4 hy)
        refine ⟨rfl, _, rfl, .inr (.inl ⟨U, _, _, _, rfl, rfl, hu, rfl, ?_⟩)⟩
        refine ⟨_, _, rfl, rfl, ?_⟩
        have := hm p (List.mem_of_getElem? hp)
        rw [show ((fun i j : Int => V.bl (decide (j ≤ i))) p.2 BEY) = V.bl false from congrArg V.bl (decide_eq_false (by omega))]
        have hj2 := (List.getElem?_eq_some_iff.mp hj).1
        refine ⟨_, hD, small1000 ?_, sm_new s4 nD, ?_⟩
        · rw [List.length_map, List.length_replicate]
          omega
        · rw [upd_same, List.replicate_succ']
          simp
      · rintro H4 ⟨s4, hD⟩
        refine ⟨D, List.replicate xs'.length false, rfl, SqL.of hD, _, rfl, ?_⟩
        rw [show (List.replicate xs'.length false).any id = false by simp]
        refine iteF ?_
        exact ⟨⟨_, _, rfl⟩, s2.trans s4⟩
    · rintro σ H2 ⟨⟨a', b, rfl⟩, s2⟩
      exact k H2 s2
theorem srt_lim {B : Poly} {p : Mono × Int → Prop} (h : ∀ t ∈ B, p t) : ∀ t ∈ srt B, p t := fun t ht => h t (List.mem_mergeSort.mp ht)
theorem scPoly : FnScope ["found", "made"] ["found"] (defScope sPoly) := ⟨rfl, rfl, rfl, by decide +kernel, rfl, by decide +kernel, by decide +kernel⟩
theorem ok_poly {f : Addr} {fd : FuncData} (F : Fun K "poly_of" "poly_of" sPoly f fd) (C : Cn K mg) (G : Df P w K mg base 1 "check_terms" ["terms"] (spChk K P w))
    (Ga : Df P w K mg base 1 "as_terms" ["found"] (spAs K P w)) (Gf : Df P w K mg base 1 "check_figures" ["terms"] (spCkF K)) : FnOk P w K mg base CX0 2 f fd ["found"] (spPoly K P w) := by
  obtain ⟨fc, fdc, gC, kC, bC, GC⟩ := G.ok
  obtain ⟨fa, fda, gA, kA, bA, GA⟩ := Ga.ok
  obtain ⟨ff, fdf, gF, kF, bF, GF⟩ := Gf.ok
  refine F.ok scPoly (fun vs H Q E h => ?_) (fun cdv A outer s H vs Q E hr h => ?_)
  · obtain ⟨d, es, rfl, _⟩ := h
    rfl
  · obtain ⟨d, es, rfl, n, hl, hb, k⟩ := h
    have hr1 : Room 1 _ := hr
    refine ⟨_, pss_cons (ps_expr (pe_call GC hr1 rfl gC kC bC .nil pass0 (pa_cons (pv 0) pa_nil)))
      (pss_cons (ps_set (i := 1) scPoly.nd rfl (Or.inl rfl) (pe_call GA hr1 rfl gA kA bA .nil pass0 (pa_cons (pv 0) pa_nil)))
      (pss_cons (ps_expr (pe_call GF hr1 rfl gF kF bF .nil pass0 (pa_cons (pv 1) pa_nil)))
      (pss_one (ps_ret (pv 1))))), ?_⟩
    refine ⟨_, rfl, d, es, rfl, n, hl, ?_⟩
    refine ⟨_, rfl, d, es, rfl, n, fun v H2 s2 hv => ?_⟩
    refine ⟨_, rfl, v, _, rfl, hv, srt_lim hb, fun H3 s3 => ?_⟩
    exact ⟨_, rfl, k v H3 (s2.trans s3) (dp_same s3 hv)⟩
end
end K8


set_option Elab.async false
set_option linter.all false
set_option maxRecDepth 100000
set_option maxHeartbeats 4000000
namespace K8
open PySem L2 Nd Bk
/-- a pair whose first is a tuple that is known to be without a dict -/
def PlP (K : PySem.W.Frag) (H : Hp) (x : V) (t : Mono × Int) : Prop := ∃ U a, x = .ref U ∧ SqT K H U [.ref a, .int t.2] ∧ PlainT H a ∧ Dp K H (.ref a) (bD t.1)
theorem PlP.same {K : PySem.W.Frag} {H H' : Hp} {x : V} {t : Mono × Int} (s : Same H H') (h : PlP K H x t) : PlP K H' x t := let ⟨U, a, h1, h2, h3, h4⟩ := h; ⟨U, a, h1, sqT_same s h2, h3.same s, dp_same s h4⟩
theorem PlP.put {K : PySem.W.Frag} {H : Hp} {D : Addr} {o : HO} {x : V} {t : Mono × Int} (n : NotT (H D)) (h : PlP K H x t) : PlP K (upd H D o) x t :=
  let ⟨U, a, h1, h2, h3, h4⟩ := h; ⟨U, a, h1, sqT_put n h2, h3.put n, dp_put n (tu_bD (κ := Str) t.1) h4⟩
structure Fz (K : PySem.W.Frag) (H : Hp) (T : Addr) (xs : List V) (p : Poly) : Prop where
  sq : SqT K H T xs
  all : DpAll K H xs (p.map encP)
  pl : Paired (PlP K H) xs p
theorem Fz.same {K : PySem.W.Frag} {H H' : Hp} {T : Addr} {xs : List V} {p : Poly} (s : Same H H') (h : Fz K H T xs p) : Fz K H' T xs p := ⟨sqT_same s h.sq, dpAll_same s h.all, Paired.mapP h.pl fun _ _ q => q.same s⟩
theorem Fz.put {K : PySem.W.Frag} {H : Hp} {D : Addr} {o : HO} {T : Addr} {xs : List V} {p : Poly} (n : NotT (H D)) (h : Fz K H T xs p) : Fz K (upd H D o) T xs p :=
  ⟨sqT_put n h.sq, dpAll_put n (tupOnlyAll_of (tu_encPs p)) h.all, Paired.mapP h.pl fun _ _ q => q.put n⟩
theorem Fz.len {K : PySem.W.Frag} {H : Hp} {T : Addr} {xs : List V} {p : Poly} (h : Fz K H T xs p) : xs.length = p.length := by rw [dpAll_len h.all, List.length_map]
def rTupF (K : PySem.W.Frag) : List V → Hp → VK → Prop := fun xs H Q => ∃ p ys, xs = [.ref p] ∧ SqL K H p ys ∧ ∀ l o, H l = none → o.dict = none → Q (.ref l) (upd H l (.frz o (.tup ys)))
def Szd (p : Poly) : Prop := p.length ≤ 1000 ∧ ∀ t ∈ p, t.1.length ≤ 1000
def spFroz (K : PySem.W.Frag) : Sp := fun vs H Q _ => ∃ (v : V) (p : Poly), vs = [v] ∧ Dp K H v (bD p) ∧ Szd p ∧ ∀ (T : Addr) (xs : List V) (H' : Hp), Same H H' → Fz K H' T xs p → Q (.ref T) H'
theorem list1000 {n : Nat} (h : n ≤ 1000) : n ≤ 1000000 := by omega
section
variable {P : Program} {w : World} {K : PySem.W.Frag} {mg : Str → Option Value} {base : Heap}
theorem scFroz : FnScope ["p", "monomial", "coefficient", "token", "exponent"] ["p"] (defScope sFrozen) := ⟨rfl, rfl, rfl, by decide +kernel, rfl, by decide +kernel, by decide +kernel⟩
theorem ok_froz {f : Addr} {fd : FuncData} (F : Fun K "frozen" "frozen" sFrozen f fd) (C : Cn K mg) : FnOk P w K mg base CX0 1 f fd ["p"] (spFroz K) := by
  refine F.ok scFroz (fun vs H Q E h => ?_) (fun cdv A outer s H vs Q E hr h => ?_)
  · obtain ⟨v, p, rfl, _⟩ := h
    rfl
  · obtain ⟨v, p, rfl, hd, hz, k⟩ := h
    refine ⟨_, pss_one (ps_ret (pe_callTy call_tuple_of (by rfl) C.N.tup (by rfl) (pa_cons
      (pe_lc (own := [("monomial", 1), ("coefficient", 2)]) (g := gTup K 2 (gCons (gName 1) (gCons (gName 2) gNil))) (tt := tYes) rfl scFroz.nd (pi_tup (pv 0)) (blkOk_by (N := ["p", "monomial", "coefficient", "token", "exponent"]) (sc := defScope sFrozen) (by decide +kernel))
        (fun _ _ _ _ _ => pg_tup rfl (pgs_cons (pg_name (i := 1) scFroz.nd rfl (Or.inl rfl)) (pgs_cons (pg_name (i := 2) scFroz.nd rfl (Or.inl rfl)) pgs_nil))) (fun _ _ _ _ _ => pts_nil)
        (fun _ _ _ _ _ => pe_tup (pa_cons (pe_callTy (show CallR _ _ (rTupF K) from call_tupleF) (by rfl) C.N.tup (by rfl) (pa_cons
          (pe_lc (own := [("token", 3), ("exponent", 4)]) (g := gTup K 2 (gCons (gName 3) (gCons (gName 4) gNil))) (tt := tYes) rfl scFroz.nd (show PI _ _ _ (iTup K _) from pi_tup (pv 1)) (blkOk_by (N := ["p", "monomial", "coefficient", "token", "exponent"]) (by rfl))
            (fun _ _ _ _ _ => pg_tup rfl (pgs_cons (pg_name (i := 3) scFroz.nd rfl (Or.inl rfl)) (pgs_cons (pg_name (i := 4) scFroz.nd rfl (Or.inl rfl)) pgs_nil))) (fun _ _ _ _ _ => pts_nil)
            (fun _ _ _ _ _ => pe_tup (pa_cons (pv 3) (pa_cons (pv 4) pa_nil)))) pa_nil)) (pa_cons (pv 2) pa_nil)))) pa_nil))), ?_⟩
    obtain ⟨a, xs, rfl, hs, hl, hall⟩ := dp_bag hd
    refine ⟨_, rfl, a, rfl, ⟨_, hs⟩, fun D nD => ?_⟩
    refine lc_tup (K := K) (a := a) (xs := xs) (fun i H2 => AccI K H D (p.map encP) i H2 ∧ ∃ ys, H2 D = some (.lst ys) ∧ Paired (PlP K H2) ys (p.take i)) ⟨acc_zero nD, [], upd_same, .nil⟩ (fun i H2 _ ⟨a2, _⟩ => sqT_same a2.sm hs) ?_ ?_
    · rintro i x H2 hi ⟨a2, ys, hD, hpl⟩
      obtain ⟨t, ht, hx⟩ := bag_get hall hi
      obtain ⟨T, kk, rfl, hT, hk⟩ := dp_pair (dp_same a2.sm hx)
      obtain ⟨b, zs, rfl, hb, hbl, hball⟩ := dp_bag (κ := Str) hk
      refine ⟨T, _, rfl, hT, rfl, _, _, rfl, _, _, rfl, rfl, rfl, _, rfl, b, rfl, ⟨_, hb⟩, fun D2 nD2 => ?_⟩
      have htm : t ∈ p := List.mem_of_getElem? ht
      have tl : (t.1.map encP).length ≤ 1000000 := by
        have := hz.2 t htm
        rw [List.length_map]
        omega
      refine lc_tup (K := K) (a := b) (xs := zs) (fun j H3 => AccI K H2 D2 (t.1.map encP) j H3) (acc_zero nD2) (fun j H3 _ a3 => sqT_same a3.sm hb) ?_ ?_
      · rintro j y H3 hj a3
        obtain ⟨q, hq, hy⟩ := bag_get hball hj
        obtain ⟨U, kk2, rfl, hU, hkk⟩ := dp_pair (dp_same a3.sm hy)
        cases dp_str (i := q.1) hkk
        refine ⟨U, _, rfl, hU, rfl, _, _, rfl, _, _, rfl, rfl, rfl, _, rfl, _, rfl, (by show 2 ≤ sizeLine; decide), fun W nW => ?_⟩
        exact acc_step a3 nD2 tl (tu_encPs _) (sm_new sm_refl nW) (by rw [List.getElem?_map, hq]; rfl) (dp_mk (κ := Str) (x := q.1) (SqT.of upd_same) (.str _))
      · rintro H3 a3
        obtain ⟨s3, zs2, hD2, hz2⟩ := acc_end a3 (by rw [hbl, List.length_map])
        refine ⟨D2, zs2, rfl, SqL.of hD2, fun l o nl ho => ⟨_, rfl, (by show 2 ≤ sizeLine; decide), fun W nW => ?_⟩⟩
        have s4 : Same H3 (upd H3 l (.frz o (.tup zs2))) := sm_new sm_refl nl
        have d4 : Dp K (upd H3 l (.frz o (.tup zs2))) (.ref l) (bD t.1) := .tup (.inl (.inr ⟨o, upd_same⟩)) (dpAll_same s4 hz2)
        have p4 : PlainT (upd H3 l (.frz o (.tup zs2))) l := ⟨o, zs2, upd_same, ho⟩
        generalize upd H3 l (.frz o (.tup zs2)) = H4 at s4 d4 p4 nW ⊢
        have s5 : Same H4 (upd H4 W (.tup [.ref l, .int t.2])) := sm_new sm_refl nW
        have q5 : SqT K (upd H4 W (.tup [.ref l, .int t.2])) W [.ref l, .int t.2] := SqT.of upd_same
        generalize upd H4 W (.tup [.ref l, .int t.2]) = H5 at s5 q5 ⊢
        have s25 : Same H2 H5 := (s3.trans s4).trans s5
        obtain ⟨acc, h1, h2, h3⟩ := acc_step a2 nD (by rw [List.length_map]; exact list1000 hz.1) (tu_encPs _) s25 (by rw [List.getElem?_map, ht]; rfl) (dp_mk (κ := Mono) (x := t.1) q5 (dp_same s5 d4))
        have e1 := s25 _ _ hD
        rw [h1] at e1
        cases e1
        refine ⟨_, h1, h2, h3, _, upd_same, ?_⟩
        have nt : NotT (H5 D) := by rw [h1]; exact notT_lst
        rw [List.take_succ, ht]
        exact Paired.snoc (Paired.mapP hpl fun _ _ q => (q.same s25).put nt) (PlP.put nt ⟨W, l, rfl, q5, p4.same s5, dp_same s5 d4⟩)
    · rintro H2 ⟨a2, ys, hD, hpl⟩
      obtain ⟨s2, ys', hD', hy'⟩ := acc_end a2 (by rw [hl, List.length_map])
      rw [hD] at hD'
      cases hD'
      rw [hl, List.take_length] at hpl
      refine ⟨D, ys, rfl, .inl ⟨SqL.of hD, fun l nl => ?_⟩⟩
      have nt : NotT (H2 l) := by rw [nl]; exact notT_none
      exact k l ys _ (sm_new s2 (s2.free nl)) ⟨SqT.of upd_same, dpAll_put nt (tupOnlyAll_of (tu_encPs p)) hy', Paired.mapP hpl fun _ _ q => q.put nt⟩
end
end K8


set_option Elab.async false
set_option linter.all false
set_option maxRecDepth 100000
set_option maxHeartbeats 4000000
namespace K8
open PySem L2 Nd Bk
/-! tuples stay -/
def KeepT (H H' : Hp) : Prop := (∀ a xs, H a = some (.tup xs) → H' a = some (.tup xs)) ∧ ∀ a o xs, H a = some (.frz o (.tup xs)) → H' a = some (.frz o (.tup xs))
theorem KeepT.trans {H H1 H2 : Hp} (x : KeepT H H1) (y : KeepT H1 H2) : KeepT H H2 := ⟨fun a xs h => y.1 a xs (x.1 a xs h), fun a o xs h => y.2 a o xs (x.2 a o xs h)⟩
theorem KeepT.same {H H' : Hp} (s : Same H H') : KeepT H H' := ⟨fun a xs h => s _ _ h, fun a o xs h => s _ _ h⟩
theorem KeepT.but {H H' : Hp} {d : Addr} (n : NotT (H d)) (s : But d H H') : KeepT H H' := ⟨fun a xs h => s _ _ h (fun e => n.1 xs (by rw [← e]; exact h)), fun a o xs h => s _ _ h (fun e => n.2 o xs (by rw [← e]; exact h))⟩
theorem KeepT.upd {H : Hp} {d : Addr} {o : HO} (n : NotT (H d)) : KeepT H (upd H d o) := .but n But.upd
theorem sqT_kt {K : PySem.W.Frag} {H H' : Hp} (k : KeepT H H') {a : Addr} {xs : List V} (h : SqT K H a xs) : SqT K H' a xs := by
  rcases h with (h | ⟨o, h⟩) | h
  · exact .inl (.inl (k.1 _ _ h))
  · exact .inl (.inr ⟨o, k.2 _ _ _ h⟩)
  · exact .inr h
mutual
theorem dp_kt0 {K : PySem.W.Frag} {H H' : Hp} (k : KeepT H H') : ∀ {v : V} {d : PyData}, Dp K H v d → tupOnly d = true → Dp K H' v d
  | _, _, .non => fun _ => .non
  | _, _, .bl b => fun _ => .bl b
  | _, _, .int i => fun _ => .int i
  | _, _, .str x => fun _ => .str x
  | _, _, .lst h a => fun t => by simp [tupOnly] at t
  | _, _, .tup h a => fun t => .tup (sqT_kt k h) (dpAll_kt0 k a (by simpa [tupOnly] using t))
theorem dpAll_kt0 {K : PySem.W.Frag} {H H' : Hp} (k : KeepT H H') : ∀ {v : List V} {d : List PyData}, DpAll K H v d → tupOnlyAll d = true → DpAll K H' v d
  | _, _, .nil => fun _ => .nil
  | _, _, .cons h r => fun t => by
    simp only [tupOnlyAll, Bool.and_eq_true] at t
    exact .cons (dp_kt0 k h t.1) (dpAll_kt0 k r t.2)
end
theorem bD_kt {K : PySem.W.Frag} {H H' : Hp} {κ : Type} [DecidableEq κ] [Ky κ] [Tu κ] (k : KeepT H H') {v : V} {l : Bag κ} (h : Dp K H v (bD l)) : Dp K H' v (bD l) := dp_kt0 k h (tu_bD l)
theorem bA_kt {K : PySem.W.Frag} {H H' : Hp} {κ : Type} [DecidableEq κ] [Ky κ] [Tu κ] (k : KeepT H H') {v : List V} {l : Bag κ} (h : DpAll K H v (l.map encP)) : DpAll K H' v (l.map encP) := dpAll_kt0 k h (tupOnlyAll_of (tu_encPs l))
theorem PlP.kt {K : PySem.W.Frag} {H H' : Hp} {x : V} {t : Mono × Int} (k : KeepT H H') (h : PlP K H x t) : PlP K H' x t := let ⟨U, a, h1, h2, ⟨o, xs, h3, h5⟩, h4⟩ := h; ⟨U, a, h1, sqT_kt k h2, ⟨o, xs, k.2 _ _ _ h3, h5⟩, bD_kt (κ := Str) k h4⟩
theorem Fz.kt {K : PySem.W.Frag} {H H' : Hp} (k : KeepT H H') {T : Addr} {xs : List V} {p : Poly} (h : Fz K H T xs p) : Fz K H' T xs p := ⟨sqT_kt k h.sq, bA_kt k h.all, Paired.mapP h.pl fun _ _ q => q.kt k⟩
theorem sm_but {H H3 H5 : Hp} {d : Addr} (s : Same H H3) (n : H d = none) (b : But d H3 H5) : Same H H5 := fun a o h => b _ _ (s _ _ h) (ne_of_none h n)
/-! sizes -/
section
variable {κ : Type} [DecidableEq κ] [Ky κ]
theorem put_mem (l : Bag κ) (k : κ) (v : Int) : (k, v) ∈ put l k v := by
  unfold put
  split
  · rename_i h
    obtain ⟨u, hu⟩ := Option.isSome_iff_exists.mp h
    exact List.mem_map.mpr ⟨(k, u), look_mem hu, by simp⟩
  · simp
theorem S_take_le {ts : Bag κ} (h : Pos ts) (i : Nat) : S (ts.take i) ≤ S ts := by
  have e : S ts = S (ts.take i) + S (ts.drop i) := by rw [← S_append, List.take_append_drop]
  have := S_nonneg (l := ts.drop i) fun p hp => h p (List.mem_of_mem_drop hp)
  omega
theorem look_le {ts : Bag κ} (h : Pos ts) {i : Nat} {p : κ × Int} (e : ts[i]? = some p) : (look (book (ts.take i)) p.1).getD 0 + p.2 ≤ S ts := by
  have ht : ts.take (i + 1) = ts.take i ++ [p] := by rw [List.take_succ, e]; rfl
  have hp : Pos (ts.take (i + 1)) := fun q hq => h q (List.mem_of_mem_take hq)
  have h1 : (p.1, (look (book (ts.take i)) p.1).getD 0 + p.2) ∈ book (ts.take (i + 1)) := by
    rw [ht, book_snoc]
    exact put_mem _ _ _
  have h2 := le_S (pos_book hp) h1
  rw [S_book] at h2
  have h3 := S_take_le h (i + 1)
  exact Int.le_trans h2 h3
theorem len_le_S {m : Bag κ} (h : Pos m) : (m.length : Int) ≤ S m := by
  induction m with
  | nil => exact Int.le_refl _
  | cons x r ih =>
    have h1 := h x List.mem_cons_self
    have h2 := ih fun q hq => h q (List.mem_cons_of_mem _ hq)
    have e : S (x :: r) = x.2 * 1 + S r := by unfold S pr; simp
    rw [List.length_cons]
    omega
end
theorem szd_of {p : Poly} (h : POk p) (hl : p.length ≤ 1000) (hd : Dg p 1000) : Szd p := ⟨hl, fun t ht => by
  have h1 := len_le_S (h.2.2 t ht).2
  have h2 := hd t ht
  omega⟩
theorem book_keys {Pk : Mono → Prop} {ts : Poly} (h : ∀ t ∈ ts, Pk t.1) : ∀ t ∈ book ts, Pk t.1 := key_book ts [] (fun _ q => nomatch q) h
theorem poly_lim {ts : Poly} (hp : Pos ts) (hs : S ts < BEY) (hm : ∀ t ∈ ts, Pos t.1 ∧ S t.1 ≤ 1000) : ∀ t ∈ book ts, t.2 < BEY ∧ t.1.length ≤ 1000 ∧ ∀ x ∈ t.1, x.2 < BEY := fun t ht => by
  have h1 := le_S (pos_book hp) ht
  rw [S_book] at h1
  obtain ⟨h2, h3⟩ := book_keys (Pk := fun m => Pos m ∧ S m ≤ 1000) hm t ht
  have h4 := len_le_S h2
  refine ⟨by omega, by omega, fun x hx => ?_⟩
  have h5 := le_S h2 hx
  have : (1000 : Int) < BEY := by decide
  omega
theorem rcat_mk {K : PySem.W.Frag} {H : Hp} {a b : Addr} {xs ys : List V} {Q : VK} (ha : SqT K H a xs) (hb : SqT K H b ys) (hz : xs.length + ys.length ≤ sizeLine) (h : ∀ r H', Same H H' → SqT K H' r (xs ++ ys) → Q (.ref r) H') : rCatA K (.ref a) (.ref b) H Q :=
  ⟨a, b, xs, ys, rfl, rfl, ha, hb, hz, fun e => h b H sm_refl (by rw [e]; exact hb), fun _ e => h a H sm_refl (by rw [e, List.append_nil]; exact ha), fun _ _ p np => h p _ (sm_new sm_refl np) (SqT.of upd_same)⟩
theorem nd_put {K : PySem.W.Frag} {P : Program} {w : World} {H : Hp} {d a : Addr} {es : List Ent} {m : Mono} {c : Int} (n : NdAt K P w H d es) (hm : Dp K H (.ref a) (mD m)) : NdAt K P w (upd H d (ndO P w d (putN es m a c))) d (putN es m a c) := by
  have kt : KeepT H (upd H d (ndO P w d (putN es m a c))) := .upd (by rw [n.at_]; exact notT_nd)
  refine ⟨upd_same, fun e he => ?_⟩
  have : ∀ e ∈ putN es m a c, Dp K H (.ref e.2.1) (mD e.1) := fun e he => by
    unfold putN at he
    split at he
    · obtain ⟨e0, h0, rfl⟩ := List.mem_map.mp he
      split
      · exact n.keys e0 h0
      · exact n.keys e0 h0
    · rcases List.mem_append.mp he with h | h
      · exact n.keys e h
      · rw [List.mem_singleton.mp h]
        exact hm
  exact bD_kt (κ := Str) kt (this e he)
def spPlus (K : PySem.W.Frag) : Sp := fun vs H Q _ => ∃ (x y : V) (p q : Poly), vs = [x, y] ∧ Dp K H x (bD p) ∧ Dp K H y (bD q) ∧ POk p ∧ POk q ∧ p.length + q.length ≤ 400 ∧ S p + S q < BEY ∧ Dg p 1000 ∧ Dg q 1000 ∧
  ∀ (v : V) (H' : Hp), Same H H' → Dp K H' v (bD (plusP p q)) → Q v H'
section
variable {P : Program} {w : World} {K : PySem.W.Frag} {mg : Str → Option Value} {base : Heap}
theorem scPlus : FnScope ["p", "q", "found", "monomial", "coefficient"] ["p", "q"] (defScope sPlus) := ⟨rfl, rfl, rfl, by decide +kernel, rfl, by decide +kernel, by decide +kernel⟩
theorem ok_plus {f : Addr} {fd : FuncData} (F : Fun K "plus" "plus" sPlus f fd) (C : Cn K mg) (Gf : Df P w K mg base 1 "frozen" ["p"] (spFroz K)) (Gp : Df P w K mg base 1 "put" ["found", "monomial", "coefficient"] (spPut K P w))
    (Gy : Df P w K mg base 2 "poly_of" ["found"] (spPoly K P w)) : FnOk P w K mg base CX0 3 f fd ["p", "q"] (spPlus K) := by
  obtain ⟨ff, fdf, gF, kF, bF, GF⟩ := Gf.ok
  obtain ⟨fp, fdp, gP, kP, bP, GP⟩ := Gp.ok
  obtain ⟨fy, fdy, gY, kY, bY, GY⟩ := Gy.ok
  refine F.ok scPlus (fun vs H Q E h => ?_) (fun cdv A outer s H vs Q E hr h => ?_)
  · obtain ⟨x, y, p, q, rfl, _⟩ := h
    rfl
  · obtain ⟨x, y, p, q, rfl, hx, hy, okp, okq, hl, hs, dp, dq, k⟩ := h
    have hr1 : Room 1 _ := hr.mono (by decide)
    have hr2 : Room 2 _ := hr
    refine ⟨_, pss_cons (ps_set (i := 2) scPlus.nd rfl (Or.inl rfl) (show PE _ _ (tNdNew P w) from pe_ndNew))
      (pss_cons (ps_for PassesOwn.never rfl (pi_tup (pe_op op_catA (pe_call GF hr1 rfl gF kF bF .nil pass0 (pa_cons (pv 0) pa_nil)) (pe_call GF hr1 rfl gF kF bF .nil pass0 (pa_cons (pv 1) pa_nil))))
        (pg_tup rfl (pgs_cons (pg_name (i := 3) scPlus.nd rfl (Or.inl rfl)) (pgs_cons (pg_name (i := 4) scPlus.nd rfl (Or.inl rfl)) pgs_nil)))
        (pss_one (ps_expr (pe_call GP hr1 rfl gP kP bP .nil pass0 (pa_cons (pv 2) (pa_cons (pv 3) (pa_cons (pv 4) pa_nil)))))))
      (pss_one (ps_ret (pe_call GY hr2 rfl gY kY bY .nil pass0 (pa_cons (pv 2) pa_nil))))), ?_⟩
    intro d nd
    have s0 : Same H (upd H d (ndO P w d [])) := sm_new sm_refl nd
    have n0 : NdAt K P w (upd H d (ndO P w d [])) d [] := ⟨upd_same, fun e he => nomatch he⟩
    generalize upd H d (ndO P w d []) = H0 at s0 n0 ⊢
    refine ⟨_, rfl, x, p, rfl, dp_same s0 hx, szd_of okp (by omega) dp, fun T1 xs H1 s1 z1 => ?_⟩
    refine ⟨_, rfl, y, q, rfl, dp_same (s0.trans s1) hy, szd_of okq (by omega) dq, fun T2 ys H2 s2 z2 => ?_⟩
    have z1' := z1.same s2
    refine rcat_mk z1'.sq z2.sq (by rw [z1.len, z2.len, sizeLine_eq]; omega) fun r H3 s3 hr3 => ?_
    have s03 := (s1.trans s2).trans s3
    have all3 : DpAll K H3 (xs ++ ys) ((p ++ q).map encP) := by
      rw [List.map_append]
      exact dpAll_append (z1'.same s3).all (z2.same s3).all
    have lz : (xs ++ ys).length = (p ++ q).length := by rw [List.length_append, List.length_append, z1.len, z2.len]
    have n3 := nd_back n0 s03
    have nt3 : NotT (H3 d) := by rw [n3.at_]; exact notT_nd
    have pos : Pos (p ++ q) := pos_append okp.2.1 okq.2.1
    have sum : S (p ++ q) < BEY := by rw [S_append]; exact hs
    have len : (p ++ q).length ≤ 400 := by rw [List.length_append]; exact hl
    refine ⟨r, rfl, ⟨_, hr3⟩, ?_⟩
    refine for_tup (K := K) (a := r) (xs := xs ++ ys) (fun i σ H4 => (∃ a b, σ = [some x, some y, some (.ref d), a, b]) ∧ But d H3 H4 ∧ ∃ es, NdAt K P w H4 d es ∧ bagOf es = book ((p ++ q).take i)) ⟨⟨none, none, rfl⟩, But.refl, [], n3, rfl⟩
      (fun i σ H4 _ ⟨_, b4, _⟩ => sqT_kt (.but nt3 b4) hr3) ?_ ?_
    · rintro i u σ H4 hi ⟨⟨a, b, rfl⟩, b4, es, n4, e4⟩
      have k4 : KeepT H3 H4 := .but nt3 b4
      obtain ⟨t, ht, hu⟩ := bag_get (bA_kt k4 all3) hi
      obtain ⟨T, kk, rfl, hT, hk⟩ := dp_pair hu
      obtain ⟨b', zs, rfl, _⟩ := dp_bag (κ := Str) hk
      refine ⟨T, _, rfl, hT, rfl, _, _, rfl, _, _, rfl, rfl, _, rfl, _, rfl, _, rfl, ?_⟩
      have le := look_le pos ht
      rw [← e4, look_bagOf] at le
      have el : es.length ≤ 400 := by
        rw [← bagOf_len, e4]
        refine Nat.le_trans (len_book _) ?_
        rw [List.length_take]
        omega
      refine ⟨d, b', es, t.1, t.2, rfl, n4, hk, by omega, by omega, ?_⟩
      refine ⟨⟨_, _, rfl⟩, b4.trans But.upd, _, nd_put n4 hk, ?_⟩
      · rw [bagOf_put, List.take_succ, ht, show (some t).toList = [t] from rfl, book_snoc, ← e4, ← look_bagOf]
        rfl
    · rintro σ H4 ⟨⟨a, b, rfl⟩, b4, es, n4, e4⟩
      rw [lz, List.take_length] at e4
      refine ⟨_, rfl, d, es, rfl, n4, ?_, ?_, fun v H5 s5 h5 => ?_⟩
      · rw [← bagOf_len, e4]
        exact Nat.le_trans (len_book _) len
      · rw [e4]
        exact poly_lim pos sum fun t ht => (List.mem_append.mp ht).elim (fun h => ⟨(okp.2.2 t h).2, dp t h⟩) fun h => ⟨(okq.2.2 t h).2, dq t h⟩
      · rw [e4] at h5
        exact k v H5 ((sm_but (s0.trans s03) nd b4).trans s5) h5
end
end K8


set_option Elab.async false
set_option linter.all false
set_option maxRecDepth 100000
set_option maxHeartbeats 4000000
namespace K8
open PySem L2 Nd Bk
/-! a dict of tokens -/
theorem valV_tx (m : Mono) (t : Str) : valV (tx m) (.inr t) = (look m t).map V.int := by
  induction m with
  | nil => rfl
  | cons p r ih =>
    unfold valV look tx at ih ⊢
    rw [List.map_cons, List.find?_cons, List.find?_cons]
    by_cases h : p.1 = t
    · simp [h]
    · have h2 : ¬ (Sum.inr p.1 : Key) = Sum.inr t := fun e => h (Sum.inr.inj e)
      simp only [decide_eq_false h, decide_eq_false h2]
      exact ih
theorem putK_tx (m : Mono) (t : Str) (c : Int) : putK (tx m) (.inr t) (.int c) = tx (put m t c) := by
  unfold putK put
  rw [valV_any, valV_tx, Option.isSome_map]
  split
  · unfold tx
    rw [List.map_map, List.map_map]
    refine List.map_congr_left fun e _ => ?_
    show (if (Sum.inr e.1 : Key) = Sum.inr t then _ else _) = ((fun p : Str × Int => ((Sum.inr p.1 : Key), V.int p.2)) (if e.1 = t then (e.1, c) else e))
    by_cases h : e.1 = t
    · rw [if_pos h, if_pos (by rw [h])]
    · rw [if_neg h, if_neg fun z => h (Sum.inr.inj z)]
  · unfold tx
    rw [List.map_append]
    rfl
theorem getD_tx (m : Mono) (t : Str) : (valV (tx m) (.inr t)).getD (.int 0) = .int ((look m t).getD 0) := by
  rw [valV_tx]
  cases look m t <;> rfl
theorem prd_tx {K : PySem.W.Frag} {H : Hp} (m : Mono) : PrD K H ((tx m).map fun kv => (kV kv.1, kv.2)) (m.map encP) := by
  induction m with
  | nil => exact .nil
  | cons e r ih => exact .cons ⟨_, _, rfl, .str _, .int _⟩ ih
theorem tx_len (m : Mono) : (tx m).length = m.length := List.length_map ..
section
variable {κ : Type} [DecidableEq κ] [Ky κ]
theorem asc_nodup {m : Bag κ} (h : Asc m) : (m.map (·.1)).Nodup := by
  rw [List.Nodup, List.pairwise_map]
  exact List.Pairwise.imp (fun h => lt_ne h) h
theorem fold_id : ∀ (m l : Bag κ), ((l ++ m).map (·.1)).Nodup → m.foldl add1 l = l ++ m
  | [], l, _ => by rw [List.append_nil]; rfl
  | p :: r, l, h => by
    have hn : look l p.1 = none := by
      cases e : look l p.1 with
      | none => rfl
      | some u =>
        have h1 := look_mem e
        rw [List.map_append, List.nodup_append] at h
        exact absurd rfl (h.2.2 p.1 (List.mem_map.mpr ⟨_, h1, rfl⟩) p.1 (by simp))
    have e1 : add1 l p = l ++ [p] := by
      unfold add1 put
      rw [hn]
      simp
    rw [List.foldl_cons, e1, fold_id r _ (by simpa using h)]
    simp
theorem book_id {m : Bag κ} (h : (m.map (·.1)).Nodup) : book m = m := by
  unfold book
  rw [fold_id m [] (by simpa using h)]
  rfl
theorem book_app (l m : Bag κ) : book (l ++ m) = m.foldl add1 (book l) := by simp [book]
end
def spJoin (K : PySem.W.Frag) : Sp := fun vs H Q _ => ∃ (a b : Addr) (m n : Mono), vs = [.ref a, .ref b] ∧ PlainT H a ∧ Dp K H (.ref a) (mD m) ∧ Dp K H (.ref b) (mD n) ∧ MOk m ∧ MOk n ∧ m.length ≤ 1000 ∧ n.length ≤ 1000 ∧
  ∀ (c : Addr) (H' : Hp), Same H H' → Dp K H' (.ref c) (mD (mulM m n)) → Q (.ref c) H'
section
variable {P : Program} {w : World} {K : PySem.W.Frag} {mg : Str → Option Value} {base : Heap}
theorem scJoin : FnScope ["monomial", "another", "exponents", "token", "exponent"] ["monomial", "another"] (defScope sJoin) := ⟨rfl, rfl, rfl, by decide +kernel, rfl, by decide +kernel, by decide +kernel⟩
theorem u1 {k : Nat} {A : Around} (hr : Room k A) : A.units + 1 < cLine := by
  have := hr.un
  omega
theorem ok_join {f : Addr} {fd : FuncData} (F : Fun K "_joined" "_joined" sJoin f fd) (C : Cn K mg) : FnOk P w K mg base CX0 1 f fd ["monomial", "another"] (spJoin K) := by
  refine F.ok scJoin (fun vs H Q E h => ?_) (fun cdv A outer s H vs Q E hr h => ?_)
  · obtain ⟨a, b, m, n, rfl, _⟩ := h
    rfl
  · obtain ⟨a, b, m, n, rfl, hp, hm, hn, okm, okn, lm, ln, k⟩ := h
    refine ⟨_, pss_cons (ps_if (pt_not (pt_truth (pv 0) (fun _ => rfl))) (pss_one (ps_ret (pv 1))) pss_nil)
      (pss_cons (ps_if (pt_not (pt_truth (pv 1) (fun _ => rfl))) (pss_one (ps_ret (pv 0))) pss_nil)
      (pss_cons (ps_set (i := 2) scJoin.nd rfl (Or.inl rfl) (pe_callTy (call_dictT rfl) (by rfl) C.dict (by rfl) (pa_cons (pv 0) pa_nil)))
      (pss_cons (ps_for PassesOwn.never rfl (pi_tup (pv 1)) (pg_tup rfl (pgs_cons (pg_name (i := 3) scJoin.nd rfl (Or.inl rfl)) (pgs_cons (pg_name (i := 4) scJoin.nd rfl (Or.inl rfl)) pgs_nil)))
        (pss_one (ps_dput (u1 hr) (pv 2) (pv 3) (pe_op op_add (pe_dget2 (u1 hr) (pv 2) (pv 3) pe_int ⟨rfl, rfl, rfl, rfl⟩) (pv 4)) rfl)))
      (pss_one (ps_ret (pe_callTy call_tuple_of (by rfl) C.N.tup (by rfl) (pa_cons (pe_callB (cr_sortItems rfl (u64 hr)) (by rfl) C.srt (by rfl) (pa_cons (pe_itemsV (pv 2)) pa_nil)) pa_nil))))))), ?_⟩
    obtain ⟨a', xs, ea, hxs, lxs, hxall⟩ := dp_bag (κ := Str) hm
    cases ea
    obtain ⟨b', ys, eb, hys, lys, hyall⟩ := dp_bag (κ := Str) hn
    cases eb
    refine ⟨_, rfl, !xs.isEmpty, .inr (.inl ⟨xs, hxs, rfl⟩), ?_⟩
    by_cases em : m = []
    · subst em
      cases xs with
      | cons _ _ => simp at lxs
      | nil =>
        refine iteT ⟨_, rfl, k b H sm_refl ?_⟩
        rw [mulM_nil_left okn]
        exact hn
    have exs : xs.isEmpty = false := by
      cases xs with
      | nil => exact absurd (List.length_eq_zero_iff.mp lxs.symm) em
      | cons _ _ => rfl
    rw [exs]
    refine iteF ?_
    refine ⟨_, rfl, !ys.isEmpty, .inr (.inl ⟨ys, hys, rfl⟩), ?_⟩
    by_cases en : n = []
    · subst en
      cases ys with
      | cons _ _ => simp at lys
      | nil =>
        refine iteT ⟨_, rfl, k a H sm_refl ?_⟩
        rw [mulM_nil_right okm]
        exact hm
    have eys : ys.isEmpty = false := by
      cases ys with
      | nil => exact absurd (List.length_eq_zero_iff.mp lys.symm) en
      | cons _ _ => rfl
    rw [eys]
    refine iteF ?_
    refine ⟨_, rfl, a, m, rfl, hp, hm, asc_nodup okm.1, fun d nd => ?_⟩
    refine ⟨_, rfl, b, rfl, ⟨_, by first | exact sqT_put (by rw [nd]; exact notT_none) hys⟩, ?_⟩
    have s0 : Same H (upd H d (.dK (tx m))) := sm_new sm_refl nd
    have d0 : upd H d (.dK (tx m)) d = some (.dK (tx m)) := upd_same
    generalize upd H d (.dK (tx m)) = H0 at s0 d0 ⊢
    have nt : NotT (H0 d) := by rw [d0]; exact notT_dK
    refine for_tup (K := K) (a := b) (xs := ys) (fun i σ H4 => (∃ u v, σ = [some (.ref a), some (.ref b), some (.ref d), u, v]) ∧ But d H0 H4 ∧ H4 d = some (.dK (tx (book (m ++ n.take i))))) ⟨⟨none, none, rfl⟩, But.refl, by rw [List.take_zero, List.append_nil, book_id (asc_nodup okm.1)]; exact d0⟩
      (fun i σ H4 _ ⟨_, b4, _⟩ => sqT_kt (.but nt b4) (sqT_same s0 hys)) ?_ ?_
    · rintro i y σ H4 hi ⟨⟨u, v, rfl⟩, b4, h4⟩
      obtain ⟨t, ht, hy⟩ := bag_get (bA_kt (.but nt b4) (dpAll_same s0 hyall)) hi
      obtain ⟨T, kk, rfl, hT, hk⟩ := dp_pair hy
      cases dp_str (i := t.1) hk
      refine ⟨T, _, rfl, hT, rfl, _, _, rfl, _, _, rfl, rfl, ?_⟩
      refine ⟨_, rfl, d, rfl, .inl ⟨_, .inl h4⟩, _, rfl, _, DGet.k (k := Sum.inr t.1) h4, _, rfl, ?_⟩
      rw [getD_tx]
      have hlen : (tx (book (m ++ n.take i))).length ≤ 2000 := by
        rw [tx_len]
        refine Nat.le_trans (len_book _) ?_
        rw [List.length_append, List.length_take]
        omega
      refine ⟨_, _, rfl, rfl, _, rfl, _, rfl, d, _, rfl, DPut.k (k := Sum.inr t.1) h4 (by rw [sizeLine_eq]; omega), ⟨_, _, rfl⟩, b4.trans But.upd, ?_⟩
      rw [upd_same, putK_tx, List.take_succ, ht, show (some t).toList = [t] from rfl, ← List.append_assoc, book_snoc]
      rfl
    · rintro σ H4 ⟨⟨u, v, rfl⟩, b4, h4⟩
      rw [lys, List.take_length] at h4
      have s4 : Same H H4 := sm_but s0 nd b4
      refine ⟨_, rfl, d, _, rfl, DEnt.k h4, fun p np => ?_⟩
      have h5 : upd H4 p (L2.DX.itemsO p d) d = some (.dK (tx (book (m ++ n)))) := by
        rw [upd_ne (ne_of_none h4 np)]
        exact h4
      refine ⟨p, d, _, (book (m ++ n)).map encP, rfl, upd_same, DEnt.k h5, prd_tx _, ?_, ?_, fun l H5 zs nl s5 hzs hall => ?_⟩
      · intro x hx y hy
        obtain ⟨px, _, rfl⟩ := List.mem_map.mp hx
        obtain ⟨py, _, rfl⟩ := List.mem_map.mp hy
        exact al_encP px py
      · intro x hx
        obtain ⟨px, _, rfl⟩ := List.mem_map.mp hx
        exact dep_encP px
      · rw [map_srt] at hall
        refine ⟨l, zs, rfl, .inl ⟨SqL.of hzs, fun v nv => ?_⟩⟩
        have s6 : Same H4 H5 := fun q o hq => s5 q o (by rw [upd_ne (ne_of_none hq np)]; exact hq)
        exact k _ _ (sm_new (s4.trans s6) ((s4.trans s6).free nv)) (.tup (SqT.of upd_same) (dpAll_put (by rw [nv]; exact notT_none) (tupOnlyAll_of (tu_encPs _)) hall))
end
end K8


set_option Elab.async false
set_option linter.all false
set_option maxRecDepth 100000
set_option maxHeartbeats 4000000
namespace K8
open PySem L2 Nd Bk
theorem prods_cons (t : Mono × Int) (p q : Poly) : prods (t :: p) q = q.map (fun b => (mulM t.1 b.1, t.2 * b.2)) ++ prods p q := by simp [prods]
theorem prods_app (p p' q : Poly) : prods (p ++ p') q = prods p q ++ prods p' q := by simp [prods]
theorem split_at {α : Type} {l : List α} {i : Nat} {x : α} (h : l[i]? = some x) : l = l.take i ++ x :: l.drop (i + 1) := by
  have h1 := (List.getElem?_eq_some_iff.mp h)
  obtain ⟨h2, h3⟩ := h1
  rw [← h3, ← List.drop_eq_getElem_cons h2, List.take_append_drop]
theorem prods_split {p q : Poly} {i j : Nat} {t u : Mono × Int} (h : p[i]? = some t) (h2 : q[j]? = some u) :
    ∃ B, prods p q = (prods (p.take i) q ++ (q.take j).map fun b => (mulM t.1 b.1, t.2 * b.2)) ++ (mulM t.1 u.1, t.2 * u.2) :: B := by
  refine ⟨(q.drop (j + 1)).map (fun b => (mulM t.1 b.1, t.2 * b.2)) ++ prods (p.drop (i + 1)) q, ?_⟩
  have e1 : prods p q = prods (p.take i ++ t :: p.drop (i + 1)) q := by rw [← split_at h]
  have e2 : q.map (fun b => (mulM t.1 b.1, t.2 * b.2)) = (q.take j ++ u :: q.drop (j + 1)).map fun b => (mulM t.1 b.1, t.2 * b.2) := by rw [← split_at h2]
  rw [e1, prods_app, prods_cons, e2, List.map_append, List.map_cons]
  simp
section
variable {κ : Type} [DecidableEq κ] [Ky κ]
theorem look_le2 {A B : Bag κ} {p : κ × Int} (h : Pos (A ++ p :: B)) : (look (book A) p.1).getD 0 + p.2 ≤ S (A ++ p :: B) := by
  have e : (A ++ p :: B)[A.length]? = some p := by simp
  have := look_le h e
  rw [List.take_left] at this
  exact this
end
theorem pos_of_prods {p q : Poly} (hp : POk p) (hq : POk q) : Pos (prods p q) := pos_prods hp.2.1 hq.2.1
theorem S_prods (p q : Poly) : S (prods p q) = S p * S q := by
  have h := S_times p q
  unfold timesP at h
  rw [S_nf] at h
  exact h
theorem prods_take_succ {p q : Poly} {i : Nat} {t : Mono × Int} (h : p[i]? = some t) : prods (p.take (i + 1)) q = prods (p.take i) q ++ q.map fun b => (mulM t.1 b.1, t.2 * b.2) := by
  rw [List.take_succ, h, show (some t).toList = [t] from rfl, prods_app, prods_cons]
  simp [prods]
theorem prods_dg {p q : Poly} (okp : POk p) (okq : POk q) (h : ∀ a ∈ p, ∀ b ∈ q, S a.1 + S b.1 ≤ 1000) : ∀ t ∈ prods p q, Pos t.1 ∧ S t.1 ≤ 1000 := fun t ht => by
  obtain ⟨a, ha, b, hb, rfl⟩ := mem_prods ht
  refine ⟨(mulM_ok (okp.2.2 a ha) (okq.2.2 b hb)).2, ?_⟩
  show S (mulM a.1 b.1) ≤ 1000
  rw [S_mulM]
  exact h a ha b hb
theorem natAbs_bey {c : Int} (h0 : 0 ≤ c) (h : c < BEY) : c.natAbs < 2 ^ 400 := by
  have e : (c.natAbs : Int) = c := Int.natAbs_of_nonneg h0
  have hb : BEY ≤ ((2 ^ 400 : Nat) : Int) := by decide +kernel
  omega
/-- what a product asks of its factors -/
structure Mul (p q : Poly) : Prop where
  okp : POk p
  okq : POk q
  len : p.length * q.length ≤ 400
  lp : p.length ≤ 1000
  lq : q.length ≤ 1000
  sum : S p * S q < BEY
  sp : S p < BEY
  sq : S q < BEY
  dp : Dg p 1000
  dq : Dg q 1000
  deg : ∀ a ∈ p, ∀ b ∈ q, S a.1 + S b.1 ≤ 1000
def spProd (K : PySem.W.Frag) (P : Program) (w : World) : Sp := fun vs H Q _ => ∃ (T1 T2 : Addr) (xs ys : List V) (p q : Poly), vs = [.ref T1, .ref T2] ∧ Fz K H T1 xs p ∧ Fz K H T2 ys q ∧ Mul p q ∧
  ∀ (d : Addr) (es : List Ent) (H' : Hp), Same H H' → NdAt K P w H' d es → bagOf es = book (prods p q) → Q (.ref d) H'
def spTimes (K : PySem.W.Frag) : Sp := fun vs H Q _ => ∃ (x y : V) (p q : Poly), vs = [x, y] ∧ Dp K H x (bD p) ∧ Dp K H y (bD q) ∧ Mul p q ∧ ∀ (v : V) (H' : Hp), Same H H' → Dp K H' v (bD (timesP p q)) → Q v H'
section
variable {P : Program} {w : World} {K : PySem.W.Frag} {mg : Str → Option Value} {base : Heap}
theorem scProd : FnScope ["terms", "others", "found", "monomial", "coefficient", "another", "factor"] ["terms", "others"] (defScope sProd) := ⟨rfl, rfl, rfl, by decide +kernel, rfl, by decide +kernel, by decide +kernel⟩
theorem ok_prod {f : Addr} {fd : FuncData} (F : Fun K "product_terms" "product_terms" sProd f fd) (C : Cn K mg) (Gj : Df P w K mg base 1 "_joined" ["monomial", "another"] (spJoin K)) (Gp : Df P w K mg base 1 "put" ["found", "monomial", "coefficient"] (spPut K P w))
    (Gc : Df P w K mg base 1 "check_terms" ["terms"] (spChk K P w)) : FnOk P w K mg base CX0 2 f fd ["terms", "others"] (spProd K P w) := by
  obtain ⟨fj, fdj, gJ, kJ, bJ, GJ⟩ := Gj.ok
  obtain ⟨fp, fdp, gP, kP, bP, GP⟩ := Gp.ok
  obtain ⟨fc, fdc, gC, kC, bC, GC⟩ := Gc.ok
  refine F.ok scProd (fun vs H Q E h => ?_) (fun cdv A outer s H vs Q E hr h => ?_)
  · obtain ⟨x, y, xs, ys, p, q, rfl, _⟩ := h
    rfl
  · obtain ⟨T1, T2, xs, ys, p, q, rfl, hx, hy, M, k⟩ := h
    have hr1 : Room 1 _ := hr
    refine ⟨_, pss_cons (ps_set (i := 2) scProd.nd rfl (Or.inl rfl) (show PE _ _ (tNdNew P w) from pe_ndNew))
      (pss_cons (ps_for PassesOwn.never rfl (pi_tup (pv 0)) (pg_tup rfl (pgs_cons (pg_name (i := 3) scProd.nd rfl (Or.inl rfl)) (pgs_cons (pg_name (i := 4) scProd.nd rfl (Or.inl rfl)) pgs_nil)))
        (pss_cons (ps_for PassesOwn.never rfl (pi_tup (pv 1)) (pg_tup rfl (pgs_cons (pg_name (i := 5) scProd.nd rfl (Or.inl rfl)) (pgs_cons (pg_name (i := 6) scProd.nd rfl (Or.inl rfl)) pgs_nil)))
          (pss_one (ps_expr (pe_call GP hr1 rfl gP kP bP .nil pass0 (pa_cons (pv 2) (pa_cons (pe_call GJ hr1 rfl gJ kJ bJ .nil pass0 (pa_cons (pv 3) (pa_cons (pv 5) pa_nil))) (pa_cons (pe_op op_mulW (pv 4) (pv 6)) pa_nil)))))))
        (pss_one (ps_expr (pe_call GC hr1 rfl gC kC bC .nil pass0 (pa_cons (pv 2) pa_nil))))))
      (pss_one (ps_ret (pv 2)))), ?_⟩
    intro d nd
    have s0 : Same H (upd H d (ndO P w d [])) := sm_new sm_refl nd
    have n0 : NdAt K P w (upd H d (ndO P w d [])) d [] := ⟨upd_same, fun e he => nomatch he⟩
    generalize upd H d (ndO P w d []) = H0 at s0 n0 ⊢
    have nt : NotT (H0 d) := by rw [n0.at_]; exact notT_nd
    have hx0 := hx.same s0
    have hy0 := hy.same s0
    have pos := pos_of_prods M.okp M.okq
    have sum : S (prods p q) < BEY := by rw [S_prods]; exact M.sum
    have lenB : ∀ {A : Poly}, A.length ≤ (prods p q).length → (book A).length ≤ 400 := fun {A} h => by
      refine Nat.le_trans (len_book A) (Nat.le_trans h ?_)
      rw [len_prods]
      exact M.len
    refine ⟨_, rfl, T1, rfl, ⟨_, hx0.sq⟩, ?_⟩
    refine for_tup (K := K) (a := T1) (xs := xs) (fun i σ H4 => (∃ a b c e, σ = [some (.ref T1), some (.ref T2), some (.ref d), a, b, c, e]) ∧ But d H0 H4 ∧ ∃ es, NdAt K P w H4 d es ∧ bagOf es = book (prods (p.take i) q)) ⟨⟨none, none, none, none, rfl⟩, But.refl, [], n0, rfl⟩
      (fun i σ H4 _ ⟨_, b4, _⟩ => sqT_kt (.but nt b4) hx0.sq) ?_ ?_
    · rintro i x σ H4 hi ⟨⟨a, b, c, e, rfl⟩, b4, es, n4, e4⟩
      have k4 : KeepT H0 H4 := .but nt b4
      obtain ⟨t, ht, T, m1, rfl, hT, hpl, hm1⟩ := paired_get (hx0.kt k4).pl hi
      have htp : t ∈ p := List.mem_of_getElem? ht
      refine ⟨T, _, rfl, hT, rfl, _, _, rfl, _, _, rfl, rfl, ?_⟩
      refine ⟨_, rfl, T2, rfl, ⟨_, (hy0.kt k4).sq⟩, ?_⟩
      refine for_tup (K := K) (a := T2) (xs := ys) (fun j σ H5 => (∃ c e, σ = [some (.ref T1), some (.ref T2), some (.ref d), some (.ref m1), some (.int t.2), c, e]) ∧ But d H4 H5 ∧ ∃ es, NdAt K P w H5 d es ∧
        bagOf es = book (prods (p.take i) q ++ (q.take j).map fun b => (mulM t.1 b.1, t.2 * b.2))) ⟨⟨_, _, rfl⟩, But.refl, es, n4, by rw [List.take_zero, List.map_nil, List.append_nil]; exact e4⟩
        (fun j σ H5 _ ⟨_, b5, _⟩ => sqT_kt (.but nt (b4.trans b5)) hy0.sq) ?_ ?_
      · rintro j y σ H5 hj ⟨⟨c, e, rfl⟩, b5, es5, n5, e5⟩
        have nt4 : NotT (H4 d) := by rw [n4.at_]; exact notT_nd
        have k5 : KeepT H0 H5 := .but nt (b4.trans b5)
        obtain ⟨u, hu, U, m2, rfl, hU, _, hm2⟩ := paired_get (hy0.kt k5).pl hj
        have huq : u ∈ q := List.mem_of_getElem? hu
        obtain ⟨o, zs, ho1, ho2⟩ := hpl
        have hpl5 : PlainT H5 m1 := ⟨o, zs, (KeepT.but nt4 b5).2 _ _ _ ho1, ho2⟩
        have hm1' : Dp K H5 (.ref m1) (bD t.1) := bD_kt (κ := Str) (KeepT.but nt4 b5) hm1
        refine ⟨U, _, rfl, hU, rfl, _, _, rfl, _, _, rfl, rfl, ?_⟩
        refine ⟨_, rfl, _, rfl, _, rfl, m1, m2, t.1, u.1, rfl, hpl5, hm1', hm2, M.okp.2.2 t htp, M.okq.2.2 u huq, (szd_of M.okp M.lp M.dp).2 t htp, (szd_of M.okq M.lq M.dq).2 u huq, fun c' H6 s6 hc' => ?_⟩
        have t0 := M.okp.2.1 t htp
        have u0 := M.okq.2.1 u huq
        have tS := le_S M.okp.2.1 htp
        have uS := le_S M.okq.2.1 huq
        have sp := M.sp
        have sq := M.sq
        refine ⟨_, rfl, _, rfl, _, _, rfl, rfl, wide_mul (natAbs_bey (by omega) (by omega)) (natAbs_bey (by omega) (by omega)) (by decide) (by decide) (by decide), ?_⟩
        obtain ⟨B, hB⟩ := prods_split (q := q) ht hu
        have le := look_le2 (A := prods (p.take i) q ++ (q.take j).map fun b => (mulM t.1 b.1, t.2 * b.2)) (p := (mulM t.1 u.1, t.2 * u.2)) (B := B) (by rw [← hB]; exact pos)
        rw [← hB, ← e5, look_bagOf] at le
        simp only at le
        have el : es5.length ≤ 400 := by
          rw [← bagOf_len, e5]
          refine lenB ?_
          rw [hB, List.length_append (as := prods (p.take i) q ++ _)]
          exact Nat.le_add_right _ _
        have n6 := nd_back n5 s6
        refine ⟨d, c', es5, mulM t.1 u.1, t.2 * u.2, rfl, n6, hc', by omega, by omega, ?_⟩
        refine ⟨⟨_, _, rfl⟩, (b5.same s6).trans But.upd, _, nd_put n6 hc', ?_⟩
        rw [bagOf_put, List.take_succ, hu, show (some u).toList = [u] from rfl, List.map_append, List.map_cons, List.map_nil, ← List.append_assoc, book_snoc, ← e5, ← look_bagOf]
        rfl
      · rintro σ H5 ⟨⟨c, e, rfl⟩, b5, es5, n5, e5⟩
        rw [hy.len, List.take_length, ← prods_take_succ ht] at e5
        refine ⟨_, rfl, d, es5, rfl, n5, ?_, ⟨_, _, _, _, rfl⟩, b4.trans b5, es5, n5, e5⟩
        rw [← bagOf_len, e5]
        refine lenB ?_
        have e1 : prods p q = prods (p.take (i + 1)) q ++ prods (p.drop (i + 1)) q := by rw [← prods_app, List.take_append_drop]
        rw [e1, List.length_append]
        exact Nat.le_add_right _ _
    · rintro σ H4 ⟨⟨a, b, c, e, rfl⟩, b4, es, n4, e4⟩
      rw [hx.len, List.take_length] at e4
      exact ⟨_, rfl, k d es H4 (sm_but s0 nd b4) n4 e4⟩
theorem scTimes : FnScope ["p", "q"] ["p", "q"] (defScope sTimes) := ⟨rfl, rfl, rfl, by decide +kernel, rfl, by decide +kernel, by decide +kernel⟩
theorem ok_times {f : Addr} {fd : FuncData} (F : Fun K "times" "times" sTimes f fd) (Gf : Df P w K mg base 1 "frozen" ["p"] (spFroz K)) (Gd : Df P w K mg base 2 "product_terms" ["terms", "others"] (spProd K P w))
    (Gy : Df P w K mg base 2 "poly_of" ["found"] (spPoly K P w)) : FnOk P w K mg base CX0 3 f fd ["p", "q"] (spTimes K) := by
  obtain ⟨ff, fdf, gF, kF, bF, GF⟩ := Gf.ok
  obtain ⟨fp, fdp, gP, kP, bP, GP⟩ := Gd.ok
  obtain ⟨fy, fdy, gY, kY, bY, GY⟩ := Gy.ok
  refine F.ok scTimes (fun vs H Q E h => ?_) (fun cdv A outer s H vs Q E hr h => ?_)
  · obtain ⟨x, y, p, q, rfl, _⟩ := h
    rfl
  · obtain ⟨x, y, p, q, rfl, hx, hy, M, k⟩ := h
    have hr1 : Room 1 _ := hr.mono (by decide)
    have hr2 : Room 2 _ := hr
    refine ⟨_, pss_one (ps_ret (pe_call GY hr2 rfl gY kY bY .nil pass0 (pa_cons (pe_call GP hr2 rfl gP kP bP .nil pass0 (pa_cons (pe_call GF hr1 rfl gF kF bF .nil pass0 (pa_cons (pv 0) pa_nil)) (pa_cons (pe_call GF hr1 rfl gF kF bF .nil pass0 (pa_cons (pv 1) pa_nil)) pa_nil))) pa_nil))), ?_⟩
    refine ⟨_, rfl, x, p, rfl, hx, szd_of M.okp M.lp M.dp, fun T1 xs H1 s1 z1 => ?_⟩
    refine ⟨_, rfl, y, q, rfl, dp_same s1 hy, szd_of M.okq M.lq M.dq, fun T2 ys H2 s2 z2 => ?_⟩
    refine ⟨T1, T2, xs, ys, p, q, rfl, z1.same s2, z2, M, fun d es H3 s3 n3 e3 => ?_⟩
    have pos := pos_of_prods M.okp M.okq
    refine ⟨d, es, rfl, n3, ?_, ?_, fun v H4 s4 h4 => ?_⟩
    · rw [← bagOf_len, e3]
      refine Nat.le_trans (len_book _) ?_
      rw [len_prods]
      exact M.len
    · rw [e3]
      exact poly_lim pos (by rw [S_prods]; exact M.sum) (prods_dg M.okp M.okq M.deg)
    · rw [e3] at h4
      exact k v H4 (((s1.trans s2).trans s3).trans s4) h4
end
end K8


set_option Elab.async false
set_option linter.all false
set_option maxRecDepth 100000
set_option maxHeartbeats 4000000
namespace K8
open PySem L2 Nd Bk
section
variable {κ : Type} [DecidableEq κ] [Ky κ]
def AscK (l : List κ) : Prop := l.Pairwise fun a b => lt a b = true
def cnt (f : List κ) (k : κ) : Nat := (f.filter fun o => lt o k).length
def insK (f : List κ) (k : κ) : List κ := f.take (cnt f k) ++ [k] ++ f.drop (cnt f k)
def sortK (ks : List κ) : List κ := ks.foldl insK []
theorem cut_ok : ∀ {f : List κ} {k : κ}, AscK f → k ∉ f → (∀ a ∈ f.take (cnt f k), lt a k = true) ∧ ∀ b ∈ f.drop (cnt f k), lt k b = true
  | [], k, _, _ => ⟨fun a h => by simp [cnt] at h, fun a h => by simp [cnt] at h⟩
  | x :: r, k, h, hk => by
    obtain ⟨h1, h2⟩ := List.pairwise_cons.mp h
    rw [List.mem_cons, not_or] at hk
    cases e : lt x k with
    | true =>
      have ec : cnt (x :: r) k = cnt r k + 1 := by simp [cnt, List.filter_cons, e]
      obtain ⟨i1, i2⟩ := cut_ok h2 hk.2
      rw [ec, List.take_succ_cons, List.drop_succ_cons]
      refine ⟨fun a ha => ?_, i2⟩
      rcases List.mem_cons.mp ha with q | q
      · rw [q]; exact e
      · exact i1 a q
    | false =>
      have hxk : lt k x = true := by
        cases q : lt k x with
        | true => rfl
        | false => exact absurd (lt_total q e) hk.1
      have hr : ∀ o ∈ r, lt o k = false := fun o ho => lt_asymm (lt_trans hxk (h1 o ho))
      have ec : cnt (x :: r) k = 0 := by
        unfold cnt
        rw [List.filter_cons, e, if_neg Bool.false_ne_true, List.filter_eq_nil_iff.mpr (fun o ho => by rw [hr o ho]; exact Bool.false_ne_true)]
        rfl
      rw [ec]
      refine ⟨fun a ha => by simp at ha, fun b hb => ?_⟩
      rw [List.drop_zero] at hb
      rcases List.mem_cons.mp hb with q | q
      · rw [q]; exact hxk
      · exact lt_trans hxk (h1 b q)
theorem insK_perm (f : List κ) (k : κ) : (insK f k).Perm (k :: f) := by
  unfold insK
  have h : (f.take (cnt f k) ++ [k] ++ f.drop (cnt f k)).Perm (k :: (f.take (cnt f k) ++ f.drop (cnt f k))) := by
    rw [List.append_assoc, List.singleton_append]
    exact List.perm_middle
  rw [List.take_append_drop] at h
  exact h
theorem insK_asc {f : List κ} {k : κ} (h : AscK f) (hk : k ∉ f) : AscK (insK f k) := by
  obtain ⟨h1, h2⟩ := cut_ok h hk
  unfold insK AscK
  rw [List.append_assoc, List.singleton_append, List.pairwise_append]
  refine ⟨List.Pairwise.sublist (List.take_sublist _ _) h, List.pairwise_cons.mpr ⟨h2, List.Pairwise.sublist (List.drop_sublist _ _) h⟩, fun a ha b hb => ?_⟩
  rcases List.mem_cons.mp hb with q | q
  · rw [q]; exact h1 a ha
  · exact lt_trans (h1 a ha) (h2 b q)
theorem sortK_ok : ∀ (ks f : List κ), (f ++ ks).Nodup → AscK f → AscK (ks.foldl insK f) ∧ (ks.foldl insK f).Perm (f ++ ks)
  | [], f, _, h => ⟨h, by rw [List.append_nil]; exact List.Perm.refl _⟩
  | k :: r, f, hn, h => by
    have hk : k ∉ f := fun q => by
      rw [List.nodup_append] at hn
      exact hn.2.2 k q k List.mem_cons_self rfl
    have p1 : (insK f k ++ r).Perm (f ++ k :: r) := ((insK_perm f k).append_right r).trans (by rw [List.cons_append]; exact List.perm_middle.symm)
    obtain ⟨h1, h2⟩ := sortK_ok r (insK f k) (p1.nodup_iff.mpr hn) (insK_asc h hk)
    exact ⟨h1, h2.trans p1⟩
theorem sortK_len {ks : List κ} (h : ks.Nodup) : (sortK ks).length = ks.length := by
  have := (sortK_ok ks [] (by simpa using h) List.Pairwise.nil).2.length_eq
  simpa [sortK] using this
theorem srt_keys {l : Bag κ} (h : (l.map (·.1)).Nodup) : (srt l).map (·.1) = sortK (l.map (·.1)) := by
  obtain ⟨h1, h2⟩ := sortK_ok (l.map (·.1)) [] (by simpa using h) List.Pairwise.nil
  have h3 := srt_asc h
  have h4 : (((srt l).map (·.1)).map fun k => (k, (0 : Int))) = (sortK (l.map (·.1))).map fun k => (k, (0 : Int)) := by
    refine asc_ext ?_ ?_ fun p => ?_
    · unfold Asc at h3 ⊢
      rw [List.map_map, List.pairwise_map]
      exact h3
    · unfold Asc
      rw [List.pairwise_map]
      exact h1
    · have e : ∀ k, k ∈ (srt l).map (·.1) ↔ k ∈ sortK (l.map (·.1)) := fun k => by
        rw [(((srt_perm l).map _).mem_iff : k ∈ (srt l).map (·.1) ↔ k ∈ l.map (·.1))]
        have := h2.mem_iff (a := k)
        rw [List.nil_append] at this
        exact this.symm
      simp only [List.mem_map (f := fun k : κ => (k, (0 : Int)))]
      constructor
      · rintro ⟨k, hk, rfl⟩
        exact ⟨k, (e k).mp hk, rfl⟩
      · rintro ⟨k, hk, rfl⟩
        exact ⟨k, (e k).mpr hk, rfl⟩
  have inv : ∀ l : List κ, (l.map fun k => (k, (0 : Int))).map (·.1) = l := fun l => by
    induction l with
    | nil => rfl
    | cons x r ih => rw [List.map_cons, List.map_cons, ih]
  have h5 := congrArg (List.map (·.1)) h4
  rw [inv, inv] at h5
  exact h5
theorem sortK_take {ks : List κ} {i : Nat} {k : κ} (h : ks[i]? = some k) : sortK (ks.take (i + 1)) = insK (sortK (ks.take i)) k := by
  rw [List.take_succ, h]
  simp [sortK]
end
def spSort (K : PySem.W.Frag) (κ : Type) [DecidableEq κ] [Ky κ] : Sp := fun vs H Q _ => ∃ (a : Addr) (xs : List V) (ks : List κ), vs = [.ref a] ∧ SqL K H a xs ∧ DpAll K H xs (ks.map Ky.enc) ∧ ks.Nodup ∧ ks.length ≤ 1000 ∧
  ∀ (l : Addr) (ys : List V) (H' : Hp), H l = none → Same H H' → H' l = some (.lst ys) → DpAll K H' ys ((sortK ks).map Ky.enc) → Q (.ref l) H'
theorem tu_encs {κ : Type} [DecidableEq κ] [Ky κ] [Tu κ] (l : List κ) : tupOnlyAll (l.map Ky.enc) = true := tupOnlyAll_of fun d h => by
  obtain ⟨k, _, rfl⟩ := List.mem_map.mp h
  exact Tu.tu k
theorem enc_get {K : PySem.W.Frag} {H : Hp} {κ : Type} [DecidableEq κ] [Ky κ] {xs : List V} {l : List κ} (h : DpAll K H xs (l.map Ky.enc)) {i : Nat} {x : V} (e : xs[i]? = some x) : ∃ k, l[i]? = some k ∧ Dp K H x (Ky.enc k) := by
  obtain ⟨d, h1, h2⟩ := dpAll_get h e
  rw [List.getElem?_map] at h1
  cases q : l[i]? with
  | none => rw [q] at h1; cases h1
  | some p =>
    rw [q] at h1
    cases h1
    exact ⟨p, rfl, h2⟩
theorem dpAll_take {K : PySem.W.Frag} {H : Hp} : ∀ {xs : List V} {ds : List PyData} (n : Nat), DpAll K H xs ds → DpAll K H (xs.take n) (ds.take n)
  | _, _, 0, h => by rw [List.take_zero, List.take_zero]; exact .nil
  | _, _, n + 1, .nil => by rw [List.take_nil, List.take_nil]; exact .nil
  | _, _, n + 1, .cons h t => by rw [List.take_succ_cons, List.take_succ_cons]; exact .cons h (dpAll_take n t)
theorem dpAll_drop {K : PySem.W.Frag} {H : Hp} : ∀ {xs : List V} {ds : List PyData} (n : Nat), DpAll K H xs ds → DpAll K H (xs.drop n) (ds.drop n)
  | _, _, 0, h => by rw [List.drop_zero, List.drop_zero]; exact h
  | _, _, n + 1, .nil => by rw [List.drop_nil, List.drop_nil]; exact .nil
  | _, _, n + 1, .cons h t => by rw [List.drop_succ_cons, List.drop_succ_cons]; exact dpAll_drop n t
section
variable {P : Program} {w : World} {K : PySem.W.Frag} {mg : Str → Option Value} {base : Heap}
end
end K8


set_option Elab.async false
set_option linter.all false
set_option maxRecDepth 100000
set_option maxHeartbeats 4000000
namespace K8
open PySem L2 Nd Bk
def spNorm (K : PySem.W.Frag) (P : Program) (w : World) : Sp := fun vs H Q _ => ∃ (d : Addr) (es : List Ent), vs = [.ref d] ∧ NdAt K P w H d es ∧ ((bagOf es).map (·.1)).Nodup ∧ Pos (bagOf es) ∧ es.length ≤ 1000 ∧
  ∀ (v : V) (H' : Hp), Same H H' → Dp K H' v (bD (srt (bagOf es))) → Q v H'
def spLPlus (K : PySem.W.Frag) : Sp := fun vs H Q _ => ∃ (x y : V) (p q : Poly), vs = [x, y] ∧ Dp K H x (bD p) ∧ Dp K H y (bD q) ∧ POk p ∧ POk q ∧ p.length + q.length ≤ 1000 ∧
  ∀ (v : V) (H' : Hp), Same H H' → Dp K H' v (bD (plusP p q)) → Q v H'
theorem keys_dp {K : PySem.W.Frag} {H : Hp} {es : List Ent} (h : ∀ e ∈ es, Dp K H (.ref e.2.1) (mD e.1)) : DpAll K H (es.map fun e => V.ref e.2.1) (((bagOf es).map (·.1)).map Ky.enc) := by
  induction es with
  | nil => exact .nil
  | cons e r ih => exact .cons (h e List.mem_cons_self) (ih fun x hx => h x (List.mem_cons_of_mem _ hx))
section
variable {P : Program} {w : World} {K : PySem.W.Frag} {mg : Str → Option Value} {base : Heap}
end
end K8


set_option Elab.async false
set_option linter.all false
set_option maxRecDepth 100000
set_option maxHeartbeats 4000000
namespace K8
open PySem L2 Nd Bk
def spLProd (K : PySem.W.Frag) : Sp := fun vs H Q _ => ∃ (x y : V) (m n : Mono), vs = [x, y] ∧ Dp K H x (mD m) ∧ Dp K H y (mD n) ∧ MOk m ∧ MOk n ∧ m.length + n.length ≤ 1000 ∧ ∀ (a : Addr) (H' : Hp), Same H H' → Dp K H' (.ref a) (mD (mulM m n)) → Q (.ref a) H'
def spLTimes (K : PySem.W.Frag) : Sp := fun vs H Q _ => ∃ (x y : V) (p q : Poly), vs = [x, y] ∧ Dp K H x (bD p) ∧ Dp K H y (bD q) ∧ POk p ∧ POk q ∧ p.length * q.length ≤ 1000 ∧ S p < BEY ∧ S q < BEY ∧ (∀ t ∈ p, t.1.length ≤ 500) ∧ (∀ t ∈ q, t.1.length ≤ 500) ∧
  ∀ (v : V) (H' : Hp), Same H H' → Dp K H' v (bD (timesP p q)) → Q v H'
theorem txkeys_dp {K : PySem.W.Frag} {H : Hp} (m : Mono) : DpAll K H ((tx m).map fun kv => kV kv.1) ((m.map (·.1)).map Ky.enc) := by
  induction m with
  | nil => exact .nil
  | cons e r ih => exact .cons (.str e.1) ih
section
variable {P : Program} {w : World} {K : PySem.W.Frag} {mg : Str → Option Value} {base : Heap}
end
end K8


set_option Elab.async false
set_option linter.all false
set_option maxRecDepth 100000
set_option maxHeartbeats 4000000
namespace K8
open PySem L2 Nd Bk
section
variable {P : Program} {w : World} {K : PySem.W.Frag} {mg : Str → Option Value} {base : Heap}
end
end K8


set_option Elab.async false
set_option linter.all false
set_option maxRecDepth 100000
set_option maxHeartbeats 4000000
namespace K8
open PySem L2 Nd Bk
theorem BoxAt.notT {H : Hp} {b c : Addr} {ns : List Int} (x : BoxAt H b c ns) : NotT (H b) := by
  obtain ⟨d0, d1, at_, s, m, _, h⟩ := x.lst
  rw [h]
  exact notT_lst
theorem BoxAt.off {H : Hp} {b c d : Addr} {ns : List Int} (x : BoxAt H b c ns) (n : H d = none) : d ≠ b := by
  obtain ⟨d0, d1, at_, s, m, _, h⟩ := x.lst
  exact Ne.symm (ne_of_none h n)
/-- a thing of ours at d changes -/
theorem BoxAt.mine {H : Hp} {b c d : Addr} {ns : List Int} {o : HO} (x : BoxAt H b c ns) (h1 : b ≠ d) (h2 : c ≠ d) : BoxAt (upd H d o) b c ns := by
  obtain ⟨d0, d1, at_, s, m, h0, h⟩ := x.lst
  exact ⟨⟨d0, d1, at_, s, m, h0, by rw [upd_ne h1]; exact h⟩, by rw [upd_ne h2]; exact x.cells, x.len⟩
theorem but_mine {H H4 : Hp} {b d : Addr} {o : HO} (k : But b H H4) (n : H d = none) : But b H (upd H4 d o) := fun a u h ne => by
  rw [upd_ne (ne_of_none h n)]
  exact k a u h ne
theorem pick_int {zs : List Int} {j : Nat} (h : j < zs.length) : ∃ z, (zs.map V.int)[j]? = some (V.int z) ∧ z ∈ zs := ⟨zs[j], by rw [List.getElem?_map, List.getElem?_eq_getElem h]; rfl, List.getElem_mem h⟩
theorem pick_str {zs : List Str} {j : Nat} (h : j < zs.length) : ∃ z, (zs.map V.str)[j]? = some (V.str z) := ⟨zs[j], by rw [List.getElem?_map, List.getElem?_eq_getElem h]; rfl⟩
/-- a short text, not empty -/
def shT (z : Str) : Bool := decide (0 < z.length) && (decide (z.length ≤ 10) && z.cps.toList.all fun c => decide (c < 16 ^ 8))
theorem ofString_small (t : String) : ∀ c ∈ (Str.ofString t).cps.toList, c < 16 ^ 8 := by
  rw [Str.ofString_eq_toList]
  intro c hc
  obtain ⟨x, _, rfl⟩ := List.mem_map.mp hc
  have h : x.val.toNat < UInt32.size := x.val.toNat_lt
  have e : (16 : Nat) ^ 8 = UInt32.size := by decide
  rw [e]
  exact h
theorem shT_mk {z : Str} (h0 : 0 < z.length) (h1 : z.length ≤ 10) (h2 : ∀ c ∈ z.cps.toList, c < 16 ^ 8) : shT z = true := by
  unfold shT
  rw [Bool.and_eq_true, Bool.and_eq_true, decide_eq_true_eq, decide_eq_true_eq, List.all_eq_true]
  exact ⟨h0, h1, fun c hc => decide_eq_true (h2 c hc)⟩
theorem pick_strM {zs : List Str} {j : Nat} (h : j < zs.length) : ∃ z, (zs.map V.str)[j]? = some (V.str z) ∧ z ∈ zs := ⟨zs[j], by rw [List.getElem?_map, List.getElem?_eq_getElem h]; rfl, List.getElem_mem h⟩
def spTok : Sp := fun vs H Q _ => ∃ (b c : Addr) (ns : List Int), vs = [.ref b] ∧ BoxAt H b c ns ∧ ∀ (z : Str) (H' : Hp), shT z = true → BoxAt H' b c ns → But b H H' → Q (.str z) H'
section
variable {P : Program} {w : World} {K : PySem.W.Frag} {mg : Str → Option Value} {base : Heap}
end
end K8


set_option Elab.async false
set_option linter.all false
set_option maxRecDepth 100000
set_option maxHeartbeats 4000000
namespace K8
open PySem L2 Nd Bk
structure PM (m : Mono) : Prop where
  ok : MOk m
  len : m.length ≤ 4
  sz : S m ≤ 48
  tk : ∀ x ∈ m, shT x.1 = true
structure PB (p : Poly) : Prop where
  ok : POk p
  len : p.length ≤ 8
  sz : S p ≤ 8000
  dg : Dg p 48
  tk : ∀ t ∈ p, ∀ x ∈ t.1, shT x.1 = true
theorem S_le {κ : Type} {l : Bag κ} {n : Nat} {c : Int} (hc : 0 ≤ c) (hl : l.length ≤ n) (h : ∀ t ∈ l, t.2 ≤ c) : S l ≤ n * c := by
  induction l generalizing n with
  | nil =>
    have : (0 : Int) ≤ n * c := Int.mul_nonneg (by omega) hc
    exact this
  | cons x r ih =>
    cases n with
    | zero => simp at hl
    | succ n =>
      have h1 := h x List.mem_cons_self
      have h2 := ih (n := n) (by rw [List.length_cons] at hl; omega) fun t ht => h t (List.mem_cons_of_mem _ ht)
      have e : S (x :: r) = x.2 * 1 + S r := by unfold S pr; simp
      have e2 : ((n + 1 : Nat) : Int) * c = (n : Int) * c + c := by rw [Int.natCast_add, Int.add_mul]; simp
      omega
theorem put_all {κ : Type} [DecidableEq κ] {l : Bag κ} {k : κ} {v : Int} {R : κ × Int → Prop} (h : ∀ t ∈ l, R t) (hv : R (k, v)) : ∀ t ∈ put l k v, R t := fun t ht => by
  unfold put at ht
  split at ht
  · obtain ⟨e, he, rfl⟩ := List.mem_map.mp ht
    by_cases q : e.1 = k
    · rw [if_pos q, q]
      exact hv
    · rw [if_neg q]
      exact h e he
  · rcases List.mem_append.mp ht with q | q
    · exact h t q
    · rw [List.mem_singleton.mp q]
      exact hv
theorem put_len {κ : Type} [DecidableEq κ] (l : Bag κ) (k : κ) (v : Int) : (put l k v).length ≤ l.length + 1 := by
  unfold put
  split
  · rw [List.length_map]; omega
  · rw [List.length_append]; exact Nat.le_refl _
def spLMono (K : PySem.W.Frag) : Sp := fun vs H Q _ => ∃ (b c : Addr) (ns : List Int), vs = [.ref b, .int 4] ∧ BoxAt H b c ns ∧ ∀ (a : Addr) (m : Mono) (H' : Hp), PM m → BoxAt H' b c ns → But b H H' → Dp K H' (.ref a) (mD m) → Q (.ref a) H'
def spLPoly (K : PySem.W.Frag) : Sp := fun vs H Q _ => ∃ (b c : Addr) (ns : List Int), vs = [.ref b, .int 8, .int 4] ∧ BoxAt H b c ns ∧ ∀ (v : V) (p : Poly) (H' : Hp), PB p → BoxAt H' b c ns → But b H H' → Dp K H' v (bD p) → Q v H'
section
variable {P : Program} {w : World} {K : PySem.W.Frag} {mg : Str → Option Value} {base : Heap}
end
end K8


set_option Elab.async false
set_option linter.all false
set_option maxRecDepth 100000
set_option maxHeartbeats 2000000
/-! defs that are called where no repr is under way (so that they may ask for one) -/
namespace Gd
open PySem PySem.Spec PyProof.Rows L2
/-- nothing is being shown around the call -/
abbrev Still (A : Around) : Prop := A.guards = some []
structure FnG (P : Program) (w : World) (K : PySem.W.Frag) (mg : Str → Option Value) (base : Heap) (k : Nat) (f : Addr) (fd : FuncData) (ps : List Str) (sp : Sp) : Prop where
  len : ∀ vs H Q, sp vs H Q E0 → vs.length = ps.length
  go : ∀ {A : Around} {outer : List Env} {s : Shared} {H : Hp} {args : Args} {us : List Value} {vs : List V} {Q : VK}, Still A → Room k A →
    Env0 P w K mg base A outer s H → sp vs H Q E0 → Vals vs us → BindsTo s fd args (ps.zip us) → codeAny (model P w) A (.call (.ref f) args) (CR CX0 outer P w H s Q E0) s
section
variable {P : Program} {w : World} {K : PySem.W.Frag} {mg : Str → Option Value} {base : Heap} {k : Nat} {f : Addr} {fd : FuncData} {ps : List Str} {sp : Sp}
theorem FnG.of (F : FnOk P w K mg base CX0 k f fd ps sp) : FnG P w K mg base k f fd ps sp :=
  { len := fun vs H Q h => F.len vs H Q E0 h, go := fun _ room e0 want rel bind => F.run _ _ _ _ _ _ _ _ _ room e0 bind rel want }
/-- a def by its body: the body's reading may count on it that nothing is being shown -/
theorem ok_still {x qual : Str} {st : Stmt} {N : List Str} (D : Fun K x qual st f fd) (S : FnScope N ps (defScope st)) (len : ∀ vs H Q, sp vs H Q E0 → vs.length = ps.length)
    (body : ∀ (cdv : Value) (A : Around) (outer : List Env) (s : Shared) (H : Hp) (vs : List V) (Q : VK), Still A → Room k (A.deeper (envOfC qual (defScope st) s.heap.objs.size f cdv)) → sp vs H Q E0 →
      ∃ t, PSs (cxOf CX0 P w K mg base N qual (defScope st) f cdv A outer s H E0).nox (defBody st) t ∧ t { nx := fun _ J => Q .non J, rt := Q } (start N vs) H) : FnG P w K mg base (k + 1) f fd ps sp := by
  refine { len := len, go := ?_ }
  intro A outer s H args us vs Q still room e0 want rel bind
  obtain ⟨oc, od, kV, doc, pm, an, cdv, ct, osl, rfl, look, code⟩ := D.ex
  have old := fun (b : Addr) (o : Obj) (q : base.get? b = some o) => (e0.bs b o q).1
  have inK := e0.mod.kin.keeps old
  have kinds : ∀ y ∈ ps.zip us, (defScope st).names.lookup y.1 = some .local ∨ ((defScope st).names.lookup y.1 = some .cell ∧
      ((cellsFrom (s.heap.objs.size + 1) (defScope st).names []).lookup y.1).isSome = true) := by
    intro y hy
    rcases S.par y.1 (List.of_mem_zip (a := y.1) (b := y.2) hy).1 with q | q
    · exact .inl q
    · exact .inr ⟨q, PySem.W.cellsFrom_some _ _ _ (.inl q)⟩
  obtain ⟨t, block, reads⟩ := body cdv A outer s H vs Q still (room.deeper _) want
  refine codeAny_call_function room.depth (inK _ _ look) rfl S.co S.gen rfl
    (PySem.W.codeRec_of inK code) (bind _ _ _ _ ?_)
  apply wpAny_newFunctionEnv_cells S.kind kinds
  rintro _ rfl s1 laid
  have start := inv_start (CX := CX0) (E := E0) S room.hd e0 (len _ _ _ want) rel laid
  refine ⟨(e0.mod.nolimit.keeps old).keeps laid.toInCall.keep, codeAny_func ?_⟩
  refine wpAny_mono (block.nox.run [] s1 _ H _ start reads) ?_ fun _ _ q => q
  intro fl s' ends
  cases fl with
  | ret u =>
    obtain ⟨v, _, J, i, r, q⟩ := ends
    exact ⟨v, J, i.os, i.bare, i.base, i.hok, r, q⟩
  | next =>
    obtain ⟨_, J, i, q⟩ := ends
    exact ⟨.non, J, i.os, i.bare, i.base, i.hok, rfl, q⟩
  | brk => exact ends.choose_spec.choose_spec.2.elim
  | cont => exact ends.choose_spec.choose_spec.2.elim
end
section
variable {X : Cx} {k : Nat} {f : Addr} {fd : FuncData} {ps ks : List Str} {sp : Sp} {x : Str} {p pos : Pos} {e : Expr} {es : List Expr} {kws : List Keyword} {t tk : TA}
/-- a call where nothing is being shown -/
theorem run_still {pins : List (Addr × Obj)} {σ : L2.St} {H : Hp} {s : Shared} {Q : VK} {us zs : List Value} {kw : List (Str × Value)} {vs : List V} (F : FnG X.prog X.w X.K X.mg X.base k f fd ps sp)
    (still : Still X.A) (room : Room k X.A) (I : Inv X pins σ H s) (want : sp vs H Q E0) (rel : Vals vs zs) (bind : BindsTo s fd ⟨us, kw⟩ (ps.zip zs)) :
    wpAny (model X.prog X.w) X.A (call (.ref f) us kw) (EP X pins σ Q) X.xe s := by
  apply wpAny_call
  refine codeAny_mono (F.go still room I.env0 want rel bind) ?_
  rintro (_ | fl) s' q
  · exact q.elim
  · cases fl with
    | ret u => exact I.after q
    | next => exact q.elim
    | brk => exact q.elim
    | cont => exact q.elim
theorem pe_still (F : FnG X.prog X.w X.K X.mg X.base k f fd ps sp) (still : Still X.A) (room : Room k X.A) (g : Gl X x) (m : X.mg x = some (.ref f)) (kp : PySem.W.keepIn X.K (.ref f) = true) (b : Binds X.K fd ps []) (a : PA X (e :: es) t)
    (nd : (x == ("__debug__" : Str)) = false := by decide) (st : starEach (e :: es) X.env = (false, eval e X.env) :: starEach es X.env := by rfl) (pl : (backTo pos (starEach es X.env)).any (·.1) = false := by rfl) :
    PE X (.Call (.Name x p) (e :: es) [] pos) (tCall sp [] E0 t) := by
  constructor
  intro pins s σ H Q I h
  have args := a.run pos pins s σ H _ I h
  apply wpAny_Call_Name_kw
  refine ld_glob I g m (PySem.W.callWith_K (h₀ := X.base) I.ok.mod.kin kp (thn args ?_) st pl) nd
  rintro us s1 ⟨vs, J, i, r, q⟩
  have q' : sp vs J Q E0 := by
    have z : sp (vs ++ []) J Q E0 := q
    rw [List.append_nil] at z
    exact z
  have l : (us ++ []).length = ps.length := by
    rw [List.append_nil, ← r.length]
    exact F.len _ _ _ q'
  have bd := b s1 us i.kIn l
  rw [List.append_nil] at bd
  exact ⟨i.kIn, run_still F still room i q' r bd⟩
end
end Gd


set_option Elab.async false
set_option linter.all false
set_option maxRecDepth 100000
set_option maxHeartbeats 2000000
namespace Gd
open PySem PySem.Spec PyProof.Rows L2
theorem still_caller : Still callerA := rfl
section
variable {P : Program} {w : World} {K : PySem.W.Frag} {mg mb : Str → Option Value} {k : Nat} {fa a : Addr} {fd : FuncData} {x : Str} {sp : Sp} {s : Shared} {vs : List Value} {ns : List Int}
/-- the first call of all, from a heap in which the script alone is told -/
theorem first_call (inK : K.In s.heap) (top : s.heap.Ns mainGlobals mg) (bns : s.heap.Ns builtinsNs mb) (boot : ∀ y : Str, y ≠ "__name__" → mb y = bootBuiltins y) (free : s.heap.NoLimit) (gens : s.gens = #[])
    (obj : s.heap.get? a = some { cls := .type "list", data := .seq vs.toArray }) (room : Room k callerA)
    (F : ∀ base : Heap, K.In base → base.Ns mainGlobals mg → FnG P w K mg base k fa fd [x] sp) (bind : ∀ (t : Shared) (u : Value), BindsTo t fd ⟨[u], []⟩ [(x, u)])
    {H : Hp} (only : Only H) (want : sp [.ref a] H (fun v _ => v = .bl true) E0) (hok : HOk P w H s.heap) (alone : ∀ b, H b ≠ none → b = a ∧ K.lookup a = none) :
    codeAny (model P w) callerA (.call (.ref fa) ⟨[.ref a], []⟩) (fun r t => r = .ok (.ret (.bool true)) ∧ OldK s.heap t.heap ∧ t.os = s.os ∧ AllBare t.gens) s := by
  have away : ∀ b : Addr, b ≠ a → H b = none := fun b ne => Classical.byContradiction fun q => ne (alone b q).1
  have dicts : ∀ {b : Addr} {o : Obj} {es : Array DictEntry} {ep : Nat}, s.heap.get? b = some o → o.data = .dict es ep → H b = none := by
    intro b o es ep e d
    refine away b ?_
    rintro rfl
    rw [obj] at e
    cases e
    exact nomatch (show Data.seq vs.toArray _ = Data.dict es ep from d)
  have keepNs : ∀ {b : Addr} {m : Str → Option Value}, s.heap.Ns b m → (hidT s.heap H).Ns b m := by
    rintro b m ⟨o, es, ep, e, d, r⟩
    exact ⟨o, es, ep, hidT_get e (dicts e d), d, r⟩
  have hidK : K.In (hidT s.heap H) := by
    intro b o e
    refine hidT_get (inK b o e) (Classical.byContradiction fun q => ?_)
    obtain ⟨rfl, none_⟩ := alone b q
    rw [none_] at e
    cases e
  obtain ⟨ml, lim, lim'⟩ := free
  have env : Env0 P w K mg (hidT s.heap H) callerA [] s H :=
    { frames := rfl, mod := ⟨hidK, keepNs top, ⟨mb, keepNs bns, boot⟩, ⟨ml, keepNs lim, lim'⟩⟩, bs := fun b o e => of_hidT e, bsz := Nat.le_of_eq (hidT_size _ _), funs := trivial,
      frf := fun b q => absurd (show b ∈ ([] : List Addr) from q) (by simp), hok := hok, bare := .of_eq gens }
  have run := (F _ hidK (keepNs top)).go still_caller room env want (.cons rfl .nil) (bind s (.ref a))
  refine codeAny_mono run ?_
  rintro (_ | fl) t q
  · exact q.elim
  cases fl with
  | next => exact q.elim
  | brk => exact q.elim
  | cont => exact q.elim
  | ret u =>
    obtain ⟨v, J, os, bare, un, hok', rel, yes⟩ := q
    have yes' : v = .bl true := yes
    subst yes'
    obtain rfl : u = Value.bool true := rel
    refine ⟨rfl, OldK.of_keep ?_, os, bare⟩
    intro b o e
    cases c : H b with
    | none => exact un.keep b o e c (fun z => absurd (show b ∈ ([] : List Addr) from z) (by simp)) (by simp)
    | some ho =>
      rcases only b with z | ⟨ob, xs, z⟩
      · rw [c] at z
        cases z
      · have old := (hok b _ z).1
        have new := (hok' b _ (un.frzs b ob _ z)).1
        rw [e] at old
        cases old
        exact new
/-- .. whatever the script's list is: one of the module's own, or one that is told -/
theorem law_still (inK : K.In s.heap) (top : s.heap.Ns mainGlobals mg) (bns : s.heap.Ns builtinsNs mb) (boot : ∀ y : Str, y ≠ "__name__" → mb y = bootBuiltins y) (free : s.heap.NoLimit) (gens : s.gens = #[])
    (obj : s.heap.get? a = some { cls := .type "list", data := .seq vs.toArray }) (nums : IntsAre vs ns) (len : ns.length ≤ sizeLine) (room : Room k callerA)
    (F : ∀ base : Heap, K.In base → base.Ns mainGlobals mg → FnG P w K mg base k fa fd [x] sp) (bind : ∀ (t : Shared) (u : Value), BindsTo t fd ⟨[u], []⟩ [(x, u)])
    (want : ∀ H : Hp, SqL K H a (ns.map V.int) → sp [.ref a] H (fun v _ => v = .bl true) E0) :
    codeAny (model P w) callerA (.call (.ref fa) ⟨[.ref a], []⟩) (fun r t => r = .ok (.ret (.bool true)) ∧ OldK s.heap t.heap ∧ t.os = s.os ∧ AllBare t.gens) s := by
  have rel := vals_ints nums
  have size : vs.toArray.size ≤ sizeLine := by
    rw [List.size_toArray, nums.length]
    exact len
  rcases own : K.lookup a with _ | o
  · -- told by the heap
    let ob : Obj := { cls := .type "list", data := .seq vs.toArray }
    let H : Hp := fun b => if b = a then some (.frz ob (.lst (ns.map V.int))) else none
    have here : H a = some (.frz ob (.lst (ns.map V.int))) := if_pos rfl
    have there : ∀ {b u}, H b = some u → b = a ∧ u = .frz ob (.lst (ns.map V.int)) := by
      intro b u q
      by_cases c : b = a
      · rw [c, here] at q
        exact ⟨c, (Option.some.inj q).symm⟩
      · rw [show H b = none from if_neg c] at q
        cases q
    refine first_call inK top bns boot free gens obj room F bind (H := H) (fun b => ?_) (want H (.inl (.inr ⟨ob, here⟩))) (fun b u q => ?_) fun b q => ?_
    · by_cases c : b = a
      · exact .inr ⟨ob, ns.map V.int, by rw [c]; exact here⟩
      · exact .inl (if_neg c)
    · obtain ⟨rfl, rfl⟩ := there q
      exact ⟨obj, by rw [List.length_map]; exact len, vs, _, rel, obj⟩
    · obtain ⟨u, hu⟩ := Option.ne_none_iff_exists'.mp q
      exact ⟨(there hu).1, own⟩
  · -- one of the module's own
    have e := inK a o own
    rw [obj] at e
    cases e
    refine first_call inK top bns boot free gens obj room F bind (H := fun _ => none) (fun _ => .inl rfl) (want _ (.inr ⟨_, vs.toArray, _, own, rfl, rfl, rfl, size, by simpa using rel⟩)) ?_ fun b q => absurd rfl q
    intro b u q
    exact nomatch (show (none : Option HO) = some u from q)
end
/-- the head's goal, from the promise of the law's def, called where nothing is being shown -/
theorem walk_still {l : PySem.W.OpenLaw} {n k : Nat} {q : Program} {loose : List Str} {XP : (Str → Option Value) → Heap → Prop} {YP : World → Heap → Prop} {d : DefRec} {K : Params → PySem.W.Frag} {x : Str} {sp : PySem.W.Frag → Sp}
    (most : l.most = some n) (small : n ≤ sizeLine) (plain : d.params.defaults = []) (room : Room k callerA) (inK : ∀ (w : World) (h : Heap), YP w h → (K w.params).In h)
    (F : ∀ (w : World) (mg : Str → Option Value) (fa : Addr) (h : Heap), (K w.params).In h → h.Ns mainGlobals mg → mg d.name = some (.ref fa) → ∃ fd : FuncData, (∀ (t : Shared) (u : Value), BindsTo t fd ⟨[u], []⟩ [(x, u)]) ∧
      ∀ base : Heap, (K w.params).In base → base.Ns mainGlobals mg → FnG l.prog w (K w.params) mg base k fa fd [x] (sp (K w.params)))
    (want : ∀ (K : PySem.W.Frag) (H : Hp) (a : Addr) (ns : List Int), ns.length ≤ n → SqL K H a (ns.map V.int) → sp K [.ref a] H (fun v _ => v = .bl true) E0) : PySem.W.WalkO q loose XP YP l.row.toRowW d [] (fun f vs => PySem.call f vs) := by
  apply Att.attach_call most plain
  intro w s₀ s mg mb fa o pm cd doc a vs ns G Y _ _ _ named obj nums len gens
  have own := inK w _ Y
  obtain ⟨fd, bind, fn⟩ := F w mg fa _ own G.T.g named
  exact law_still own G.T.g G.T.b G.T.builtins G.T.nolimit gens obj nums (Nat.le_trans len small) room fn bind fun H sq => want _ H a ns len sq
end Gd


set_option Elab.async false
set_option linter.all false
set_option maxRecDepth 100000
set_option maxHeartbeats 2000000
namespace Gd
open PySem PySem.Spec PyProof.Rows L2
/-! how long a text of data may be -/
mutual
def cost : PyData → Nat
  | .list xs => costs xs + 3
  | .tuple xs => costs xs + 3
  | _ => 110
def costs : List PyData → Nat
  | [] => 0
  | x :: xs => cost x + 2 + costs xs
end
mutual
/-- lists and tuples of short texts and numbers below 10 ^ 105 -/
def shortD : PyData → Bool
  | .list xs => shortDs xs
  | .tuple xs => shortDs xs
  | .int i => decide (0 ≤ i) && decide (i < 10 ^ 105)
  | .str z => decide (z.length ≤ 10) && z.cps.toList.all fun c => decide (c < 16 ^ 8)
  | .none => true
  | .bool _ => true
  | _ => false
def shortDs : List PyData → Bool
  | [] => true
  | x :: xs => shortD x && shortDs xs
end
theorem piled_le : ∀ (ts : List Str), piled ts = (ts.map fun t => t.length + 2).sum
  | [] => by simp [piled]
  | t :: ts => by simp [piled, piled_le ts]
theorem join_le (ts : List Str) : (Str.join ", " ts).length ≤ (ts.map fun t => t.length + 2).sum := by
  by_cases h : ts = []
  · subst h
    exact Nat.le_of_eq (by decide +kernel)
  · have := join_length_add ts h
    rw [piled_le] at this
    omega
mutual
theorem shown_le : ∀ {d : PyData}, shortD d = true → d.shown.length ≤ cost d ∧ d.showable = true ∧ d.hasDict = false
  | .none, h => ⟨by decide +kernel, by simp only [PyData.showable], by simp only [PyData.hasDict]⟩
  | .bool b, h => ⟨by cases b <;> decide +kernel, by simp only [PyData.showable], by simp only [PyData.hasDict]⟩
  | .dict _, h => by simp [shortD] at h
  | .int i, h => by
    simp only [shortD, Bool.and_eq_true, decide_eq_true_eq] at h
    refine ⟨?_, ?_, by simp only [PyData.hasDict]⟩
    · rw [PyData.shown_int]
      have := toString_length_le h.1 (k := 105) (by decide) h.2
      simp only [cost]
      omega
    · simp only [PyData.showable, decide_eq_true_eq]
      have hn : i.natAbs < 2 ^ 1000 := by
        have e : (i.natAbs : Int) = i := Int.natAbs_of_nonneg h.1
        have hb : ((10 : Int) ^ 105) ≤ ((2 ^ 1000 : Nat) : Int) := by decide +kernel
        omega
      by_cases z : i.natAbs = 0
      · rw [z]
        decide
      · exact Nat.lt_of_lt_of_le ((Nat.log2_lt z).mpr hn) (by decide)
  | .str z, h => by
    simp only [shortD, Bool.and_eq_true, decide_eq_true_eq, List.all_eq_true] at h
    refine ⟨?_, by simp only [PyData.showable], by simp only [PyData.hasDict]⟩
    rw [PyData.shown_str]
    have := PySem.StrLaws.reprText_len z h.2
    simp only [cost]
    omega
  | .list xs, h => by
    obtain ⟨h1, h2, h3⟩ := showns_le (by simpa [shortD] using h)
    refine ⟨?_, by simp only [PyData.showable, h2], by simp only [PyData.hasDict, h3]⟩
    rw [PyData.shown_list, Str.length_append, Str.length_append]
    have := join_le (PyData.shownAll xs)
    simp only [cost]
    have e1 : Str.length "[" = 1 := by decide +kernel
    have e2 : Str.length "]" = 1 := by decide +kernel
    omega
  | .tuple xs, h => by
    obtain ⟨h1, h2, h3⟩ := showns_le (by simpa [shortD] using h)
    refine ⟨?_, by simp only [PyData.showable, h2], by simp only [PyData.hasDict, h3]⟩
    rw [PyData.shown_tuple, Str.length_append, Str.length_append]
    have := join_le (PyData.shownAll xs)
    simp only [cost]
    have e1 : Str.length "(" = 1 := by decide +kernel
    have e2 : Str.length (Str.ofString (if (xs.length == 1) = true then ",)" else ")")) ≤ 2 := by
      split <;> decide +kernel
    omega
theorem showns_le : ∀ {ds : List PyData}, shortDs ds = true → ((PyData.shownAll ds).map fun t => t.length + 2).sum ≤ costs ds ∧ PyData.showableAll ds = true ∧ PyData.hasDictAll ds = false
  | [], _ => by simp [PyData.shownAll, PyData.showableAll, PyData.hasDictAll, costs]
  | d :: ds, h => by
    simp only [shortDs, Bool.and_eq_true] at h
    obtain ⟨h1, h2, h3⟩ := shown_le h.1
    obtain ⟨g1, g2, g3⟩ := showns_le h.2
    refine ⟨?_, by simp [PyData.showableAll, h2, g2], by simp [PyData.hasDictAll, h3, g3]⟩
    rw [PyData.shownAll_cons, List.map_cons, List.sum_cons]
    simp only [costs]
    omega
end
section
variable {X : Cx}
/-- repr(x) of a list or tuple of short data -/
def rRepr (K : PySem.W.Frag) : List V → Hp → VK → Prop := fun xs H Q => ∃ (a : Addr) (d : PyData), xs = [.ref a] ∧ Dp K H (.ref a) d ∧ shortD d = true ∧ cost d ≤ 1000000 ∧ d.depth ≤ 20 ∧ Q (.str d.shown) H
theorem cr_repr (still : Still X.A) (hu : X.A.units + 64 < cLine) : CallR X (.builtin "repr") (rRepr X.K) := by
  intro pins s σ H xs us Q I r h
  obtain ⟨a, d, rfl, hd, sh, sz, dep, q⟩ := h
  obtain ⟨u, rfl, rx⟩ := vals1 r
  cases rx
  obtain ⟨as, rd⟩ := Dp.reads I d _ _ hd rfl
  obtain ⟨h1, h2, h3⟩ := shown_le sh
  refine repr_of_reads' rd h2 (PyData.noDict_hsm h3) still (by omega) (fun _ _ e => e) (fun h' t tk hk => ?_) (by rw [sizeLine_eq]; omega)
  exact ⟨.str d.shown, H, I.kept (t' := tk) hk, ⟨t, rfl⟩, q⟩
end
section
variable {X : Cx} {k : Nat} {f : Addr} {fd : FuncData} {ps ks : List Str} {sp : Sp} {x : Str} {p pos : Pos} {kws : List Keyword} {tk : TA} {g : List Value → List Value → List Value} {gV : List V → List V → List V}
/-- f(a = .., b = ..): keywords alone -/
theorem pe_kws (F : FnG X.prog X.w X.K X.mg X.base k f fd ps sp) (still : Still X.A) (room : Room k X.A) (gl : Gl X x) (m : X.mg x = some (.ref f)) (kp : PySem.W.keepIn X.K (.ref f) = true) (b : KBinds X.K fd ps ks g gV) (kw : PK X kws tk)
    (all : (backToKw pos (keywordEach kws X.env)).all (·.1.isSome) = true := by rfl) (nms : (backToKw pos (keywordEach kws X.env)).filterMap (·.1) = ks := by rfl) (nd : (x == ("__debug__" : Str)) = false := by decide)
    (pl : ((backTo pos (starEach [] X.env)).any (·.1) || (backToKw pos (keywordEach kws X.env)).any (·.1.isNone)) = false := by rfl) : PE X (.Call (.Name x p) [] kws pos) (tCallK sp gV E0 tNil tk) := by
  constructor
  intro pins s σ H Q I h
  have kwargs := kw.run pos pins s σ H _ I h
  apply wpAny_Call_Name_kw
  refine ld_glob I gl m (PySem.W.callWith_KW0 (h₀ := X.base) I.ok.mod.kin kp all (thn kwargs ?_) pl) nd
  rintro ws s2 ⟨zs, J, i, r, q⟩
  have rr : Vals (gV [] zs) (g [] ws) := b.rel .nil r
  have l : (g [] ws).length = ps.length := by
    rw [← rr.length]
    exact F.len _ _ _ q
  rw [nms]
  exact ⟨i.kIn, run_still F still room i q rr (b.to s2 [] ws i.kIn l)⟩
end
end Gd


set_option Elab.async false
set_option linter.all false
set_option maxRecDepth 100000
set_option maxHeartbeats 2000000
/-! a, b = a list -/
namespace Gd
open PySem PySem.Spec PyProof.Rows L2
section
variable {prog : Program} {w : World} {A : Around} {E : Value → Shared → Prop}
/-- so many of a list, from the i-th on -/
theorem drawn_list {it l : Addr} {xs : Array Value} (ne : l ≠ it) (n : Nat) : ∀ {i : Nat} {s : Shared} {Q : List Value → Shared → Prop}, s.heap.IsListIter it l i → s.heap.IsList l xs → i + n ≤ xs.size →
    (∀ g, g.IsListIter it l (i + n) → Heap.SameBut it s.heap g → Q ((xs.toList.drop i).take n) { s with heap := g }) → wpAny (model prog w) A (draw (.ref it) n) Q E s := by
  induction n with
  | zero =>
    intro i s Q at_ _ _ q
    have q := q s.heap at_ (Heap.SameBut.refl ..)
    rw [List.take_zero] at q
    exact wpAny_pure q
  | succ n ih =>
    intro i s Q at_ here le q
    have lt : i < xs.size := by omega
    have step : xs.toList.drop i = xs[i] :: xs.toList.drop (i + 1) := by
      simp [List.drop_eq_getElem_cons, lt]
    show wpAny _ _ (pyNext (.ref it) >>= _) Q E s
    apply wpAny_bind
    refine wpAny_pyNext_list_item at_ here (x := xs[i]) (by simp [lt]) ?_
    intro g at1 same1
    apply wpAny_bind
    apply wpAny_holding
    refine ih at1 (here.at fun o e => same1.extBut l o ne e) (by omega) ?_
    intro g2 at2 same2
    have q := q g2 (by rw [← Nat.add_assoc, Nat.add_right_comm]; exact at2) (same1.trans same2)
    rw [step, List.take_succ_cons] at q
    exact wpAny_pure q
theorem unpacked_list {l : Addr} {xs : Array Value} {s : Shared} {targets : List (Bool × (Value → Sem Unit))} {Q : Unit → Shared → Prop} (calm : A.handled = none) (here : s.heap.IsList l xs) (count : targets.length = xs.size) (plain : targets.findIdx? (·.1) = none)
    (k : ∀ g, (∀ b o, s.heap.get? b = some o → g.get? b = some o) → wpAny (model prog w) A (assignInOrder (targets.map (·.2)) xs.toList) Q E { s with heap := g }) : wpAny (model prog w) A (unpack (.ref l) targets) Q E s := by
  have ne : l ≠ s.heap.objs.size := by
    obtain ⟨o, e, _⟩ := here
    exact Nat.ne_of_lt (Heap.lt_size e)
  unfold unpack
  rw [count, plain]
  apply wpAny_bind
  apply wpAny_holding
  unfold unpackItems notIterableAtAll
  refine wpAny_bind (wpAny_bind (wpAny_specialOf here.typeIs slot_list_iter.lookup (wpAny_pure ?_)))
  show wpAny _ _ (holding _ (pyIter (.ref l)) >>= _) _ _ _
  refine wpAny_bind (wpAny_holding (wpAny_pyIter_list here ?_))
  have fresh : (s.heap.push { cls := .type "list_iterator", data := .fields #[.ref l, .int 0 0] }).IsListIter s.heap.objs.size l 0 := ⟨_, Heap.get?_push_size _ rfl, rfl, rfl⟩
  refine wpAny_bind (wpAny_holding (drawn_list ne xs.size fresh (here.push _) (by omega) ?_))
  intro g at_ same
  rw [List.drop_zero, List.take_of_length_le (by simp)]
  rw [if_neg (by simp)]
  have here2 : g.IsList l xs := (here.push _).at fun o e => same.extBut l o ne e
  refine wpAny_bind (wpAny_holding (wpAny_pyNext_list_end calm at_ here2 (by simp) ?_))
  intro g2 ext
  show wpAny _ _ (pure xs.toList) _ _ _
  refine wpAny_pure (k g2 fun b o e => ?_)
  have off : b ≠ s.heap.objs.size := Nat.ne_of_lt (Heap.lt_size e)
  exact ext b o off (same.extBut b o off (Heap.get?_push_of_some _ e))
end
section
variable {X : Cx} {pos : Pos}
def gSeq (K : PySem.W.Frag) (n : Nat) (t : TGs) : TG := fun v σ H Q => ∃ a xs, v = .ref a ∧ (SqL K H a xs ∨ SqT K H a xs) ∧ xs.length = n ∧ t xs σ H Q
/-- (a, b, ..) = a list or a tuple of that length -/
theorem pg_seq {es : List Expr} {k : Nat} {t : TGs} {n : Nat} (calm : X.calm = true) (h : PGs X es t) (count : (assignEach es X.env).length = n := by rfl) (plain : (assignEach es X.env).findIdx? (·.1) = none := by rfl) :
    PG X (.Tuple es k pos) (gSeq X.K n t) := by
  constructor
  rintro pins s σ H v u Q I r ⟨a, xs, rfl, sq, len, q⟩
  rcases sq with sq | sq
  · obtain rfl : u = Value.ref a := r
    obtain ⟨its, rel, here, _⟩ := I.list sq
    rw [assign_Tuple]
    apply wpAny_bind
    apply wpAny_standAt
    refine unpacked_list (I.ok.hd calm) here.isList (by rw [count, ← len, rel.length, List.size_toArray]) plain ?_
    intro g keep
    have I1 : Inv X pins σ H { s with heap := g } := I.kept (t' := s.toks) keep
    exact h.run pins _ σ H xs _ Q I1 (by simpa using rel) q
  · exact (pg_tup (pos := pos) (k := k) calm h count plain).run pins s σ H _ u Q I r ⟨a, xs, rfl, sq, len, q⟩
def iSeq (K : PySem.W.Frag) (tl : TE) : TI := fun σ H R => iList K tl σ H R ∨ iTup K tl σ H R
/-- walked: a list or a tuple -/
theorem pi_seq {tg e : Expr} {tl : TE} (h : PE X e tl) : PI X tg e (iSeq X.K tl) := by
  constructor
  rintro pins s σ H R I (q | q)
  · exact (pi_list h).run pins s σ H R I q
  · exact (pi_tup h).run pins s σ H R I q
end
end Gd


set_option Elab.async false
set_option linter.all false
set_option maxRecDepth 100000
set_option maxHeartbeats 4000000
namespace K8
open PySem L2 Nd Bk
/-! forms of data: some of its tuples as lists, apart from what is going to change -/
mutual
def flat : PyData → PyData
  | .list xs => .tuple (flats xs)
  | .tuple xs => .tuple (flats xs)
  | d => d
def flats : List PyData → List PyData
  | [] => []
  | x :: xs => flat x :: flats xs
end
theorem flats_map : ∀ xs : List PyData, flats xs = xs.map flat
  | [] => by simp [flats]
  | x :: xs => by simp [flats, flats_map xs]
mutual
theorem flat_tup : ∀ {d : PyData}, tupOnly d = true → flat d = d
  | .int _, _ => by simp [flat]
  | .str _, _ => by simp [flat]
  | .tuple ds, h => by
    simp only [flat]
    rw [flats_tup (by simpa [tupOnly] using h)]
  | .none, _ => by simp [flat]
  | .bool _, _ => by simp [flat]
  | .list _, h => by simp [tupOnly] at h
  | .dict _, h => by simp [tupOnly] at h
theorem flats_tup : ∀ {ds : List PyData}, tupOnlyAll ds = true → flats ds = ds
  | [], _ => by simp [flats]
  | d :: ds, h => by
    simp only [tupOnlyAll, Bool.and_eq_true] at h
    simp only [flats]
    rw [flat_tup h.1, flats_tup h.2]
end
mutual
inductive Fp (K : PySem.W.Frag) (H : Hp) (av : List Addr) : V → PyData → Prop
  | non : Fp K H av .non .none
  | bl (b : Bool) : Fp K H av (.bl b) (.bool b)
  | int (i : Int) : Fp K H av (.int i) (.int i)
  | str (x : Str) : Fp K H av (.str x) (.str x)
  | lst {a : Addr} {xs : List V} {ds : List PyData} : H a = some (.lst xs) → a ∉ av → FpAll K H av xs ds → Fp K H av (.ref a) (.list ds)
  | tup {a : Addr} {xs : List V} {ds : List PyData} : SqT K H a xs → FpAll K H av xs ds → Fp K H av (.ref a) (.tuple ds)
inductive FpAll (K : PySem.W.Frag) (H : Hp) (av : List Addr) : List V → List PyData → Prop
  | nil : FpAll K H av [] []
  | cons {v : V} {vs : List V} {d : PyData} {ds : List PyData} : Fp K H av v d → FpAll K H av vs ds → FpAll K H av (v :: vs) (d :: ds)
end
section
variable {K : PySem.W.Frag} {H H' : Hp} {av av' : List Addr}
mutual
theorem Fp.dp : ∀ {v : V} {d : PyData}, Fp K H av v d → Dp K H v d
  | _, _, .non => .non
  | _, _, .bl b => .bl b
  | _, _, .int i => .int i
  | _, _, .str x => .str x
  | _, _, .lst h _ a => .lst (SqL.of h) (FpAll.dp a)
  | _, _, .tup h a => .tup h (FpAll.dp a)
theorem FpAll.dp : ∀ {v : List V} {d : List PyData}, FpAll K H av v d → DpAll K H v d
  | _, _, .nil => .nil
  | _, _, .cons h t => .cons (Fp.dp h) (FpAll.dp t)
end
mutual
theorem Fp.of : ∀ {v : V} {d : PyData}, Dp K H v d → tupOnly d = true → Fp K H av v d
  | _, _, .non => fun _ => .non
  | _, _, .bl b => fun _ => .bl b
  | _, _, .int i => fun _ => .int i
  | _, _, .str x => fun _ => .str x
  | _, _, .lst h a => fun t => by simp [tupOnly] at t
  | _, _, .tup h a => fun t => .tup h (FpAll.of a (by simpa [tupOnly] using t))
theorem FpAll.of : ∀ {v : List V} {d : List PyData}, DpAll K H v d → tupOnlyAll d = true → FpAll K H av v d
  | _, _, .nil => fun _ => .nil
  | _, _, .cons h r => fun t => by
    simp only [tupOnlyAll, Bool.and_eq_true] at t
    exact .cons (Fp.of h t.1) (FpAll.of r t.2)
end
/-- the tuples stay, and the lists that aren't to be avoided; what is to be avoided is told anew -/
theorem fp_move (kt : KeepT H H') (kl : ∀ a xs, H a = some (.lst xs) → a ∉ av → H' a = some (.lst xs) ∧ a ∉ av') : (∀ {v : V} {d : PyData}, Fp K H av v d → Fp K H' av' v d) ∧ ∀ {v : List V} {d : List PyData}, FpAll K H av v d → FpAll K H' av' v d := by
  have key : ∀ n : Nat, (∀ (v : V) (d : PyData), sizeOf d ≤ n → Fp K H av v d → Fp K H' av' v d) ∧ ∀ (v : List V) (d : List PyData), sizeOf d ≤ n → FpAll K H av v d → FpAll K H' av' v d := by
    intro n
    induction n with
    | zero =>
      refine ⟨fun v d hs => ?_, fun v d hs => ?_⟩
      · cases d <;> simp at hs
      · cases d <;> simp at hs
    | succ n ih =>
      refine ⟨fun v d hs h => ?_, fun v d hs h => ?_⟩
      · cases h with
        | non => exact .non
        | bl b => exact .bl b
        | int i => exact .int i
        | str x => exact .str x
        | lst h1 h2 h3 =>
          obtain ⟨g1, g2⟩ := kl _ _ h1 h2
          exact .lst g1 g2 (ih.2 _ _ (by simp at hs; omega) h3)
        | tup h1 h2 => exact .tup (sqT_kt kt h1) (ih.2 _ _ (by simp at hs; omega) h2)
      · cases h with
        | nil => exact .nil
        | cons h1 h2 => exact .cons (ih.1 _ _ (by simp at hs; omega) h1) (ih.2 _ _ (by simp at hs; omega) h2)
  exact ⟨fun {v d} h => (key _).1 v d (Nat.le_refl _) h, fun {v d} h => (key _).2 v d (Nat.le_refl _) h⟩
theorem Fp.same {v : V} {d : PyData} (s : Same H H') (h : Fp K H av v d) : Fp K H' av v d := (fp_move (.same s) fun a xs h1 h2 => ⟨s _ _ h1, h2⟩).1 h
theorem FpAll.same {v : List V} {d : List PyData} (s : Same H H') (h : FpAll K H av v d) : FpAll K H' av v d := (fp_move (.same s) fun a xs h1 h2 => ⟨s _ _ h1, h2⟩).2 h
theorem Fp.but {b : Addr} {v : V} {d : PyData} (m : b ∈ av) (n : NotT (H b)) (s : But b H H') (h : Fp K H av v d) : Fp K H' av v d := (fp_move (.but n s) fun a xs h1 h2 => ⟨s _ _ h1 fun e => h2 (by rw [e]; exact m), h2⟩).1 h
theorem FpAll.but {b : Addr} {v : List V} {d : List PyData} (m : b ∈ av) (n : NotT (H b)) (s : But b H H') (h : FpAll K H av v d) : FpAll K H' av v d := (fp_move (.but n s) fun a xs h1 h2 => ⟨s _ _ h1 fun e => h2 (by rw [e]; exact m), h2⟩).2 h
theorem Fp.less {v : V} {d : PyData} (m : ∀ x ∈ av', x ∈ av) (h : Fp K H av v d) : Fp K H av' v d := (fp_move (.same sm_refl) fun a xs h1 h2 => ⟨h1, fun q => h2 (m a q)⟩).1 h
theorem FpAll.less {v : List V} {d : List PyData} (m : ∀ x ∈ av', x ∈ av) (h : FpAll K H av v d) : FpAll K H av' v d := (fp_move (.same sm_refl) fun a xs h1 h2 => ⟨h1, fun q => h2 (m a q)⟩).2 h
theorem Fp.more {x : Addr} {v : V} {d : PyData} (n : H x = none) (h : Fp K H av v d) : Fp K H (x :: av) v d := (fp_move (.same sm_refl) fun a xs h1 h2 => ⟨h1, fun q => (List.mem_cons.mp q).elim (fun e => by rw [e, n] at h1; cases h1) h2⟩).1 h
theorem FpAll.snoc : ∀ {vs : List V} {ds : List PyData} {v : V} {d : PyData}, FpAll K H av vs ds → Fp K H av v d → FpAll K H av (vs ++ [v]) (ds ++ [d])
  | _, _, _, _, .nil, h => .cons h .nil
  | _, _, _, _, .cons h t, h2 => .cons h (FpAll.snoc t h2)
theorem FpAll.len : ∀ {vs : List V} {ds : List PyData}, FpAll K H av vs ds → vs.length = ds.length
  | _, _, .nil => rfl
  | _, _, .cons _ t => by simp [FpAll.len t]
end
end K8


set_option Elab.async false
set_option linter.all false
set_option maxRecDepth 100000
set_option maxHeartbeats 4000000
namespace K8
open PySem L2 Nd Bk
/-- a number, a truth value, none -/
inductive Sc : PyData → Prop
  | int (i : Int) : Sc (.int i)
  | non : Sc .none
  | bl (b : Bool) : Sc (.bool b)
/-- numbers, texts, tuples of them, so many deep -/
def Okd : Nat → PyData → Prop
  | 0, d => Sc d ∨ ∃ z, d = .str z
  | n + 1, d => Sc d ∨ (∃ z, d = .str z) ∨ ∃ ds, d = .tuple ds ∧ ds.length ≤ 1000 ∧ ∀ e ∈ ds, Okd n e
theorem Okd.tu : ∀ {n : Nat} {d : PyData}, Okd n d → tupOnly d = true
  | 0, _, h => by
    rcases h with h | ⟨z, rfl⟩
    · cases h <;> rfl
    · rfl
  | n + 1, _, h => by
    rcases h with h | ⟨z, rfl⟩ | ⟨ds, rfl, _, h⟩
    · cases h <;> rfl
    · rfl
    · show tupOnlyAll ds = true
      exact tupOnlyAll_of fun e he => (h e he).tu
/-- a form that is a tuple is known to be without a dict -/
def Top (H : Hp) (v : V) (d' : PyData) : Prop := ∀ ds, d' = .tuple ds → ∃ T, v = .ref T ∧ PlainT H T
theorem PlainT.kt {H H' : Hp} {a : Addr} (k : KeepT H H') (h : PlainT H a) : PlainT H' a := let ⟨o, xs, h1, h2⟩ := h; ⟨o, xs, k.2 _ _ _ h1, h2⟩
def spLs (K : PySem.W.Frag) (n : Nat) : Sp := fun vs H Q _ => ∃ (b c : Addr) (ns : List Int) (av : List Addr) (v : V) (d : PyData), vs = [.ref b, v] ∧ BoxAt H b c ns ∧ Dp K H v d ∧ Okd n d ∧ b ∈ av ∧ (∀ x ∈ av, H x ≠ none) ∧
  ∀ (v' : V) (d' : PyData) (H' : Hp), flat d' = d → BoxAt H' b c ns → But b H H' → Fp K H' av v' d' → Top H' v' d' → Q v' H'
def sps (K : PySem.W.Frag) : Nat → Sp
  | 0 => fun _ _ _ _ => False
  | n + 1 => spLs K n
section
variable {P : Program} {w : World} {K : PySem.W.Frag} {mg : Str → Option Value} {base : Heap}
end
end K8


set_option Elab.async false
set_option linter.all false
set_option maxRecDepth 100000
set_option maxHeartbeats 4000000
namespace K8
open PySem L2 Nd Bk Gd
/-- at v: a form of the data -/
def FD (K : PySem.W.Frag) (H : Hp) (v : V) (d : PyData) : Prop := ∃ d', Dp K H v d' ∧ flat d' = d
section
variable {K : PySem.W.Frag} {H H' : Hp} {v : V}
theorem FD.same {d : PyData} (s : Same H H') (h : FD K H v d) : FD K H' v d := let ⟨d', h1, h2⟩ := h; ⟨d', dp_same s h1, h2⟩
theorem FD.of {d : PyData} (h : Dp K H v d) (t : tupOnly d = true) : FD K H v d := ⟨d, h, flat_tup t⟩
theorem Fp.fd {av : List Addr} {d d' : PyData} (h : Fp K H av v d') (e : flat d' = d) : FD K H v d := ⟨d', h.dp, e⟩
theorem fd_int {i : Int} (h : FD K H v (.int i)) : v = .int i := by
  obtain ⟨d', h, e⟩ := h
  cases d' <;> simp [flat] at e
  subst e
  exact dp_int h
theorem fd_str {z : Str} (h : FD K H v (.str z)) : v = .str z := by
  obtain ⟨d', h, e⟩ := h
  cases d' <;> simp [flat] at e
  subst e
  exact dp_str h
theorem fd_seq {ds : List PyData} (h : FD K H v (.tuple ds)) : ∃ a xs, v = .ref a ∧ (SqL K H a xs ∨ SqT K H a xs) ∧ xs.length = ds.length ∧ ∀ (i : Nat) (x : V), xs[i]? = some x → ∃ d, ds[i]? = some d ∧ FD K H x d := by
  obtain ⟨d', h, e⟩ := h
  have key : ∀ {a : Addr} {xs : List V} {es : List PyData}, DpAll K H xs es → flats es = ds → xs.length = ds.length ∧ ∀ (i : Nat) (x : V), xs[i]? = some x → ∃ d, ds[i]? = some d ∧ FD K H x d := by
    intro a xs es ha hes
    rw [flats_map] at hes
    refine ⟨by rw [dpAll_len ha, ← hes, List.length_map], fun i x hx => ?_⟩
    obtain ⟨d, h1, h2⟩ := dpAll_get ha hx
    exact ⟨flat d, by rw [← hes, List.getElem?_map, h1]; rfl, d, h2, rfl⟩
  cases h with
  | non => simp [flat] at e
  | bl => simp [flat] at e
  | int => simp [flat] at e
  | str => simp [flat] at e
  | lst h1 h2 =>
    simp only [flat, PyData.tuple.injEq] at e
    obtain ⟨k1, k2⟩ := key (a := 0) h2 e
    exact ⟨_, _, rfl, .inl h1, k1, k2⟩
  | tup h1 h2 =>
    simp only [flat, PyData.tuple.injEq] at e
    obtain ⟨k1, k2⟩ := key (a := 0) h2 e
    exact ⟨_, _, rfl, .inr h1, k1, k2⟩
/-- a bag's form -/
theorem fd_bag {κ : Type} [DecidableEq κ] [Ky κ] {l : Bag κ} (h : FD K H v (bD l)) : ∃ a xs, v = .ref a ∧ (SqL K H a xs ∨ SqT K H a xs) ∧ xs.length = l.length ∧ ∀ (i : Nat) (x : V), xs[i]? = some x → ∃ p, l[i]? = some p ∧ FD K H x (encP p) := by
  obtain ⟨a, xs, rfl, sq, len, get⟩ := fd_seq h
  refine ⟨a, xs, rfl, sq, by rw [len, List.length_map], fun i x hx => ?_⟩
  obtain ⟨d, h1, h2⟩ := get i x hx
  rw [List.getElem?_map] at h1
  obtain ⟨p, hp, rfl⟩ := Option.map_eq_some_iff.mp h1
  exact ⟨p, hp, h2⟩
theorem fd_pair {κ : Type} [DecidableEq κ] [Ky κ] {p : κ × Int} (h : FD K H v (encP p)) : ∃ T k, v = .ref T ∧ (SqL K H T [k, .int p.2] ∨ SqT K H T [k, .int p.2]) ∧ FD K H k (Ky.enc p.1) := by
  obtain ⟨a, xs, rfl, sq, len, get⟩ := fd_seq h
  match xs, len with
  | [x, y], _ =>
    obtain ⟨d, h1, h2⟩ := get 0 x rfl
    obtain ⟨e, h3, h4⟩ := get 1 y rfl
    simp only [List.getElem?_cons_zero, Option.some.injEq] at h1
    simp only [List.getElem?_cons_succ, List.getElem?_cons_zero, Option.some.injEq] at h3
    subst h1 h3
    cases fd_int h4
    exact ⟨a, x, rfl, sq, h2⟩
end
/-- a walk over a list or a tuple that a name holds -/
theorem seq_go {K : PySem.W.Frag} {σ : L2.St} {i : Nat} {H : Hp} {a : Addr} {xs : List V} {R : It → Hp → Prop} (hv : σ[i]? = some (some (.ref a))) (h : SqL K H a xs ∨ SqT K H a xs)
    (k : ∀ (J : It) (G : Hp → Prop), Walk J xs.length G (YAt xs) → (∀ H', (SqL K H a xs → SqL K H' a xs) → (SqT K H a xs → SqT K H' a xs) → G H') → R J H) : iSeq K (tVar i) σ H R := by
  rcases h with h | h
  · exact .inl ⟨_, hv, a, rfl, ⟨_, h⟩, k _ _ walk_list fun H' f _ => f h⟩
  · exact .inr ⟨_, hv, a, rfl, ⟨_, h⟩, k _ _ walk_tup fun H' _ f => f h⟩
theorem sq_same {K : PySem.W.Frag} {H H' : Hp} {a : Addr} {xs : List V} (s : Same H H') (h : SqL K H a xs ∨ SqT K H a xs) : SqL K H' a xs ∨ SqT K H' a xs := h.imp s.seq (sqT_same s)
def spFroz2 (K : PySem.W.Frag) : Sp := fun vs H Q _ => ∃ (v : V) (p : Poly), vs = [v] ∧ FD K H v (bD p) ∧ Szd p ∧ ∀ (T : Addr) (xs : List V) (H' : Hp), Same H H' → Fz K H' T xs p → Q (.ref T) H'
section
variable {P : Program} {w : World} {K : PySem.W.Frag} {mg : Str → Option Value} {base : Heap}
theorem ok_froz2 {f : Addr} {fd : FuncData} (F : Fun K "frozen" "frozen" sFrozen f fd) (C : Cn K mg) : FnOk P w K mg base CX0 1 f fd ["p"] (spFroz2 K) := by
  refine F.ok scFroz (fun vs H Q E h => ?_) (fun cdv A outer s H vs Q E hr h => ?_)
  · obtain ⟨v, p, rfl, _⟩ := h
    rfl
  · obtain ⟨v, p, rfl, hd, hz, k⟩ := h
    refine ⟨_, pss_one (ps_ret (pe_callTy call_tuple_of (by rfl) C.N.tup (by rfl) (pa_cons
      (pe_lc (own := [("monomial", 1), ("coefficient", 2)]) (g := gSeq K 2 (gCons (gName 1) (gCons (gName 2) gNil))) (tt := tYes) rfl scFroz.nd (pi_seq (pv 0)) (blkOk_by (N := ["p", "monomial", "coefficient", "token", "exponent"]) (sc := defScope sFrozen) (by decide +kernel))
        (fun _ _ _ _ _ => pg_seq rfl (pgs_cons (pg_name (i := 1) scFroz.nd rfl (Or.inl rfl)) (pgs_cons (pg_name (i := 2) scFroz.nd rfl (Or.inl rfl)) pgs_nil))) (fun _ _ _ _ _ => pts_nil)
        (fun _ _ _ _ _ => pe_tup (pa_cons (pe_callTy (show CallR _ _ (rTupF K) from call_tupleF) (by rfl) C.N.tup (by rfl) (pa_cons
          (pe_lc (own := [("token", 3), ("exponent", 4)]) (g := gSeq K 2 (gCons (gName 3) (gCons (gName 4) gNil))) (tt := tYes) rfl scFroz.nd (show PI _ _ _ (iSeq K _) from pi_seq (pv 1)) (blkOk_by (N := ["p", "monomial", "coefficient", "token", "exponent"]) (by rfl))
            (fun _ _ _ _ _ => pg_seq rfl (pgs_cons (pg_name (i := 3) scFroz.nd rfl (Or.inl rfl)) (pgs_cons (pg_name (i := 4) scFroz.nd rfl (Or.inl rfl)) pgs_nil))) (fun _ _ _ _ _ => pts_nil)
            (fun _ _ _ _ _ => pe_tup (pa_cons (pv 3) (pa_cons (pv 4) pa_nil)))) pa_nil)) (pa_cons (pv 2) pa_nil)))) pa_nil))), ?_⟩
    obtain ⟨a, xs, rfl, hs, hl, hget⟩ := fd_bag hd
    refine seq_go rfl hs fun J G walk hG D nD => ?_
    refine lc_it walk (fun i H2 => AccI K H D (p.map encP) i H2 ∧ ∃ ys, H2 D = some (.lst ys) ∧ Paired (PlP K H2) ys (p.take i)) ⟨acc_zero nD, [], upd_same, .nil⟩ (fun i H2 _ ⟨a2, _⟩ => hG H2 a2.sm.seq (sqT_same a2.sm)) ?_ ?_
    · rintro i x _ H2 hi ⟨a2, ys, hD, hpl⟩ ⟨rfl, hx⟩
      obtain ⟨t, ht, hxt⟩ := hget i x hx
      obtain ⟨T, kk, rfl, hT, hk⟩ := fd_pair (hxt.same a2.sm)
      obtain ⟨b, zs, rfl, hb, hbl, hbget⟩ := fd_bag (κ := Str) hk
      refine ⟨T, _, rfl, hT, rfl, _, _, rfl, _, _, rfl, rfl, rfl, seq_go rfl hb fun J2 G2 walk2 hG2 D2 nD2 => ?_⟩
      have htm : t ∈ p := List.mem_of_getElem? ht
      have tl : (t.1.map encP).length ≤ 1000000 := by
        have := hz.2 t htm
        rw [List.length_map]
        omega
      refine lc_it walk2 (fun j H3 => AccI K H2 D2 (t.1.map encP) j H3) (acc_zero nD2) (fun j H3 _ a3 => hG2 H3 a3.sm.seq (sqT_same a3.sm)) ?_ ?_
      · rintro j y _ H3 hj a3 ⟨rfl, hy⟩
        obtain ⟨q, hq, hyq⟩ := hbget j y hy
        obtain ⟨U, kk2, rfl, hU, hkk⟩ := fd_pair (hyq.same a3.sm)
        cases fd_str (z := q.1) hkk
        refine ⟨U, _, rfl, hU, rfl, _, _, rfl, _, _, rfl, rfl, rfl, _, rfl, _, rfl, (by show 2 ≤ sizeLine; decide), fun W nW => ?_⟩
        exact acc_step a3 nD2 tl (tu_encPs _) (sm_new sm_refl nW) (by rw [List.getElem?_map, hq]; rfl) (dp_mk (κ := Str) (x := q.1) (SqT.of upd_same) (.str _))
      · rintro H3 a3
        obtain ⟨s3, zs2, hD2, hz2⟩ := acc_end a3 (by rw [hbl, List.length_map])
        refine ⟨D2, zs2, rfl, SqL.of hD2, fun l o nl ho => ⟨_, rfl, (by show 2 ≤ sizeLine; decide), fun W nW => ?_⟩⟩
        have s4 : Same H3 (upd H3 l (.frz o (.tup zs2))) := sm_new sm_refl nl
        have d4 : Dp K (upd H3 l (.frz o (.tup zs2))) (.ref l) (bD t.1) := .tup (.inl (.inr ⟨o, upd_same⟩)) (dpAll_same s4 hz2)
        have p4 : PlainT (upd H3 l (.frz o (.tup zs2))) l := ⟨o, zs2, upd_same, ho⟩
        generalize upd H3 l (.frz o (.tup zs2)) = H4 at s4 d4 p4 nW ⊢
        have s5 : Same H4 (upd H4 W (.tup [.ref l, .int t.2])) := sm_new sm_refl nW
        have q5 : SqT K (upd H4 W (.tup [.ref l, .int t.2])) W [.ref l, .int t.2] := SqT.of upd_same
        generalize upd H4 W (.tup [.ref l, .int t.2]) = H5 at s5 q5 ⊢
        have s25 : Same H2 H5 := (s3.trans s4).trans s5
        obtain ⟨acc, h1, h2, h3⟩ := acc_step a2 nD (by rw [List.length_map]; exact list1000 hz.1) (tu_encPs _) s25 (by rw [List.getElem?_map, ht]; rfl) (dp_mk (κ := Mono) (x := t.1) q5 (dp_same s5 d4))
        have e1 := s25 _ _ hD
        rw [h1] at e1
        cases e1
        refine ⟨_, h1, h2, h3, _, upd_same, ?_⟩
        have nt : NotT (H5 D) := by rw [h1]; exact notT_lst
        rw [List.take_succ, ht]
        exact Paired.snoc (Paired.mapP hpl fun _ _ q => (q.same s25).put nt) (PlP.put nt ⟨W, l, rfl, q5, p4.same s5, dp_same s5 d4⟩)
    · rintro H2 ⟨a2, ys, hD, hpl⟩
      obtain ⟨s2, ys', hD', hy'⟩ := acc_end a2 (by rw [hl, List.length_map])
      rw [hD] at hD'
      cases hD'
      rw [hl, List.take_length] at hpl
      refine ⟨D, ys, rfl, .inl ⟨SqL.of hD, fun l nl => ?_⟩⟩
      have nt : NotT (H2 l) := by rw [nl]; exact notT_none
      exact k l ys _ (sm_new s2 (s2.free nl)) ⟨SqT.of upd_same, dpAll_put nt (tupOnlyAll_of (tu_encPs p)) hy', Paired.mapP hpl fun _ _ q => q.put nt⟩
end
end K8


set_option Elab.async false
set_option linter.all false
set_option maxRecDepth 100000
set_option maxHeartbeats 2000000
/-! own exception classes over one own base that is over Exception, each with an __init__ that keeps its argument in a field -/
namespace PySem
namespace ExE
open PySem.W PySem.Calls PyProof.Rows Builtin Builtin.ObjectAttr
abbrev eTail : List Value := [.type "Exception", .type "BaseException", .type "object"]
/-- the class at C: what the written part says of it; T its own base, f its field, fI its __init__ -/
structure EC (K : Frag) (C : Addr) (T : Addr) (f : Str) (fI : Addr) : Prop where
  cls : ∃ nm q N bs sn sub ab col dd k0 k1 k2 k3 k5, K.lookup C = some (excClassObj nm q C N bs (.ref T :: eTail) true sn sub ab col dd k0 k1 k2 k3 k5 "Exception.__new__")
  sa : findIn K (.ref C) "__setattr__" = some (some (.builtin "object.__setattr__"))
  ga : findIn K (.ref C) "__getattribute__" = some (some (.builtin "BaseException.__getattribute__"))
  gg : findIn K (.ref C) "__getattr__" = some none
  ca : findIn K (.ref C) "__class__" = some (some (.builtin "object.__class__"))
  no : findIn K (.ref C) f = some none
  ini : findIn K (.ref C) "__init__" = some (some (.ref fI))
  tI : typeIn K (.ref fI) = some (.type "function")
  kC : keepIn K (.ref C) = true
  tyC : typeIn K (.ref C) = some (.type "type")
section
variable {K : Frag} {C T fI : Addr} {f : Str}
theorem EC.clsIn (e : EC K C T f fI) : ∃ cd, clsIn K C = some cd ∧ cd.mro = .ref C :: .ref T :: eTail ∧ cd.hasDict = true := by
  obtain ⟨nm, q, N, bs, sn, sub, ab, col, dd, k0, k1, k2, k3, k5, h⟩ := e.cls
  refine ⟨{ name := nm, bases := bs, mro := .ref C :: .ref T :: eTail, ns := N, qualname := q, hasDict := true, slotNames := sn, subclasses := sub, abstract := ab, collection := col, hasDel := false }, ?_, rfl, rfl⟩
  unfold W.clsIn
  rw [h] <;> rfl
theorem EC.isCls (e : EC K C T f fI) : (PySem.W.clsIn K C).isSome = true := by
  obtain ⟨cd, h, _⟩ := e.clsIn
  rw [h]
  rfl
theorem EC.hd (e : EC K C T f fI) : hasDictIn K C = true := by
  obtain ⟨cd, h, _, h2⟩ := e.clsIn
  unfold hasDictIn
  rw [h]
  exact h2
theorem EC.ovr (e : EC K C T f fI) : excOver K C eTail = true := by
  obtain ⟨cd, h, h1, _⟩ := e.clsIn
  unfold excOver
  rw [h, Option.any_some, h1]
  show (C == C && excTail eTail eTail) = true
  rw [beq_self_eq_true]
  rfl
theorem EC.mro (e : EC K C T f fI) (b : Value) : mroIn K C b = some ((Value.ref C :: .ref T :: eTail).contains b) := by
  obtain ⟨cd, h, h1, _⟩ := e.clsIn
  unfold mroIn
  rw [h, Option.bind_some, h1]
  rfl
theorem EC.sub (e : EC K C T f fI) (b : Value) : subIn K (.ref C) b = some ((Value.ref C :: .ref T :: eTail).contains b) := e.mro b
theorem EC.exC (e : EC K C T f fI) : subIn K (.ref C) (.type "BaseException") = some true := by
  rw [e.sub, List.contains_cons, List.contains_cons]
  rfl
theorem EC.has (e : EC K C T f fI) {X : String} (h : eTail.contains (.type X) = true) : subIn K (.ref C) (.type X) = some true := by
  rw [e.sub, List.contains_cons, List.contains_cons, h, Bool.or_true, Bool.or_true]
theorem EC.lacks (e : EC K C T f fI) {X : String} (h : eTail.contains (.type X) = false) : subIn K (.ref C) (.type X) = some false := by
  rw [e.sub, List.contains_cons, List.contains_cons, h]
  rfl
theorem EC.self (e : EC K C T f fI) : subIn K (.ref C) (.ref C) = some true := by
  rw [e.sub, List.contains_cons, beq_self_eq_true, Bool.true_or]
theorem EC.base (e : EC K C T f fI) : subIn K (.ref C) (.ref T) = some true := by
  rw [e.sub, List.contains_cons, List.contains_cons, beq_self_eq_true, Bool.true_or, Bool.or_true]
theorem EC.other (e : EC K C T f fI) {D : Addr} (h1 : D ≠ C) (h2 : D ≠ T) : subIn K (.ref C) (.ref D) = some false := by
  have q1 : (Value.ref D == Value.ref C) = false := by simp [h1]
  have q2 : (Value.ref D == Value.ref T) = false := by simp [h2]
  rw [e.sub, List.contains_cons, List.contains_cons, q1, q2]
  rfl
theorem EC.taker (e : EC K C T f fI) : takerIn K C f = some none := by
  unfold takerIn
  rw [e.no] <;> rfl
end
/-- the first store into an exception -/
theorem store1 {prog : Program} {w : World} {A : Around} {R : Result → Shared → Prop} {hp : Heap} {g : Array GenState} {d : Drawn} {t : Nat} {os : OsState} {K : Frag} {C T fI x t0 : Addr} {f : Str} {tk : Tok} {v : Value}
    (X : K.In hp) (e : EC K C T f fI) (hx : hp.get? x = some (HandSPX.excO C t0))
    (hq : ∀ h' tk' dx, (∀ b o, b ≠ x → hp.get? b = some o → h'.get? b = some o) → hp.objs.size ≤ dx → dx ≠ x →
      h'.get? x = some { cls := .ref C, dict := some dx, data := .fields #[.ref t0, .none, .none, .none, .bool false, .none] } →
      h'.Ns1 dx (fun y => if y = f then some v else none) → R (.ok (.ret .none)) ⟨h', g, d, tk', os⟩) :
    codeAny (model prog w) A (.call (.builtin "object.__setattr__") ⟨[.ref x, .str f tk, v], []⟩) R ⟨hp, g, d, t, os⟩ := by
  have ne : x ≠ hp.objs.size := Nat.ne_of_lt (Heap.lt_size hx)
  obtain ⟨cd, hcd, hmro, hdict⟩ := e.clsIn
  have look : Looks (model prog w) hp (classData C) cd := looks_clsIn X hcd
  refine osa_openX (s := ⟨hp, g, d, t, os⟩) (od := none) F.store_Exception X ⟨hx, rfl, rfl, trivial⟩ e.ovr e.taker fun b => ?_
  obtain ⟨nm, bs, mro, ns, qn, hd, sn, sb, ab, col, del⟩ := cd
  dsimp only at hdict
  subst hdict
  show wpAny _ _ (storeInOwnDict (.ref x) (.ref C) (.str f tk) f v b) _ _ _
  unfold storeInOwnDict
  unfold ownDictForStores
  repeat (first | with_reducible refine HandSPX.store_in_new ?_ ?_ | with_reducible refine wpAny_loadPart_at hx ?_ | with_reducible refine look.at ?_ | wp_step)
  · exact ⟨_, #[], _, (Heap.get?_update_ne _ _ _ _ ne.symm).trans (Heap.get?_push_at rfl rfl), rfl, fun u hu => absurd hu (by simp), fun _ => rfl⟩
  · intro h' tk' hn hs
    have hx1 : (hp.push { cls := .type "dict", data := .dict #[] }).get? x = some (HandSPX.excO C t0) := Heap.get?_push_of_some _ hx
    refine hq h' tk' hp.objs.size (fun b o hb ho => ?_) (Nat.le_refl _) ne.symm ?_ hn
    · refine (hs.2 b (Nat.ne_of_lt (Heap.lt_size ho))).trans ?_
      exact (Heap.get?_update_ne _ _ _ _ hb).trans (Heap.get?_push_of_some _ ho)
    · refine (hs.2 x ne).trans ?_
      exact Heap.get?_update_self _ hx1 rfl

/-- what the call of such a class leaves: the exception at e, its dict at d -/
structure Made (f : Str) (h h' : Heap) (e C d : Addr) (v : Value) : Prop where
  keep : ∀ b o, h.get? b = some o → h'.get? b = some o
  new : h.objs.size ≤ e
  obj : ∃ t1 : Addr, h'.get? e = some { cls := .ref C, dict := some d, data := .fields #[.ref t1, .none, .none, .none, .bool false, .none] }
  dbig : h.objs.size ≤ d
  dne : d ≠ e
  ns : h'.Ns1 d (fun y => if y = f then some v else none)
/-- the class, called with one argument: asked of each class -/
def Makes (K : Frag) (C : Addr) (f : Str) : Prop := ∀ {prog : Program} {w : World} {A : Around} {R : Result → Shared → Prop} {s : Shared} {v : Value}, K.In s.heap → s.heap.NoLimit → A.depth + 1 < recursionLimit →
  (∀ h' tk e d, Made f s.heap h' e C d v → R (.ok (.ret (.ref e))) { s with heap := h', toks := tk }) → codeAny (model prog w) A (.call (.ref C) ⟨[v], []⟩) R s
theorem lineOne (v : Value) : [v].length ≤ sizeLine := by
  rw [sizeLine_eq]
  exact (by decide : 1 ≤ 16777216)
theorem ldName {M : Model} {s : Shared} {A : Around} {E : Value → Shared → Prop} {name : Str} {scope : Scope} {L a : Addr} {cd : Value} {m : Str → Option Value} {x : Str} {pos : Pos} {v : Value} {Q : Value → Shared → Prop}
    (hn : s.heap.Ns L m) (hv : m x = some v) (h : Q v s) (hk : scope.kind = .function := by rfl) (hl : (envOfC name scope L a cd).kindOf x = some .local := by rfl) (hd : (x == ("__debug__" : Str)) = false := by decide) :
    wpAny M A (eval (.Name x pos) (envOfC name scope L a cd)) Q E s := wpAny_Name (wpAny_loadName_local hk hl hn hv h) hd

namespace Iat
def ia (p1 p2 : Pos) : Arguments := { posonlyargs := [], args := [{ arg := "self", annotation := none, pos := p1 }, { arg := "at", annotation := none, pos := p2 }], vararg := none, kwonlyargs := [], kw_defaults := [], kwarg := none, defaults := [] }
def ib (q1 q2 q3 q4 : Pos) : List Stmt := [.Assign [.Attribute (.Name "self" q1) "at" q2] (.Name "at" q3) q4]
def isc : Scope := { kind := .function, names := [(PySem.Str.ofString "self", .local), (PySem.Str.ofString "at", .local)], isGenerator := false, isCoroutine := false, more := [] }
/-- the function __init__ at fI -/
def FnI (K : Frag) (fI : Addr) (qn : Str) : Prop := ∃ (oc : Value) (od : Option Addr) (doc pm : Value) (an : Option Addr) (cdv ct : Value) (osl : Array (Option Value)) (p1 p2 q1 q2 q3 q4 : Pos),
    K.lookup fI = some ⟨oc, od, .func (fnOf "__init__" qn (ia p1 p2) (ib q1 q2 q3 q4) isc .none .none doc pm an cdv ct), osl⟩ ∧ codeIn K cdv qn = true
section
variable {K : Frag} {C T fI : Addr} {qn : Str}
theorem init {prog : Program} {w : World} {A : Around} {R : Result → Shared → Prop} {s : Shared} (e : EC K C T "at" fI) (fn : FnI K fI qn) {x t0 : Addr} {v : Value} (X : K.In s.heap) (hlim : s.heap.NoLimit) (hx : s.heap.get? x = some (HandSPX.excO C t0)) (hroom : A.depth < recursionLimit)
    (hq : ∀ h' tk dx, (∀ b o, b ≠ x → s.heap.get? b = some o → h'.get? b = some o) → s.heap.objs.size ≤ dx → dx ≠ x →
      h'.get? x = some { cls := .ref C, dict := some dx, data := .fields #[.ref t0, .none, .none, .none, .bool false, .none] } →
      h'.Ns1 dx (fun y => if y = "at" then some v else none) → R (.ok (.ret .none)) { s with heap := h', toks := tk }) :
    codeAny (model prog w) A (.call (.ref fI) ⟨[.ref x, v], []⟩) R s := by
  obtain ⟨oc, od, doc, pm, an, cdv, ct, osl, p1, p2, q1, q2, q3, q4, ho, hcd⟩ := fn
  refine Att.call_fn (binds := [("self", .ref x), ("at", v)]) X hlim ho hcd hroom (BindsTo.of_eq (by first | rfl | with_unfolding_all rfl)) (by first | rfl | decide | with_unfolding_all rfl) (fun s₁ IC => ?_) rfl rfl rfl
  obtain ⟨h₁, tk₁, rfl⟩ := IC.toInCall.same
  have kp : ∀ b o, s.heap.get? b = some o → h₁.get? b = some o := IC.toInCall.keep
  have hn := IC.toInCall.ns
  have X₁ : K.In h₁ := X.keeps kp
  have hx₁ := kp _ _ hx
  show wpAny _ _ (execs _ _) _ _ _
  refine wpAny_execs_cons (plainObj_wpAny_Assign_Attribute ?_)
  refine ldName (v := v) hn (by first | rfl | with_unfolding_all rfl | kernel_rfl) (ldName (v := .ref x) hn (by first | rfl | with_unfolding_all rfl | kernel_rfl) ?_)
  refine set_plain X₁ (ox := HandSPX.excO C t0) (od := none) ⟨hx₁, rfl, rfl, trivial⟩ e.sa ?_
  refine store1 X₁ e hx₁ fun h₃ tk₃ dx k₃ dn dne hx₃ hn₃ => ?_
  show wpAny _ _ (execs _ _) _ _ _
  have big : s.heap.objs.size ≤ dx := Nat.le_of_lt (Nat.lt_of_lt_of_le hn.lt dn)
  exact wpAny_execs_nil (hq h₃ tk₃ dx (fun b o hb ho => k₃ b o hb (kp b o ho)) big dne hx₃ hn₃)
theorem makes (e : EC K C T "at" fI) (fn : FnI K fI qn) : Makes K C "at" := fun {prog w A R s v} X hlim hroom hq => by
  obtain ⟨nm, q, N, bs, sn, sub, ab, col, dd, k0, k1, k2, k3, k5, hC⟩ := e.cls
  obtain ⟨hp, g, dr, tk, os⟩ := s
  have kp : ∀ b o, hp.get? b = some o → ((hp.push (kdv_tup [v])).push (HandSPX.excO C hp.objs.size)).get? b = some o := fun b o z => Heap.get?_push_of_some _ (Heap.get?_push_of_some _ z)
  have hget : ((hp.push (kdv_tup [v])).push (HandSPX.excO C hp.objs.size)).get? (hp.objs.size + 1) = some (HandSPX.excO C hp.objs.size) := by heap_get
  have tails : ∀ Y : String, (Value.ref T :: eTail).contains (.type Y) = eTail.contains (.type Y) := fun Y => by rw [List.contains_cons]; rfl
  refine HandSPX.call_own F.excBase_Exception tails (X _ _ hC) (looks_findIn X e.ini) (fun self => bind_fn X self e.tI) (lineOne v) ?_
  refine init (s := ⟨(hp.push (kdv_tup [v])).push (HandSPX.excO C hp.objs.size), g, dr, tk, os⟩) e fn (X.keeps kp) (hlim.keeps kp) hget ?_ fun h' tk' dx k' dn dne hx' hns => ?_
  · show A.depth + 1 < recursionLimit
    exact hroom
  · have old : ∀ b o, hp.get? b = some o → h'.get? b = some o := fun b o z => k' b o (Nat.ne_of_lt (Nat.lt_succ_of_lt (Heap.lt_size z))) (kp b o z)
    have z : hp.objs.size + 1 + 1 ≤ dx := by
      have q := dn
      simp only [Heap.size_push] at q
      exact q
    exact ⟨rfl, hq h' tk' (hp.objs.size + 1) dx ⟨old, Nat.le_succ _, ⟨_, hx'⟩, Nat.le_trans (Nat.le_trans (Nat.le_succ _) (Nat.le_succ _)) z, dne, hns⟩⟩
end
end Iat

namespace Iname
def ia (p1 p2 : Pos) : Arguments := { posonlyargs := [], args := [{ arg := "self", annotation := none, pos := p1 }, { arg := "name", annotation := none, pos := p2 }], vararg := none, kwonlyargs := [], kw_defaults := [], kwarg := none, defaults := [] }
def ib (q1 q2 q3 q4 : Pos) : List Stmt := [.Assign [.Attribute (.Name "self" q1) "name" q2] (.Name "name" q3) q4]
def isc : Scope := { kind := .function, names := [(PySem.Str.ofString "self", .local), (PySem.Str.ofString "name", .local)], isGenerator := false, isCoroutine := false, more := [] }
/-- the function __init__ at fI -/
def FnI (K : Frag) (fI : Addr) (qn : Str) : Prop := ∃ (oc : Value) (od : Option Addr) (doc pm : Value) (an : Option Addr) (cdv ct : Value) (osl : Array (Option Value)) (p1 p2 q1 q2 q3 q4 : Pos),
    K.lookup fI = some ⟨oc, od, .func (fnOf "__init__" qn (ia p1 p2) (ib q1 q2 q3 q4) isc .none .none doc pm an cdv ct), osl⟩ ∧ codeIn K cdv qn = true
section
variable {K : Frag} {C T fI : Addr} {qn : Str}
theorem init {prog : Program} {w : World} {A : Around} {R : Result → Shared → Prop} {s : Shared} (e : EC K C T "name" fI) (fn : FnI K fI qn) {x t0 : Addr} {v : Value} (X : K.In s.heap) (hlim : s.heap.NoLimit) (hx : s.heap.get? x = some (HandSPX.excO C t0)) (hroom : A.depth < recursionLimit)
    (hq : ∀ h' tk dx, (∀ b o, b ≠ x → s.heap.get? b = some o → h'.get? b = some o) → s.heap.objs.size ≤ dx → dx ≠ x →
      h'.get? x = some { cls := .ref C, dict := some dx, data := .fields #[.ref t0, .none, .none, .none, .bool false, .none] } →
      h'.Ns1 dx (fun y => if y = "name" then some v else none) → R (.ok (.ret .none)) { s with heap := h', toks := tk }) :
    codeAny (model prog w) A (.call (.ref fI) ⟨[.ref x, v], []⟩) R s := by
  obtain ⟨oc, od, doc, pm, an, cdv, ct, osl, p1, p2, q1, q2, q3, q4, ho, hcd⟩ := fn
  refine Att.call_fn (binds := [("self", .ref x), ("name", v)]) X hlim ho hcd hroom (BindsTo.of_eq (by first | rfl | with_unfolding_all rfl)) (by first | rfl | decide | with_unfolding_all rfl) (fun s₁ IC => ?_) rfl rfl rfl
  obtain ⟨h₁, tk₁, rfl⟩ := IC.toInCall.same
  have kp : ∀ b o, s.heap.get? b = some o → h₁.get? b = some o := IC.toInCall.keep
  have hn := IC.toInCall.ns
  have X₁ : K.In h₁ := X.keeps kp
  have hx₁ := kp _ _ hx
  show wpAny _ _ (execs _ _) _ _ _
  refine wpAny_execs_cons (plainObj_wpAny_Assign_Attribute ?_)
  refine ldName (v := v) hn (by first | rfl | with_unfolding_all rfl | kernel_rfl) (ldName (v := .ref x) hn (by first | rfl | with_unfolding_all rfl | kernel_rfl) ?_)
  refine set_plain X₁ (ox := HandSPX.excO C t0) (od := none) ⟨hx₁, rfl, rfl, trivial⟩ e.sa ?_
  refine store1 X₁ e hx₁ fun h₃ tk₃ dx k₃ dn dne hx₃ hn₃ => ?_
  show wpAny _ _ (execs _ _) _ _ _
  have big : s.heap.objs.size ≤ dx := Nat.le_of_lt (Nat.lt_of_lt_of_le hn.lt dn)
  exact wpAny_execs_nil (hq h₃ tk₃ dx (fun b o hb ho => k₃ b o hb (kp b o ho)) big dne hx₃ hn₃)
theorem makes (e : EC K C T "name" fI) (fn : FnI K fI qn) : Makes K C "name" := fun {prog w A R s v} X hlim hroom hq => by
  obtain ⟨nm, q, N, bs, sn, sub, ab, col, dd, k0, k1, k2, k3, k5, hC⟩ := e.cls
  obtain ⟨hp, g, dr, tk, os⟩ := s
  have kp : ∀ b o, hp.get? b = some o → ((hp.push (kdv_tup [v])).push (HandSPX.excO C hp.objs.size)).get? b = some o := fun b o z => Heap.get?_push_of_some _ (Heap.get?_push_of_some _ z)
  have hget : ((hp.push (kdv_tup [v])).push (HandSPX.excO C hp.objs.size)).get? (hp.objs.size + 1) = some (HandSPX.excO C hp.objs.size) := by heap_get
  have tails : ∀ Y : String, (Value.ref T :: eTail).contains (.type Y) = eTail.contains (.type Y) := fun Y => by rw [List.contains_cons]; rfl
  refine HandSPX.call_own F.excBase_Exception tails (X _ _ hC) (looks_findIn X e.ini) (fun self => bind_fn X self e.tI) (lineOne v) ?_
  refine init (s := ⟨(hp.push (kdv_tup [v])).push (HandSPX.excO C hp.objs.size), g, dr, tk, os⟩) e fn (X.keeps kp) (hlim.keeps kp) hget ?_ fun h' tk' dx k' dn dne hx' hns => ?_
  · show A.depth + 1 < recursionLimit
    exact hroom
  · have old : ∀ b o, hp.get? b = some o → h'.get? b = some o := fun b o z => k' b o (Nat.ne_of_lt (Nat.lt_succ_of_lt (Heap.lt_size z))) (kp b o z)
    have z : hp.objs.size + 1 + 1 ≤ dx := by
      have q := dn
      simp only [Heap.size_push] at q
      exact q
    exact ⟨rfl, hq h' tk' (hp.objs.size + 1) dx ⟨old, Nat.le_succ _, ⟨_, hx'⟩, Nat.le_trans (Nat.le_trans (Nat.le_succ _) (Nat.le_succ _)) z, dne, hns⟩⟩
end
end Iname

namespace Iword
def ia (p1 p2 : Pos) : Arguments := { posonlyargs := [], args := [{ arg := "self", annotation := none, pos := p1 }, { arg := "word", annotation := none, pos := p2 }], vararg := none, kwonlyargs := [], kw_defaults := [], kwarg := none, defaults := [] }
def ib (q1 q2 q3 q4 : Pos) : List Stmt := [.Assign [.Attribute (.Name "self" q1) "word" q2] (.Name "word" q3) q4]
def isc : Scope := { kind := .function, names := [(PySem.Str.ofString "self", .local), (PySem.Str.ofString "word", .local)], isGenerator := false, isCoroutine := false, more := [] }
/-- the function __init__ at fI -/
def FnI (K : Frag) (fI : Addr) (qn : Str) : Prop := ∃ (oc : Value) (od : Option Addr) (doc pm : Value) (an : Option Addr) (cdv ct : Value) (osl : Array (Option Value)) (p1 p2 q1 q2 q3 q4 : Pos),
    K.lookup fI = some ⟨oc, od, .func (fnOf "__init__" qn (ia p1 p2) (ib q1 q2 q3 q4) isc .none .none doc pm an cdv ct), osl⟩ ∧ codeIn K cdv qn = true
section
variable {K : Frag} {C T fI : Addr} {qn : Str}
theorem init {prog : Program} {w : World} {A : Around} {R : Result → Shared → Prop} {s : Shared} (e : EC K C T "word" fI) (fn : FnI K fI qn) {x t0 : Addr} {v : Value} (X : K.In s.heap) (hlim : s.heap.NoLimit) (hx : s.heap.get? x = some (HandSPX.excO C t0)) (hroom : A.depth < recursionLimit)
    (hq : ∀ h' tk dx, (∀ b o, b ≠ x → s.heap.get? b = some o → h'.get? b = some o) → s.heap.objs.size ≤ dx → dx ≠ x →
      h'.get? x = some { cls := .ref C, dict := some dx, data := .fields #[.ref t0, .none, .none, .none, .bool false, .none] } →
      h'.Ns1 dx (fun y => if y = "word" then some v else none) → R (.ok (.ret .none)) { s with heap := h', toks := tk }) :
    codeAny (model prog w) A (.call (.ref fI) ⟨[.ref x, v], []⟩) R s := by
  obtain ⟨oc, od, doc, pm, an, cdv, ct, osl, p1, p2, q1, q2, q3, q4, ho, hcd⟩ := fn
  refine Att.call_fn (binds := [("self", .ref x), ("word", v)]) X hlim ho hcd hroom (BindsTo.of_eq (by first | rfl | with_unfolding_all rfl)) (by first | rfl | decide | with_unfolding_all rfl) (fun s₁ IC => ?_) rfl rfl rfl
  obtain ⟨h₁, tk₁, rfl⟩ := IC.toInCall.same
  have kp : ∀ b o, s.heap.get? b = some o → h₁.get? b = some o := IC.toInCall.keep
  have hn := IC.toInCall.ns
  have X₁ : K.In h₁ := X.keeps kp
  have hx₁ := kp _ _ hx
  show wpAny _ _ (execs _ _) _ _ _
  refine wpAny_execs_cons (plainObj_wpAny_Assign_Attribute ?_)
  refine ldName (v := v) hn (by first | rfl | with_unfolding_all rfl | kernel_rfl) (ldName (v := .ref x) hn (by first | rfl | with_unfolding_all rfl | kernel_rfl) ?_)
  refine set_plain X₁ (ox := HandSPX.excO C t0) (od := none) ⟨hx₁, rfl, rfl, trivial⟩ e.sa ?_
  refine store1 X₁ e hx₁ fun h₃ tk₃ dx k₃ dn dne hx₃ hn₃ => ?_
  show wpAny _ _ (execs _ _) _ _ _
  have big : s.heap.objs.size ≤ dx := Nat.le_of_lt (Nat.lt_of_lt_of_le hn.lt dn)
  exact wpAny_execs_nil (hq h₃ tk₃ dx (fun b o hb ho => k₃ b o hb (kp b o ho)) big dne hx₃ hn₃)
theorem makes (e : EC K C T "word" fI) (fn : FnI K fI qn) : Makes K C "word" := fun {prog w A R s v} X hlim hroom hq => by
  obtain ⟨nm, q, N, bs, sn, sub, ab, col, dd, k0, k1, k2, k3, k5, hC⟩ := e.cls
  obtain ⟨hp, g, dr, tk, os⟩ := s
  have kp : ∀ b o, hp.get? b = some o → ((hp.push (kdv_tup [v])).push (HandSPX.excO C hp.objs.size)).get? b = some o := fun b o z => Heap.get?_push_of_some _ (Heap.get?_push_of_some _ z)
  have hget : ((hp.push (kdv_tup [v])).push (HandSPX.excO C hp.objs.size)).get? (hp.objs.size + 1) = some (HandSPX.excO C hp.objs.size) := by heap_get
  have tails : ∀ Y : String, (Value.ref T :: eTail).contains (.type Y) = eTail.contains (.type Y) := fun Y => by rw [List.contains_cons]; rfl
  refine HandSPX.call_own F.excBase_Exception tails (X _ _ hC) (looks_findIn X e.ini) (fun self => bind_fn X self e.tI) (lineOne v) ?_
  refine init (s := ⟨(hp.push (kdv_tup [v])).push (HandSPX.excO C hp.objs.size), g, dr, tk, os⟩) e fn (X.keeps kp) (hlim.keeps kp) hget ?_ fun h' tk' dx k' dn dne hx' hns => ?_
  · show A.depth + 1 < recursionLimit
    exact hroom
  · have old : ∀ b o, hp.get? b = some o → h'.get? b = some o := fun b o z => k' b o (Nat.ne_of_lt (Nat.lt_succ_of_lt (Heap.lt_size z))) (kp b o z)
    have z : hp.objs.size + 1 + 1 ≤ dx := by
      have q := dn
      simp only [Heap.size_push] at q
      exact q
    exact ⟨rfl, hq h' tk' (hp.objs.size + 1) dx ⟨old, Nat.le_succ _, ⟨_, hx'⟩, Nat.le_trans (Nat.le_trans (Nat.le_succ _) (Nat.le_succ _)) z, dne, hns⟩⟩
end
end Iword
end ExE
end PySem


set_option Elab.async false
set_option linter.all false
set_option maxRecDepth 100000
set_option maxHeartbeats 2000000
namespace L2
open PySem PySem.Spec PyProof.Rows PySem.ExE
/-- an exception of the class at C, at e, its dict at d, its field f holding v -/
def EAt (H : Hp) (C : Addr) (f : Str) (e : Addr) (v : V) : Prop := ∃ d : Addr, H e = some (exo e C (some d)) ∧ H d = some (.xd [(f, v)])
theorem EAt.keep {H H' : Hp} {C e : Addr} {f : Str} {v : V} (h : EAt H C f e v) (k : ∀ b o, H b = some o → (∀ xs, o ≠ .lst xs) → H' b = some o) : EAt H' C f e v := by
  obtain ⟨d, h1, h2⟩ := h
  exact ⟨d, k _ _ h1 (fun xs z => by have z' : HO.ext _ = HO.lst xs := z; cases z'), k _ _ h2 (fun xs z => nomatch z)⟩
section
variable {X : Cx} {C : Addr} {f : Str}
/-- C(e) in a raise -/
def tMkX (C : Addr) (f : Str) (ta : TA) : St → Hp → XK → Prop := fun σ H Q => ta σ H fun vs H1 => ∃ v, vs = [v] ∧ ∀ d, H1 d = none → Q (.ref C) (some d) (upd H1 d (.xd [(f, v)]))
/-- C(e) as a value -/
def tMkV (C : Addr) (f : Str) (ta : TA) : TE := fun σ H Q => ta σ H fun vs H1 => ∃ v, vs = [v] ∧ ∀ d e, H1 d = none → H1 e = none → e ≠ d → Q (.ref e) (upd (upd H1 d (.xd [(f, v)])) e (exo e C (some d)))
/-- the state behind the making: what lies without the exception, what lies with it -/
theorem made_inv {pins : List (Addr × Obj)} {σ : St} {H1 : Hp} {hp h' : Heap} {g : Array GenState} {dr : Drawn} {tk tk' : Nat} {os : OsState} {e d : Addr} {v : V} {v' : Value}
    (I1 : Inv X pins σ H1 ⟨hp, g, dr, tk, os⟩) (rv : RelV v v') (M : Made f hp h' e C d v') :
    ∃ (G : Heap) (t1 : Addr), Inv X pins σ (upd H1 d (.xd [(f, v)])) ⟨G, g, dr, tk', os⟩ ∧ (∀ b o, G.get? b = some o → h'.get? b = some o) ∧ G.get? e = none ∧
      h'.get? e = some { cls := .ref C, dict := some d, data := .fields #[.ref t1, .none, .none, .none, .bool false, .none] } ∧ H1 d = none ∧ H1 e = none := by
  obtain ⟨t1, hoe⟩ := M.obj
  obtain ⟨G, keepG, goneG⟩ := restrict h' fun b => decide (b ≠ e)
  have gk : ∀ b, b ≠ e → G.get? b = h'.get? b := fun b hb => keepG b (decide_eq_true hb)
  have ge : G.get? e = none := goneG e (by simp)
  have old : ∀ b o, hp.get? b = some o → G.get? b = some o := fun b o q => by
    rw [gk b (Nat.ne_of_lt (Nat.lt_of_lt_of_le (Heap.lt_size q) M.new))]
    exact M.keep b o q
  have nsG : G.Ns1 d (fun y => if y = f then some v' else none) := M.ns.at fun o q => (gk d M.dne).trans q
  have ob : ObjOk X.prog X.w (upd H1 d (.xd [(f, v)])) G d (.xd [(f, v)]) := ⟨_, nsG, fun y => relO_put (fs := []) (mA := fun _ => none) rv (fun _ => True.intro) y⟩
  refine ⟨G, t1, I1.laid (t' := tk') old M.dbig ob, fun b o q => ?_, ge, hoe, I1.hok.fresh M.dbig, I1.hok.fresh M.new⟩
  by_cases hb : b = e
  · rw [hb, ge] at q
    cases q
  · rw [← gk b hb]
    exact q
theorem pmk_mk {x : Str} {a : Expr} {ta : TA} {p pos : Pos} {k : Nat} {T fI : Addr} (E : EC X.K C T f fI) (mk : Makes X.K C f) (hm : X.mg x = some (.ref C)) (hr : Room k X.A) (ha : PA X [a] ta) (hg : Gl X x)
    (hdb : (x == ("__debug__" : Str)) = false := by decide) (he : starEach (a :: []) X.env = (false, eval a X.env) :: starEach [] X.env := by rfl) (hpl : (backTo pos (starEach [] X.env)).any (·.1) = false := by rfl) :
    PMk X (.Call (.Name x p) [a] [] pos) (tMkX C f ta) := by
  intro pins s σ H Q I h
  refine wpAny_Call_Name_kw (ld_glob I hg hm ?_ hdb)
  refine PySem.W.callWith_K (h₀ := X.base) I.ok.mod.kin E.kC (thn (ha.run pos pins s σ H _ I h) fun us s1 hh => ?_) he hpl
  obtain ⟨vs, H1, I1, r1, v, ev, q1⟩ := hh
  subst ev
  refine ⟨I1.kIn, ?_⟩
  cases r1 with
  | cons rv rn =>
    rename_i v' us'
    cases rn
    show wpAny _ _ (call (.ref C) [v']) _ _ _
    have hlim := I1.nolimit
    obtain ⟨hp, g, dr, tk, os⟩ := s1
    refine wpAny_call (mk I1.kIn hlim (by have := hr.dp; show X.A.depth + 1 < _; omega) fun h' tk' e d M => ?_)
    obtain ⟨G, t1, J, kG, ge, hoe, nd, ne⟩ := made_inv (tk' := tk') I1 rv M
    refine ⟨e, _, _, ⟨G, g, dr, tk', os⟩, _, .ref C, some d, rfl, J, kG, ge, hoe, ⟨rfl, rfl⟩, rfl, rfl, ?_, rfl, I1.bare, raises_own E.exC E.tyC, q1 d nd⟩
    rw [upd_ne (Ne.symm M.dne)]
    exact ne
theorem pe_mk {x : Str} {a : Expr} {ta : TA} {p pos : Pos} {k : Nat} {T fI : Addr} (E : EC X.K C T f fI) (mk : Makes X.K C f) (hm : X.mg x = some (.ref C)) (hr : Room k X.A) (ha : PA X [a] ta) (hg : Gl X x)
    (hdb : (x == ("__debug__" : Str)) = false := by decide) (he : starEach (a :: []) X.env = (false, eval a X.env) :: starEach [] X.env := by rfl) (hpl : (backTo pos (starEach [] X.env)).any (·.1) = false := by rfl) :
    PE X (.Call (.Name x p) [a] [] pos) (tMkV C f ta) := by
  refine ⟨fun pins s σ H Q I h => ?_⟩
  refine wpAny_Call_Name_kw (ld_glob I hg hm ?_ hdb)
  refine PySem.W.callWith_K (h₀ := X.base) I.ok.mod.kin E.kC (thn (ha.run pos pins s σ H _ I h) fun us s1 hh => ?_) he hpl
  obtain ⟨vs, H1, I1, r1, v, ev, q1⟩ := hh
  subst ev
  refine ⟨I1.kIn, ?_⟩
  cases r1 with
  | cons rv rn =>
    rename_i v' us'
    cases rn
    show wpAny _ _ (call (.ref C) [v']) _ _ _
    have hlim := I1.nolimit
    obtain ⟨hp, g, dr, tk, os⟩ := s1
    refine wpAny_call (mk I1.kIn hlim (by have := hr.dp; show X.A.depth + 1 < _; omega) fun h' tk' e d M => ?_)
    obtain ⟨G, t1, J, kG, ge, hoe, nd, ne⟩ := made_inv (tk' := tk') I1 rv M
    have ne' : (upd H1 d (.xd [(f, v)])) e = none := by
      rw [upd_ne (Ne.symm M.dne)]
      exact ne
    exact ⟨.ref e, _, J.laidN (h' := h') (t' := tk') kG ge ne' (exo_ok hoe), rfl, q1 d e nd ne (Ne.symm M.dne)⟩
/-- what stands at an exception's address in the heap -/
theorem EAt.inst {H : Hp} {h : Heap} {e : Addr} {v : V} (ok : HOk X.prog X.w H h) (a : EAt H C f e v) : ∃ (ox od : Obj) (u : Value), PySem.W.InstAt h e ox C (some od) ∧ PySem.W.lookIn f od = some (some u) ∧ RelV v u := by
  obtain ⟨d, h1, h2⟩ := a
  obtain ⟨t1, ho⟩ := exo_at ok h1
  obtain ⟨mA, hns, hr⟩ : ObjOk X.prog X.w H h d (.xd [(f, v)]) := ok d _ h2
  obtain ⟨od, hod, hl⟩ := lookIn_ns hns
  have l : List.lookup f [(f, v)] = some v := by simp [List.lookup]
  obtain ⟨u, hu, ru⟩ := RelO.some_of (v := v) (o := mA f) (by rw [← l]; exact hr f)
  exact ⟨_, od, u, ⟨ho, rfl, rfl, hod⟩, by rw [hl, hu], ru⟩
/-- e.f -/
def tFldE (K : PySem.W.Frag) (f : Str) (to : TE) : TE := fun σ H Q => to σ H fun x H1 => ∃ (e C T fI : Addr) (v : V), x = .ref e ∧ EC K C T f fI ∧ EAt H1 C f e v ∧ Q v H1
theorem pe_fldE {o : Expr} {to : TE} {pos : Pos} (ho : PE X o to) (hb : attributeBase o f X.env (eval o X.env) = eval o X.env := by rfl) : PE X (.Attribute o f pos) (tFldE X.K f to) := by
  refine ⟨fun pins s σ H Q I h => ?_⟩
  refine attr_of hb (thn (ho.run pins s σ H _ I h) fun u s1 hh => ?_)
  obtain ⟨x, H1, I1, rx, e, C, T, fI, v, ex, Ec, ea, q⟩ := hh
  subst ex
  obtain rfl : u = Value.ref e := rx
  obtain ⟨ox, od, w, J, hl, rw'⟩ := ea.inst I1.hok
  exact HandSPX.exc_get I1.kIn J Ec.ga Ec.gg Ec.exC (PySem.W.findObj_own Ec.hd Ec.no rfl hl) (handed_of rw') ⟨v, H1, I1.tok _, rw', q⟩
/-- isinstance(e, c) -/
structure HasCls (K : PySem.W.Frag) : Prop where
  hn : PySem.W.specialIn K (.builtin "object.__class__") "__get__" = some (some (.builtin "getset_descriptor.__get__"))
  ht : PySem.W.takesIn K (.builtin "object.__class__") = some true
def rIsV (K : PySem.W.Frag) : List V → Hp → VK → Prop := fun xs H Q => ∃ (e C T fI : Addr) (f : Str) (v c : V) (u : Value) (b : Bool), xs = [.ref e, c] ∧ ClsV c u ∧ EC K C T f fI ∧ EAt H C f e v ∧ PySem.W.kitOne K (.ref C) u = some b ∧ Q (.bl b) H
theorem call_isV (Z : HasCls X.K) : CallR X (.builtin "isinstance") (rIsV X.K) := by
  intro pins s σ H xs us Q I r h
  obtain ⟨e, C, T, fI, f, v, c, u, b, rfl, k, Ec, ea, hk, q⟩ := h
  obtain ⟨u1, u2, rfl, r1, r2⟩ := vals2 r
  have e2 := k.eq r2
  subst e2
  cases (show u1 = Value.ref e from r1)
  obtain ⟨ox, od, w, J, _, _⟩ := ea.inst I.hok
  have hob : PySem.W.mroIn X.K C (.type "object") = some true := Ec.has (by decide)
  exact PySem.W.kia_one (PySem.W.kitx_exc Ec.isCls Ec.ga Ec.gg Ec.exC Ec.ca Z.hn Z.ht hob) I.kIn J hk (fun z => nomatch z) fun tk => ⟨.bl b, H, I.tok tk, rfl, q⟩
end
/-! the answers -/
section
open PySem.W
variable {K : PySem.W.Frag} {C T fI D T2 fJ : Addr} {f f2 : Str}
theorem kit_self : kitOne K (.ref C) (.ref C) = some true := by
  unfold kitOne
  rw [if_pos (beq_self_eq_true _)]
theorem kit_own (E : EC K C T f fI) {D : Addr} {b : Bool} (hD : (clsIn K D).isSome = true) (tD : typeIn K (.ref D) = some (.type "type")) (h : subIn K (.ref C) (.ref D) = some b) (hne : D ≠ C) : kitOne K (.ref C) (.ref D) = some b := by
  have q : ((clsIn K D).isSome && typeIn K (.ref D) == some (.type "type")) = true := by rw [hD, tD]; rfl
  unfold kitOne
  rw [if_neg (by simp [Ne.symm hne])]
  unfold kitCls
  dsimp only
  rw [if_pos q]
  exact h
theorem kit_bi (E : EC K C T f fI) {n : String} {b : Bool} (hm : kitMeta n = true) (h : subIn K (.ref C) (.type n) = some b) : kitOne K (.ref C) (.type n) = some b := by
  unfold kitOne
  rw [if_neg (by simp)]
  unfold kitCls
  dsimp only
  rw [if_pos hm]
  exact h
end
/-! try with clauses, each with a name -/
/-- what the clauses wish, one behind the other; each: its class, the slot of its name, its suite -/
def wClauses (K : PySem.W.Frag) (Wout : WX) (D : Ends) : List (Value × Nat × (Addr → Value → Option Addr → TS)) → WX
  | [] => Wout
  | (c, i, ts) :: r => fun cls d σ H => ∃ b, PySem.W.exmOne K cls c = some b ∧
      (b = true → ∀ a, H a = none → ts a cls d { nx := fun σ' H' => D.nx (σ'.set i none) H', rt := D.rt, bk := fun σ' H' => D.bk (σ'.set i none) H', ct := fun σ' H' => D.ct (σ'.set i none) H' } (σ.set i (some (.ref a))) H) ∧
      (b = false → wClauses K Wout D r cls d σ H)
inductive Clauses (X : Cx) : List ExceptHandler → List (Value × Nat × (Addr → Value → Option Addr → TS)) → Prop
  | nil : Clauses X [] []
  | cons {x n : Str} {i : Nat} {c : Value} {ts : Addr → Value → Option Addr → TS} {b₀ : Stmt} {suite : List Stmt} {np pos' : Pos} {hds : List ExceptHandler} {l : List (Value × Nat × (Addr → Value → Option Addr → TS))}
      (hc : Names X x c) (hi : X.N[i]? = some n) (hln : X.env.kindOf n = some .local)
      (hsu : ∀ (a : Addr) (oe : Obj) (cls : Value) (d : Option Addr) (pn : List (Addr × Obj)), Zc cls d oe → (∃ vs, oe.data = .fields vs) → PSs (X.suite a ((a, oe) :: pn)) (b₀ :: suite) (ts a cls d))
      (r : Clauses X hds l) : Clauses X (.ExceptHandler (some (.Name x np)) (some n) (b₀ :: suite) pos' :: hds) ((c, i, ts) :: l)
section
variable {X : Cx} {body : List Stmt} {h₀ : ExceptHandler} {hds : List ExceptHandler} {l : List (Value × Nat × (Addr → Value → Option Addr → TS))} {pos : Pos} {tb : WX → TS} {Wout : WX}
/-- the suite's end: its name goes -/
theorem suite_end {pins : List (Addr × Obj)} {D : Ends} {i : Nat} {n : Str} {a : Addr} {q : Addr × Obj} {p : Pos} {fl : Flow} {s6 : Shared} (ok : X.Ok) (hN : X.N.Nodup) (hi : X.N[i]? = some n) (hln : X.env.kindOf n = some .local)
    (hsp : SP (X.suite a (q :: (X.pn ++ pins))) [] { nx := fun σ' H' => D.nx (σ'.set i none) H', rt := D.rt, bk := fun σ' H' => D.bk (σ'.set i none) H', ct := fun σ' H' => D.ct (σ'.set i none) H' } fl s6) :
    wpAny (model X.prog X.w) X.A (do bindName X.env n .none; unbindBehindTheSuite X.env n p) (fun _ s7 => SP X pins D fl s7) X.xe s6 := by
  cases fl with
  | next =>
    obtain ⟨σ6, H6, S6, w6⟩ := hsp
    exact gone_ok (S6.unsuite ok) hN hi hln fun s7 J7 => ⟨_, _, J7, w6⟩
  | brk =>
    obtain ⟨σ6, H6, S6, w6⟩ := hsp
    exact gone_ok (S6.unsuite ok) hN hi hln fun s7 J7 => ⟨_, _, J7, w6⟩
  | cont =>
    obtain ⟨σ6, H6, S6, w6⟩ := hsp
    exact gone_ok (S6.unsuite ok) hN hi hln fun s7 J7 => ⟨_, _, J7, w6⟩
  | ret u =>
    obtain ⟨v6, σ6, H6, S6, r6, w6⟩ := hsp
    exact gone_ok (S6.unsuite ok) hN hi hln fun s7 J7 => ⟨_, _, _, J7, r6, w6⟩
theorem ps_try_named (hs : X.stack = X.env :: X.outer) (hf : X.env.frame = some X.env.locals) (hN : X.N.Nodup) (tk : Takes X Wout)
    (hb : ∀ (W : WX) (pn : List (Addr × Obj)) (xe : Value → Shared → Prop), Takes (X.tr pn xe) W → PassesOwn (model X.prog X.w) X.A X.env xe → PSs (X.tr pn xe) body (tb W))
    (hh : Clauses X (h₀ :: hds) l) : PS X (.Try body (h₀ :: hds) [] [] pos) (fun D σ H => tb (wClauses X.K Wout D l) D σ H) := by
  refine ⟨fun pins s σ H D I h => ?_⟩
  have ok := I.ok
  have hfr : X.A.frames = some (X.env :: X.outer) := by rw [ok.frames, hs]
  refine wpAny_Try_except ?_
  refine wpAny_mono ((hb (wClauses X.K Wout D l) (X.pn ++ pins) (fun e s₁ => wpAny (model X.prog X.w) X.A (noteFrame e X.env) (fun _ s₂ =>
    wpAny (model X.prog X.w) X.A (setFlight e none) (fun _ s₃ => wpAny (model X.prog X.w) X.A (handleBy e X.env (h₀ :: hds)) (SP X pins D) X.xe s₃) X.xe s₂) X.xe s₁)
    (fun u s' xx => ?_) PassesOwn.looking).run [] s σ H D (I.toTry _) h) (fun fl s1 hsp => ?_) (fun e s1 he => he)
  · obtain ⟨a, B, sI, pins', σ', H', cls, d, rfl, J', nb, up, sky, na, os, ag, w⟩ := xx
    have J : Inv X pins σ' H' sI := J'.ofTry ok
    have sky' : Sky B (X.env :: X.outer) a (Zc cls d) X.env.locals s'.heap := by
      rw [← hs]
      exact sky
    refine Sky.land Zc.steady hfr hf sky' fun h3 fl3 up3 => ?_
    have J3 : Inv X pins σ' H' { s' with heap := h3 } := J.landed nb fl3.1 (up.trans up3) os ag
    obtain ⟨oe3, vs3, he3, hz3, hd3⟩ := fl3.there
    have nfr : a ∉ frs (X.env :: X.outer) := fun hm => by
      obtain ⟨_, o', e', hnf⟩ := fl3.2.2.1.mem hm
      rw [he3] at e'
      cases e'
      exact hnf _ hd3
    have nL : a ≠ X.env.locals := fun z => nfr (List.mem_filterMap.mpr ⟨X.env, List.mem_cons_self, by rw [hf, z]⟩)
    have nF : a ∉ X.fs := fun hm => by
      obtain ⟨e, he, q⟩ := List.mem_filterMap.mp hm
      exact nfr (List.mem_filterMap.mpr ⟨e, List.mem_cons_of_mem _ he, q⟩)
    have S3 := J3.suite he3 hd3 na nL nF
    have LT : PySem.W.Looks (model X.prog X.w) h3 (typeOf (.ref a)) cls := fun A Q E s k q => wpAny_typeOf_ref (k _ _ he3) (by rw [hz3.1]; exact q)
    have go : ∀ {hs' : List ExceptHandler} {l' : List (Value × Nat × (Addr → Value → Option Addr → TS))}, Clauses X hs' l' → wClauses X.K Wout D l' cls d σ' H' →
        wpAny (model X.prog X.w) X.A (handleBy (.ref a) X.env hs') (SP X pins D) X.xe { s' with heap := h3 } := by
      intro hs' l' hk
      induction hk with
      | nil =>
        intro w
        refine wpAny_handleBy_nil ?_
        obtain ⟨k1, k2, k3, oe, vs, T, oT, ts', he, hz, hd, h1, hr⟩ := id fl3
        have fin : wpAny (model X.prog X.w) X.A (setFlight (.ref a) X.env.frame) (fun _ s4 => wpAny (model X.prog X.w) X.A (throw (.ref a) : Sem Flow) (SP X pins D) X.xe s4) X.xe { s' with heap := h3 } := by
          rw [hf]
          refine HandSPX.setFlight_upZ fl3 fun h4 hh4 up4 => wpAny_throw (tk _ _ ?_)
          refine ⟨a, B, sI, pins, σ', H', cls, d, rfl, J, nb, (up.trans up3).trans up4, .inr (.inr ?_), na, os, ag, w⟩
          rw [hs]
          exact hh4
        unfold PySem.passOn
        refine wpAny_bind (wpAny_field he hd h1 ?_)
        rw [if_neg (show ¬ ((Value.ref T == Value.none) = true) from by simp)]
        first
          | exact wpAny_bind (wpAny_pure (wpAny_bind fin))
          | exact wpAny_bind fin
      | @cons x n i c ts b₀ suite np pos' hds2 l2 hc hi hln hsu r ih =>
        intro w
        obtain ⟨b, hb1, hyes, hno⟩ := w
        refine wpAny_handleBy_cons (codeAny_handlers_test ?_) (by intro q; cases q)
        have LM := PySem.W.exm_one (M := model X.prog X.w) (J3.kIn) LT hb1
        have test : ∀ {Q : Value → Shared → Prop} {E : Value → Shared → Prop}, Q c { s' with heap := h3 } → wpAny (model X.prog X.w) (X.A.mark (some (.ref a))) (eval (.Name x np) X.env) Q E { s' with heap := h3 } := fun {Q E} q => by
          obtain ⟨hg, hdbg, hm | ⟨hm, hv, hnn⟩⟩ := hc
          · exact ld_glob (X := X.suite a ((a, oe3) :: (X.pn ++ pins))) S3 hg hm q hdbg
          · exact ld_blt (X := X.suite a ((a, oe3) :: (X.pn ++ pins))) S3 hg hm hv q hnn hdbg
        refine test (LM.here ?_)
        cases b with
        | false =>
          show wpAny _ X.A (handleBy (.ref a) X.env hds2) _ _ _
          exact ih (hno rfl)
        | true =>
          refine codeAny_handlers_suite_as ?_
          refine HandSPX.lands_againZ fl3 fun h4 fl4 up4 => ?_
          have J4 : Inv X pins σ' H' { s' with heap := h4 } := J.landed nb fl4.1 ((up.trans up3).trans up4) os ag
          obtain ⟨oe4, vs4, he4, hz4, hd4⟩ := fl4.there
          have S4 := J4.suite he4 hd4 na nL nF
          refine store_ok (X := X.suite a ((a, oe4) :: (X.pn ++ pins))) (v := .ref a) S4 hN hi (.inl hln) rfl (fun s5 S5 => ?_) (.inr hln)
          refine wpAny_mono ((hsu a oe4 cls d (X.pn ++ pins) hz4 ⟨_, hd4⟩).run [] s5 _ H' _ S5 (hyes rfl a na)) (fun fl s6 hsp => ?_) (fun _ _ z => False.elim z)
          exact suite_end ok hN hi hln hsp
    exact go hh w
  · cases fl with
    | next =>
      obtain ⟨σ', H', J', q⟩ := hsp
      exact wpAny_execs_nil ⟨σ', H', J'.ofTry ok, q⟩
    | brk =>
      obtain ⟨σ', H', J', q⟩ := hsp
      exact ⟨σ', H', J'.ofTry ok, q⟩
    | cont =>
      obtain ⟨σ', H', J', q⟩ := hsp
      exact ⟨σ', H', J'.ofTry ok, q⟩
    | ret u =>
      obtain ⟨v, σ', H', J', r, q⟩ := hsp
      exact ⟨v, σ', H', J'.ofTry ok, r, q⟩
end
end L2


set_option Elab.async false
set_option linter.all false
set_option maxRecDepth 100000
set_option maxHeartbeats 4000000
namespace K8
open PySem L2 Nd Bk Gd PySem.ExE
/-! what goes beyond -/
def cp (i : Int) : Int := if BEY < i then BEY else i
def capB (l : Poly) : Poly := l.map fun e => (e.1, cp e.2)
theorem cp_ge (i : Int) : BEY ≤ cp i ↔ BEY ≤ i := by
  unfold cp
  split <;> omega
theorem cp_id {i : Int} (h : i < BEY) : cp i = i := by
  unfold cp
  rw [if_neg (by omega)]
theorem cp_add {x c : Int} (hc : 0 ≤ c) : cp (cp x + c) = cp (x + c) := by
  unfold cp
  repeat' split
  all_goals omega
theorem look_capB (l : Poly) (k : Mono) : look (capB l) k = (look l k).map cp := by
  unfold look capB
  induction l with
  | nil => rfl
  | cons e r ih =>
    rw [List.map_cons, List.find?_cons, List.find?_cons]
    by_cases h : e.1 = k
    · simp [h]
    · simp only [decide_eq_false h]
      exact ih
theorem put_capB (l : Poly) (k : Mono) (v : Int) : put (capB l) k (cp v) = capB (put l k v) := by
  unfold put
  rw [look_capB, Option.isSome_map]
  split
  · unfold capB
    rw [List.map_map, List.map_map]
    refine List.map_congr_left fun e _ => ?_
    show (if e.1 = k then (e.1, cp v) else (e.1, cp e.2)) = (fun e : Mono × Int => (e.1, cp e.2)) (if e.1 = k then (e.1, v) else e)
    split <;> rfl
  · unfold capB
    rw [List.map_append]
    rfl
theorem cp_zero : cp 0 = 0 := by decide +kernel
theorem add_capB (l : Poly) (k : Mono) {c : Int} (hc : 0 ≤ c) : put (capB l) k (cp ((look (capB l) k).getD 0 + c)) = capB (add1 l (k, c)) := by
  unfold add1
  rw [← put_capB, look_capB]
  cases look l k with
  | none => rfl
  | some u =>
    show put (capB l) k (cp (cp u + c)) = put (capB l) k (cp (u + c))
    rw [cp_add hc]
def Big (B : Poly) : Prop := ∃ t ∈ B, BEY ≤ t.2 ∨ ∃ x ∈ t.1, BEY ≤ x.2
theorem big_cap (B : Poly) : Big (capB B) ↔ Big B := by
  unfold Big capB
  constructor
  · rintro ⟨t, ht, h⟩
    obtain ⟨e, he, rfl⟩ := List.mem_map.mp ht
    exact ⟨e, he, h.imp (cp_ge _).mp id⟩
  · rintro ⟨e, he, h⟩
    exact ⟨_, List.mem_map.mpr ⟨e, he, rfl⟩, h.imp (cp_ge _).mpr id⟩
theorem cap_id {B : Poly} (h : ¬ Big B) : capB B = B := by
  have : ∀ e ∈ B, (e.1, cp e.2) = e := fun e he => by
    have : e.2 < BEY := by
      by_cases q : BEY ≤ e.2
      · exact absurd ⟨e, he, .inl q⟩ h
      · omega
    rw [cp_id this]
  unfold capB
  rw [List.map_congr_left this, List.map_id']
theorem cap_len (B : Poly) : (capB B).length = B.length := List.length_map ..
/-- the class of what is raised -/
structure Tm (K : PySem.W.Frag) (mg : Str → Option Value) (T C fI : Addr) : Prop where
  E : EC K C T "word" fI
  mks : Makes K C "word"
  g : mg "TooMany" = some (.ref C)
/-- what is told of such a book, or raised -/
structure Told (K : PySem.W.Frag) (C : Addr) (B : Poly) (H : Hp) (Q : VK) (E : XK) : Prop where
  terms : 400 < B.length → ∀ d H', Same H H' → H' d = some (.xd [("word", .str "terms")]) → E (.ref C) (some d) H'
  figs : B.length ≤ 400 → Big B → ∀ d H', Same H H' → H' d = some (.xd [("word", .str "figures")]) → E (.ref C) (some d) H'
  poly : B.length ≤ 400 → ¬ Big B → ∀ v H', Same H H' → Dp K H' v (bD (srt B)) → Q v H'
def spPut2 (K : PySem.W.Frag) (P : Program) (w : World) : Sp := fun vs H Q _ => ∃ (d a : Addr) (es : List Ent) (m : Mono) (c : Int), vs = [.ref d, .ref a, .int c] ∧ NdAt K P w H d es ∧ Dp K H (.ref a) (mD m) ∧ es.length ≤ 1000000 ∧
  Q .non (upd H d (ndO P w d (putN es m a (cp ((getN es m).getD 0 + c)))))
def spChk2 (K : PySem.W.Frag) (P : Program) (w : World) (C : Addr) : Sp := fun vs H Q E => ∃ (d : Addr) (es : List Ent), vs = [.ref d] ∧ NdAt K P w H d es ∧
  (400 < es.length → ∀ x H', Same H H' → H' x = some (.xd [("word", .str "terms")]) → E (.ref C) (some x) H') ∧ (es.length ≤ 400 → Q .non H)
section
variable {P : Program} {w : World} {K : PySem.W.Frag} {mg : Str → Option Value} {base : Heap} {T C fI : Addr}
theorem ok_put2 {f : Addr} {fd : FuncData} (F : Fun K "put" "put" sPut f fd) (N : Cn K mg) : FnOk P w K mg base CX0 1 f fd ["found", "monomial", "coefficient"] (spPut2 K P w) := by
  refine F.ok scPut (fun vs H Q E h => ?_) (fun cdv A outer s H vs Q E hr h => ?_)
  · obtain ⟨d, a, es, m, c, rfl, _⟩ := h
    rfl
  · obtain ⟨d, a, es, m, c, rfl, n, hm, hl, k⟩ := h
    obtain ⟨t, ht⟩ := N.bey
    refine ⟨_, pss_one (ps_asg (pe_callB (call_min2 rfl) (by rfl) N.min (by rfl) (pa_cons (pe_op op_add (pe_ndGetOr (u9 hr) (pv 0) (pv 1) pe_int ⟨rfl, rfl, rfl, rfl⟩) (pv 2)) (pa_cons (pe_glob (v := .int BEY) (by rfl) ht ⟨_, rfl⟩) pa_nil)))
      (pg_sub (pv 0) (pv 1) (set_nd (u9 hr)))), ?_⟩
    refine ⟨_, rfl, d, es, rfl, n, _, rfl, a, m, 0, rfl, rfl, n, hm, _, rfl, _, _, rfl, rfl, _, _, rfl, ?_⟩
    exact ⟨_, rfl, _, rfl, d, a, es, m, _, rfl, rfl, rfl, n, hm, (by rw [sizeLine_eq]; omega), k⟩
theorem ok_chk2 {f : Addr} {fd : FuncData} (F : Fun K "check_terms" "check_terms" sChk f fd) (N : Cn K mg) (X : Tm K mg T C fI) : FnOk P w K mg base (L2.CX P w) 2 f fd ["terms"] (spChk2 K P w C) := by
  refine F.okX scChk (fun vs H Q E h => ?_) (fun cdv A outer s H vs Q E hr h => ?_)
  · obtain ⟨d, es, rfl, _⟩ := h
    rfl
  · obtain ⟨d, es, rfl, n, k1, k2⟩ := h
    obtain ⟨t, ht⟩ := N.most
    refine ⟨_, pss_one (ps_if (pt_cmpR op_gt (pe_callB call_lenNd (by rfl) N.N.len PySem.boot_len (pa_cons (pv 0) pa_nil)) (pe_glob (v := .int 400) (by rfl) ht ⟨_, rfl⟩) (nomark _)) (pss_one (ps_raise rfl (takes_of rfl rfl rfl rfl) (pmk_mk X.E X.mks X.g hr (pa_cons pe_str pa_nil) rfl))) pss_nil), ?_⟩
    refine ⟨_, rfl, d, es, rfl, n, _, _, rfl, rfl, _, rfl, ?_⟩
    refine ite2 (fun h => ?_) (fun h => ?_)
    · have h' : (400 : Int) < es.length := of_decide_eq_true h
      exact ⟨_, rfl, fun x nx => k1 (by omega) x _ (sm_new sm_refl nx) upd_same⟩
    · have h' : ¬ (400 : Int) < es.length := fun q => h (decide_eq_true q)
      exact k2 (by omega)
end
end K8


set_option Elab.async false
set_option linter.all false
set_option maxRecDepth 100000
set_option maxHeartbeats 4000000
namespace K8
open PySem L2 Nd Bk Gd PySem.ExE
section
variable {P : Program} {w : World} {K : PySem.W.Frag} {mg : Str → Option Value} {base : Heap} {T C fI : Addr}
/-- the exponents' walk -/
theorem any_big {xs : Mono} : (xs.map fun x => decide (BEY ≤ x.2)).any id = decide (∃ x ∈ xs, BEY ≤ x.2) := by
  induction xs with
  | nil => simp
  | cons x r ih =>
    rw [List.map_cons, List.any_cons, ih]
    by_cases h : BEY ≤ x.2 <;> simp [h]
def spPolyR (K : PySem.W.Frag) (P : Program) (w : World) (C : Addr) : Sp := fun vs H Q E => ∃ (d : Addr) (es : List Ent), vs = [.ref d] ∧ NdAt K P w H d es ∧ es.length ≤ 1000 ∧ (∀ t ∈ bagOf es, t.1.length ≤ 1000) ∧
  (400 < es.length → ∀ x H', Same H H' → H' x = some (.xd [("word", .str "terms")]) → E (.ref C) (some x) H') ∧
  (es.length ≤ 400 → Big (bagOf es) → ∀ x H', But d H H' → H' x = some (.xd [("word", .str "figures")]) → E (.ref C) (some x) H') ∧
  (es.length ≤ 400 → ¬ Big (bagOf es) → ∀ v H', Same H H' → Dp K H' v (bD (srt (bagOf es))) → Q v H')
theorem big_srt {B : Poly} : Big (srt B) ↔ Big B := ⟨fun ⟨t, h1, h2⟩ => ⟨t, List.mem_mergeSort.mp h1, h2⟩, fun ⟨t, h1, h2⟩ => ⟨t, List.mem_mergeSort.mpr h1, h2⟩⟩
def spCkF2 (K : PySem.W.Frag) (C : Addr) : Sp := fun vs H Q E => ∃ (v : V) (B : Poly), vs = [v] ∧ Dp K H v (bD B) ∧ (∀ t ∈ B, t.1.length ≤ 1000) ∧
  (Big B → ∀ x H', Same H H' → H' x = some (.xd [("word", .str "figures")]) → E (.ref C) (some x) H') ∧ (¬ Big B → ∀ H', Same H H' → Q .non H')
theorem ok_ckF2 {f : Addr} {fd : FuncData} (F : Fun K "check_figures" "check_figures" sCkF f fd) (N : Cn K mg) (X : Tm K mg T C fI) : FnOk P w K mg base (L2.CX P w) 2 f fd ["terms"] (spCkF2 K C) := by
  refine F.okX scCkF (fun vs H Q E h => ?_) (fun cdv A outer s H vs Q E hr h => ?_)
  · obtain ⟨d, es, rfl, _⟩ := h
    rfl
  · obtain ⟨v, B, rfl, hv, hlm, k1, k2⟩ := h
    obtain ⟨t, ht⟩ := N.bey
    obtain ⟨a, xs, rfl, sq, len, all⟩ := dp_bag (κ := Mono) hv
    have tk := takes_of (X := cxOf (L2.CX P w) P w K mg base ["terms", "monomial", "coefficient", "pair"] "check_figures" (defScope sCkF) f cdv A outer s H E) (E := E) rfl rfl rfl rfl
    refine ⟨_, pss_one (ps_for (passes_of rfl) rfl (pi_tup (pv 0)) (pg_tup rfl (pgs_cons (pg_name (i := 1) scCkF.nd rfl (Or.inl rfl)) (pgs_cons (pg_name (i := 2) scCkF.nd rfl (Or.inl rfl)) pgs_nil)))
        (pss_one (ps_if (PW.pt (pw_or (pt_cmpR op_ge (pv 2) (pe_glob (v := .int BEY) (by rfl) ht ⟨_, rfl⟩) (nomark _))
          (pw_or1 (pt_val (pe_callB (cr_any rfl) (by rfl) N.any (by rfl) (pa_cons (pe_lc (own := [("pair", 3)]) (g := gName 3) (tt := tYes) rfl scCkF.nd (pi_tup (pv 1)) (blkOk_by (N := ["terms", "monomial", "coefficient", "pair"]) (sc := defScope sCkF) (by decide +kernel))
            (fun _ _ _ _ _ => pg_name (i := 3) scCkF.nd rfl (Or.inl rfl)) (fun _ _ _ _ _ => pts_nil)
            (fun _ _ _ _ _ => pe_cmpR op_ge (pe_ix (show IxR _ (rIx K) from ix_seq) (pv 3) pe_int (fun _ _ => rfl)) (pe_glob (v := .int BEY) (by rfl) ht ⟨_, rfl⟩) (nomark _))) pa_nil)))))) (pss_one (ps_raise rfl tk (pmk_mk X.E X.mks X.g hr (pa_cons pe_str pa_nil) rfl))) pss_nil))), ?_⟩
    refine ⟨_, rfl, a, rfl, ⟨_, sq⟩, ?_⟩
    refine for_tup (K := K) (a := a) (xs := xs) (fun i σ H2 => (∃ a' b, σ = [some (.ref a), a', b, none]) ∧ Same H H2 ∧ ∀ e ∈ B.take i, e.2 < BEY ∧ ∀ x ∈ e.1, x.2 < BEY) ⟨⟨none, none, rfl⟩, sm_refl, fun e he => by simp at he⟩ (fun i σ H2 _ ⟨_, s2, _⟩ => sqT_same s2 sq) ?_ ?_
    · rintro i x σ H2 hi ⟨⟨a', b, rfl⟩, s2, hok⟩
      obtain ⟨e, he, hx⟩ := bag_get all hi
      obtain ⟨U0, kk, rfl, hT, hk⟩ := dp_pair (dp_same s2 hx)
      obtain ⟨m', xs', rfl, hsq, hlen, hall⟩ := dp_bag (κ := Str) hk
      have hmem : e ∈ B := List.mem_of_getElem? he
      have hlm' := hlm e hmem
      have bigE : (BEY ≤ e.2 ∨ ∃ x ∈ e.1, BEY ≤ x.2) → Big B := fun h => ⟨e, hmem, h⟩
      refine ⟨U0, _, rfl, hT, rfl, _, _, rfl, _, _, rfl, rfl, ?_⟩
      refine ⟨_, rfl, _, _, rfl, rfl, _, rfl, ?_⟩
      refine ite2 (fun hb => ?_) (fun hb => ?_)
      · refine iteT ⟨_, rfl, fun x nx => k1 (bigE (.inl (of_decide_eq_true hb))) x _ (s2.trans (sm_new sm_refl nx)) upd_same⟩
      have hb' : e.2 < BEY := by
        by_cases q : BEY ≤ e.2
        · exact absurd (decide_eq_true q) hb
        · omega
      refine ⟨_, rfl, m', rfl, ⟨_, hsq⟩, fun D nD => ?_⟩
      refine lc_tup (K := K) (a := m') (xs := xs') (fun i H4 => Same H2 H4 ∧ H4 D = some (.lst (((e.1.take i).map fun x => decide (BEY ≤ x.2)).map V.bl))) ⟨sm_new sm_refl nD, upd_same⟩ (fun i H4 _ ⟨s4, _⟩ => sqT_same s4 hsq) ?_ ?_
      · rintro j y H4 hj ⟨s4, hD⟩
        obtain ⟨p, hp, hy⟩ := bag_get hall hj
        obtain ⟨U, kk, rfl, hu, _⟩ := dp_pair (dp_same s4 hy)
        refine ⟨rfl, _, rfl, .inr (.inl ⟨U, _, _, _, rfl, rfl, hu, rfl, ?_⟩)⟩
        refine ⟨_, _, rfl, rfl, ?_⟩
        refine ⟨_, hD, small1000 ?_, sm_new s4 nD, ?_⟩
        · rw [List.length_map, List.length_map, List.length_take]
          omega
        · rw [upd_same, List.take_succ, hp, List.map_append, List.map_append]
          rfl
      · rintro H4 ⟨s4, hD⟩
        rw [hlen, List.take_length] at hD
        refine ⟨D, _, rfl, SqL.of hD, _, rfl, ?_⟩
        rw [any_big]
        refine ite2 (fun ha => ?_) (fun ha => ?_)
        · exact ⟨_, rfl, fun x nx => k1 (bigE (.inr (of_decide_eq_true ha))) x _ ((s2.trans s4).trans (sm_new sm_refl nx)) upd_same⟩
        refine ⟨⟨_, _, rfl⟩, s2.trans s4, fun e' he' => ?_⟩
        rw [List.take_succ, he] at he'
        rcases List.mem_append.mp he' with q | q
        · exact hok e' q
        · have q' : e' = e := by simpa using q
          rw [q']
          refine ⟨hb', fun x hx => ?_⟩
          by_cases z : BEY ≤ x.2
          · exact absurd (decide_eq_true ⟨x, hx, z⟩) ha
          · omega
    · rintro σ H2 ⟨⟨a', b, rfl⟩, s2, hok⟩
      rw [len, List.take_length] at hok
      refine k2 (fun ⟨t, ht', h⟩ => ?_) H2 s2
      obtain ⟨h1, h2⟩ := hok t ht'
      rcases h with h | ⟨x, hx, h⟩
      · omega
      · have := h2 x hx
        omega
theorem ok_polyR {f : Addr} {fd : FuncData} (F : Fun K "poly_of" "poly_of" sPoly f fd) (N : Cn K mg) (X : Tm K mg T C fI) (Ga : Df P w K mg base 1 "as_terms" ["found"] (spAs K P w))
    {fc : Addr} {fdc : FuncData} (gC : mg "check_terms" = some (.ref fc)) (kC : PySem.W.keepIn K (.ref fc) = true) (bC : Binds K fdc ["terms"] []) (GC : FnOk P w K mg base (L2.CX P w) 2 fc fdc ["terms"] (spChk2 K P w C))
    {ff : Addr} {fdf : FuncData} (gF : mg "check_figures" = some (.ref ff)) (kF : PySem.W.keepIn K (.ref ff) = true) (bF : Binds K fdf ["terms"] []) (GF : FnOk P w K mg base (L2.CX P w) 2 ff fdf ["terms"] (spCkF2 K C)) :
    FnOk P w K mg base (L2.CX P w) 3 f fd ["found"] (spPolyR K P w C) := by
  obtain ⟨fa, fda, gA, kA, bA, GA⟩ := Ga.ok
  refine F.okX scPoly (fun vs H Q E h => ?_) (fun cdv A outer s H vs Q E hr h => ?_)
  · obtain ⟨d, es, rfl, _⟩ := h
    rfl
  · obtain ⟨d, es, rfl, n, hl, hlm, k1, k2, k3⟩ := h
    have hr1 : Room 1 _ := hr.mono (by decide)
    have tk := takes_of (X := cxOf (L2.CX P w) P w K mg base ["found", "made"] "poly_of" (defScope sPoly) f cdv A outer s H E) (E := E) rfl rfl rfl rfl
    refine ⟨_, pss_cons (ps_expr (pe_callS GC hr rfl gC kC bC (fun σ => passAt tk σ) (pa_cons (pv 0) pa_nil)))
      (pss_cons (ps_set (i := 1) scPoly.nd rfl (Or.inl rfl) (pe_call GA hr1 rfl gA kA bA .nil pass0 (pa_cons (pv 0) pa_nil)))
      (pss_cons (ps_expr (pe_callS GF hr rfl gF kF bF (fun σ => passAt tk σ) (pa_cons (pv 1) pa_nil)))
      (pss_one (ps_ret (pv 1))))), ?_⟩
    refine ⟨_, rfl, d, es, rfl, n, k1, fun le => ?_⟩
    refine ⟨_, rfl, d, es, rfl, n, fun v H2 s2 hv => ?_⟩
    refine ⟨_, rfl, v, _, rfl, hv, srt_lim hlm, fun hb x H3 s3 hx => ?_, fun hb H3 s3 => ?_⟩
    · exact k2 le (big_srt.mp hb) x H3 (fun q o h _ => s3 _ _ (s2 _ _ h)) hx
    · exact ⟨_, rfl, k3 le (fun h => hb (big_srt.mpr h)) v H3 (s2.trans s3) (dp_same s3 hv)⟩
end
end K8


set_option Elab.async false
set_option linter.all false
set_option maxRecDepth 100000
set_option maxHeartbeats 4000000
namespace K8
open PySem L2 Nd Bk Gd PySem.ExE
section
variable {κ : Type} [DecidableEq κ] [Ky κ]
theorem len_ge1 (l : Bag κ) (p : κ × Int) : l.length ≤ (add1 l p).length := by
  unfold add1 put
  split
  · rw [List.length_map]; exact Nat.le_refl _
  · rw [List.length_append]; exact Nat.le_add_right _ _
theorem len_geF : ∀ (ts l : Bag κ), l.length ≤ (ts.foldl add1 l).length
  | [], l => Nat.le_refl _
  | p :: ts, l => Nat.le_trans (len_ge1 l p) (len_geF ts (add1 l p))
theorem book_mono (ts us : Bag κ) : (book ts).length ≤ (book (ts ++ us)).length := by
  rw [book_app]
  exact len_geF us (book ts)
end
theorem Told.of {K : PySem.W.Frag} {C : Addr} {B : Poly} {H H1 : Hp} {Q : VK} {E : XK} {d : Addr} {es : List Ent} (t : Told K C B H Q E) (s : Same H H1) (nd : H d = none) (e : bagOf es = capB B) :
    (400 < es.length → ∀ x H', Same H1 H' → H' x = some (.xd [("word", .str "terms")]) → E (.ref C) (some x) H') ∧ (es.length ≤ 400 → Big (bagOf es) → ∀ x H', But d H1 H' → H' x = some (.xd [("word", .str "figures")]) → E (.ref C) (some x) H') ∧
    (es.length ≤ 400 → ¬ Big (bagOf es) → ∀ v H', Same H1 H' → Dp K H' v (bD (srt (bagOf es))) → Q v H') := by
  have el : es.length = B.length := by rw [← bagOf_len, e, cap_len]
  rw [el, e]
  refine ⟨fun h x H' s' hx => t.terms h x H' (s.trans s') hx, fun h b x H' s' hx => t.figs h ((big_cap B).mp b) x H' (sm_but s nd s') hx, fun h b v H' s' hv => ?_⟩
  have nb : ¬ Big B := fun q => b ((big_cap B).mpr q)
  rw [cap_id nb] at hv
  exact t.poly h nb v H' (s.trans s') hv
/-- what is asked of terms -/
structure Tms (p : Poly) : Prop where
  ok : POk p
  len : p.length ≤ 500
  mon : ∀ t ∈ p, t.1.length ≤ 500
  num : ∀ t ∈ p, t.2 < BEY
theorem Tms.szd {p : Poly} (h : Tms p) : Szd p := ⟨Nat.le_trans h.len (by decide), fun t ht => Nat.le_trans (h.mon t ht) (by decide)⟩
def spPlus2 (K : PySem.W.Frag) (C : Addr) : Sp := fun vs H Q E => ∃ (x y : V) (p q : Poly), vs = [x, y] ∧ FD K H x (bD p) ∧ FD K H y (bD q) ∧ Tms p ∧ Tms q ∧ Told K C (book (p ++ q)) H Q E
def spProd2 (K : PySem.W.Frag) (P : Program) (w : World) (C : Addr) : Sp := fun vs H Q E => ∃ (T1 T2 : Addr) (xs ys : List V) (p q : Poly), vs = [.ref T1, .ref T2] ∧ Fz K H T1 xs p ∧ Fz K H T2 ys q ∧ Tms p ∧ Tms q ∧ p.length * q.length ≤ 1000 ∧
  (400 < (book (prods p q)).length → ∀ x H', Same H H' → H' x = some (.xd [("word", .str "terms")]) → E (.ref C) (some x) H') ∧
  ∀ (d : Addr) (es : List Ent) (H' : Hp), H d = none → Same H H' → NdAt K P w H' d es → bagOf es = capB (book (prods p q)) → Q (.ref d) H'
def spTimes2 (K : PySem.W.Frag) (C : Addr) : Sp := fun vs H Q E => ∃ (x y : V) (p q : Poly), vs = [x, y] ∧ FD K H x (bD p) ∧ FD K H y (bD q) ∧ Tms p ∧ Tms q ∧ p.length * q.length ≤ 1000 ∧ Told K C (book (prods p q)) H Q E
section
variable {P : Program} {w : World} {K : PySem.W.Frag} {mg : Str → Option Value} {base : Heap} {T C fI : Addr}
theorem ok_plus2 {f : Addr} {fd : FuncData} (F : Fun K "plus" "plus" sPlus f fd) (N : Cn K mg) (Gf : Df P w K mg base 1 "frozen" ["p"] (spFroz2 K)) (Gp : Df P w K mg base 1 "put" ["found", "monomial", "coefficient"] (spPut2 K P w))
    {fy : Addr} {fdy : FuncData} (gY : mg "poly_of" = some (.ref fy)) (kY : PySem.W.keepIn K (.ref fy) = true) (bY : Binds K fdy ["found"] []) (GY : FnOk P w K mg base (L2.CX P w) 3 fy fdy ["found"] (spPolyR K P w C)) :
    FnOk P w K mg base (L2.CX P w) 4 f fd ["p", "q"] (spPlus2 K C) := by
  obtain ⟨ff, fdf, gF, kF, bF, GF⟩ := Gf.ok
  obtain ⟨fp, fdp, gP, kP, bP, GP⟩ := Gp.ok
  refine F.okX scPlus (fun vs H Q E h => ?_) (fun cdv A outer s H vs Q E hr h => ?_)
  · obtain ⟨x, y, p, q, rfl, _⟩ := h
    rfl
  · obtain ⟨x, y, p, q, rfl, hx, hy, zp, zq, told⟩ := h
    have hr1 : Room 1 _ := hr.mono (by decide)
    have tk := takes_of (X := cxOf (L2.CX P w) P w K mg base ["p", "q", "found", "monomial", "coefficient"] "plus" (defScope sPlus) f cdv A outer s H E) (E := E) rfl rfl rfl rfl
    refine ⟨_, pss_cons (ps_set (i := 2) scPlus.nd rfl (Or.inl rfl) (show PE _ _ (tNdNew P w) from pe_ndNew))
      (pss_cons (ps_for (passes_of rfl) rfl (pi_tup (pe_op op_catA (pe_call GF hr1 rfl gF kF bF .nil pass0 (pa_cons (pv 0) pa_nil)) (pe_call GF hr1 rfl gF kF bF .nil pass0 (pa_cons (pv 1) pa_nil))))
        (pg_tup rfl (pgs_cons (pg_name (i := 3) scPlus.nd rfl (Or.inl rfl)) (pgs_cons (pg_name (i := 4) scPlus.nd rfl (Or.inl rfl)) pgs_nil)))
        (pss_one (ps_expr (pe_call GP hr1 rfl gP kP bP .nil pass0 (pa_cons (pv 2) (pa_cons (pv 3) (pa_cons (pv 4) pa_nil)))))))
      (pss_one (ps_ret (pe_callS GY hr rfl gY kY bY (fun σ => passAt tk σ) (pa_cons (pv 2) pa_nil))))), ?_⟩
    intro d nd
    have s0 : Same H (upd H d (ndO P w d [])) := sm_new sm_refl nd
    have n0 : NdAt K P w (upd H d (ndO P w d [])) d [] := ⟨upd_same, fun e he => nomatch he⟩
    generalize upd H d (ndO P w d []) = H0 at s0 n0 ⊢
    refine ⟨_, rfl, x, p, rfl, hx.same s0, zp.szd, fun T1 xs H1 s1 z1 => ?_⟩
    refine ⟨_, rfl, y, q, rfl, hy.same (s0.trans s1), zq.szd, fun T2 ys H2 s2 z2 => ?_⟩
    have z1' := z1.same s2
    have lp := zp.len
    have lq := zq.len
    refine rcat_mk z1'.sq z2.sq (by rw [z1.len, z2.len, sizeLine_eq]; omega) fun r H3 s3 hr3 => ?_
    have s03 := (s1.trans s2).trans s3
    have all3 : DpAll K H3 (xs ++ ys) ((p ++ q).map encP) := by
      rw [List.map_append]
      exact dpAll_append (z1'.same s3).all (z2.same s3).all
    have lz : (xs ++ ys).length = (p ++ q).length := by rw [List.length_append, List.length_append, z1.len, z2.len]
    have n3 := nd_back n0 s03
    have nt3 : NotT (H3 d) := by rw [n3.at_]; exact notT_nd
    have pos : Pos (p ++ q) := pos_append zp.ok.2.1 zq.ok.2.1
    have len : (p ++ q).length ≤ 1000 := by rw [List.length_append]; omega
    refine ⟨r, rfl, ⟨_, hr3⟩, ?_⟩
    refine for_tup (K := K) (a := r) (xs := xs ++ ys) (fun i σ H4 => (∃ a b, σ = [some x, some y, some (.ref d), a, b]) ∧ But d H3 H4 ∧ ∃ es, NdAt K P w H4 d es ∧ bagOf es = capB (book ((p ++ q).take i))) ⟨⟨none, none, rfl⟩, But.refl, [], n3, rfl⟩
      (fun i σ H4 _ ⟨_, b4, _⟩ => sqT_kt (.but nt3 b4) hr3) ?_ ?_
    · rintro i u σ H4 hi ⟨⟨a, b, rfl⟩, b4, es, n4, e4⟩
      have k4 : KeepT H3 H4 := .but nt3 b4
      obtain ⟨t, ht, hu⟩ := bag_get (bA_kt k4 all3) hi
      obtain ⟨T, kk, rfl, hT, hk⟩ := dp_pair hu
      obtain ⟨b', zs, rfl, _⟩ := dp_bag (κ := Str) hk
      refine ⟨T, _, rfl, hT, rfl, _, _, rfl, _, _, rfl, rfl, _, rfl, _, rfl, _, rfl, ?_⟩
      have el : es.length ≤ 1000 := by
        rw [← bagOf_len, e4, cap_len]
        refine Nat.le_trans (len_book _) ?_
        rw [List.length_take]
        omega
      refine ⟨d, b', es, t.1, t.2, rfl, n4, hk, by omega, ?_⟩
      refine ⟨⟨_, _, rfl⟩, b4.trans But.upd, _, nd_put n4 hk, ?_⟩
      have tp := Int.le_of_lt (pos t (List.mem_of_getElem? ht))
      rw [bagOf_put, ← look_bagOf, e4, add_capB _ _ tp, List.take_succ, ht, show (some t).toList = [t] from rfl, book_snoc]
    · rintro σ H4 ⟨⟨a, b, rfl⟩, b4, es, n4, e4⟩
      rw [lz, List.take_length] at e4
      have s4 : Same H H4 := sm_but (s0.trans s03) nd b4
      refine ⟨_, rfl, d, es, rfl, n4, ?_, ?_, Told.of told s4 nd e4⟩
      · rw [← bagOf_len, e4, cap_len]
        exact Nat.le_trans (len_book _) len
      · rw [e4]
        intro t ht
        obtain ⟨e, he, rfl⟩ := List.mem_map.mp ht
        exact book_keys (Pk := fun m => m.length ≤ 1000) (fun t ht => (List.mem_append.mp ht).elim (fun h => Nat.le_trans (zp.mon t h) (by decide)) fun h => Nat.le_trans (zq.mon t h) (by decide)) e he
theorem ok_prod2 {f : Addr} {fd : FuncData} (F : Fun K "product_terms" "product_terms" sProd f fd) (Gj : Df P w K mg base 1 "_joined" ["monomial", "another"] (spJoin K)) (Gp : Df P w K mg base 1 "put" ["found", "monomial", "coefficient"] (spPut2 K P w))
    {fc : Addr} {fdc : FuncData} (gC : mg "check_terms" = some (.ref fc)) (kC : PySem.W.keepIn K (.ref fc) = true) (bC : Binds K fdc ["terms"] []) (GC : FnOk P w K mg base (L2.CX P w) 2 fc fdc ["terms"] (spChk2 K P w C)) :
    FnOk P w K mg base (L2.CX P w) 3 f fd ["terms", "others"] (spProd2 K P w C) := by
  obtain ⟨fj, fdj, gJ, kJ, bJ, GJ⟩ := Gj.ok
  obtain ⟨fp, fdp, gP, kP, bP, GP⟩ := Gp.ok
  refine F.okX scProd (fun vs H Q E h => ?_) (fun cdv A outer s H vs Q E hr h => ?_)
  · obtain ⟨x, y, xs, ys, p, q, rfl, _⟩ := h
    rfl
  · obtain ⟨T1, T2, xs, ys, p, q, rfl, hx, hy, zp, zq, zl, k1, k⟩ := h
    have hr1 : Room 1 _ := hr.mono (by decide)
    have tk := takes_of (X := cxOf (L2.CX P w) P w K mg base ["terms", "others", "found", "monomial", "coefficient", "another", "factor"] "product_terms" (defScope sProd) f cdv A outer s H E) (E := E) rfl rfl rfl rfl
    refine ⟨_, pss_cons (ps_set (i := 2) scProd.nd rfl (Or.inl rfl) (show PE _ _ (tNdNew P w) from pe_ndNew))
      (pss_cons (ps_for (passes_of rfl) rfl (pi_tup (pv 0)) (pg_tup rfl (pgs_cons (pg_name (i := 3) scProd.nd rfl (Or.inl rfl)) (pgs_cons (pg_name (i := 4) scProd.nd rfl (Or.inl rfl)) pgs_nil)))
        (pss_cons (ps_for (passes_of rfl) rfl (pi_tup (pv 1)) (pg_tup rfl (pgs_cons (pg_name (i := 5) scProd.nd rfl (Or.inl rfl)) (pgs_cons (pg_name (i := 6) scProd.nd rfl (Or.inl rfl)) pgs_nil)))
          (pss_one (ps_expr (pe_call GP hr1 rfl gP kP bP .nil pass0 (pa_cons (pv 2) (pa_cons (pe_call GJ hr1 rfl gJ kJ bJ .nil pass0 (pa_cons (pv 3) (pa_cons (pv 5) pa_nil))) (pa_cons (pe_op op_mulW (pv 4) (pv 6)) pa_nil)))))))
        (pss_one (ps_expr (pe_callS GC hr rfl gC kC bC (fun σ => passAt tk σ) (pa_cons (pv 2) pa_nil))))))
      (pss_one (ps_ret (pv 2)))), ?_⟩
    intro d nd
    have s0 : Same H (upd H d (ndO P w d [])) := sm_new sm_refl nd
    have n0 : NdAt K P w (upd H d (ndO P w d [])) d [] := ⟨upd_same, fun e he => nomatch he⟩
    generalize upd H d (ndO P w d []) = H0 at s0 n0 ⊢
    have nt : NotT (H0 d) := by rw [n0.at_]; exact notT_nd
    have hx0 := hx.same s0
    have hy0 := hy.same s0
    have pos := pos_of_prods zp.ok zq.ok
    have lenB : ∀ {A : Poly}, A.length ≤ (prods p q).length → (book A).length ≤ 1000 := fun {A} h => by
      refine Nat.le_trans (len_book A) (Nat.le_trans h ?_)
      rw [len_prods]
      exact zl
    refine ⟨_, rfl, T1, rfl, ⟨_, hx0.sq⟩, ?_⟩
    refine for_tup (K := K) (a := T1) (xs := xs) (fun i σ H4 => (∃ a b c e, σ = [some (.ref T1), some (.ref T2), some (.ref d), a, b, c, e]) ∧ But d H0 H4 ∧ ∃ es, NdAt K P w H4 d es ∧ bagOf es = capB (book (prods (p.take i) q))) ⟨⟨none, none, none, none, rfl⟩, But.refl, [], n0, rfl⟩
      (fun i σ H4 _ ⟨_, b4, _⟩ => sqT_kt (.but nt b4) hx0.sq) ?_ ?_
    · rintro i x σ H4 hi ⟨⟨a, b, c, e, rfl⟩, b4, es, n4, e4⟩
      have k4 : KeepT H0 H4 := .but nt b4
      obtain ⟨t, ht, T, m1, rfl, hT, hpl, hm1⟩ := paired_get (hx0.kt k4).pl hi
      have htp : t ∈ p := List.mem_of_getElem? ht
      refine ⟨T, _, rfl, hT, rfl, _, _, rfl, _, _, rfl, rfl, ?_⟩
      refine ⟨_, rfl, T2, rfl, ⟨_, (hy0.kt k4).sq⟩, ?_⟩
      refine for_tup (K := K) (a := T2) (xs := ys) (fun j σ H5 => (∃ c e, σ = [some (.ref T1), some (.ref T2), some (.ref d), some (.ref m1), some (.int t.2), c, e]) ∧ But d H4 H5 ∧ ∃ es, NdAt K P w H5 d es ∧
        bagOf es = capB (book (prods (p.take i) q ++ (q.take j).map fun b => (mulM t.1 b.1, t.2 * b.2)))) ⟨⟨_, _, rfl⟩, But.refl, es, n4, by rw [List.take_zero, List.map_nil, List.append_nil]; exact e4⟩
        (fun j σ H5 _ ⟨_, b5, _⟩ => sqT_kt (.but nt (b4.trans b5)) hy0.sq) ?_ ?_
      · rintro j y σ H5 hj ⟨⟨c, e, rfl⟩, b5, es5, n5, e5⟩
        have nt4 : NotT (H4 d) := by rw [n4.at_]; exact notT_nd
        have k5 : KeepT H0 H5 := .but nt (b4.trans b5)
        obtain ⟨u, hu, U, m2, rfl, hU, _, hm2⟩ := paired_get (hy0.kt k5).pl hj
        have huq : u ∈ q := List.mem_of_getElem? hu
        obtain ⟨o, zs, ho1, ho2⟩ := hpl
        have hpl5 : PlainT H5 m1 := ⟨o, zs, (KeepT.but nt4 b5).2 _ _ _ ho1, ho2⟩
        have hm1' : Dp K H5 (.ref m1) (bD t.1) := bD_kt (κ := Str) (KeepT.but nt4 b5) hm1
        refine ⟨U, _, rfl, hU, rfl, _, _, rfl, _, _, rfl, rfl, ?_⟩
        refine ⟨_, rfl, _, rfl, _, rfl, m1, m2, t.1, u.1, rfl, hpl5, hm1', hm2, zp.ok.2.2 t htp, zq.ok.2.2 u huq, zp.szd.2 t htp, zq.szd.2 u huq, fun c' H6 s6 hc' => ?_⟩
        have t0 := zp.ok.2.1 t htp
        have u0 := zq.ok.2.1 u huq
        have tS := zp.num t htp
        have uS := zq.num u huq
        refine ⟨_, rfl, _, rfl, _, _, rfl, rfl, wide_mul (natAbs_bey (by omega) (by omega)) (natAbs_bey (by omega) (by omega)) (by decide) (by decide) (by decide), ?_⟩
        obtain ⟨B, hB⟩ := prods_split (q := q) ht hu
        have el : es5.length ≤ 1000 := by
          rw [← bagOf_len, e5, cap_len]
          refine lenB ?_
          rw [hB, List.length_append (as := prods (p.take i) q ++ _)]
          exact Nat.le_add_right _ _
        have n6 := nd_back n5 s6
        refine ⟨d, c', es5, mulM t.1 u.1, t.2 * u.2, rfl, n6, hc', by omega, ?_⟩
        refine ⟨⟨_, _, rfl⟩, (b5.same s6).trans But.upd, _, nd_put n6 hc', ?_⟩
        have tu0 : 0 ≤ t.2 * u.2 := Int.mul_nonneg (by omega) (by omega)
        rw [bagOf_put, ← look_bagOf, e5, add_capB _ _ tu0, List.take_succ, hu, show (some u).toList = [u] from rfl, List.map_append, List.map_cons, List.map_nil, ← List.append_assoc, book_snoc]
      · rintro σ H5 ⟨⟨c, e, rfl⟩, b5, es5, n5, e5⟩
        rw [hy.len, List.take_length, ← prods_take_succ ht] at e5
        have s5 : Same H H5 := sm_but s0 nd (b4.trans b5)
        have el : es5.length = (book (prods (p.take (i + 1)) q)).length := by rw [← bagOf_len, e5, cap_len]
        have mono : (book (prods (p.take (i + 1)) q)).length ≤ (book (prods p q)).length := by
          have e1 : prods p q = prods (p.take (i + 1)) q ++ prods (p.drop (i + 1)) q := by rw [← prods_app, List.take_append_drop]
          rw [e1]
          exact book_mono _ _
        refine ⟨_, rfl, d, es5, rfl, n5, fun hgt x H6 s6 hx6 => k1 (by omega) x H6 (s5.trans s6) hx6, fun _ => ?_⟩
        exact ⟨⟨_, _, _, _, rfl⟩, b4.trans b5, es5, n5, e5⟩
    · rintro σ H4 ⟨⟨a, b, c, e, rfl⟩, b4, es, n4, e4⟩
      rw [hx.len, List.take_length] at e4
      exact ⟨_, rfl, k d es H4 nd (sm_but s0 nd b4) n4 e4⟩
theorem ok_times2 {f : Addr} {fd : FuncData} (F : Fun K "times" "times" sTimes f fd) (Gf : Df P w K mg base 1 "frozen" ["p"] (spFroz2 K))
    {fp : Addr} {fdp : FuncData} (gP : mg "product_terms" = some (.ref fp)) (kP : PySem.W.keepIn K (.ref fp) = true) (bP : Binds K fdp ["terms", "others"] []) (GP : FnOk P w K mg base (L2.CX P w) 3 fp fdp ["terms", "others"] (spProd2 K P w C))
    {fy : Addr} {fdy : FuncData} (gY : mg "poly_of" = some (.ref fy)) (kY : PySem.W.keepIn K (.ref fy) = true) (bY : Binds K fdy ["found"] []) (GY : FnOk P w K mg base (L2.CX P w) 3 fy fdy ["found"] (spPolyR K P w C)) :
    FnOk P w K mg base (L2.CX P w) 4 f fd ["p", "q"] (spTimes2 K C) := by
  obtain ⟨ff, fdf, gF, kF, bF, GF⟩ := Gf.ok
  refine F.okX scTimes (fun vs H Q E h => ?_) (fun cdv A outer s H vs Q E hr h => ?_)
  · obtain ⟨x, y, p, q, rfl, _⟩ := h
    rfl
  · obtain ⟨x, y, p, q, rfl, hx, hy, zp, zq, zl, told⟩ := h
    have hr1 : Room 1 _ := hr.mono (by decide)
    have tk := takes_of (X := cxOf (L2.CX P w) P w K mg base ["p", "q"] "times" (defScope sTimes) f cdv A outer s H E) (E := E) rfl rfl rfl rfl
    refine ⟨_, pss_one (ps_ret (pe_callS GY hr rfl gY kY bY (fun σ => passAt tk σ) (pa_cons (pe_callS GP hr rfl gP kP bP (fun σ => passAt tk σ) (pa_cons (pe_call GF hr1 rfl gF kF bF .nil pass0 (pa_cons (pv 0) pa_nil)) (pa_cons (pe_call GF hr1 rfl gF kF bF .nil pass0 (pa_cons (pv 1) pa_nil)) pa_nil))) pa_nil))), ?_⟩
    refine ⟨_, rfl, x, p, rfl, hx, zp.szd, fun T1 xs H1 s1 z1 => ?_⟩
    refine ⟨_, rfl, y, q, rfl, hy.same s1, zq.szd, fun T2 ys H2 s2 z2 => ?_⟩
    have s12 := s1.trans s2
    refine ⟨T1, T2, xs, ys, p, q, rfl, z1.same s2, z2, zp, zq, zl, fun h x H' s' hx => told.terms h x H' (s12.trans s') hx, fun d es H3 nd s3 n3 e3 => ?_⟩
    have ndH : H d = none := s12.free nd
    refine ⟨d, es, rfl, n3, ?_, ?_, Told.of told (s12.trans s3) ndH e3⟩
    · rw [← bagOf_len, e3, cap_len]
      refine Nat.le_trans (len_book _) ?_
      rw [len_prods]
      exact zl
    · rw [e3]
      intro t ht
      obtain ⟨e, he, rfl⟩ := List.mem_map.mp ht
      refine book_keys (Pk := fun m => m.length ≤ 1000) (fun t ht => ?_) e he
      obtain ⟨a, ha, b, hb, rfl⟩ := mem_prods ht
      refine Nat.le_trans (nf_len _) ?_
      have h1 := zp.mon a ha
      have h2 := zq.mon b hb
      rw [List.length_append]
      omega
end
end K8


set_option Elab.async false
set_option linter.all false
set_option maxRecDepth 100000
set_option maxHeartbeats 4000000
namespace K8
open PySem L2 Nd Bk Gd PySem.ExE
/-- a def that may raise, called where it doesn't -/
theorem calm0 {P : Program} {w : World} {K : PySem.W.Frag} {mg : Str → Option Value} {base : Heap} {k : Nat} {f : Addr} {fd : FuncData} {ps : List Str} {sp : Sp} (F : FnOk P w K mg base (L2.CX P w) k f fd ps sp) :
    FnOk P w K mg base CX0 k f fd ps (fun vs H Q _ => sp vs H Q fun _ _ _ => False) := by
  refine ⟨fun vs H Q E h => F.len _ _ _ _ h, fun A outer s H args us vs Q E room e0 bind rel h => ?_⟩
  refine codeAny_mono (F.run A outer s H args us vs Q _ room e0 bind rel h) ?_
  intro r s' q
  cases r with
  | error e =>
    obtain ⟨_, _, _, _, _, _, _, _, _, _, _, _, _, _, _, _, z⟩ := q
  | ok fl =>
    cases fl with
    | ret u => exact q
    | next => exact q.elim
    | brk => exact q.elim
    | cont => exact q.elim
/-- the polynomial of one token -/
def tokP (t : Str) : Poly := [([(t, 1)], 1)]
theorem asc_one {κ : Type} [DecidableEq κ] [Ky κ] (x : κ × Int) : Asc [x] := List.pairwise_singleton _ _
theorem pos_one {κ : Type} {x : κ × Int} (h : 0 < x.2) : Pos [x] := fun y hy => by rw [List.mem_singleton.mp hy]; exact h
theorem tokP_ok (t : Str) : POk (tokP t) := ⟨asc_one _, pos_one (by show (0 : Int) < 1; decide), fun x h => by rw [List.mem_singleton.mp h]; exact ⟨asc_one _, pos_one (by show (0 : Int) < 1; decide)⟩⟩
theorem one_ok {m : Mono} (hm : MOk m) {c : Int} (hc : 0 < c) : POk [(m, c)] := ⟨asc_one _, pos_one hc, fun x h => by rw [List.mem_singleton.mp h]; exact hm⟩
theorem times_single (a b : Mono) (c d : Int) (h : 0 < c * d) : timesP [(a, c)] [(b, d)] = [(mulM a b, c * d)] := nf_id (asc_one _) (pos_one h)
theorem plus_single {m : Mono} {c d : Int} (hc : 0 < c) (hd : 0 < d) : plusP [(m, c)] [(m, d)] = [(m, c + d)] := by
  refine one_form (nf_asc _) (asc_one _) (nf_pos (pos_append (pos_one hc) (pos_one hd))) (pos_one (by show 0 < c + d; omega)) fun f => ?_
  unfold plusP
  rw [nf_pr, pr_append, pr_cons, pr_cons, pr_cons, pr_nil]
  simp only [Int.add_mul]
  omega
section
variable {κ : Type} [DecidableEq κ] [Ky κ]
theorem pr_rep (k : Nat) (x : κ) (f : κ → Int) : pr (List.replicate k (x, (1 : Int))) f = k * f x := by
  induction k with
  | zero => simp [pr]
  | succ k ih =>
    rw [List.replicate_succ, pr_cons, ih]
    simp only [Int.natCast_add, Int.add_mul]
    omega
theorem pos_rep (k : Nat) (x : κ) : Pos (List.replicate k (x, (1 : Int))) := fun y hy => by rw [(List.mem_replicate.mp hy).2]; show (0 : Int) < 1; decide
/-- a bag's beginning and so many of the next key -/
def upTo (m : Bag κ) (i k : Nat) (x : κ) : Bag κ := nf (m.take i ++ List.replicate k (x, 1))
theorem pos_upTo {m : Bag κ} (h : Pos m) (i k : Nat) (x : κ) : Pos (m.take i ++ List.replicate k (x, (1 : Int))) := pos_append (fun p hp => h p (List.mem_of_mem_take hp)) (pos_rep k x)
theorem upTo_zero {m : Bag κ} (ha : Asc m) (h : Pos m) (i : Nat) (x : κ) : upTo m i 0 x = m.take i := by
  unfold upTo
  rw [List.replicate_zero, List.append_nil]
  exact nf_id (List.Pairwise.sublist (List.take_sublist _ _) ha) fun p hp => h p (List.mem_of_mem_take hp)
theorem upTo_succ {m : Bag κ} (h : Pos m) (i k : Nat) (x : κ) : nf (upTo m i k x ++ [(x, 1)]) = upTo m i (k + 1) x := by
  refine nf_eq (pos_append (nf_pos (pos_upTo h i k x)) (pos_one (by show (0 : Int) < 1; decide))) (pos_upTo h i (k + 1) x) fun f => ?_
  unfold upTo
  rw [pr_append, nf_pr, pr_append, pr_append, pr_rep, pr_rep, pr_cons, pr_nil]
  simp only [Int.natCast_add, Int.add_mul]
  omega
theorem upTo_full {m : Bag κ} (ha : Asc m) (h : Pos m) {i : Nat} {x : κ × Int} (e : m[i]? = some x) : upTo m i x.2.toNat x.1 = m.take (i + 1) := by
  have hx := h x (List.mem_of_getElem? e)
  have hp : Pos (m.take (i + 1)) := fun p hp => h p (List.mem_of_mem_take hp)
  have ha' : Asc (m.take (i + 1)) := List.Pairwise.sublist (List.take_sublist _ _) ha
  refine one_form (nf_asc _) ha' (nf_pos (pos_upTo h _ _ _)) hp fun f => ?_
  unfold upTo
  rw [nf_pr, pr_append, pr_rep, List.take_succ, e, pr_append]
  have e2 : ((x.2.toNat : Nat) : Int) = x.2 := Int.toNat_of_nonneg (by omega)
  rw [e2]
  show _ = pr (m.take i) f + pr [x] f
  rw [pr_cons, pr_nil, Int.add_zero]
end
theorem plus_next {p : Poly} (h : POk p) {i : Nat} {t : Mono × Int} (e : p[i]? = some t) : plusP (p.take i) [t] = p.take (i + 1) := by
  have hp : Pos (p.take (i + 1)) := fun x hx => h.2.1 x (List.mem_of_mem_take hx)
  have ha' : Asc (p.take (i + 1)) := List.Pairwise.sublist (List.take_sublist _ _) h.1
  have e1 : p.take i ++ [t] = p.take (i + 1) := by rw [List.take_succ, e]; rfl
  unfold plusP
  rw [e1]
  exact nf_id ha' hp
end K8


set_option Elab.async false
set_option linter.all false
set_option maxRecDepth 100000
set_option maxHeartbeats 4000000
namespace K8
open PySem L2 Nd Bk Gd PySem.ExE
/-- plus, times of forms, where nothing goes beyond -/
def spPlusF (K : PySem.W.Frag) : Sp := fun vs H Q _ => ∃ (x y : V) (p q : Poly), vs = [x, y] ∧ FD K H x (bD p) ∧ FD K H y (bD q) ∧ Tms p ∧ Tms q ∧ p.length + q.length ≤ 400 ∧ ¬ Big (book (p ++ q)) ∧ ∀ (v : V) (H' : Hp), Same H H' → Dp K H' v (bD (plusP p q)) → Q v H'
def spTimesF (K : PySem.W.Frag) : Sp := fun vs H Q _ => ∃ (x y : V) (p q : Poly), vs = [x, y] ∧ FD K H x (bD p) ∧ FD K H y (bD q) ∧ Tms p ∧ Tms q ∧ p.length * q.length ≤ 400 ∧ ¬ Big (book (prods p q)) ∧ ∀ (v : V) (H' : Hp), Same H H' → Dp K H' v (bD (timesP p q)) → Q v H'
theorem not_big {ts : Poly} (hp : Pos ts) (hs : S ts < BEY) (hm : ∀ t ∈ ts, Pos t.1 ∧ S t.1 < BEY) : ¬ Big (book ts) := fun ⟨t, ht, h⟩ => by
  have h1 := le_S (pos_book hp) ht
  rw [S_book] at h1
  obtain ⟨h2, h3⟩ := book_keys (Pk := fun m => Pos m ∧ S m < BEY) hm t ht
  rcases h with h | ⟨x, hx, h⟩
  · omega
  · have := le_S h2 hx
    omega
/-- so many terms, numbers and exponents that stay below -/
structure PZ (p : Poly) (l : Nat) (s d : Int) : Prop where
  ok : POk p
  len : p.length ≤ l
  sz : S p ≤ s
  dg : Dg p d
theorem PZ.tms {p : Poly} {l : Nat} {s d : Int} (z : PZ p l s d) (h1 : l ≤ 500) (h2 : s < BEY) (h3 : d ≤ 500) : Tms p := ⟨z.ok, Nat.le_trans z.len h1, fun t ht => by
    have := len_le_S (z.ok.2.2 t ht).2
    have := z.dg t ht
    omega, fun t ht => by
    have := le_S z.ok.2.1 ht
    have := z.sz
    omega⟩
theorem PZ.sz0 {p : Poly} {l : Nat} {s d : Int} (h : PZ p l s d) : 0 ≤ S p := S_nonneg h.ok.2.1
section
variable {K : PySem.W.Frag} {H : Hp} {x y : V} {p q : Poly} {l l' : Nat} {s s' d d' : Int} {Q : VK}
theorem go_plusF (hx : FD K H x (bD p)) (hy : FD K H y (bD q)) (zp : PZ p l s d) (zq : PZ q l' s' d') (h1 : l + l' ≤ 400) (h2 : s + s' < BEY) (h3 : d ≤ 500) (h4 : d' ≤ 500) (h5 : 0 ≤ s) (h6 : 0 ≤ s')
    (k : ∀ (v : V) (H' : Hp), Same H H' → Dp K H' v (bD (plusP p q)) → Q v H') : spPlusF K [x, y] H Q E0 := by
  have a1 := zp.len
  have a2 := zq.len
  have a3 := zp.sz
  have a4 := zq.sz
  have b0 : (500 : Int) < BEY := by decide +kernel
  refine ⟨x, y, p, q, rfl, hx, hy, zp.tms (by omega) (by omega) h3, zq.tms (by omega) (by omega) h4, by omega, ?_, k⟩
  refine not_big (pos_append zp.ok.2.1 zq.ok.2.1) (by rw [S_append]; omega) fun t ht => ?_
  rcases List.mem_append.mp ht with h | h
  · have := zp.dg t h
    exact ⟨(zp.ok.2.2 t h).2, by omega⟩
  · have := zq.dg t h
    exact ⟨(zq.ok.2.2 t h).2, by omega⟩
theorem go_timesF (hx : FD K H x (bD p)) (hy : FD K H y (bD q)) (zp : PZ p l s d) (zq : PZ q l' s' d') (h1 : l * l' ≤ 400) (h2 : s * s' < BEY) (h3 : d ≤ 250) (h4 : d' ≤ 250) (h5 : l ≤ 500) (h6 : l' ≤ 500) (h7 : s < BEY) (h8 : s' < BEY)
    (k : ∀ (v : V) (H' : Hp), Same H H' → Dp K H' v (bD (timesP p q)) → Q v H') : spTimesF K [x, y] H Q E0 := by
  have a1 := zp.len
  have a2 := zq.len
  have a3 : S p * S q ≤ s * s' := Int.mul_le_mul zp.sz zq.sz zq.sz0 (Int.le_trans zp.sz0 zp.sz)
  have b0 : (500 : Int) < BEY := by decide +kernel
  refine ⟨x, y, p, q, rfl, hx, hy, zp.tms h5 h7 (by omega), zq.tms h6 h8 (by omega), Nat.le_trans (Nat.mul_le_mul a1 a2) h1, ?_, k⟩
  refine not_big (pos_of_prods zp.ok zq.ok) (by rw [S_prods]; omega) fun t ht => ?_
  obtain ⟨a, ha, b, hb, rfl⟩ := mem_prods ht
  have e1 := zp.dg a ha
  have e2 := zq.dg b hb
  refine ⟨(mulM_ok (zp.ok.2.2 a ha) (zq.ok.2.2 b hb)).2, ?_⟩
  show S (mulM a.1 b.1) < BEY
  rw [S_mulM]
  omega
end
section
variable {P : Program} {w : World} {K : PySem.W.Frag} {mg : Str → Option Value} {base : Heap} {C : Addr}
theorem plusF_of {k : Nat} {f : Addr} {fd : FuncData} (F : FnOk P w K mg base (L2.CX P w) k f fd ["p", "q"] (spPlus2 K C)) : FnOk P w K mg base CX0 k f fd ["p", "q"] (spPlusF K) := by
  refine (calm0 F).imp ?_
  rintro vs H Q E ⟨x, y, p, q, rfl, hx, hy, zp, zq, hl, nb, k⟩
  have lb : (book (p ++ q)).length ≤ 400 := Nat.le_trans (len_book _) (by rw [List.length_append]; exact hl)
  exact ⟨x, y, p, q, rfl, hx, hy, zp, zq, ⟨fun h => by omega, fun _ h => absurd h nb, fun _ _ v H' s' hv => k v H' s' hv⟩⟩
theorem timesF_of {k : Nat} {f : Addr} {fd : FuncData} (F : FnOk P w K mg base (L2.CX P w) k f fd ["p", "q"] (spTimes2 K C)) : FnOk P w K mg base CX0 k f fd ["p", "q"] (spTimesF K) := by
  refine (calm0 F).imp ?_
  rintro vs H Q E ⟨x, y, p, q, rfl, hx, hy, zp, zq, hl, nb, k⟩
  have lb : (book (prods p q)).length ≤ 400 := Nat.le_trans (len_book _) (by rw [len_prods]; exact hl)
  exact ⟨x, y, p, q, rfl, hx, hy, zp, zq, by omega, ⟨fun h => by omega, fun _ h => absurd h nb, fun _ _ v H' s' hv => k v H' s' hv⟩⟩
def spOfTok (K : PySem.W.Frag) : Sp := fun vs H Q _ => ∃ t : Str, vs = [.str t] ∧ ∀ (v : V) (H' : Hp), Same H H' → Dp K H' v (bD (tokP t)) → Q v H'
end
end K8


set_option Elab.async false
set_option linter.all false
set_option maxRecDepth 100000
set_option maxHeartbeats 4000000
namespace K8
open PySem L2 Nd Bk Gd PySem.ExE
theorem ak_int {K : PySem.W.Frag} {H : Hp} {n : Nat} {x y : V} {i : Int} (hx : Dp K H x (.int i)) (hy : Dp K H y (.int i)) : Alike K H n x y := by
  cases dp_int hx
  cases dp_int hy
  cases n with
  | zero => exact ⟨rfl, trivial⟩
  | succ n => exact .inl ⟨rfl, trivial⟩
theorem ak_str {K : PySem.W.Frag} {H : Hp} {n : Nat} {x y : V} {i : Str} (hx : Dp K H x (.str i)) (hy : Dp K H y (.str i)) : Alike K H n x y := by
  cases dp_str hx
  cases dp_str hy
  cases n with
  | zero => exact ⟨rfl, trivial⟩
  | succ n => exact .inl ⟨rfl, trivial⟩
theorem ak_sc {K : PySem.W.Frag} {H : Hp} {n : Nat} {x y : V} {d : PyData} (s : Sc d) (hx : Dp K H x d) (hy : Dp K H y d) : Alike K H n x y := by
  cases s with
  | int i => exact ak_int hx hy
  | non =>
    cases hx
    cases hy
    cases n with
    | zero => exact ⟨rfl, trivial⟩
    | succ n => exact .inl ⟨rfl, trivial⟩
  | bl b =>
    cases hx
    cases hy
    cases n with
    | zero => exact ⟨rfl, trivial⟩
    | succ n => exact .inl ⟨rfl, trivial⟩
/-- the same data of tuples, so deep -/
theorem ak_dp {K : PySem.W.Frag} {H : Hp} : ∀ {n : Nat} {d : PyData} {x y : V}, Okd n d → Dp K H x d → Dp K H y d → Alike K H n x y
  | 0, d, x, y, h, hx, hy => by
    rcases h with h | ⟨z, rfl⟩
    · exact ak_sc h hx hy
    · exact ak_str hx hy
  | n + 1, d, x, y, h, hx, hy => by
    rcases h with h | ⟨z, rfl⟩ | ⟨ds, rfl, hl, hds⟩
    · exact ak_sc h hx hy
    · exact ak_str hx hy
    · obtain ⟨a, xs, rfl, h1, h2⟩ := dp_tup hx
      obtain ⟨b, ys, rfl, h3, h4⟩ := dp_tup hy
      refine .inr ⟨a, b, xs, ys, rfl, rfl, .inl ⟨h1, h3⟩, by rw [dpAll_len h2, dpAll_len h4], by rw [dpAll_len h4]; omega, fun i u v e1 e2 => ?_⟩
      obtain ⟨d1, q1, r1⟩ := dpAll_get h2 e1
      obtain ⟨d2, q2, r2⟩ := dpAll_get h4 e2
      rw [q1] at q2
      cases q2
      exact ak_dp (hds d1 (List.mem_of_getElem? q1)) r1 r2
theorem okd_more : ∀ {n : Nat} {d : PyData}, Okd n d → Okd (n + 1) d
  | 0, d, h => h.elim .inl fun z => .inr (.inl z)
  | n + 1, d, h => by
    rcases h with h | h | ⟨ds, rfl, hl, hds⟩
    · exact .inl h
    · exact .inr (.inl h)
    · exact .inr (.inr ⟨ds, rfl, hl, fun e he => okd_more (hds e he)⟩)
theorem okd_mono {m : Mono} (h : m.length ≤ 1000) : Okd 2 (bD m) := .inr (.inr ⟨_, rfl, by rw [List.length_map]; exact h, fun e he => by
  obtain ⟨p, _, rfl⟩ := List.mem_map.mp he
  refine .inr (.inr ⟨_, rfl, by show 2 ≤ 1000; decide, fun e he => ?_⟩)
  simp only [List.mem_cons, List.not_mem_nil, or_false] at he
  rcases he with rfl | rfl
  · exact .inr ⟨_, rfl⟩
  · exact .inl (.int _)⟩)
theorem okd_poly {p : Poly} (h : Szd p) : Okd 4 (bD p) := .inr (.inr ⟨_, rfl, by rw [List.length_map]; exact h.1, fun e he => by
  obtain ⟨t, ht, rfl⟩ := List.mem_map.mp he
  refine .inr (.inr ⟨_, rfl, by show 2 ≤ 1000; decide, fun e he => ?_⟩)
  simp only [List.mem_cons, List.not_mem_nil, or_false] at he
  rcases he with rfl | rfl
  · exact okd_mono (h.2 t ht)
  · exact .inl (.int _)⟩)
theorem S_le5 {l : Poly} (hl : l.length ≤ 5) (h : ∀ t ∈ l, t.2 ≤ 5) : S l ≤ 25 := by
  have key : ∀ (l : Poly) (n : Nat), l.length ≤ n → (∀ t ∈ l, t.2 ≤ 5) → S l ≤ 5 * n := by
    intro l
    induction l with
    | nil =>
      intro n _ _
      show (0 : Int) ≤ 5 * n
      omega
    | cons x r ih =>
      intro n hl h
      have h1 := h x List.mem_cons_self
      rw [List.length_cons] at hl
      have h2 := ih (n - 1) (by omega) fun t ht => h t (List.mem_cons_of_mem _ ht)
      have e : S (x :: r) = x.2 * 1 + S r := by unfold S pr; simp
      omega
  exact key l 5 hl h
/-- few terms of small numbers -/
structure PF (p : Poly) : Prop where
  ok : POk p
  len : p.length ≤ 5
  num : ∀ t ∈ p, t.2 ≤ 5
  deg : Dg p 48
def spBuilt (K : PySem.W.Frag) : Sp := fun vs H Q _ => ∃ (b v : V) (p : Poly), vs = [b, v] ∧ Dp K H v (bD p) ∧ PF p ∧ ∀ H', Same H H' → Q (.bl true) H'
/-- so many times the monomial -/
def manyP (m : Mono) (k : Nat) : Poly := if k = 0 then [] else [(m, (k : Int))]
theorem manyP_succ {m : Mono} (hm : MOk m) (k : Nat) : plusP (manyP m k) [(m, 1)] = manyP m (k + 1) := by
  unfold manyP
  by_cases h : k = 0
  · subst h
    rw [if_pos rfl, if_neg (by decide), zero_plus (one_ok hm (by decide))]
    rfl
  · rw [if_neg h, if_neg (by omega), plus_single (by omega) (by decide)]
    rfl
theorem manyP_pz {m : Mono} (hm : MOk m) (hd : S m ≤ 48) {k : Nat} (hk : k ≤ 5) : PZ (manyP m k) 1 5 48 := by
  unfold manyP
  by_cases h : k = 0
  · rw [if_pos h]
    exact ⟨pok_zero, by decide, by decide, fun _ z => nomatch z⟩
  · rw [if_neg h]
    refine ⟨one_ok hm (by omega), Nat.le_refl _, ?_, fun t ht => ?_⟩
    · show S [(m, (k : Int))] ≤ 5
      unfold S
      rw [pr_cons, pr_nil]
      simp only
      omega
    · rw [List.mem_singleton.mp ht]
      exact hd
section
variable {P : Program} {w : World} {K : PySem.W.Frag} {mg : Str → Option Value} {base : Heap}
end
end K8


set_option Elab.async false
set_option linter.all false
set_option maxRecDepth 100000
set_option maxHeartbeats 4000000
namespace K8
open PySem L2 Nd Bk Gd PySem.ExE
def AskIs (B : Poly) (d : PyData) : Prop := (400 < B.length ∧ d = .tuple [.str "many", .str "terms"]) ∨ (B.length ≤ 400 ∧ Big B ∧ d = .tuple [.str "many", .str "figures"]) ∨ (B.length ≤ 400 ∧ ¬ Big B ∧ d = .tuple [.str "told", bD (srt B)])
def spAsk (K : PySem.W.Frag) : Sp := fun vs H Q _ => ∃ (s : Bool) (x y : V) (p q : Poly), vs = [.bl s, x, y] ∧ FD K H x (bD p) ∧ FD K H y (bD q) ∧ Tms p ∧ Tms q ∧ p.length * q.length ≤ 1000 ∧
  ∀ (v : V) (d : PyData) (H' : Hp), AskIs (book (if s = true then p ++ q else prods p q)) d → Same H H' → Dp K H' v d → Q v H'
section
variable {P : Program} {w : World} {K : PySem.W.Frag} {mg : Str → Option Value} {base : Heap} {T C fI : Addr}
theorem xf_of {C f fI} (E : EC K C T f fI) : XfC K C := ⟨E.ga, E.gg, E.exC, E.hd⟩
end
end K8


set_option Elab.async false
set_option linter.all false
set_option maxRecDepth 100000
set_option maxHeartbeats 8000000
namespace K8
open PySem L2 Nd Bk Gd PySem.ExE
/-! a form is as long as what it is a form of -/
mutual
theorem flat_short : ∀ d : PyData, shortD d = shortD (flat d) ∧ cost d = cost (flat d) ∧ d.depth = (flat d).depth
  | .list xs => by
    obtain ⟨h1, h2, h3⟩ := flats_short xs
    simp [flat, shortD, cost, PyData.depth, h1, h2, h3]
  | .tuple xs => by
    obtain ⟨h1, h2, h3⟩ := flats_short xs
    simp [flat, shortD, cost, PyData.depth, h1, h2, h3]
  | .none => by simp [flat]
  | .bool _ => by simp [flat]
  | .int _ => by simp [flat]
  | .str _ => by simp [flat]
  | .dict _ => by simp [flat]
theorem flats_short : ∀ ds : List PyData, shortDs ds = shortDs (flats ds) ∧ costs ds = costs (flats ds) ∧ PyData.depthAll ds = PyData.depthAll (flats ds)
  | [] => by simp [flats]
  | d :: ds => by
    obtain ⟨h1, h2, h3⟩ := flat_short d
    obtain ⟨g1, g2, g3⟩ := flats_short ds
    simp [flats, shortDs, costs, PyData.depthAll, ← h1, ← h2, ← h3, ← g1, ← g2, ← g3]
end
/-- may be shown -/
structure Sho (p : Poly) : Prop where
  sh : shortD (bD p) = true
  co : cost (bD p) ≤ 1000000
  de : (bD p).depth ≤ 20
theorem fp_ref {K : PySem.W.Frag} {H : Hp} {av : List Addr} {v : V} {d : PyData} {l : Poly} (h : Fp K H av v d) (e : flat d = bD l) : ∃ a, v = .ref a := by
  cases h with
  | non => simp [flat, bD] at e
  | bl b => simp [flat, bD] at e
  | int i => simp [flat, bD] at e
  | str x => simp [flat, bD] at e
  | lst h1 h2 h3 => exact ⟨_, rfl⟩
  | tup h1 h2 => exact ⟨_, rfl⟩
theorem Sho.of {p : Poly} (s : Sho p) {d : PyData} (e : flat d = bD p) : shortD d = true ∧ cost d ≤ 1000000 ∧ d.depth ≤ 20 := by
  obtain ⟨h1, h2, h3⟩ := flat_short d
  rw [h1, h2, h3, e]
  exact ⟨s.sh, s.co, s.de⟩
/-- the degree; the tokens, rising -/
def degP (p : Poly) : Int := p.foldl (fun b t => if S t.1 > b then S t.1 else b) 0
def tokK (p : Poly) : List Str := sortK ((p.flatMap fun t => t.1.map (·.1)).foldl (fun acc t => if t ∈ acc then acc else acc ++ [t]) [])
def tkD (p : Poly) : PyData := .tuple ((tokK p).map .str)
def spDeg (K : PySem.W.Frag) : Sp := fun vs H Q _ => ∃ (v : V) (p : Poly), vs = [v] ∧ FD K H v (bD p) ∧ POk p ∧ Szd p ∧ ∀ H', Same H H' → Q (.int (degP p)) H'
def spTks (K : PySem.W.Frag) : Sp := fun vs H Q _ => ∃ (v : V) (p : Poly), vs = [v] ∧ FD K H v (bD p) ∧ POk p ∧ Szd p ∧ (tokK p).length ≤ 1000 ∧ ∀ (v' : V) (H' : Hp), Same H H' → Dp K H' v' (tkD p) → Q v' H'
def spLTks (K : PySem.W.Frag) : Sp := fun vs H Q _ => ∃ (v : V) (p : Poly), vs = [v] ∧ Dp K H v (bD p) ∧ POk p ∧ Szd p ∧ (tokK p).length ≤ 1000 ∧ ∀ (l : Addr) (ys : List V) (H' : Hp), H l = none → Same H H' → H' l = some (.lst ys) → DpAll K H' ys ((tokK p).map .str) → Q (.ref l) H'
def spRight (K : PySem.W.Frag) : Sp := fun vs H Q _ => ∃ (b c : Addr) (ns : List Int) (x y : V) (p q : Poly), vs = [.ref b, x, y] ∧ BoxAt H b c ns ∧ Dp K H x (bD p) ∧ Dp K H y (bD q) ∧ PZ p 8 8000 48 ∧ PZ q 8 8000 48 ∧ Sho p ∧ Sho q ∧ (tokK p).length ≤ 1000 ∧
  ∀ H', BoxAt H' b c ns → But b H H' → Q (.bl true) H'
/-- keywords of two, told the other way round -/
def sw2 {α : Type} (us : List α) (l : List α) : List α := match us, l with
  | [], [a, b] => [b, a]
  | _, _ => []
def kw1 {α : Type} (us : List α) (l : List α) : List α := match us, l with
  | [], [a] => [a]
  | _, _ => []
theorem ak_l {K : PySem.W.Frag} {H : Hp} {A B : Addr} {xs ys : List V} {ds : List PyData} (h1 : H A = some (.lst xs)) (h2 : H B = some (.lst ys)) (b1 : DpAll K H xs ds) (b2 : DpAll K H ys ds) (hl : ds.length ≤ 10) (hz : ∀ d ∈ ds, Okd 4 d) : Alike K H 5 (.ref A) (.ref B) := by
  refine .inr ⟨A, B, xs, ys, rfl, rfl, .inr ⟨SqL.of h1, SqL.of h2⟩, by rw [dpAll_len b1, dpAll_len b2], by rw [dpAll_len b2]; omega, fun i u v e1 e2 => ?_⟩
  obtain ⟨d1, q1, r1⟩ := dpAll_get b1 e1
  obtain ⟨d2, q2, r2⟩ := dpAll_get b2 e2
  rw [q1] at q2
  cases q2
  exact ak_dp (hz d1 (List.mem_of_getElem? q1)) r1 r2
theorem okd_tks {p : Poly} (h : (tokK p).length ≤ 1000) : Okd 4 (tkD p) := okd_more (okd_more (okd_more (.inr (.inr ⟨_, rfl, by rw [List.length_map]; exact h, fun e he => by
  obtain ⟨z, _, rfl⟩ := List.mem_map.mp he
  exact .inr ⟨_, rfl⟩⟩))))
/-- told and due: lists of data of one kind -/
theorem ak_lists {K : PySem.W.Frag} {H : Hp} {A B : Addr} {xs ys : List V} {ds : List PyData} (nA : H A = none) (nB : upd H A (.lst xs) B = none) (a1 : DpAll K H xs ds) (a2 : DpAll K H ys ds) (hl : ds.length ≤ 10) (hz : ∀ d ∈ ds, Okd 4 d) :
    Alike K (upd (upd H A (.lst xs)) B (.lst ys)) 5 (.ref A) (.ref B) ∧ Same H (upd (upd H A (.lst xs)) B (.lst ys)) := by
  have s1 : Same H (upd H A (.lst xs)) := sm_new sm_refl nA
  have s2 : Same (upd H A (.lst xs)) (upd (upd H A (.lst xs)) B (.lst ys)) := sm_new sm_refl nB
  have hA : upd (upd H A (.lst xs)) B (.lst ys) A = some (.lst xs) := s2 _ _ upd_same
  have s := s1.trans s2
  have b1 := dpAll_same s a1
  have b2 := dpAll_same s a2
  refine ⟨.inr ⟨A, B, xs, ys, rfl, rfl, .inr ⟨SqL.of hA, SqL.of upd_same⟩, by rw [dpAll_len b1, dpAll_len b2], by rw [dpAll_len b2]; omega, fun i u v e1 e2 => ?_⟩, s⟩
  obtain ⟨d1, q1, r1⟩ := dpAll_get b1 e1
  obtain ⟨d2, q2, r2⟩ := dpAll_get b2 e2
  rw [q1] at q2
  cases q2
  exact ak_dp (hz d1 (List.mem_of_getElem? q1)) r1 r2
section
variable {P : Program} {w : World} {K : PySem.W.Frag} {mg : Str → Option Value} {base : Heap}
/-- a def as it may be called: by position and by keywords -/
structure Dk (P : Program) (w : World) (K : PySem.W.Frag) (mg : Str → Option Value) (base : Heap) (k : Nat) (x : Str) (ps ks : List Str) (g : List Value → List Value → List Value) (gV : List V → List V → List V) (sp : Sp) : Prop where
  ok : ∃ (f : Addr) (fd : FuncData), mg x = some (.ref f) ∧ PySem.W.keepIn K (.ref f) = true ∧ Binds K fd ps [] ∧ KBinds K fd ps ks g gV ∧ FnOk P w K mg base CX0 k f fd ps sp
end
end K8


set_option Elab.async false
set_option linter.all false
set_option maxRecDepth 100000
set_option maxHeartbeats 4000000
namespace K8
open PySem L2 Nd Bk Gd PySem.ExE
theorem S_sum (m : Mono) : S m = (m.map (·.2)).sum := by
  induction m with
  | nil => rfl
  | cons x r ih =>
    have e : S (x :: r) = x.2 * 1 + S r := by unfold S pr; simp
    rw [e, ih, List.map_cons, List.sum_cons]
    omega
theorem fd_ix {K : PySem.W.Frag} {H : Hp} {U : Addr} {k : V} {c : Int} (h : SqL K H U [k, .int c] ∨ SqT K H U [k, .int c]) (Q : VK) : (Q (.int c) H → rIx K (.ref U) (.int 1) H Q) ∧ (Q k H → rIx K (.ref U) (.int 0) H Q) := by
  rcases h with h | h
  · exact ⟨fun q => .inl ⟨U, _, _, _, rfl, rfl, h, rfl, q⟩, fun q => .inl ⟨U, _, _, _, rfl, rfl, h, rfl, q⟩⟩
  · exact ⟨fun q => .inr (.inl ⟨U, _, _, _, rfl, rfl, h, rfl, q⟩), fun q => .inr (.inl ⟨U, _, _, _, rfl, rfl, h, rfl, q⟩)⟩
theorem degP_take {p : Poly} {i : Nat} {t : Mono × Int} (h : p[i]? = some t) : degP (p.take (i + 1)) = if S t.1 > degP (p.take i) then S t.1 else degP (p.take i) := by
  unfold degP
  rw [List.take_succ, h]
  simp
section
variable {P : Program} {w : World} {K : PySem.W.Frag} {mg : Str → Option Value} {base : Heap}
end
/-! the tokens, each once -/
def dd (acc : List Str) (t : Str) : List Str := if t ∈ acc then acc else acc ++ [t]
def seen (p : Poly) : List Str := (p.flatMap fun t => t.1.map (·.1)).foldl dd []
theorem tokK_seen (p : Poly) : tokK p = sortK (seen p) := rfl
theorem dd_nodup : ∀ (l acc : List Str), acc.Nodup → (l.foldl dd acc).Nodup
  | [], _, h => h
  | t :: l, acc, h => by
    refine dd_nodup l (dd acc t) ?_
    unfold dd
    split
    · exact h
    · rename_i q
      rw [List.nodup_append]
      refine ⟨h, by simp, fun a ha b hb e => ?_⟩
      rw [List.mem_singleton] at hb
      exact q (by rw [← hb, ← e]; exact ha)
theorem dd_filter : ∀ (l acc : List Str), l.Nodup → l.foldl dd acc = acc ++ l.filter fun t => decide (t ∉ acc)
  | [], acc, _ => by simp
  | t :: l, acc, h => by
    obtain ⟨h1, h2⟩ := List.nodup_cons.mp h
    rw [List.foldl_cons, dd_filter l (dd acc t) h2]
    unfold dd
    by_cases q : t ∈ acc
    · rw [if_pos q, List.filter_cons, if_neg (by simp [q])]
    · rw [if_neg q, List.filter_cons, if_pos (by simp [q]), List.append_assoc, List.singleton_append]
      congr 2
      refine List.filter_congr fun x hx => ?_
      have : x ≠ t := fun e => h1 (by rw [← e]; exact hx)
      simp [this]
theorem seen_take {p : Poly} (h : POk p) {i : Nat} {t : Mono × Int} (e : p[i]? = some t) : seen (p.take (i + 1)) = seen (p.take i) ++ (t.1.map (·.1)).filter fun x => decide (x ∉ seen (p.take i)) := by
  unfold seen
  rw [List.take_succ, e, List.flatMap_append, List.foldl_append]
  have : (some t).toList.flatMap (fun t : Mono × Int => t.1.map (·.1)) = t.1.map (·.1) := by simp
  rw [this]
  exact dd_filter _ _ (asc_nodup (h.2.2 t (List.mem_of_getElem? e)).1)
theorem seen_nodup (p : Poly) : (seen p).Nodup := dd_nodup _ [] List.nodup_nil
theorem strs_dp {K : PySem.W.Frag} {H : Hp} : ∀ l : List Str, DpAll K H (l.map V.str) (l.map Ky.enc)
  | [] => .nil
  | x :: l => .cons (.str x) (strs_dp l)
theorem inV_strs (x : Str) (l : List Str) : (!inV (V.str x) (l.map V.str)) = decide (x ∉ l) := by
  have h : inV (V.str x) (l.map V.str) = decide (x ∈ l) := by
    unfold inV
    induction l with
    | nil => simp
    | cons y r ih =>
      rw [List.map_cons, List.any_cons, ih]
      have e : eqV (V.str y) (V.str x) = decide (y = x) := by
        show (y == x) = _
        by_cases q : y = x
        · rw [q, decide_eq_true rfl]
          exact beq_self_eq_true x
        · rw [decide_eq_false q]
          exact beq_eq_false_iff_ne.mpr q
      rw [e]
      by_cases q : y = x
      · simp [q]
      · have q' : x ≠ y := fun z => q z.symm
        simp [q, q']
  rw [h]
  by_cases q : x ∈ l <;> simp [q]
theorem flat_strs' (l : List Str) : (l.map V.str).all flatV = true := by
  rw [List.all_eq_true]
  intro v hv
  obtain ⟨x, _, rfl⟩ := List.mem_map.mp hv
  rfl
section
variable {P : Program} {w : World} {K : PySem.W.Frag} {mg : Str → Option Value} {base : Heap}
theorem dd_grow : ∀ (l acc : List Str), acc.length ≤ (l.foldl dd acc).length
  | [], _ => Nat.le_refl _
  | t :: l, acc => by
    refine Nat.le_trans ?_ (dd_grow l (dd acc t))
    unfold dd
    split
    · exact Nat.le_refl _
    · rw [List.length_append]
      omega
theorem seen_le (p : Poly) (i : Nat) : (seen (p.take i)).length ≤ (tokK p).length := by
  rw [tokK_seen, sortK_len (seen_nodup p)]
  have e : seen p = ((p.drop i).flatMap fun t => t.1.map (·.1)).foldl dd (seen (p.take i)) := by
    unfold seen
    rw [← List.foldl_append, ← List.flatMap_append, List.take_append_drop]
  rw [e]
  exact dd_grow _ _
end
end K8


set_option Elab.async false
set_option linter.all false
set_option maxRecDepth 100000
set_option maxHeartbeats 2000000
/-! max(xs, default = d) -/
namespace Gd
open PySem PySem.Spec PyProof.Rows L2
section
variable {prog : Program} {w : World} {A : Around} {R : Result → Shared → Prop} {I S : Addr} {fp wr : List Addr} {n : Nat} {P : Nat → Value → Prop} {St : Nat → Heap → Prop} {bt : Nat → Nat → Bool} {d : Value}
/-- what the loop holds so far -/
def Held (P : Nat → Value → Prop) (bt : Nat → Nat → Bool) (j : Nat) (xs : Array Value) : Prop := (j = 0 ∧ xs = #[]) ∨ ∃ i v, j = i + 1 ∧ xs = #[v, v] ∧ P (argBest bt i) v
theorem maxD_loop (W : Walks prog w A.in1 I fp wr n P St) (cmp : CmpOf prog w A.in1 .Gt P bt) (off : S ∉ fp) : ∀ (k : Nat) {j : Nat} {s : Shared} {xs : Array Value} {c : Nat}, j + k = n → St j s.heap → Held P bt j xs →
    s.heap.get? S = some { cls := .type "list", dict := none, data := .seq xs c, slots := #[] } →
    (∀ v h' tk, ((n = 0 ∧ v = d) ∨ (0 < n ∧ P (argBest bt (n - 1)) v)) → (∀ b o, b ∉ wr → b ≠ S → s.heap.get? b = some o → h'.get? b = some o) → R (.ok (.ret v)) { s with heap := h', toks := tk }) →
    codeAny (model prog w) A (.builtin "max.loop" ⟨[.ref I, .none, .ref S], [("default", d)]⟩) R s := by
  have out : S ∉ wr := fun h => off (W.sub _ h)
  have nm : (toString "max" ++ toString ".loop" : String) = "max.loop" := by decide
  intro k
  induction k with
  | zero =>
    intro j s xs c e st held at_ fin
    apply codeAny_builtin F.entry_max_loop
    rw [Around.under_plainId F.plain_max_loop _]
    show wpAny _ A.in1 (seqItems? (.ref S) >>= _) _ _ s
    apply wpAny_bind
    apply wpAny_seqItems at_ rfl
    rcases held with ⟨j0, rfl⟩ | ⟨i, v, ji, rfl, best⟩
    · show wpAny _ A.in1 (tryCatch (pyNext (.ref I)) _ >>= _) _ _ s
      apply wpAny_bind
      refine wpAny_tryCatch (W.done s _ _ (by rw [show n = j by omega]; exact st) fun h' tk keep => ?_)
      refine wpAny_bind (wpAny_rule (wpAny_pure ?_))
      exact fin d h' tk (.inl ⟨by omega, rfl⟩) fun b o hb _ q => keep b o hb q
    · show wpAny _ A.in1 (tryCatch (pyNext (.ref I)) _ >>= _) _ _ s
      apply wpAny_bind
      refine wpAny_tryCatch (W.done s _ _ (by rw [show n = j by omega]; exact st) fun h' tk keep => ?_)
      have at2 := keep S _ out at_
      show wpAny _ A.in1 (updateSeq S (fun _ => #[]) >>= _) _ _ _
      apply wpAny_bind
      refine wpAny_updateSeq at2 rfl (wpAny_bind (wpAny_letGo (wpAny_pure ?_)))
      refine fin v _ tk (.inr ⟨by omega, by rw [show n - 1 = i by omega]; exact best⟩) fun b o hb ne q => ?_
      exact (Heap.get?_update_other _ _ (Ne.symm ne)).trans (keep b o hb q)
  | succ k ih =>
    intro j s xs c e st held at_ fin
    apply codeAny_builtin F.entry_max_loop
    rw [Around.under_plainId F.plain_max_loop _]
    show wpAny _ A.in1 (seqItems? (.ref S) >>= _) _ _ s
    apply wpAny_bind
    apply wpAny_seqItems at_ rfl
    rcases held with ⟨j0, rfl⟩ | ⟨i, vb, ji, rfl, best⟩
    · show wpAny _ A.in1 (tryCatch (pyNext (.ref I)) _ >>= _) _ _ s
      apply wpAny_bind
      refine wpAny_tryCatch (W.item j s _ _ (by omega) st fun v h' tk pv st' keep => ?_)
      have at2 := keep S _ out at_
      show wpAny _ A.in1 (updateSeq S (fun _ => #[v, v]) >>= _) _ _ _
      apply wpAny_bind
      apply wpAny_updateSeq at2 rfl
      rw [nm]
      refine wpAny_pure ⟨plainId_quiet F.plain_max_loop _, ih (j := j + 1) (by omega) (W.frame _ _ _ st' fun b hb o q => ?_) (.inr ⟨j, v, rfl, rfl, ?_⟩) (Heap.get?_update_self _ at2 rfl) fun v' h2 tk2 got keep2 => ?_⟩
      · exact (Heap.get?_update_other _ _ (fun z : S = b => off (by rw [z]; exact hb))).trans q
      · subst j0
        exact pv
      · exact fin v' h2 tk2 got fun b o hb ne q => keep2 b o hb ne ((Heap.get?_update_other _ _ (Ne.symm ne)).trans (keep b o hb q))
    · subst ji
      show wpAny _ A.in1 (tryCatch (pyNext (.ref I)) _ >>= _) _ _ s
      apply wpAny_bind
      refine wpAny_tryCatch (W.item (i + 1) s _ _ (by omega) st fun v h' tk pv st' keep => ?_)
      have at2 := keep S _ out at_
      show wpAny _ A.in1 (tryCatch (holding [v, v] (richCompare .Gt v vb >>= _)) _ >>= _) _ _ _
      apply wpAny_bind
      apply wpAny_tryCatch
      apply wpAny_holding
      apply wpAny_bind
      refine cmp (i + 1) (argBest bt i) v vb _ _ _ pv best ?_
      refine wpAny_bind (wpAny_holding (wpAny_truthy_bool ?_))
      refine wpAny_bind (wpAny_letGo (wpAny_pure ?_))
      cases hb : bt (i + 1) (argBest bt i) with
      | true =>
        simp only [if_true]
        apply wpAny_bind
        refine wpAny_updateSeq at2 rfl (wpAny_bind (wpAny_letGo ?_))
        rw [nm]
        refine wpAny_pure ⟨plainId_quiet F.plain_max_loop _, ih (j := i + 1 + 1) (by omega) (W.frame _ _ _ st' fun b hb o q => ?_) (.inr ⟨i + 1, v, rfl, rfl, by simp only [argBest, hb, if_true]; exact pv⟩) (Heap.get?_update_self _ at2 rfl) fun v' h2 tk2 got keep2 => ?_⟩
        · exact (Heap.get?_update_other _ _ (fun z : S = b => off (by rw [z]; exact hb))).trans q
        · exact fin v' h2 tk2 got fun b o hb ne q => keep2 b o hb ne ((Heap.get?_update_other _ _ (Ne.symm ne)).trans (keep b o hb q))
      | false =>
        simp only [Bool.false_eq_true, if_false]
        refine wpAny_bind (wpAny_letGo ?_)
        rw [nm]
        refine wpAny_pure ⟨plainId_quiet F.plain_max_loop _, ih (j := i + 1 + 1) (by omega) st' (.inr ⟨i + 1, vb, rfl, rfl, by simp only [argBest, hb, Bool.false_eq_true, if_false]; exact best⟩) at2 fun v' h2 tk2 got keep2 => ?_⟩
        exact fin v' h2 tk2 got fun b o hb ne q => keep2 b o hb ne (keep b o hb q)
end
theorem args_maxD (a d : Value) : argsOk "max" ⟨[a], [("default", d)]⟩ := by
  unfold argsOk
  kernel_rfl
section
variable {prog : Program} {w : World} {A : Around} {E : Value → Shared → Prop} {s : Shared} {l : Addr} {its : List Value} {ns : List Int} {Q : Value → Shared → Prop} {d : Value}
theorem maxD_call (calm : A.handled = none) (here : s.heap.IsList l its.toArray) (are : IntsAre its ns)
    (fin : ∀ v h' tk, ((ns = [] ∧ v = d) ∨ ∃ m t, v = .int m t ∧ m ∈ ns ∧ ∀ y ∈ ns, y ≤ m) → (∀ b o, s.heap.get? b = some o → h'.get? b = some o) → Q v { s with heap := h', toks := tk }) : wpAny (model prog w) A (call (.builtin "max") [.ref l] [("default", d)]) Q E s := by
  obtain ⟨xs, ex⟩ := are.allInts.items
  have nums : numsOf (intItems xs).toList = ns := by
    rw [← ex]
    exact are.numsOf
  rw [nums_intItems] at nums
  subst nums
  rw [ex] at here
  have nm : (toString "max" ++ toString ".loop" : String) = "max.loop" := by decide
  apply wpAny_call
  apply codeAny_call_builtin F.plain_max F.entry_max
  simp only [checkBuiltinCall, F.kind_max]
  have body : wpAny (model prog w) A.in1 (Builtin.«max» ⟨[.ref l], [("default", d)]⟩) (fun fin' s' => match fin' with
      | .done f => (match (Except.ok f : Result) with | .ok (.ret v) => Q v s' | .ok _ => False | .error e => E e s')
      | .again c' => c'.quiet = true ∧ codeAny (model prog w) A c' (fun r s' => match r with | .ok (.ret v) => Q v s' | .ok _ => False | .error e => E e s') s') E s := by
    show wpAny _ A.in1 (Builtin.Builtins.bindParams "max" ["key", "default"] 0 ⟨[], [("default", d)]⟩ >>= _) _ _ s
    refine wpAny_bind (wpAny_of_eq (show Builtin.Builtins.bindParams "max" ["key", "default"] 0 ⟨[], [("default", d)]⟩ = pure [none, some d] from rfl) ?_)
    refine wpAny_bind (wpAny_pure ?_)
    refine wpAny_bind (iter_intList here fun s₂ e st hfp hlI => ?_)
    subst e
    refine wpAny_bind (wpAny_newObj_type ?_)
    rw [nm]
    refine wpAny_pure ⟨plainId_quiet F.plain_max_loop _, ?_⟩
    have W := Walks.list (prog := prog) (w := w) (A := A.in1) calm s.heap.objs.size l hlI (intItems xs)
    have new : (s.heap.push { cls := .type "list_iterator", data := .fields #[.ref l, .int 0 0] }).objs.size ∉ [s.heap.objs.size, l] := fun z => Nat.lt_irrefl _ (hfp _ z)
    have st2 := W.frame 0 _  ((s.heap.push { cls := .type "list_iterator", data := .fields #[.ref l, .int 0 0] }).push { cls := .type "list", data := .seq #[] }) st fun b _ o q => Heap.get?_push_of_some _ q
    refine maxD_loop W (CmpOf.ints_gt (numAt xs) (fun _ _ => intItems_at)) new (intItems xs).size (j := 0) (xs := #[]) (c := 0) (by omega) st2 (.inl ⟨rfl, rfl⟩) (Heap.get?_push_size _ rfl) fun v h' tk got keep => ?_
    refine fin v h' tk ?_ fun b o q => ?_
    · rcases got with ⟨z, rfl⟩ | ⟨z, pv⟩
      · left
        refine ⟨?_, rfl⟩
        have : xs.size = 0 := by simpa [intItems] using z
        simp [Array.eq_empty_of_size_eq_zero this]
      · right
        have z' : 0 < xs.size := by simpa [intItems] using z
        have ez : (intItems xs).size = xs.size := by simp [intItems]
        rw [ez] at pv
        obtain ⟨t, rfl⟩ := intItems_at pv
        obtain ⟨h1, h2⟩ := argBest_gt (numAt xs) (xs.size - 1)
        refine ⟨_, t, rfl, ?_, fun y hy => ?_⟩
        · rw [numAt_eq]
          exact PySem.getD_mem (by rw [List.length_map, Array.length_toList]; omega)
        · obtain ⟨j, hj, rfl⟩ := mem_getD hy
          rw [List.length_map, Array.length_toList] at hj
          rw [← numAt_eq]
          exact h2 j (by omega)
    · have lt := Heap.lt_size q
      refine keep b o (fun z => ?_) (fun z => ?_) (Heap.get?_push_of_some _ (Heap.get?_push_of_some _ q))
      · rw [List.mem_singleton.mp z] at lt
        exact Nat.lt_irrefl _ lt
      · rw [z, Heap.size_push] at lt
        exact absurd lt (Nat.not_lt.mpr (Nat.le_succ _))
  cases hsig : Manifest.signature? "max" with
  | none => exact wpAny_pure body
  | some sig =>
    have ok := args_maxD (.ref l) d
    simp only [argsOk, hsig] at ok
    have ok2 : Bind.checkArgs "max" sig ⟨[.ref l], [("default", d)]⟩ = pure () := ok
    show wpAny _ A.in1 (Bind.checkArgs "max" sig ⟨[.ref l], [("default", d)]⟩) _ _ s
    rw [ok2]
    exact wpAny_pure body
end
section
variable {X : Cx}
/-- max(xs, default=i): the default where xs is empty -/
def rMaxD (K : PySem.W.Frag) : List V → List V → Hp → VK → Prop := fun vs zs H Q => ∃ (a : Addr) (ns : List Int) (i : Int), vs = [.ref a] ∧ zs = [.int i] ∧ SqL K H a (ns.map V.int) ∧ (ns = [] → Q (.int i) H) ∧ ∀ m, m ∈ ns → (∀ y ∈ ns, y ≤ m) → Q (.int m) H
theorem cr_maxD (calm : X.calm = true) : CallRK X (.builtin "max") ["default"] (rMaxD X.K) := by
  intro pins s σ H vs zs us ws Q I r rz h
  obtain ⟨a, ns, i, rfl, rfl, sq, q0, q1⟩ := h
  obtain ⟨its, rel, here, _⟩ := I.list sq
  rw [Vals.ref1 r]
  obtain ⟨u, rfl, t, rfl⟩ := vals1 rz
  refine maxD_call (I.ok.hd calm) here.isList rel.ints fun v h' tk got keep => ?_
  rcases got with ⟨e, rfl⟩ | ⟨m, t2, rfl, h1, h2⟩
  · exact ⟨.int i, H, I.kept keep, ⟨t, rfl⟩, q0 e⟩
  · exact ⟨.int m, H, I.kept keep, ⟨t2, rfl⟩, q1 m h1 h2⟩
end
end Gd


set_option Elab.async false
set_option linter.all false
set_option maxRecDepth 100000
set_option maxHeartbeats 4000000
namespace K8
open PySem L2 Nd Bk Gd PySem.ExE
theorem S_nn {m : Mono} (h : ∀ x ∈ m, (0 : Int) ≤ x.2) : 0 ≤ S m := by
  rw [S_sum]
  induction m with
  | nil => exact Int.le_refl 0
  | cons x r ih =>
    rw [List.map_cons, List.sum_cons]
    have h1 := h x (List.mem_cons_self ..)
    have h2 := ih fun y hy => h y (List.mem_cons_of_mem _ hy)
    omega
theorem degP_max : ∀ (p : Poly) (b : Int), (∀ t ∈ p, S t.1 ≤ p.foldl (fun b t => if S t.1 > b then S t.1 else b) b) ∧ b ≤ p.foldl (fun b t => if S t.1 > b then S t.1 else b) b ∧ (p.foldl (fun b t => if S t.1 > b then S t.1 else b) b = b ∨ ∃ t ∈ p, S t.1 = p.foldl (fun b t => if S t.1 > b then S t.1 else b) b)
  | [], b => ⟨fun _ h => by simp at h, Int.le_refl _, .inl rfl⟩
  | t :: r, b => by
    rw [List.foldl_cons]
    obtain ⟨h1, h2, h3⟩ := degP_max r (if S t.1 > b then S t.1 else b)
    have g : S t.1 ≤ (if S t.1 > b then S t.1 else b) ∧ b ≤ (if S t.1 > b then S t.1 else b) := by split <;> omega
    refine ⟨fun u hu => ?_, Int.le_trans g.2 h2, ?_⟩
    · rcases List.mem_cons.mp hu with rfl | hu
      · exact Int.le_trans g.1 h2
      · exact h1 u hu
    · rcases h3 with h3 | ⟨u, hu, e⟩
      · rw [h3]
        by_cases q : S t.1 > b
        · rw [if_pos q]
          exact .inr ⟨t, List.mem_cons_self .., rfl⟩
        · rw [if_neg q]
          exact .inl rfl
      · exact .inr ⟨u, List.mem_cons_of_mem _ hu, e⟩
theorem degP_is {p : Poly} (nn : ∀ t ∈ p, 0 ≤ S t.1) {m : Int} (h1 : m ∈ p.map fun t => S t.1) (h2 : ∀ y ∈ p.map (fun t => S t.1), y ≤ m) : degP p = m := by
  obtain ⟨t, ht, rfl⟩ := List.mem_map.mp h1
  obtain ⟨g1, g2, g3⟩ := degP_max p 0
  have a1 := g1 t ht
  unfold degP
  rcases g3 with g3 | ⟨u, hu, e⟩
  · have := nn t ht
    rw [g3] at a1 ⊢
    omega
  · have := h2 _ (List.mem_map.mpr ⟨u, hu, rfl⟩)
    rw [← e] at a1 ⊢
    exact Int.le_antisymm this a1
theorem seq_goE {K : PySem.W.Frag} {tl : TE} {σ : L2.St} {H : Hp} {a : Addr} {xs : List V} {R : It → Hp → Prop} (hv : ∀ Q : VK, Q (.ref a) H → tl σ H Q) (h : SqL K H a xs ∨ SqT K H a xs)
    (k : ∀ (J : It) (G : Hp → Prop), Walk J xs.length G (YAt xs) → (∀ H', (SqL K H a xs → SqL K H' a xs) → (SqT K H a xs → SqT K H' a xs) → G H') → R J H) : iSeq K tl σ H R := by
  rcases h with h | h
  · exact .inl (hv _ ⟨a, rfl, ⟨_, h⟩, k _ _ walk_list fun H' f _ => f h⟩)
  · exact .inr (hv _ ⟨a, rfl, ⟨_, h⟩, k _ _ walk_tup fun H' _ f => f h⟩)
section
variable {P : Program} {w : World} {K : PySem.W.Frag} {mg : Str → Option Value} {base : Heap}
end
end K8


set_option Elab.async false
set_option linter.all false
set_option maxRecDepth 100000
set_option maxHeartbeats 4000000
namespace K8
open PySem L2 Nd Bk Gd
theorem short_all : ∀ {ds : List PyData}, (∀ d ∈ ds, shortD d = true) → shortDs ds = true
  | [], _ => by simp [shortDs]
  | d :: ds, h => by
    rw [shortDs, h d (List.mem_cons_self ..), short_all fun x hx => h x (List.mem_cons_of_mem _ hx)]
    rfl
theorem costs_all {c : Nat} : ∀ {ds : List PyData} {n : Nat}, ds.length ≤ n → (∀ d ∈ ds, cost d ≤ c) → costs ds ≤ n * (c + 2)
  | [], n, _, _ => by simp [costs]
  | d :: ds, 0, hn, _ => by simp at hn
  | d :: ds, n + 1, hn, h => by
    have h1 := h d (List.mem_cons_self ..)
    have h2 := costs_all (n := n) (by rw [List.length_cons] at hn; omega) fun x hx => h x (List.mem_cons_of_mem _ hx)
    rw [costs, Nat.add_mul]
    omega
theorem depth_all {n : Nat} : ∀ {ds : List PyData}, (∀ d ∈ ds, d.depth ≤ n) → PyData.depthAll ds ≤ n
  | [], _ => by simp [PyData.depthAll]
  | d :: ds, h => by
    rw [PyData.depthAll]
    exact Nat.max_le.mpr ⟨h d (List.mem_cons_self ..), depth_all fun x hx => h x (List.mem_cons_of_mem _ hx)⟩
/-- shown at the cost c, at most n deep -/
structure Shw (d : PyData) (c n : Nat) : Prop where
  sh : shortD d = true
  co : cost d ≤ c
  de : d.depth ≤ n
theorem shw_int {i : Int} (h0 : 0 ≤ i) (h1 : i < 10 ^ 105) : Shw (.int i) 110 1 := ⟨by rw [shortD, decide_eq_true h0, decide_eq_true h1]; rfl, by simp [cost], by simp [PyData.depth]⟩
theorem shT_ne {z : Str} (h : shT z = true) : z ≠ Str.ofString "" := fun e => by
  subst e
  exact absurd h (by decide +kernel)
theorem shw_str {z : Str} (h : shT z = true) : Shw (.str z) 110 1 := ⟨by rw [shortD]; exact (Bool.and_eq_true_iff.mp h).2, by simp [cost], by simp [PyData.depth]⟩
theorem shw_tup {ds : List PyData} {l c n : Nat} (hl : ds.length ≤ l) (h : ∀ d ∈ ds, Shw d c n) : Shw (.tuple ds) (l * (c + 2) + 3) (n + 1) := by
  refine ⟨?_, ?_, ?_⟩
  · rw [shortD]
    exact short_all fun d hd => (h d hd).sh
  · rw [cost]
    exact Nat.add_le_add_right (costs_all hl fun d hd => (h d hd).co) 3
  · rw [PyData.depth]
    exact Nat.add_le_add_right (depth_all fun d hd => (h d hd).de) 1
theorem Shw.weak {d : PyData} {c c' n n' : Nat} (h : Shw d c n) (h1 : c ≤ c') (h2 : n ≤ n') : Shw d c' n' := ⟨h.sh, Nat.le_trans h.co h1, Nat.le_trans h.de h2⟩
theorem shw_pair {d : PyData} {i : Int} {c n : Nat} (h : Shw d c n) (hc : 110 ≤ c) (hn : 1 ≤ n) (h0 : 0 ≤ i) (h1 : i < 10 ^ 105) : Shw (.tuple [d, .int i]) (2 * (c + 2) + 3) (n + 1) := shw_tup (Nat.le_refl 2) fun e he => by
  simp only [List.mem_cons, List.not_mem_nil, or_false] at he
  rcases he with rfl | rfl
  · exact h
  · exact (shw_int h0 h1).weak hc hn
/-- a polynomial of l terms of m tokens each, all short, may be shown -/
theorem shw_poly {p : Poly} {l m : Nat} (hl : p.length ≤ l) (hm : ∀ t ∈ p, t.1.length ≤ m) (ht : ∀ t ∈ p, ∀ x ∈ t.1, shT x.1 = true) (hc : ∀ t ∈ p, 0 ≤ t.2 ∧ t.2 < 10 ^ 105) (hx : ∀ t ∈ p, ∀ x ∈ t.1, 0 ≤ x.2 ∧ x.2 < 10 ^ 105) :
    Shw (bD p) (l * (2 * (m * 229 + 3 + 110 + 2) + 3 + 2) + 3) 5 := by
  refine shw_tup (by rw [List.length_map]; exact hl) fun d hd => ?_
  obtain ⟨t, tm, rfl⟩ := List.mem_map.mp hd
  have h1 : Shw (mD t.1) (m * 229 + 3) 3 := by
    refine shw_tup (l := m) (c := 227) (by rw [List.length_map]; exact hm t tm) fun e he => ?_
    obtain ⟨x, xm, rfl⟩ := List.mem_map.mp he
    exact shw_pair (c := 110) (shw_str (ht t tm x xm)) (by decide) (by decide) (hx t tm x xm).1 (hx t tm x xm).2
  exact shw_pair (h1.weak (c' := m * 229 + 3 + 110) (by omega) (Nat.le_refl _)) (by omega) (by decide) (hc t tm).1 (hc t tm).2
theorem S_mem {κ : Type} {l : Bag κ} (h : ∀ t ∈ l, 0 < t.2) : ∀ t ∈ l, t.2 ≤ S l := by
  induction l with
  | nil => exact fun t ht => nomatch ht
  | cons x r ih =>
    have e : S (x :: r) = x.2 * 1 + S r := by unfold S pr; simp
    have h1 := ih fun t ht => h t (List.mem_cons_of_mem _ ht)
    have h0 : 0 ≤ S r := by
      clear ih h1 e
      have hr : ∀ t ∈ r, 0 < t.2 := fun t ht => h t (List.mem_cons_of_mem _ ht)
      clear h
      induction r with
      | nil => exact Int.le_refl 0
      | cons y r2 ih2 =>
        have e : S (y :: r2) = y.2 * 1 + S r2 := by unfold S pr; simp
        have := ih2 fun t ht => hr t (List.mem_cons_of_mem _ ht)
        have := hr y (List.mem_cons_self ..)
        omega
    have hx := h x (List.mem_cons_self ..)
    intro t ht
    rcases List.mem_cons.mp ht with rfl | ht
    · omega
    · have := h1 t ht
      omega
theorem big105 : (8000 : Int) < 10 ^ 105 := by decide +kernel
/-- what was drawn may be shown -/
theorem S_len {κ : Type} {l : Bag κ} (h : ∀ t ∈ l, 0 < t.2) : (l.length : Int) ≤ S l := by
  induction l with
  | nil => exact Int.le_refl 0
  | cons x r ih =>
    have e : S (x :: r) = x.2 * 1 + S r := by unfold S pr; simp
    have h1 := ih fun t ht => h t (List.mem_cons_of_mem _ ht)
    have hx := h x (List.mem_cons_self ..)
    rw [List.length_cons]
    omega
theorem ml_pb {p : Poly} (h : PB p) : ∀ t ∈ p, t.1.length ≤ 48 := fun t ht => by
  have h1 := S_len (h.ok.2.2 t ht).2
  have h2 := h.dg t ht
  omega
theorem sho_pb {p : Poly} (h : PB p) : Sho p := by
  have b := big105
  have hm := ml_pb h
  have hs := h.sz
  have w := shw_poly (l := 8) (m := 48) h.len hm h.tk (fun t ht => ⟨Int.le_of_lt (h.ok.2.1 t ht), by
      have := S_mem h.ok.2.1 t ht
      omega⟩) (fun t ht x hx => ⟨Int.le_of_lt ((h.ok.2.2 t ht).2 x hx), by
      have h1 := S_mem (h.ok.2.2 t ht).2 x hx
      have h2 := h.dg t ht
      omega⟩)
  exact ⟨w.sh, Nat.le_trans w.co (by decide), Nat.le_trans w.de (by decide)⟩
theorem dd_len : ∀ (l acc : List Str), (l.foldl dd acc).length ≤ acc.length + l.length
  | [], _ => Nat.le_refl _
  | t :: l, acc => by
    refine Nat.le_trans (dd_len l (dd acc t)) ?_
    have : (dd acc t).length ≤ acc.length + 1 := by
      unfold dd
      split
      · omega
      · rw [List.length_append]
        exact Nat.le_refl _
    rw [List.length_cons]
    omega
theorem flat_len {m : Nat} : ∀ {p : Poly} {n : Nat}, p.length ≤ n → (∀ t ∈ p, t.1.length ≤ m) → (p.flatMap fun t => t.1.map (·.1)).length ≤ n * m
  | [], n, _, _ => by simp
  | t :: p, 0, hn, _ => by simp at hn
  | t :: p, n + 1, hn, h => by
    have h1 := h t (List.mem_cons_self ..)
    have h2 := flat_len (n := n) (by rw [List.length_cons] at hn; omega) fun x hx => h x (List.mem_cons_of_mem _ hx)
    rw [List.flatMap_cons, List.length_append, List.length_map, Nat.add_mul]
    omega
theorem tks_len {p : Poly} {n m : Nat} (hn : p.length ≤ n) (hm : ∀ t ∈ p, t.1.length ≤ m) : (tokK p).length ≤ n * m := by
  rw [tokK_seen, sortK_len (seen_nodup p)]
  refine Nat.le_trans (dd_len _ _) ?_
  rw [List.length_nil, Nat.zero_add]
  exact flat_len hn hm
theorem tks_pb {p : Poly} (h : PB p) : (tokK p).length ≤ 1000 := Nat.le_trans (tks_len h.len (ml_pb h)) (by decide)
end K8


set_option Elab.async false
set_option linter.all false
set_option maxRecDepth 100000
set_option maxHeartbeats 4000000
namespace K8
open PySem L2 Nd Bk Gd PySem.ExE
section
variable {K : PySem.W.Frag} {st : Stmt} {f : Addr} {fd : FuncData} {x : Str}
theorem kb_kw1 {y : Str} (F : Fun K x x st f fd)
    (h : ∀ (kV doc pm : Value) (an : Option Addr) (cdv ct : Value) (a : Value), bindArgs (PySem.W.fnOf x x (defArgs st) (defBody st) (defScope st) .none kV doc pm an cdv ct) ⟨[], [(y, a)]⟩ = pure [(y, a)]) : KBinds K fd [y] [y] kw1 kw1 := by
  obtain ⟨oc, od, kV, doc, pm, an, cdv, ct, osl, rfl, lk, hcd⟩ := F.ex
  refine ⟨fun s us ws _ hl => ?_, fun {vs us zs ws} r1 r2 => ?_⟩
  · match us, ws, hl with
    | [], [a], _ => exact .of_eq (h kV doc pm an cdv ct a)
    | [], [], hl => simp [kw1] at hl
    | [], _ :: _ :: _, hl => simp [kw1] at hl
    | _ :: _, _, hl => simp [kw1] at hl
  · cases r1 with
    | nil =>
      cases r2 with
      | nil => exact .nil
      | cons a b =>
        cases b with
        | nil => exact .cons a .nil
        | cons c d => exact .nil
    | cons _ _ => exact .nil
theorem kb_sw2 {y z : Str} (F : Fun K x x st f fd)
    (h : ∀ (kV doc pm : Value) (an : Option Addr) (cdv ct : Value) (a b : Value), bindArgs (PySem.W.fnOf x x (defArgs st) (defBody st) (defScope st) .none kV doc pm an cdv ct) ⟨[], [(z, a), (y, b)]⟩ = pure [(y, b), (z, a)]) : KBinds K fd [y, z] [z, y] sw2 sw2 := by
  obtain ⟨oc, od, kV, doc, pm, an, cdv, ct, osl, rfl, lk, hcd⟩ := F.ex
  refine ⟨fun s us ws _ hl => ?_, fun {vs us zs ws} r1 r2 => ?_⟩
  · match us, ws, hl with
    | [], [a, b], _ => exact .of_eq (h kV doc pm an cdv ct a b)
    | [], [], hl => simp [sw2] at hl
    | [], [_], hl => simp [sw2] at hl
    | [], _ :: _ :: _ :: _, hl => simp [sw2] at hl
    | _ :: _, _, hl => simp [sw2] at hl
  · cases r1 with
    | nil =>
      cases r2 with
      | nil => exact .nil
      | cons a b =>
        cases b with
        | nil => exact .nil
        | cons c d =>
          cases d with
          | nil => exact .cons c (.cons a .nil)
          | cons e g => exact .nil
    | cons _ _ => exact .nil
theorem kb_tokens (F : Fun K "tokens_of" "tokens_of" sTokens f fd) : KBinds K fd ["p"] ["p"] kw1 kw1 := kb_kw1 F fun _ _ _ _ _ _ _ => rfl
theorem kb_plus (F : Fun K "plus" "plus" sPlus f fd) : KBinds K fd ["p", "q"] ["q", "p"] sw2 sw2 := kb_sw2 F fun _ _ _ _ _ _ _ _ => rfl
theorem kb_times (F : Fun K "times" "times" sTimes f fd) : KBinds K fd ["p", "q"] ["q", "p"] sw2 sw2 := kb_sw2 F fun _ _ _ _ _ _ _ _ => rfl
end
end K8


set_option Elab.async false
set_option linter.all false
set_option maxRecDepth 100000
set_option maxHeartbeats 4000000
/-! sets of texts: what is added, what sorted tells -/
namespace Sx
open PySem PySem.Spec PyProof.Rows L2
def txt (e : Int × Value) : Str := match e.2 with | .str x _ => x | _ => ⟨#[]⟩
def IsTxt (w : World) (e : Int × Value) : Prop := ∃ x tk, e = (hashStr w x, Value.str x tk)
def ins (x : Str) (L : List Str) : List Str := if x ∈ L then L else x :: L
/-- a table that may be walked -/
structure Tab (w : World) (es : Array (Int × Value)) (t : SetTable) : Prop where
  few : es.size < scanBound
  fit : t.fits es.size = true
  ris : Ris t.place.toList
  led : w.params.followText "set-order" = true ∨ t.led = true
/-- its entries are the texts of L, each once -/
structure Has (w : World) (es : Array (Int × Value)) (L : List Str) : Prop where
  all : ∀ e ∈ es.toList, IsTxt w e
  perm : (es.toList.map txt).Perm L
  once : L.Nodup
def SetS (w : World) (h : Heap) (a : Addr) (L : List Str) : Prop := ∃ o es ep t, h.get? a = some o ∧ o.ExactSet ∧ o.data = .set es ep t ∧ Has w es L ∧ Tab w es t
section
variable {P : Program} {w : World} {es es' : Array (Int × Value)} {L : List Str} {x : Str} {tk : Tok}
theorem Has.len (H : Has w es L) : L.length = es.size := by rw [← H.perm.length_eq, List.length_map, Array.length_toList]
theorem Has.elems (H : Has w es L) : ElemsOf (strKind P w) es.toList := fun e he => by
  obtain ⟨y, k, rfl⟩ := H.all e he
  exact ⟨⟨y, strKind_is P w y k, rfl⟩, rfl⟩
theorem Has.mem (H : Has w es L) : x ∈ L ↔ ∃ e ∈ es.toList, (strKind P w).is x e.2 = true := by
  rw [← H.perm.mem_iff, List.mem_map]
  have key : ∀ e ∈ es.toList, (txt e = x ↔ (strKind P w).is x e.2 = true) := fun e he => by
    obtain ⟨y, k, rfl⟩ := H.all e he
    exact ⟨fun q => by rw [show y = x from q]; exact strKind_is P w x k, fun q => (strKind P w).inj _ _ _ (strKind_is P w y k) q⟩
  exact ⟨fun ⟨e, he, q⟩ => ⟨e, he, (key e he).mp q⟩, fun ⟨e, he, q⟩ => ⟨e, he, (key e he).mpr q⟩⟩
theorem Has.move (H : Has w es L) (p : es'.toList.Perm es.toList) : Has w es' L := ⟨fun e he => H.all e (p.mem_iff.mp he), (p.map txt).trans H.perm, H.once⟩
theorem Has.more (H : Has w es L) (n : x ∉ L) (p : es'.toList.Perm ((hashStr w x, Value.str x tk) :: es.toList)) : Has w es' (x :: L) :=
  ⟨fun e he => (List.mem_cons.mp (p.mem_iff.mp he)).elim (fun q => ⟨x, tk, q⟩) (H.all e), (p.map txt).trans (H.perm.cons x), List.nodup_cons.mpr ⟨n, H.once⟩⟩
theorem SetS.keep {h h' : Heap} {a : Addr} (R : SetS w h a L) (k : ∀ o, h.get? a = some o → h'.get? a = some o) : SetS w h' a L := let ⟨o, es, ep, t, q, r⟩ := R; ⟨o, es, ep, t, k o q, r⟩
end
section
variable {P : Program} {w : World} {A : Around} {E : Value → Shared → Prop} {s : Shared} {a : Addr} {L : List Str} {x : Str} {tk : Tok}
theorem laidAt {h : Heap} {o : Obj} {es es' : Array (Int × Value)} {ep : Nat} {t t' : SetTable} (ho : h.get? a = some o) (hd : o.data = .set es ep t) : (h.update a (Obj.putSet es' t')).get? a = some { o with data := .set es' (ep + 1) t' } := by
  have e := Heap.get?_update_self (Obj.putSet es' t') ho (by rw [putSet_of es' t' hd] <;> rfl)
  exact e.trans (congrArg some (putSet_of es' t' hd))
/-- the entries are laid, and laid anew if the table is too full -/
theorem lay_end {g : Bool → Sem Unit} (hg : ∀ (b : Bool) (s1 : Shared) (G : Unit → Shared → Prop), G () s1 → wpAny (model P w) A (g b) G E s1) {o : Obj} {es : Array (Int × Value)} {ep : Nat} {t : SetTable}
    (ho : s.heap.get? a = some o) (hx : o.ExactSet) (hd : o.data = .set es ep t) {e1 : Array (Int × Value)} {t1 : SetTable} (hs : Has w e1 L) (ht : Tab w e1 t1) {dm : Bool} {R : Option Bool → Shared → Prop}
    (k : ∀ h', Heap.SameBut a s.heap h' → SetS w h' a L → R (some true) { s with heap := h' }) :
    wpAny (model P w) A (do
      storeSet a e1 t1
      if (!dm && t1.tooFull) = true then do
          g (relayAll t1 e1 (SetTable.grown e1.size)).2.2
          storeSet a (relayAll t1 e1 (SetTable.grown e1.size)).1 (relayAll t1 e1 (SetTable.grown e1.size)).2.1
          pure (some true)
        else pure (some true)) R E s := by
  have at1 := laidAt (es' := e1) (t' := t1) ho hd
  have sb := Heap.SameBut.update s.heap a (Obj.putSet e1 t1)
  refine wpAny_bind (wpAny_storeSet_of ho hd ?_ (fits_of_scanBound ht.few))
  by_cases c : (!dm && t1.tooFull) = true
  · rw [if_pos c]
    have p := relayAll_perm t1 e1 (SetTable.grown e1.size)
    have ft := relayAll_fits t1 e1 (SetTable.grown e1.size)
    have ri := relayAll_ris t1 e1 (SetTable.grown e1.size)
    have le := relayAll_led t1 e1 (SetTable.grown e1.size)
    revert p ft ri le
    obtain ⟨e2, t2, gv⟩ := relayAll t1 e1 (SetTable.grown e1.size)
    intro p ft ri le
    have z : e2.size = e1.size := by simpa using p.length_eq
    have f2 : e2.size < scanBound := z ▸ ht.few
    refine wpAny_bind (hg gv _ _ (wpAny_bind (wpAny_storeSet_of at1 rfl (wpAny_pure ?_) (fits_of_scanBound f2))))
    exact k _ (sb.trans (.update _ a _)) ⟨_, e2, _, t2, laidAt at1 rfl, hx, rfl, hs.move p, f2, ft, ri, ht.led.imp_right fun q => le.trans q⟩
  · rw [if_neg c]
    exact wpAny_pure (k _ sb ⟨_, e1, _, t1, at1, hx, rfl, hs, ht⟩)
theorem gave_ok {m : Sem Unit} (hm : m = pure () ∨ ∃ r, m = rule r) {G : Unit → Shared → Prop} (q : G () s) : wpAny (model P w) A m G E s := by
  rcases hm with rfl | ⟨r, rfl⟩
  · exact wpAny_pure q
  · exact wpAny_rule q
theorem add_hashed {G : Bool → Shared → Prop} (R : SetS w s.heap a L) (room : L.length + 1 < scanBound) (k : ∀ b h', Heap.SameBut a s.heap h' → SetS w h' a (ins x L) → G b { s with heap := h' }) :
    wpAny (model P w) A (setAddHashed a (.str x tk) ((strKind P w).hash x)) G E s := by
  obtain ⟨o, es, ep, t, ho, hx, hd, hs, ht⟩ := R
  have el := hs.elems (P := P)
  have ik := strKind_is P w x tk
  have sc : (Value.str x tk).scannable = true := rfl
  unfold setAddHashed setAddHashedIn
  refine wpAny_holding (wpAny_bind (wpAny_setState_of ho hd ht.fit ?_))
  dsimp only
  rw [if_pos (byScan_of sc ht.few el)]
  unfold setAddByScan
  refine wpAny_bind (wpAny_bind (wpAny_rule (wpAny_bind (wpAny_setScan_of ik ho hd ht.fit el ?_))))
  by_cases m : x ∈ L
  · obtain ⟨e, he, q⟩ := (hs.mem (P := P)).mp m
    cases f : List.findIdx? (fun e => (strKind P w).is x e.2) es.toList with
    | none => exact absurd ((List.findIdx?_eq_none_iff.mp f e he).symm.trans q) Bool.false_ne_true
    | some j => exact wpAny_pure (wpAny_pure (k false s.heap (.refl a s.heap) ⟨o, es, ep, t, ho, hx, hd, by unfold ins; rw [if_pos m]; exact hs, ht⟩))
  · cases f : List.findIdx? (fun e => (strKind P w).is x e.2) es.toList with
    | some j =>
      obtain ⟨h1, h2, _⟩ := List.findIdx?_eq_some_iff_getElem.mp f
      exact absurd ((hs.mem (P := P)).mpr ⟨_, List.getElem_mem h1, h2⟩) m
    | none =>
      have p := layNew_perm t es ((strKind P w).hash x) (.str x tk)
      have ft := layNew_fits t es ((strKind P w).hash x) (.str x tk)
      have ri := layNew_ris t es ((strKind P w).hash x) (.str x tk) ht.ris
      have le := layNew_led t es ((strKind P w).hash x) (.str x tk)
      dsimp only
      revert p ft ri le
      obtain ⟨e1, t1, dm, gv⟩ := layNew t es ((strKind P w).hash x) (.str x tk)
      dsimp only
      intro p ft ri le
      rw [Array.toList_push] at p
      have hs1 : Has w e1 (x :: L) := hs.more m (tk := tk) (p.trans (List.perm_append_singleton _ _))
      have few : e1.size < scanBound := by rw [← hs1.len]; exact room
      have led : w.params.followText "set-order" = true ∨ t1.led = true := ht.led.imp_right fun q => le.trans q
      have ie : ins x L = x :: L := if_neg m
      rw [ie] at k
      refine wpAny_bind (gave_ok (by cases gv <;> first | exact .inl rfl | exact .inr ⟨_, rfl⟩) ?_)
      split
      · rw [hashByValue_scannable 8 sc]
        refine wpAny_bind (wpAny_pure (lay_end (fun b s1 G q => gave_ok (by cases b <;> first | exact .inl rfl | exact .inr ⟨_, rfl⟩) q) ho hx hd hs1 ⟨few, ?_, ?_, ?_⟩ fun h' sb r => wpAny_pure (k true h' sb r)))
        · first | (split <;> first | exact ft | exact SetTable.fits_plain_off ft) | exact ft
        · first | (split <;> exact ri) | exact ri
        · first | (split <;> exact led) | exact led
      · refine wpAny_bind (wpAny_pure ?_)
        simp only [↓reduceIte]
        exact lay_end (fun b s1 G q => gave_ok (by cases b <;> first | exact .inl rfl | exact .inr ⟨_, rfl⟩) q) ho hx hd hs1 ⟨few, ft, ri, led⟩ fun h' sb r => wpAny_pure (k true h' sb r)
theorem add_txt {G : Value → Shared → Prop} (R : SetS w s.heap a L) (room : L.length + 1 < scanBound) (k : ∀ h', Heap.SameBut a s.heap h' → SetS w h' a (ins x L) → G .none { s with heap := h', toks := s.toks + 1 }) :
    wpAny (model P w) A (call (.builtin "set.add") [.ref a, .str x tk]) G E s := by
  obtain ⟨o, es, ep, t, ho, hx, _⟩ := id R
  refine wpAny_call_entry F.slot_set_add (show s.TypeIs (.ref a) "set" from ⟨o, ho, hx.1⟩) F.entry_set_add ?_ (F.args_set_add_2 _ _)
  unfold Builtin.«set.add» Builtin.Frozenset.oneOther
  simp only [List.isEmpty_nil, bind_assoc]
  unfold Builtin.Frozenset.addrOf setAdd
  refine wpAny_bind (wpAny_pure (wpAny_bind (wpAny_pure (wpAny_bind (wpAny_holding (wpAny_bind ((strKind P w).pyHash (strKind_is P w x tk) ?_)))))))
  exact add_hashed (s := { s with toks := s.toks + 1 }) R room fun _ h' sb r => wpAny_pure ⟨_, rfl, k h' sb r⟩
theorem new_txt (h : Heap) : SetS w (h.push { cls := .type "set", dict := none, data := .set #[] 0 (.fresh 0 0 (!w.params.followText "set-order")) }) h.objs.size [] :=
  ⟨_, #[], 0, _, Heap.get?_push_size _ rfl, ⟨rfl, rfl, rfl⟩, rfl, ⟨fun e he => (by simp at he), .refl _, List.Pairwise.nil⟩, by decide, rfl, List.Pairwise.nil, by
    show _ ∨ (!w.params.followText "set-order") = true
    cases w.params.followText "set-order" <;> first | exact .inl rfl | exact .inr rfl⟩
end
/-! tracked -/
def SetSO (w : World) (a : Addr) (L : List Str) : HO := .ext fun h => SetS w h a L
section
variable {X : Cx} {pins : List (Addr × Obj)} {σ : L2.St} {H : Hp} {s : Shared}
theorem setSO_ok {w : World} {P : Program} {h : Heap} {a : Addr} {L : List Str} (R : SetS w h a L) : ObjOk P w H h a (SetSO w a L) :=
  ⟨R, let ⟨o, _, _, _, q, _⟩ := R; ⟨o, q⟩, fun _ _ p k => SetS.keep p k⟩
theorem addS_ok {E : Value → Shared → Prop} {D : Addr} {L : List Str} {y : Str} {v : Value} {Q : Value → Shared → Prop} (I : Inv X pins σ H s) (hD : H D = some (SetSO X.w D L)) (room : L.length + 1 < scanBound) (r : RelV (.str y) v)
    (k : ∀ s', Inv X pins σ (upd H D (SetSO X.w D (ins y L))) s' → Q .none s') : wpAny (model X.prog X.w) X.A (call (.builtin "set.add") [.ref D, v]) Q E s := by
  obtain ⟨tk, rfl⟩ := r
  have R : SetS X.w s.heap D L := (I.hok D _ hD).1
  refine add_txt R room fun h' sb new => k _ (I.write (e := D) (t' := s.toks + 1) (by rw [hD]; trivial) (.inl rfl) (fun b u hb hu => (sb.2 b hb).trans hu) ?_ (setSO_ok new))
  obtain ⟨o, _, _, _, q, _⟩ := new
  exact ⟨o, q⟩
/-- sorted of such a set -/
def srtT (ks : List Str) : List Str := ks.mergeSort (PySem.W.dataLe false PyData.str)
def rSortS (w : World) : List V → Hp → VK → Prop := fun vs H Q => ∃ (a : Addr) (L : List Str), vs = [.ref a] ∧ H a = some (SetSO w a L) ∧ L.length ≤ 4000 ∧
  ∀ (ks : List Str) (p : Addr), ks.Perm L → H p = none → Q (.ref p) (upd H p (.lst ((srtT ks).map V.str)))
theorem vals_txt : ∀ {vs : List Value} {ks : List Str}, PySem.W.EachIs (fun v x => ∃ tk, v = Value.str x tk) vs ks → Vals (ks.map V.str) vs
  | _, _, .nil => .nil
  | _, _, .cons h t => .cons h (vals_txt t)
theorem each_txt {w : World} : ∀ {vs : List Value}, (∀ v ∈ vs, ∃ x tk, v = Value.str x tk) → PySem.W.EachIs (fun v x => ∃ tk, v = Value.str x tk) vs (vs.map fun v => txt (0, v))
  | [], _ => .nil
  | v :: r, h => .cons (by obtain ⟨x, tk, rfl⟩ := h v List.mem_cons_self; exact ⟨tk, rfl⟩) (each_txt (w := w) fun u hu => h u (List.mem_cons_of_mem _ hu))
theorem cr_sortS (hc : X.calm = true) (hu : X.A.units + 64 < cLine) : CallR X (.builtin "sorted") (rSortS X.w) := by
  intro pins s σ H vs us Q I r h
  obtain ⟨a, L, rfl, ha, hl, q⟩ := h
  obtain rfl := Vals.ref1 r
  have R : SetS X.w s.heap a L := (I.hok a _ ha).1
  obtain ⟨o, es, ep, t, ho, hx, hd, hs, ht⟩ := R
  refine Calls.call_function_entry kind_sorted plain_sorted entry_sorted (args_sorted1 _) ?_
  unfold Builtin.«sorted»
  refine wpAny_bind (m := checkCount "sorted" 1 1 _) (wpAny_pure (wpAny_bind (collect_set (A := X.A.in1) (I.ok.hd hc) ⟨o, ho, hx.1, hd⟩ ht.fit ht.few ht.ris ht.led fun s1 vs k1 hz g1 o1 pm => ?_)))
  have hv : ∀ v ∈ vs, ∃ x tk, v = Value.str x tk := fun v hv => by
    obtain ⟨e, he, rfl⟩ := List.mem_map.mp (pm.mem_iff.mp hv)
    obtain ⟨x, tk, rfl⟩ := hs.all e he
    exact ⟨x, tk, rfl⟩
  have pk : (vs.map fun v => txt (0, v)).Perm L := by
    have := pm.map fun v => txt (0, v)
    rw [List.map_map] at this
    exact this.trans hs.perm
  have ei := each_txt (w := X.w) hv
  generalize vs.map (fun v => txt (0, v)) = ks at pk ei
  have hln : ks.length ≤ 4000 := by rw [pk.length_eq]; exact hl
  have hvl : vs.length = ks.length := ei.length
  refine wpAny_bind (wpAny_newList ?_ (by rw [hvl, sizeLine_eq]; omega))
  have hob : (s1.heap.push (seqObj "list" vs.toArray 0)).get? s1.heap.objs.size = some (seqObj "list" vs.toArray 0) := Heap.get?_push_size _ rfl
  refine wpAny_bind (wpAny_holding (PySem.W.list_sort_data (s := { s1 with heap := s1.heap.push (seqObj "list" vs.toArray 0) }) (enc := PyData.str) hob ei (ei.mono fun v x ⟨tk, e⟩ => ⟨[], by subst e; exact Reads.str _ _, by simp⟩) (.of fun _ _ => rfl) (.others fun _ => ⟨nofun, nofun⟩) (by rw [sizeLine_eq]; omega) (fun b _ => ?_) fun out hlen hout => ?_))
  · show X.A.units + 1 + 1 + 0 < cLine
    omega
  obtain ⟨c, hc2⟩ := sortedHeap_at (vs := vs) (out := out.toArray) hob
  have kk : ∀ b u, s.heap.get? b = some u → (sortedHeap (s1.heap.push (seqObj "list" vs.toArray 0)) s1.heap.objs.size vs out.toArray).get? b = some u := fun b u e => by
    have e1 := k1 b u e
    have lt := Heap.lt_size e1
    rw [sortedHeap_old (Nat.ne_of_lt lt) (by rw [Heap.size_push]; exact Nat.lt_succ_of_lt lt)]
    exact Heap.get?_push_of_some _ e1
  have hn : H s1.heap.objs.size = none := I.hok.fresh hz
  have len2 : ((srtT ks).map V.str).length ≤ sizeLine := by
    unfold srtT
    rw [List.length_map, List.length_mergeSort, sizeLine_eq]
    omega
  refine wpAny_pure ⟨_, rfl, ?_⟩
  have J : Inv X pins σ (upd H s1.heap.objs.size (.lst ((srtT ks).map V.str))) { s with heap := sortedHeap (s1.heap.push (seqObj "list" vs.toArray 0)) s1.heap.objs.size vs out.toArray, gens := s1.gens, drawn := s1.drawn, toks := s1.toks } :=
    I.call (ch := []) (Un.laid kk hz hn) (I.hok.laid kk hz ⟨len2, out, c, vals_txt hout, hc2⟩) (by rw [g1]; exact I.bare) (fun _ z => nomatch z)
  refine ⟨.ref s1.heap.objs.size, _, ?_, rfl, q ks _ pk hn⟩
  have e : ({ s1 with heap := sortedHeap (s1.heap.push (seqObj "list" vs.toArray 0)) s1.heap.objs.size vs out.toArray } : Shared) = { s with heap := sortedHeap (s1.heap.push (seqObj "list" vs.toArray 0)) s1.heap.objs.size vs out.toArray, gens := s1.gens, drawn := s1.drawn, toks := s1.toks } := by
    cases s1
    cases s
    cases o1
    rfl
  rw [e]
  exact J
end
end Sx


set_option Elab.async false
set_option linter.all false
set_option maxRecDepth 100000
set_option maxHeartbeats 4000000
/-! {text for .. in .. for .. in ..} -/
namespace Sx
open PySem PySem.Spec PyProof.Rows L2
abbrev two (t0 i0 t1 i1 : Expr) : List Comprehension := [⟨t0, i0, [], 0⟩, ⟨t1, i1, [], 0⟩]
section
variable {elt t0 i0 t1 i1 : Expr} {scope : Scope} {pos : Pos} {it acc : Value} {env : Env}
theorem turn0 : compTurn (.SetComp elt (two t0 i0 t1 i1) scope pos) 0 it acc env = (do
    standAt i0.pos
    match ← pyNext it with
    | none => pure (.done .next)
    | some v =>
      letOwnedTupleGo t0 it v
      assign t0 env v
      let x ← eval i1 env
      standAt i1.pos
      let x ← foldedSetIterable i1 env x
      let _ ← runOwn (.compStart (.SetComp elt (two t0 i0 t1 i1) scope pos) 1 (← holding [x] (pyIter x)) acc env) env
      again (.compLoop (.SetComp elt (two t0 i0 t1 i1) scope pos) 0 it acc env)) := by rfl
theorem turn1 : compTurn (.SetComp elt (two t0 i0 t1 i1) scope pos) 1 it acc env = (do
    standAt i1.pos
    match ← pyNext it with
    | none => pure (.done .next)
    | some v =>
      letOwnedTupleGo t1 it v
      assign t1 env v
      (do let x ← eval elt env; standAt elt.pos; let _ ← call (.builtin "set.add") [acc, x])
      again (.compLoop (.SetComp elt (two t0 i0 t1 i1) scope pos) 1 it acc env)) := by rfl
end
section
variable {M : Program} {w : World} {A : Around} {R : Result → Shared → Prop} {s : Shared} {elt t0 i0 t1 i1 : Expr} {scope : Scope} {pos : Pos} {it acc : Value} {env : Env}
/-- where an error goes -/
abbrev Er (M : Program) (w : World) (A : Around) (env : Env) (R : Result → Shared → Prop) := notedBy (model M w) A env fun e s' => R (.error e) s'
theorem loop0 (hs : ∀ x, foldedSetIterable i1 env x = pure x) (I : Nat → Shared → Prop) (go : ∀ n s, I n s → wpAny (model M w) A (pyNext it) (fun r s1 => match r with
    | none => R (.ok .next) s1
    | some v => wpAny (model M w) A (letOwnedTupleGo t0 it v) (fun _ s2 => wpAny (model M w) A (assign t0 env v) (fun _ s3 => wpAny (model M w) A (eval i1 env) (fun x s4 => wpAny (model M w) A (pyIter x) (fun j s5 =>
        codeAny (model M w) A (.compStart (.SetComp elt (two t0 i0 t1 i1) scope pos) 1 j acc env) (fun r s6 => match r with
          | .ok _ => ∃ m, m < n ∧ I m s6
          | .error _ => False) s5) (Er M w A env R) s4) (Er M w A env R) s3) (Er M w A env R) s2) (Er M w A env R) s1) (Er M w A env R) s) (n : Nat) (h : I n s) :
    codeAny (model M w) A (.compLoop (.SetComp elt (two t0 i0 t1 i1) scope pos) 0 it acc env) R s := by
  refine codeAny_loop rfl I (fun n s hI => ?_) n h
  show wpAny _ A ((compTurn (.SetComp elt (two t0 i0 t1 i1) scope pos) 0 it acc env).onRaise (fun x => do noteFrame x env; theTreesLotGoes x)) _ _ s
  refine wpAny_noted ?_
  rw [turn0]
  refine wpAny_bind (wpAny_standAt (wpAny_bind (wpAny_mono (go n s hI) (fun r s1 h1 => ?_) fun _ _ q => q)))
  match r, h1 with
  | none, h1 => exact wpAny_pure h1
  | some v, h1 =>
    refine wpAny_bind (wpAny_mono h1 (fun _ s2 h2 => wpAny_bind (wpAny_mono h2 (fun _ s3 h3 => wpAny_bind (wpAny_mono h3 (fun x s4 h4 => ?_) fun _ _ q => q)) fun _ _ q => q)) fun _ _ q => q)
    refine wpAny_bind (wpAny_standAt (wpAny_bind (wpAny_of_eq (hs x) (wpAny_bind (wpAny_holding (wpAny_mono h4 (fun j s5 h5 => wpAny_bind (wpAny_runOwn ?_)) fun _ _ q => q))))))
    rw [Around.mark_none]
    refine codeAny_mono h5 fun r s6 h6 => ?_
    match r, h6 with
    | .ok f, h6 => first
        | exact wpAny_pure ⟨rfl, h6⟩
        | exact wpAny_bind (wpAny_pure (wpAny_pure ⟨rfl, h6⟩))
    | .error e, h6 => exact h6.elim
theorem loop1 (I : Nat → Shared → Prop) (go : ∀ n s, I n s → wpAny (model M w) A (pyNext it) (fun r s1 => match r with
    | none => R (.ok .next) s1
    | some v => wpAny (model M w) A (letOwnedTupleGo t1 it v) (fun _ s2 => wpAny (model M w) A (assign t1 env v) (fun _ s3 => wpAny (model M w) A (eval elt env) (fun x s4 =>
        wpAny (model M w) A (call (.builtin "set.add") [acc, x]) (fun _ s5 => ∃ m, m < n ∧ I m s5) (Er M w A env R) s4) (Er M w A env R) s3) (Er M w A env R) s2) (Er M w A env R) s1) (Er M w A env R) s) (n : Nat) (h : I n s) :
    codeAny (model M w) A (.compLoop (.SetComp elt (two t0 i0 t1 i1) scope pos) 1 it acc env) R s := by
  refine codeAny_loop rfl I (fun n s hI => ?_) n h
  show wpAny _ A ((compTurn (.SetComp elt (two t0 i0 t1 i1) scope pos) 1 it acc env).onRaise (fun x => do noteFrame x env; theTreesLotGoes x)) _ _ s
  refine wpAny_noted ?_
  rw [turn1]
  refine wpAny_bind (wpAny_standAt (wpAny_bind (wpAny_mono (go n s hI) (fun r s1 h1 => ?_) fun _ _ q => q)))
  match r, h1 with
  | none, h1 => exact wpAny_pure h1
  | some v, h1 =>
    refine wpAny_bind (wpAny_mono h1 (fun _ s2 h2 => wpAny_bind (wpAny_mono h2 (fun _ s3 h3 => ?_) fun _ _ q => q)) fun _ _ q => q)
    exact wpAny_bind (wpAny_bind (wpAny_mono h3 (fun x s4 h4 => wpAny_bind (wpAny_standAt (wpAny_bind (wpAny_mono h4 (fun _ s5 h5 => wpAny_pure (wpAny_pure ⟨rfl, h5⟩)) fun _ _ q => q)))) fun _ _ q => q))
theorem start1 (h0 : codeAny (model M w) A (.compLoop (.SetComp elt (two t0 i0 t1 i1) scope pos) 1 it acc env) R s)
    (h : wpAny (model M w) A (pyIter it) (fun j s' => codeAny (model M w) A (.compLoop (.SetComp elt (two t0 i0 t1 i1) scope pos) 1 j acc env) R s') (Er M w A env R) s) :
    codeAny (model M w) A (.compStart (.SetComp elt (two t0 i0 t1 i1) scope pos) 1 it acc env) R s := by
  refine codeAny_of_tree ?_
  show wpAny _ _ ((compStart (.SetComp elt (two t0 i0 t1 i1) scope pos) 1 it acc env).onRaise (fun x => do noteFrame x env; standAt theWindowsPlace)) _ _ s
  refine wpAny_notedAt ?_
  unfold compStart
  show wpAny _ _ (ask >>= _) _ _ s
  refine wpAny_bind (wpAny_askSetting (wpAny_ite ?_))
  split
  · first | exact wpAny_bind (wpAny_pure (wpAny_pure ⟨rfl, h0⟩)) | exact wpAny_pure ⟨rfl, h0⟩
  · refine wpAny_bind (wpAny_rule ?_)
    first
      | exact wpAny_bind (wpAny_standAt (wpAny_bind (wpAny_mono h (fun j s' q => wpAny_pure ⟨rfl, q⟩) fun _ _ x => x)))
      | (show wpAny _ _ (standAt i1.pos >>= _) _ _ s; exact wpAny_bind (wpAny_standAt (wpAny_bind (wpAny_mono h (fun j s' q => wpAny_pure ⟨rfl, q⟩) fun _ _ x => x))))
end
end Sx


set_option Elab.async false
set_option linter.all false
set_option maxRecDepth 100000
set_option maxHeartbeats 8000000
namespace Sx
open PySem PySem.Spec PyProof.Rows L2 PpSet
/-- {elt for tg in iter for tg1 in iter1}, elt a text; vs: the block's names, vs1: those of the second target -/
def tSc2 (w : World) (wi : TI) (g : TG) (wi1 : TI) (g1 : TG) (te : TE) (vs vs1 : List Nat) : TE := fun σ H Q => wi σ H fun J H1 => ∀ D, H1 D = none → ∃ W : Nat → Nat → Hp → Prop, (∃ m, W 0 m (upd H1 D (SetSO w D []))) ∧
  ∀ i m H, W i m H → (J.stop i H ∧ Q (.ref D) H) ∨ (J.go i H ∧ ∃ Nx : Hp → Prop, (∀ H', Nx H' → ∃ m', m' < m ∧ W (i + 1) m' H') ∧ ∀ x H', J.yld i H x H' → g x (wipe σ vs) H' fun σ2 H2 => wipe σ2 vs = wipe σ vs ∧
    wi1 σ2 H2 fun J1 H4 => ∃ W1 : Nat → Nat → Hp → Prop, (∃ m, W1 0 m H4) ∧ ∀ j k H, W1 j k H → (J1.stop j H ∧ Nx H) ∨ (J1.go j H ∧ ∃ Nx1 : Hp → Prop, (∀ H', Nx1 H' → ∃ k', k' < k ∧ W1 (j + 1) k' H') ∧
      ∀ x H', J1.yld j H x H' → g1 x (wipe σ2 vs1) H' fun σ3 H5 => wipe σ3 vs1 = wipe σ2 vs1 ∧ te σ3 H5 fun y H7 => ∃ (t : Str) (L : List Str), y = .str t ∧ H7 D = some (SetSO w D L) ∧ L.length + 1 < scanBound ∧ Nx1 (upd H7 D (SetSO w D (ins t L)))))
section
variable {X : Cx}
/-- what a rule of the block's is asked for -/
abbrev Blk (X : Cx) (scope : Scope) (F : Cx → Prop) : Prop := ∀ (s : Shared) (H : Hp) (C : Addr) (cl : List (Str × Addr)) (fp : List Addr), F (X.blk s H scope (compEnvC scope cl C X.env) fp)
theorem pe_sc2 {elt tg iter tg1 iter1 : Expr} {scope : Scope} {own : List (Str × Nat)} {vs1 : List Nat} {pos : Pos} {wi wi1 : TI} {g g1 : TG} {te : TE} (hc : X.calm = true) (hN : X.N.Nodup) (hi : PI X tg iter wi) (ok : BlkOk X.N X.env.scope scope own) (hv : ∀ i ∈ vs1, i ∈ own.map (·.2))
    (hg : Blk X scope fun Y => PG Y tg g) (hi1 : Blk X scope fun Y => PI Y tg1 iter1 wi1) (hg1 : Blk X scope fun Y => PG Y tg1 g1) (he : Blk X scope fun Y => PE Y elt te)
    (hs : ∀ x, foldedSetIterable iter X.env x = pure x := by intro _; rfl) (hs1 : ∀ env x, foldedSetIterable iter1 env x = pure x := by intro _ _; rfl) :
    PE X (.SetComp elt (two tg iter tg1 iter1) scope pos) (tSc2 X.w wi g wi1 g1 te (own.map (·.2)) vs1) := by
  refine ⟨fun pins s σ H Q I h => ?_⟩
  rw [PpSet.eval_SetComp]
  have fr : ∀ y ∈ scope.names, y.2 = .free → ∃ c, X.env.cells.lookup y.1 = some c := fun y hy e => (ok.free y hy e).elim (fun k => I.ok.has _ (.inl k)) fun k => I.ok.has _ (.inr k)
  refine wpAny_comprehension_free (use := none) rfl hs (closure_ok fr) ok.kind (fun y hy e => by rw [ok.uniq y hy, e]) (thn (hi.run pins s σ H _ I h) fun xv s1 hx => thn hx fun itv s2 h2 => ?_)
  obtain ⟨it, fp, tn, J, H2, rfl, I2, T, st2, f2, q⟩ := h2
  refine newSet_ok (newEnv_comp ?_)
  generalize hD : s2.heap.objs.size = D
  obtain ⟨W, ⟨m0, w0⟩, turn⟩ := q D (I2.hok.fresh (Nat.le_of_eq hD))
  -- the new set
  generalize hs3 : ({ s2 with heap := s2.heap.push { cls := .type "set", dict := none, data := .set #[] 0 (.fresh 0 0 (!X.w.params.followText "set-order")) } } : Shared) = s3
  have up : ∀ b o, s2.heap.get? b = some o → s3.heap.get? b = some o := fun b o e => by rw [← hs3]; exact Heap.get?_push_of_some _ e
  have sz3 : s3.heap.objs.size = s2.heap.objs.size + 1 := by rw [← hs3]; exact Heap.size_push ..
  have I3 : Inv X pins σ (upd H2 D (SetSO X.w D [])) s3 := by
    rw [← hs3]
    refine I2.laid (t' := s2.toks) (fun b o e => Heap.get?_push_of_some _ e) (Nat.le_of_eq hD) (setSO_ok ?_)
    rw [← hD]
    exact new_txt _
  have low : ∀ b ∈ fp, b < s2.heap.objs.size := fun b hb => let ⟨o, e, _⟩ := T.obj _ _ st2 b hb; Heap.lt_size e
  have f3 : ∀ b ∈ fp, FpOk X pins (upd H2 D (SetSO X.w D [])) b ∧ b < s3.heap.objs.size := fun b hb =>
    ⟨⟨by rw [upd_ne (by rw [← hD]; exact Nat.ne_of_lt (low b hb))]; exact (f2 b hb).1, (f2 b hb).2⟩, by rw [sz3]; exact Nat.lt_succ_of_lt (low b hb)⟩
  have st3 : tn 0 s3.heap := T.keep _ _ _ st2 fun b _ o e => up b o e
  have I4 := block_start I3 ok hN f3
  generalize hH3 : upd H2 D (SetSO X.w D []) = H3 at I3 I4 w0 f3
  have pg := hg s3 H3 s3.heap.objs.size (cellsFrom (s3.heap.objs.size + 1) scope.names (cloFrom X.env.cells scope.names [])) fp
  have pe := he s3 H3 s3.heap.objs.size (cellsFrom (s3.heap.objs.size + 1) scope.names (cloFrom X.env.cells scope.names [])) fp
  have pi1 := hi1 s3 H3 s3.heap.objs.size (cellsFrom (s3.heap.objs.size + 1) scope.names (cloFrom X.env.cells scope.names [])) fp
  have pg1 := hg1 s3 H3 s3.heap.objs.size (cellsFrom (s3.heap.objs.size + 1) scope.names (cloFrom X.env.cells scope.names [])) fp
  show codeAny _ _ (.compStart (.SetComp elt (two tg iter tg1 iter1) scope pos) 0 (.ref it) (.ref D) (compEnvC scope (cellsFrom (s3.heap.objs.size + 1) scope.names (cloFrom X.env.cells scope.names [])) s3.heap.objs.size X.env))
    (compPost (model X.prog X.w) X.A X.xe none (EP X pins σ Q) (.ref D) s3.heap.objs.size) { s3 with heap := pushCells (s3.heap.push { cls := .type "dict", data := .dict #[] }) scope.names }
  generalize hce : compEnvC scope (cellsFrom (s3.heap.objs.size + 1) scope.names (cloFrom X.env.cells scope.names [])) s3.heap.objs.size X.env = ce at I4 pg pe pi1 pg1 ⊢
  have cL : ce.locals = s3.heap.objs.size := by subst hce; rfl
  generalize hs4 : ({ s3 with heap := pushCells (s3.heap.push { cls := .type "dict", data := .dict #[] }) scope.names } : Shared) = s4 at I4 ⊢
  have st4 : tn 0 s4.heap := T.keep _ _ _ st3 fun b _ o e => by rw [← hs4]; exact pushCells_keeps _ _ _ _ (Heap.get?_push_of_some _ e)
  have stat : ∀ {σ' : L2.St} {H' : Hp} {s' : Shared}, Inv (X.blk s3 H3 scope ce fp) [] σ' H' s' → (∀ b ∈ fp, H' b = none) → ∀ b ∈ fp, FpOk (X.blk s3 H3 scope ce fp) [] H' b := fun {σ' H' s'} I' hn b hb =>
    ⟨hn b hb, (I'.ok.exf b hb).1, I'.ok.exfs b hb, .inl hb, fun x c e => (I'.ok.exf b hb).2 x c e, fun p hp => nomatch (show p ∈ ([] : List (Addr × Obj)) ++ [] from hp)⟩
  -- what holds ahead of each turn of the first clause
  let B : Nat → Shared → Prop := fun n s' => ∃ i H', Inv (X.blk s3 H3 scope ce fp) [] (wipe σ (own.map (·.2))) H' s' ∧ tn i s'.heap ∧ (∀ b ∈ fp, H' b = none) ∧ W i n H'
  have loop : codeAny (model X.prog X.w) X.A (.compLoop (.SetComp elt (two tg iter tg1 iter1) scope pos) 0 (.ref it) (.ref D) ce) (compPost (model X.prog X.w) X.A X.xe none (EP X pins σ Q) (.ref D) s3.heap.objs.size) s4 := by
    refine loop0 (hs1 ce) B ?_ m0 ⟨0, H3, I4, st4, fun b hb => (f3 b hb).1.1, w0⟩
    rintro n s5 ⟨i, H5, I5, st5, n5, w5⟩
    rcases turn i n H5 w5 with ⟨stop, qq⟩ | ⟨go, Nx, hNx, step⟩
    · refine thnF (T.done (X.blk s3 H3 scope ce fp) rfl rfl rfl hc i [] s5 _ H5 (fun _ _ => False) I5 (stat I5 n5) st5 stop) fun r s6 ⟨hr, I6⟩ => ?_
      subst hr
      have I7 : Inv X pins σ H5 s6 := I3.call' (ch := fp) I6.os I6.base I6.hok I6.bare fun b hb => let z := (f3 b hb).1.2; ⟨z.2.2.1, z.1, z.2.2.2.1, z.2.2.2.2⟩
      have nC : H5 s3.heap.objs.size = none := cL ▸ (show H5 ce.locals = none from I6.free)
      obtain ⟨m, hn, _⟩ := I6.loc
      have hn : s6.heap.Ns s3.heap.objs.size m := cL ▸ (show s6.heap.Ns ce.locals m from hn)
      obtain ⟨g0, g1, g2, g3, g4, g5⟩ := I3.fpOk (Nat.le_refl _) nC
      exact ⟨m, hn, fun h'' sb => ⟨.ref D, H5, I7.turned (t' := s6.toks) (fun b o hb e => (sb.2 b hb).trans e) g0 g1 g3 g4 g5, rfl, qq⟩⟩
    · refine thnF (T.item (X.blk s3 H3 scope ce fp) rfl rfl rfl hc i [] s5 _ H5 (fun _ _ => False) I5 (stat I5 n5) st5 go) fun r s6 ⟨u, hr, h6⟩ => ?_
      subst hr
      refine thnF h6 fun _ s7 ⟨x, H7, I7, r7, y7, st7, n7⟩ => ?_
      refine thnF (pg.run _ s7 _ H7 x u _ (I7.pinned (stat I7 n7) (T.obj _ _ st7)) r7 (step x H7 y7)) fun _ s8 ⟨σ8, H8, I8, hw8, q8⟩ => ?_
      have l8 : (wipe σ (own.map (·.2))).length = σ8.length := by rw [← hw8, wipe_length]
      have k8 : ∀ (j : Nat) v, (wipe σ (own.map (·.2)))[j]? = some (some v) → (wipe σ8 vs1)[j]? = some (some v) := fun j v e => by
        rw [← hw8] at e
        obtain ⟨e1, e2⟩ := wipe_some e
        rw [wipe_out fun z => e2 (hv j z), e1]
      -- from the second clause's end to the next turn
      have fin : ∀ {s' : Shared} {H' : Hp}, Inv (X.blk s3 H3 scope ce fp) ([] ++ pinsAt fp s7.heap) (wipe σ8 vs1) H' s' → Nx H' → ∃ m, m < n ∧ B m s' := fun {s' H'} I' nx => by
        obtain ⟨m', hm, w'⟩ := hNx H' nx
        have held : ∀ b ∈ fp, ∀ o, s7.heap.get? b = some o → s'.heap.get? b = some o ∧ H' b = none := fun b hb o e => (I'.pin (b, o) (List.mem_append_right _ (List.mem_append_right _ (mem_pinsAt hb e)))).imp id And.left
        exact ⟨m', hm, i + 1, H', (I'.unpinned (pins := [])).weak (l8.trans (wipe_length σ8 vs1).symm) k8, T.keep _ _ _ st7 fun b hb o e => (held b hb o e).1, fun b hb => let ⟨o, e, _⟩ := T.obj _ _ st7 b hb; (held b hb o e).2, w'⟩
      refine thnF (pi1.run _ s8 σ8 H8 _ I8 q8) fun xv s9 hx => thnF hx fun itv s11 h11 => ?_
      obtain ⟨it1, fp1, tn1, J1, H11, rfl, I11, T1, st11, f11, W1, ⟨m1, w1⟩, turn1⟩ := h11
      let B1 : Nat → Shared → Prop := fun k s' => ∃ j H', Inv (X.blk s3 H3 scope ce fp) ([] ++ pinsAt fp s7.heap) (wipe σ8 vs1) H' s' ∧ tn1 j s'.heap ∧ (∀ b ∈ fp1, H' b = none) ∧ W1 j k H'
      have stat1 : ∀ {H' : Hp}, (∀ b ∈ fp1, H' b = none) → ∀ b ∈ fp1, FpOk (X.blk s3 H3 scope ce fp) ([] ++ pinsAt fp s7.heap) H' b := fun hn b hb => ⟨hn b hb, (f11 b hb).2⟩
      have inner : codeAny (model X.prog X.w) X.A (.compLoop (.SetComp elt (two tg iter tg1 iter1) scope pos) 1 (.ref it1) (.ref D) ce) (fun r s' => match r with
          | .ok _ => ∃ m, m < n ∧ B m s'
          | .error _ => False) s11 := by
        refine loop1 B1 ?_ m1 ⟨0, H11, I11.weak (wipe_length _ _) (fun j v e => (wipe_some e).1), st11, fun b hb => (f11 b hb).1, w1⟩
        rintro k s12 ⟨j, H12, I12, st12, n12, w12⟩
        rcases turn1 j k H12 w12 with ⟨stop1, nx1⟩ | ⟨go1, Nx1, hNx1, step1⟩
        · refine thnF (T1.done (X.blk s3 H3 scope ce fp) rfl rfl rfl hc j _ s12 _ H12 (fun _ _ => False) I12 (stat1 n12) st12 stop1) fun r s13 ⟨hr, I13⟩ => ?_
          subst hr
          exact fin I13 nx1
        · refine thnF (T1.item (X.blk s3 H3 scope ce fp) rfl rfl rfl hc j _ s12 _ H12 (fun _ _ => False) I12 (stat1 n12) st12 go1) fun r s13 ⟨u1, hr, h13⟩ => ?_
          subst hr
          refine thnF h13 fun _ s14 ⟨x1, H14, I14, r14, y14, st14, n14⟩ => ?_
          refine thnF (pg1.run _ s14 _ H14 x1 u1 _ (I14.pinned (stat1 n14) (T1.obj _ _ st14)) r14 (step1 x1 H14 y14)) fun _ s15 ⟨σ15, H15, I15, hw15, q15⟩ => ?_
          refine thnF (pe.run _ s15 σ15 H15 _ I15 q15) fun z s17 ⟨yv, H17, I17, r17, t, L, ey, hD17, hz17, nx⟩ => ?_
          subst ey
          refine addS_ok (X := X.blk s3 H3 scope ce fp) I17 hD17 hz17 r17 fun s18 I18 => ?_
          obtain ⟨m', hm, w'⟩ := hNx1 _ nx
          have held : ∀ b ∈ fp1, ∀ o, s14.heap.get? b = some o → s18.heap.get? b = some o ∧ (upd H17 D (SetSO X.w D (ins t L))) b = none := fun b hb o e => (I18.pin (b, o) (List.mem_append_right _ (List.mem_append_right _ (mem_pinsAt hb e)))).imp id And.left
          exact ⟨m', hm, j + 1, _, I18.unpinned.weak (by rw [← hw15, wipe_length]) (fun j v e => (wipe_some (hw15 ▸ e)).1), T1.keep _ _ _ st14 fun b hb o e => (held b hb o e).1, fun b hb => let ⟨o, e, _⟩ := T1.obj _ _ st14 b hb; (held b hb o e).2, w'⟩
      exact start1 inner (T1.self X.A 0 _ _ _ st11 inner)
  exact codeAny_compStart_set loop (T.self X.A 0 _ _ _ st4 loop)
end
end Sx


set_option Elab.async false
set_option linter.all false
set_option maxRecDepth 100000
set_option maxHeartbeats 8000000
namespace K8
open PySem L2 Nd Bk Gd PySem.ExE
/-! tokens_of -/
theorem turns {J : It} {n : Nat} {G : Hp → Prop} {Y : Nat → Hp → V → Hp → Prop} (wk : Walk J n G Y) {H0 : Hp} {Qd : Hp → Prop} {St : (Hp → Prop) → V → Hp → Prop} (Pv : Nat → Hp → Prop) (h0 : Pv 0 H0) (hG : ∀ i H, i ≤ n → Pv i H → G H)
    (hs : ∀ i x H H', i < n → Pv i H → Y i H x H' → St (Pv (i + 1)) x H') (hd : ∀ H, Pv n H → Qd H) :
    ∃ W : Nat → Nat → Hp → Prop, (∃ m, W 0 m H0) ∧ ∀ i m H, W i m H → (J.stop i H ∧ Qd H) ∨ (J.go i H ∧ ∃ Nx : Hp → Prop, (∀ H', Nx H' → ∃ m', m' < m ∧ W (i + 1) m' H') ∧ ∀ x H', J.yld i H x H' → St Nx x H') := by
  refine ⟨fun i m H => m = n - i ∧ i ≤ n ∧ Pv i H, ⟨n, (Nat.sub_zero n).symm, Nat.zero_le _, h0⟩, fun i m H ⟨e, hi, p⟩ => ?_⟩
  have g := hG i H hi p
  rcases Nat.lt_or_eq_of_le hi with lt | rfl
  · exact .inr ⟨wk.goes i H lt g, Pv (i + 1), fun H' p' => ⟨n - (i + 1), by omega, rfl, lt, p'⟩, fun x H' y => hs i x H H' lt p (wk.yields i H x H' lt g y)⟩
  · exact .inl ⟨wk.stops H g, hd H p⟩
theorem ascK_ext {l m : List Str} (h1 : AscK l) (h2 : AscK m) (h : ∀ k, k ∈ l ↔ k ∈ m) : l = m := by
  have e : (l.map fun k => (k, (0 : Int))) = m.map fun k => (k, (0 : Int)) := by
    refine asc_ext (by unfold Asc; rw [List.pairwise_map]; exact h1) (by unfold Asc; rw [List.pairwise_map]; exact h2) fun p => ?_
    simp only [List.mem_map (f := fun k : Str => (k, (0 : Int)))]
    exact ⟨fun ⟨k, hk, q⟩ => ⟨k, (h k).mp hk, q⟩, fun ⟨k, hk, q⟩ => ⟨k, (h k).mpr hk, q⟩⟩
  have inv : ∀ l : List Str, (l.map fun k => (k, (0 : Int))).map (·.1) = l := fun l => by
    induction l with
    | nil => rfl
    | cons x r ih => rw [List.map_cons, List.map_cons, ih]
  have := congrArg (List.map (·.1)) e
  rwa [inv, inv] at this
theorem srtT_sortK {ks : List Str} (nd : ks.Nodup) : Sx.srtT ks = sortK ks := by
  have le : PySem.W.dataLe false PyData.str = fun a b : Str => !lt b a := rfl
  obtain ⟨h1, h2⟩ := sortK_ok ks [] (by simpa using nd) List.Pairwise.nil
  have tr : ∀ a b c : Str, (!lt b a) = true → (!lt c b) = true → (!lt c a) = true := fun a b c x y => by
    rw [Bool.not_eq_true'] at x y ⊢
    cases q : lt c a with
    | false => rfl
    | true =>
      cases z : lt a b with
      | true => rw [lt_trans q z] at y; exact absurd y (by decide)
      | false => rw [lt_total z x] at q; rw [q] at y; exact absurd y (by decide)
  have tot : ∀ a b : Str, ((!lt b a) || (!lt a b)) = true := fun a b => by
    cases q : lt b a with
    | false => rfl
    | true => rw [lt_asymm q]; rfl
  have p : (Sx.srtT ks).Perm ks := List.mergeSort_perm ..
  have s : (Sx.srtT ks).Pairwise fun a b => (!lt b a) = true := by
    unfold Sx.srtT
    rw [le]
    exact List.pairwise_mergeSort tr tot ks
  refine ascK_ext ?_ h1 fun k => by
    rw [p.mem_iff]
    have := h2.mem_iff (a := k)
    rw [List.nil_append] at this
    exact this.symm
  have nd' : (Sx.srtT ks).Nodup := p.nodup_iff.mpr nd
  refine List.Pairwise.imp (fun {a b} ⟨x, y⟩ => ?_) (List.Pairwise.and s nd')
  cases q : lt a b with
  | true => rfl
  | false => exact absurd (lt_total q (by simpa using x)) y
def toksP (p : Poly) : List Str := p.flatMap fun t => t.1.map (·.1)
def so (l : List Str) : List Str := (l.foldl dd []).reverse
theorem dd_up : ∀ (l acc : List Str), acc.length ≤ (l.foldl dd acc).length
  | [], _ => Nat.le_refl _
  | t :: l, acc => by
    refine Nat.le_trans ?_ (dd_up l (dd acc t))
    unfold dd
    split
    · exact Nat.le_refl _
    · rw [List.length_append]
      exact Nat.le_add_right _ _
theorem so_len (l r : List Str) : (so l).length ≤ ((l ++ r).foldl dd []).length := by
  unfold so
  rw [List.length_reverse, List.foldl_append]
  exact dd_up _ _
theorem so_snoc (l : List Str) (x : Str) : Sx.ins x (so l) = so (l ++ [x]) := by
  unfold so Sx.ins
  rw [List.foldl_append]
  show _ = (dd (l.foldl dd []) x).reverse
  generalize l.foldl dd [] = m
  unfold dd
  by_cases q : x ∈ m
  · rw [if_pos q, if_pos (List.mem_reverse.mpr q)]
  · rw [if_neg q, if_neg fun z => q (List.mem_reverse.mp z), List.reverse_append]
    rfl
theorem toksP_take {p : Poly} {i : Nat} {t : Mono × Int} (e : p[i]? = some t) : toksP (p.take (i + 1)) = toksP (p.take i) ++ t.1.map (·.1) := by
  unfold toksP
  rw [List.take_succ, e, List.flatMap_append]
  simp
theorem toksP_part {p : Poly} {i : Nat} {t : Mono × Int} (e : p[i]? = some t) (j : Nat) : ∃ r, toksP p = (toksP (p.take i) ++ (t.1.take j).map (·.1)) ++ r := by
  refine ⟨(t.1.drop j).map (·.1) ++ toksP (p.drop (i + 1)), ?_⟩
  have h1 : toksP p = toksP (p.take (i + 1)) ++ toksP (p.drop (i + 1)) := by
    unfold toksP
    rw [← List.flatMap_append, List.take_append_drop]
  have h2 : t.1.map (·.1) = (t.1.take j).map (·.1) ++ (t.1.drop j).map (·.1) := by rw [← List.map_append, List.take_append_drop]
  rw [h1, toksP_take e, h2]
  simp only [List.append_assoc]
theorem seq_goS {K : PySem.W.Frag} {tl : TE} {σ : L2.St} {H0 H : Hp} {a : Addr} {xs : List V} {R : It → Hp → Prop} (hv : ∀ Q : VK, Q (.ref a) H → tl σ H Q) (s : Same H0 H) (h : SqL K H0 a xs ∨ SqT K H0 a xs)
    (k : ∀ (J : It) (G : Hp → Prop), Walk J xs.length G (YAt xs) → (∀ H', Same H0 H' → G H') → R J H) : iSeq K tl σ H R := by
  rcases h with h | h
  · exact .inl (hv _ ⟨a, rfl, ⟨_, s.seq h⟩, k _ _ walk_list fun H' f => f.seq h⟩)
  · exact .inr (hv _ ⟨a, rfl, ⟨_, sqT_same s h⟩, k _ _ walk_tup fun H' f => sqT_same f h⟩)
section
variable {P : Program} {w : World} {K : PySem.W.Frag} {mg : Str → Option Value} {base : Heap}
theorem scTks : FnScope ["p", "term", "pair"] ["p"] (defScope sTokens) := ⟨rfl, rfl, rfl, by decide +kernel, rfl, by decide +kernel, by decide +kernel⟩
theorem ok_tks {f : Addr} {fd : FuncData} (F : Fun K "tokens_of" "tokens_of" sTokens f fd) (C : Cn K mg) : FnOk P w K mg base CX0 1 f fd ["p"] (spTks K) := by
  refine F.ok scTks (fun vs H Q E h => ?_) (fun cdv A outer s H vs Q E hr h => ?_)
  · obtain ⟨v, p, rfl, _⟩ := h
    rfl
  · obtain ⟨v, p, rfl, hd, okp, hz, hln, k⟩ := h
    refine ⟨_, pss_one (ps_ret (pe_callTy call_tuple_of (by rfl) C.N.tup (by rfl) (pa_cons (pe_callB (Sx.cr_sortS rfl (u64 hr)) (by rfl) C.srt (by rfl) (pa_cons
      (Sx.pe_sc2 (own := [("term", 1), ("pair", 2)]) (vs1 := [2]) (g := gName 1) (g1 := gName 2) rfl scTks.nd (pi_seq (pv 0)) (blkOk_by (N := ["p", "term", "pair"]) (sc := defScope sTokens) (by decide +kernel)) (by decide)
        (fun _ _ _ _ _ => pg_name (i := 1) scTks.nd rfl (Or.inl rfl)) (fun _ _ _ _ _ => show PI _ _ _ (iSeq K (tOp (rIx K) (tVar 1) (tC (.int 0)))) from pi_seq (pe_ix ix_seq (pv 1) pe_int (fun _ _ => rfl)))
        (fun _ _ _ _ _ => pg_name (i := 2) scTks.nd rfl (Or.inl rfl)) (fun _ _ _ _ _ => show PE _ _ (tOp (rIx K) (tVar 2) (tC (.int 0))) from pe_ix ix_seq (pv 2) pe_int (fun _ _ => rfl))) pa_nil)) pa_nil))), ?_⟩
    obtain ⟨a, xs, rfl, hs, hl, hget⟩ := fd_bag hd
    have lim : ∀ {l r : List Str}, toksP p = l ++ r → (so l).length ≤ 1000 := fun {l r} e => by
      refine Nat.le_trans (so_len l r) ?_
      rw [← e, ← sortK_len (dd_nodup _ [] List.nodup_nil)]
      exact hln
    refine seq_go rfl hs fun J G walk hG D nD => ?_
    refine turns walk (fun i H2 => Same H H2 ∧ H2 D = some (Sx.SetSO w D (so (toksP (p.take i))))) ⟨sm_new sm_refl nD, upd_same⟩ (fun i H2 _ ⟨s2, _⟩ => hG H2 s2.seq (sqT_same s2)) ?_ ?_
    · rintro i x _ H2 hi ⟨s2, hD⟩ ⟨rfl, hx⟩
      obtain ⟨t, ht, hxt⟩ := hget i x hx
      obtain ⟨T, kk, rfl, hT, hk⟩ := fd_pair hxt
      obtain ⟨b, zs, rfl, hb, hbl, hbget⟩ := fd_bag (κ := Str) hk
      refine ⟨rfl, ?_⟩
      refine seq_goS (a := b) (xs := zs) (fun Q q => ⟨_, rfl, (fd_ix (sq_same s2 hT) Q).2 q⟩) s2 hb fun J2 G2 walk2 hG2 => ?_
      refine turns walk2 (fun j H3 => Same H H3 ∧ H3 D = some (Sx.SetSO w D (so (toksP (p.take i) ++ (t.1.take j).map (·.1))))) ⟨s2, by simpa using hD⟩ (fun j H3 _ ⟨s3, _⟩ => hG2 H3 s3) ?_ ?_
      · rintro j y _ H3 hj ⟨s3, hD3⟩ ⟨rfl, hy⟩
        obtain ⟨q, hq, hyq⟩ := hbget j y hy
        obtain ⟨U, kk2, rfl, hU, hkk⟩ := fd_pair hyq
        cases fd_str (z := q.1) hkk
        obtain ⟨r, hr2⟩ := toksP_part ht j
        have := lim hr2
        refine ⟨rfl, _, rfl, (fd_ix (sq_same s3 hU) _).2 ⟨q.1, _, rfl, hD3, ?_, sm_new s3 nD, ?_⟩⟩
        · show _ < 4096
          omega
        · rw [upd_same, so_snoc, List.take_succ, hq, List.map_append, List.append_assoc]
          rfl
      · rintro H3 ⟨s3, hD3⟩
        rw [hbl, List.take_length, ← toksP_take ht] at hD3
        exact ⟨s3, hD3⟩
    · rintro H2 ⟨s2, hD⟩
      rw [hl, List.take_length] at hD
      refine ⟨D, _, rfl, hD, Nat.le_trans (lim (List.append_nil _).symm) (by decide), fun ks l pk nl => ?_⟩
      have pks : ks.Perm (seen p) := pk.trans (List.reverse_perm _)
      have e : Sx.srtT ks = tokK p := by
        rw [srtT_sortK (pks.nodup_iff.mpr (seen_nodup p)), tokK_seen]
        obtain ⟨a1, a2⟩ := sortK_ok ks [] (by simpa using pks.nodup_iff.mpr (seen_nodup p)) List.Pairwise.nil
        obtain ⟨b1, b2⟩ := sortK_ok (seen p) [] (by simpa using seen_nodup p) List.Pairwise.nil
        refine ascK_ext a1 b1 fun k => ?_
        have e1 := a2.mem_iff (a := k)
        have e2 := b2.mem_iff (a := k)
        rw [List.nil_append] at e1 e2
        exact e1.trans (pks.mem_iff.trans e2.symm)
      rw [e]
      have s3 : Same H2 (upd H2 l (.lst ((tokK p).map V.str))) := sm_new sm_refl nl
      have hl3 : upd H2 l (.lst ((tokK p).map V.str)) l = some (.lst ((tokK p).map V.str)) := upd_same
      generalize upd H2 l (.lst ((tokK p).map V.str)) = H3 at s3 hl3 ⊢
      refine ⟨l, _, rfl, .inl ⟨SqL.of hl3, fun T nT => ?_⟩⟩
      refine k _ _ (sm_new (s2.trans s3) ((s2.trans s3).free nT)) (.tup (SqT.of upd_same) ?_)
      exact strs_dp _
end
end K8


set_option Elab.async false
set_option linter.all false
set_option maxRecDepth 100000
set_option maxHeartbeats 8000000
namespace K8
open PySem L2 Nd Bk Gd PySem.ExE
theorem pe_never {X : Cx} {e : Expr} : PE X e (fun _ _ _ => False) := ⟨fun _ _ _ _ _ _ h => h.elim⟩
theorem pt_never {X : Cx} {e : Expr} : PT X e (fun _ _ _ => False) := ⟨fun _ _ _ _ _ _ h => h.elim⟩
theorem pw_never {X : Cx} {e : Expr} : PW X e (fun _ _ _ => False) := ⟨fun _ _ _ _ _ _ _ h => h.elim⟩
theorem pss_never {X : Cx} {es : List Stmt} : PSs X es (fun _ _ _ => False) := ⟨fun _ _ _ _ _ _ h => h.elim⟩
/-! a number or none -/
def ov : Option Int → V
  | none => .non
  | some i => .int i
def oD : Option Int → PyData
  | none => .none
  | some i => .int i
def leastO : Option Int → Option Int → Option Int
  | none, b => b
  | some a, none => some a
  | some a, some b => some (if b < a then b else a)
def addO : Option Int → Option Int → Option Int
  | some a, some b => some (a + b)
  | _, _ => none
theorem dp_ov {K : PySem.W.Frag} {H : Hp} : ∀ o : Option Int, Dp K H (ov o) (oD o)
  | none => .non
  | some i => .int i
theorem dp_oD {K : PySem.W.Frag} {H : Hp} {v : V} : ∀ {o : Option Int}, Dp K H v (oD o) → v = ov o
  | none, h => by cases h; rfl
  | some i, h => by cases h; rfl
theorem dn {y z : Str} (n : y ≠ z) : V.bl (decide (V.str y = V.str z)) = V.bl false := by rw [decide_eq_false (fun e => n (V.str.inj e))]
theorem dy {z : Str} : V.bl (decide (V.str z = V.str z)) = V.bl true := by rw [decide_eq_true rfl]
def cost_ : Str := Str.ofString "cost"
def trust_ : Str := Str.ofString "trust"
/-- the names of k06 -/
structure Cv (K : PySem.W.Frag) (w : World) (mg : Str → Option Value) : Prop where
  max : mg "max" = none
  zeros : ∃ a, mg "_ZEROS" = some (.ref a) ∧ KDct K w a cost_ .non ∧ KDct K w a trust_ (.int 0)
  ones : ∃ a, mg "_ONES" = some (.ref a) ∧ KDct K w a cost_ (.int 0) ∧ KDct K w a trust_ (.int 100)
section
variable {P : Program} {w : World} {K : PySem.W.Frag} {mg : Str → Option Value} {base : Heap}
def spLesser : Sp := fun vs H Q _ => ∃ a b : Option Int, vs = [ov a, ov b] ∧ Q (ov (leastO a b)) H
theorem scLesser : FnScope ["a", "b"] ["a", "b"] (defScope sLesser) := ⟨rfl, rfl, rfl, by decide +kernel, rfl, by decide +kernel, by decide +kernel⟩
theorem ok_lesser {f : Addr} {fd : FuncData} (F : Fun K "_lesser_cost" "_lesser_cost" sLesser f fd) (C : Cn K mg) : FnOk P w K mg base CX0 1 f fd ["a", "b"] spLesser := by
  refine F.ok scLesser (fun vs H Q E h => ?_) (fun cdv A outer s H vs Q E hr h => ?_)
  · obtain ⟨a, b, rfl, _⟩ := h
    rfl
  · obtain ⟨a, b, rfl, k⟩ := h
    refine ⟨_, pss_cons (ps_if (pt_cmpR op_isN (pv 0) pe_non (nomark _)) (pss_one (ps_ret (pv 1))) pss_nil)
      (pss_cons (ps_if (pt_cmpR op_isN (pv 1) pe_non (nomark _)) (pss_one (ps_ret (pv 0))) pss_nil)
      (pss_one (ps_ret (pe_callB (call_min2 rfl) (by rfl) C.min (by rfl) (pa_cons (pv 0) (pa_cons (pv 1) pa_nil)))))), ?_⟩
    cases a with
    | none => exact ⟨_, rfl, rfl, _, rfl, iteT ⟨_, rfl, k⟩⟩
    | some a =>
      refine ⟨_, rfl, rfl, _, rfl, iteF ?_⟩
      cases b with
      | none => exact ⟨_, rfl, rfl, _, rfl, iteT ⟨_, rfl, k⟩⟩
      | some b => exact ⟨_, rfl, rfl, _, rfl, iteF ⟨_, rfl, _, rfl, _, _, rfl, k⟩⟩
def spAdded : Sp := fun vs H Q _ => ∃ a b : Option Int, vs = [ov a, ov b] ∧ Q (ov (addO a b)) H
theorem scAdded : FnScope ["a", "b"] ["a", "b"] (defScope sAdded) := ⟨rfl, rfl, rfl, by decide +kernel, rfl, by decide +kernel, by decide +kernel⟩
theorem ok_added {f : Addr} {fd : FuncData} (F : Fun K "_added_cost" "_added_cost" sAdded f fd) : FnOk P w K mg base CX0 1 f fd ["a", "b"] spAdded := by
  refine F.ok scAdded (fun vs H Q E h => ?_) (fun cdv A outer s H vs Q E hr h => ?_)
  · obtain ⟨a, b, rfl, _⟩ := h
    rfl
  · obtain ⟨a, b, rfl, k⟩ := h
    refine ⟨_, pss_cons (ps_if (PW.pt (pw_or (pt_cmpR op_isN (pv 0) pe_non (nomark _)) (pw_or1 (pt_cmpR op_isN (pv 1) pe_non (nomark _))))) (pss_one (ps_ret pe_non)) pss_nil)
      (pss_one (ps_ret (pe_op op_add (pv 0) (pv 1)))), ?_⟩
    cases a with
    | none => exact ⟨_, rfl, rfl, _, rfl, iteT (iteT k)⟩
    | some a =>
      refine ⟨_, rfl, rfl, _, rfl, iteF ?_⟩
      cases b with
      | none => exact ⟨_, rfl, rfl, _, rfl, iteT k⟩
      | some b => exact ⟨_, rfl, rfl, _, rfl, iteF ⟨_, rfl, _, rfl, _, _, rfl, rfl, k⟩⟩
/-- a value, so often -/
def raO (is : Bool) (e : Int) (o : Option Int) : Option Int := if is = true then o.map (· * e) else o
def meas (is : Bool) : Str := if is = true then cost_ else trust_
def spRaised : Sp := fun vs H Q _ => ∃ (is : Bool) (o : Option Int) (e : Int), vs = [.str (meas is), ov o, .int e] ∧ 0 ≤ e ∧ e < 1000 ∧ Q (ov (raO is e o)) H
theorem scRaised : FnScope ["measure", "value", "exponent"] ["measure", "value", "exponent"] (defScope sRaised) := ⟨rfl, rfl, rfl, by decide +kernel, rfl, by decide +kernel, by decide +kernel⟩
theorem ok_raised {f : Addr} {fd : FuncData} (F : Fun K "_raised" "_raised" sRaised f fd) : FnOk P w K mg base CX0 1 f fd ["measure", "value", "exponent"] spRaised := by
  refine F.ok scRaised (fun vs H Q E h => ?_) (fun cdv A outer s H vs Q E hr h => ?_)
  · obtain ⟨is, o, e, rfl, _⟩ := h
    rfl
  · obtain ⟨is, o, e, rfl, h0, h1, k⟩ := h
    refine ⟨_, pss_cons (ps_if (PW.pt (pw_and (pt_cmpR op_eq (pv 0) pe_str (nomark _)) (pw_and1 (pt_cmpR op_notN (pv 1) pe_non (nomark _))))) (pss_one (ps_ret (pe_op op_mul (pv 1) (pv 2)))) pss_nil)
      (pss_one (ps_ret (pv 1))), ?_⟩
    cases is with
    | true =>
      refine ⟨_, rfl, rfl, true, dy, iteT ⟨_, rfl, rfl, _, rfl, ?_⟩⟩
      cases o with
      | none => exact iteF ⟨_, rfl, k⟩
      | some i => exact iteT ⟨_, rfl, _, rfl, _, _, rfl, rfl, .inr ⟨by omega, by omega⟩, k⟩
    | false => exact ⟨_, rfl, rfl, false, dn (by decide +kernel), iteF (iteF ⟨_, rfl, k⟩)⟩
def plO (is : Bool) (a b : Option Int) : Option Int := match is, a, b with
  | true, a, b => leastO a b
  | false, some a, some b => some (if b > a then b else a)
  | false, _, _ => none
def tmO (is : Bool) (a b : Option Int) : Option Int := match is, a, b with
  | true, a, b => addO a b
  | false, some a, some b => some (if b < a then b else a)
  | false, _, _ => none
def zeO (is : Bool) : Option Int := match is with
  | true => none
  | false => some 0
def onO (is : Bool) : Option Int := match is with
  | true => some 0
  | false => some 100
/-- is a number where the measure has numbers alone -/
def Nu (is : Bool) (o : Option Int) : Prop := is = false → o.isSome = true
def spMPlus : Sp := fun vs H Q _ => ∃ (is : Bool) (a b : Option Int), vs = [.str (meas is), ov a, ov b] ∧ Nu is a ∧ Nu is b ∧ Q (ov (plO is a b)) H
def spMTimes : Sp := fun vs H Q _ => ∃ (is : Bool) (a b : Option Int), vs = [.str (meas is), ov a, ov b] ∧ Nu is a ∧ Nu is b ∧ Q (ov (tmO is a b)) H
def spMZero : Sp := fun vs H Q _ => ∃ (is : Bool) (x : V), vs = [.str (meas is), x] ∧ Q (ov (zeO is)) H
def spMOne : Sp := fun vs H Q _ => ∃ (is : Bool) (x : V), vs = [.str (meas is), x] ∧ Q (ov (onO is)) H
theorem scMPlus : FnScope ["measure", "a", "b"] ["measure", "a", "b"] (defScope sMPlus) := ⟨rfl, rfl, rfl, by decide +kernel, rfl, by decide +kernel, by decide +kernel⟩
theorem ok_mplus {f : Addr} {fd : FuncData} (F : Fun K "measured_plus" "measured_plus" sMPlus f fd) (V : Cv K w mg) (Gl : Df P w K mg base 1 "_lesser_cost" ["a", "b"] spLesser) : FnOk P w K mg base CX0 2 f fd ["measure", "a", "b"] spMPlus := by
  obtain ⟨fl, fdl, gL, kL, bL, GL⟩ := Gl.ok
  refine F.ok scMPlus (fun vs H Q E h => ?_) (fun cdv A outer s H vs Q E hr h => ?_)
  · obtain ⟨is, a, b, rfl, _⟩ := h
    rfl
  · obtain ⟨is, a, b, rfl, na, nb, k⟩ := h
    have hr1 : Room 1 _ := hr
    refine ⟨_, pss_cons (ps_if (pt_cmpR op_eq (pv 0) pe_str (nomark _)) pss_never pss_nil)
      (pss_cons (ps_if (pt_cmpR op_eq (pv 0) pe_str (nomark _)) (pss_one (ps_ret (pe_call GL hr1 rfl gL kL bL .nil pass0 (pa_cons (pv 1) (pa_cons (pv 2) pa_nil))))) pss_nil)
      (pss_cons (ps_if (pt_cmpR op_eq (pv 0) pe_str (nomark _)) (pss_one (ps_ret (pe_callB (call_max2 rfl) (by rfl) V.max (by rfl) (pa_cons (pv 1) (pa_cons (pv 2) pa_nil))))) pss_nil) pss_never)), ?_⟩
    cases is with
    | true => exact ⟨_, rfl, rfl, false, dn (by decide +kernel), iteF ⟨_, rfl, rfl, true, dy, iteT ⟨_, rfl, _, rfl, a, b, rfl, k⟩⟩⟩
    | false =>
      obtain ⟨i, rfl⟩ := Option.isSome_iff_exists.mp (na rfl)
      obtain ⟨j, rfl⟩ := Option.isSome_iff_exists.mp (nb rfl)
      exact ⟨_, rfl, rfl, false, dn (by decide +kernel), iteF ⟨_, rfl, rfl, false, dn (by decide +kernel), iteF ⟨_, rfl, rfl, true, dy, iteT ⟨_, rfl, _, rfl, i, j, rfl, k⟩⟩⟩⟩
theorem scMTimes : FnScope ["measure", "a", "b"] ["measure", "a", "b"] (defScope sMTimes) := ⟨rfl, rfl, rfl, by decide +kernel, rfl, by decide +kernel, by decide +kernel⟩
theorem ok_mtimes {f : Addr} {fd : FuncData} (F : Fun K "measured_times" "measured_times" sMTimes f fd) (C : Cn K mg) (Gl : Df P w K mg base 1 "_added_cost" ["a", "b"] spAdded) : FnOk P w K mg base CX0 2 f fd ["measure", "a", "b"] spMTimes := by
  obtain ⟨fl, fdl, gL, kL, bL, GL⟩ := Gl.ok
  refine F.ok scMTimes (fun vs H Q E h => ?_) (fun cdv A outer s H vs Q E hr h => ?_)
  · obtain ⟨is, a, b, rfl, _⟩ := h
    rfl
  · obtain ⟨is, a, b, rfl, na, nb, k⟩ := h
    have hr1 : Room 1 _ := hr
    refine ⟨_, pss_cons (ps_if (pt_cmpR op_eq (pv 0) pe_str (nomark _)) pss_never pss_nil)
      (pss_cons (ps_if (pt_cmpR op_eq (pv 0) pe_str (nomark _)) (pss_one (ps_ret (pe_call GL hr1 rfl gL kL bL .nil pass0 (pa_cons (pv 1) (pa_cons (pv 2) pa_nil))))) pss_nil)
      (pss_cons (ps_if (pt_cmpR op_eq (pv 0) pe_str (nomark _)) (pss_one (ps_ret (pe_callB (call_min2 rfl) (by rfl) C.min (by rfl) (pa_cons (pv 1) (pa_cons (pv 2) pa_nil))))) pss_nil) pss_never)), ?_⟩
    cases is with
    | true => exact ⟨_, rfl, rfl, false, dn (by decide +kernel), iteF ⟨_, rfl, rfl, true, dy, iteT ⟨_, rfl, _, rfl, a, b, rfl, k⟩⟩⟩
    | false =>
      obtain ⟨i, rfl⟩ := Option.isSome_iff_exists.mp (na rfl)
      obtain ⟨j, rfl⟩ := Option.isSome_iff_exists.mp (nb rfl)
      exact ⟨_, rfl, rfl, false, dn (by decide +kernel), iteF ⟨_, rfl, rfl, false, dn (by decide +kernel), iteF ⟨_, rfl, rfl, true, dy, iteT ⟨_, rfl, _, rfl, i, j, rfl, k⟩⟩⟩⟩
theorem scMZero : FnScope ["measure", "persons"] ["measure", "persons"] (defScope sMZero) := ⟨rfl, rfl, rfl, by decide +kernel, rfl, by decide +kernel, by decide +kernel⟩
theorem ok_mzero {f : Addr} {fd : FuncData} (F : Fun K "measured_zero" "measured_zero" sMZero f fd) (V : Cv K w mg) : FnOk P w K mg base CX0 1 f fd ["measure", "persons"] spMZero := by
  refine F.ok scMZero (fun vs H Q E h => ?_) (fun cdv A outer s H vs Q E hr h => ?_)
  · obtain ⟨is, x, rfl, _⟩ := h
    rfl
  · obtain ⟨is, x, rfl, k⟩ := h
    obtain ⟨z, gz, z1, z2⟩ := V.zeros
    refine ⟨_, pss_one (ps_ret (pe_ix (show IxR _ (rIxD K w) from ix_kdict) (pe_glob (v := .ref z) (by rfl) gz rfl) (pv 0) (fun _ _ => rfl))), ?_⟩
    cases is with
    | true => exact ⟨_, rfl, z, cost_, .non, rfl, rfl, z1, k⟩
    | false => exact ⟨_, rfl, z, trust_, .int 0, rfl, rfl, z2, k⟩
theorem scMOne : FnScope ["measure", "persons"] ["measure", "persons"] (defScope sMOne) := ⟨rfl, rfl, rfl, by decide +kernel, rfl, by decide +kernel, by decide +kernel⟩
theorem ok_mone {f : Addr} {fd : FuncData} (F : Fun K "measured_one" "measured_one" sMOne f fd) (V : Cv K w mg) : FnOk P w K mg base CX0 1 f fd ["measure", "persons"] spMOne := by
  refine F.ok scMOne (fun vs H Q E h => ?_) (fun cdv A outer s H vs Q E hr h => ?_)
  · obtain ⟨is, x, rfl, _⟩ := h
    rfl
  · obtain ⟨is, x, rfl, k⟩ := h
    obtain ⟨z, gz, z1, z2⟩ := V.ones
    refine ⟨_, pss_cons (ps_if (pt_cmpR op_eq (pv 0) pe_str (nomark _)) pss_never pss_nil) (pss_one (ps_ret (pe_ix (show IxR _ (rIxD K w) from ix_kdict) (pe_glob (v := .ref z) (by rfl) gz rfl) (pv 0) (fun _ _ => rfl)))), ?_⟩
    cases is with
    | true => exact ⟨_, rfl, rfl, false, dn (by decide +kernel), iteF ⟨_, rfl, z, cost_, _, rfl, rfl, z1, k⟩⟩
    | false => exact ⟨_, rfl, rfl, false, dn (by decide +kernel), iteF ⟨_, rfl, z, trust_, _, rfl, rfl, z2, k⟩⟩
end
end K8


set_option Elab.async false
set_option linter.all false
set_option maxRecDepth 100000
set_option maxHeartbeats 4000000
namespace K8
open PySem L2 Nd Bk PySem.Spec PyProof.Rows
/-! dict(list or tuple of pairs, each a list or a tuple), texts for keys -/
def PairV (K : PySem.W.Frag) (H : Hp) (x : V) (g : Str × V) : Prop := ∃ T, x = .ref T ∧ (SqL K H T [.str g.1, g.2] ∨ SqT K H T [.str g.1, g.2])
def kvG (gs : List (Str × V)) : List (Key × V) := gs.map fun g => (.inr g.1, g.2)
theorem kvG_nodup {gs : List (Str × V)} (h : (gs.map (·.1)).Nodup) : ((kvG gs).map (·.1)).Nodup := by
  unfold kvG
  rw [List.map_map]
  have e : ((fun kv : Key × V => kv.1) ∘ fun g : Str × V => ((Sum.inr g.1 : Key), g.2)) = (fun x : Str => (Sum.inr x : Key)) ∘ fun g : Str × V => g.1 := rfl
  rw [e, ← List.map_map]
  rw [List.Nodup, List.pairwise_map]
  exact h.imp fun {a b} hab e => hab (Sum.inr.inj e)
section
variable {X : Cx}
theorem pairs_ofG {pins : List (Addr × Obj)} {σ : L2.St} {H : Hp} {s : Shared} (I : Inv X pins σ H s) : ∀ {gs : List (Str × V)} {xs : List V} {us : List Value}, Paired (PairV X.K H) xs gs → Vals xs us →
    ∃ (as : List Addr) (ps : List (Value × Value)) (prs : List (Key × Value)), us = as.map Value.ref ∧ KV (kvG gs) prs ∧ as.length = gs.length ∧ ps.length = gs.length ∧
      ∀ (j : Nat) (k v : Value), ps[j]? = some (k, v) → (∃ a, as[j]? = some a ∧ PairAt s.heap a k v) ∧ ∃ key, prs[j]? = some (key, v) ∧ (mixKind X.prog X.w).is key k = true
  | _, _, _, .nil, r => by
    cases r
    exact ⟨[], [], [], rfl, .nil, rfl, rfl, fun j k v e => by simp at e⟩
  | g :: _, _, _, .cons h1 h2, r => by
    cases r with
    | cons r1 r2 =>
      obtain ⟨as, ps, prs, rfl, kv, la, lp, hh⟩ := pairs_ofG I h2 r2
      obtain ⟨T, rfl, hs⟩ := h1
      cases r1
      have key : ∃ u y, PairAt s.heap T u y ∧ RelV (.str g.1) u ∧ RelV g.2 y := by
        rcases hs with hs | hs
        · obtain ⟨its, rv, pl, _⟩ := I.list hs
          obtain ⟨u, y, ei, ru, ry⟩ := vals2 rv
          subst ei
          exact ⟨u, y, .inr pl.isList, ru, ry⟩
        · obtain ⟨its, rv, ht, _⟩ := I.tuple hs
          obtain ⟨u, y, ei, ru, ry⟩ := vals2 rv
          subst ei
          exact ⟨u, y, .inl ht, ru, ry⟩
      obtain ⟨u, y, hp, ru, ry⟩ := key
      refine ⟨T :: as, (u, y) :: ps, (.inr g.1, y) :: prs, rfl, .cons ⟨rfl, ry⟩ kv, by simp [la], by simp [lp], fun j k v e => ?_⟩
      cases j with
      | zero =>
        simp only [List.getElem?_cons_zero, Option.some.injEq, Prod.mk.injEq] at e
        obtain ⟨rfl, rfl⟩ := e
        exact ⟨⟨T, rfl, hp⟩, .inr g.1, rfl, kV_is (P := X.prog) (w := X.w) ru⟩
      | succ j =>
        simp only [List.getElem?_cons_succ] at e ⊢
        exact hh j k v e
def rDictG (K : PySem.W.Frag) : List V → Hp → VK → Prop := fun xs H Q => ∃ (a : Addr) (ys : List V) (gs : List (Str × V)), xs = [.ref a] ∧ (SqL K H a ys ∨ (PlainT H a ∧ SqT K H a ys)) ∧ Paired (PairV K H) ys gs ∧ (gs.map (·.1)).Nodup ∧
    ∀ p, H p = none → Q (.ref p) (upd H p (.dK (kvG gs)))
theorem paired_len {α β : Type} {R : α → β → Prop} : ∀ {xs : List α} {ys : List β}, Paired R xs ys → xs.length = ys.length
  | _, _, .nil => rfl
  | _, _, .cons _ t => by simp [paired_len t]
theorem call_dictG (hcalm : X.calm = true) : CallR X (.type "dict") (rDictG X.K) := by
  intro pins s σ H xs us Q I r q
  obtain ⟨a, ys, gs, ex, hp, hd, hnd, q⟩ := q
  subst ex
  obtain ⟨u, eu, rx⟩ := vals1 r
  subst eu
  cases rx
  have tl : (kvG gs).length = gs.length := List.length_map ..
  have hl := paired_len hd
  rcases hp with hp | ⟨hp, hs⟩
  · obtain ⟨its, rv, pl, hz⟩ := I.list hp
    obtain ⟨as, ps, prs, rfl, kv, la, lp, hh⟩ := pairs_ofG I hd rv
    have pl' : prs.length = gs.length := by rw [← tl, kv.length]
    obtain ⟨o, n, ho, hc, hdd0, hdat⟩ := pl
    refine PySem.call_dict_pairs (knd := mixKind X.prog X.w) (kvs := prs) (PairArg.list a (as.map Value.ref).toArray (fun j => as.getD j 0) ps) (I.ok.hd hcalm) ⟨⟨o, n, ho, hc, hdd0, hdat⟩, by simp [la, lp], fun j k v e => ?_⟩ ⟨by rw [pl', lp], fun i key v e => ?_⟩ (by rw [lp, ← hl]; exact hz) fun h' tk hdd hkk => ?_
    · obtain ⟨⟨b, hb, hpa⟩, _⟩ := hh j k v e
      have e2 : as.getD j 0 = b := by rw [List.getD_eq_getElem?_getD, hb]; rfl
      show (List.map Value.ref as).toArray[j]? = some (Value.ref (as.getD j 0)) ∧ PairAt s.heap (as.getD j 0) k v
      rw [e2]
      exact ⟨by simp [hb], hpa⟩
    · obtain ⟨_, key', h1, h2⟩ := hh i key v e
      exact ⟨key', h1, h2⟩
    · have hm : (s.heap.objs.size == sysModules) = false := beq_eq_false_iff_ne.mpr (Nat.ne_of_gt I.big)
      have em : mergeK [] (kvG gs) = kvG gs := merge_snoc (k := .inl 0) (v := .non) (kvG gs) [] (by rw [List.nil_append]; exact kvG_nodup hnd)
      have mr := KV.merge kv (kvs := []) (vs := []) .nil
      rw [em] at mr
      refine ⟨.ref s.heap.objs.size, upd H s.heap.objs.size (.dK (kvG gs)), I.laid (t' := tk) (fun b o e => hkk b o (by simp) e) (Nat.le_refl _) (show ObjOk X.prog X.w _ _ _ (.dK (kvG gs)) from ⟨?_, hm, merged [] prs, mr, hdd⟩), rfl, q _ (I.hok.fresh (Nat.le_refl _))⟩
      rw [tl, ← hl]
      exact hz
  · obtain ⟨its, rv, ht, hz⟩ := I.tuple hs
    obtain ⟨as, ps, prs, rfl, kv, la, lp, hh⟩ := pairs_ofG I hd rv
    have pl' : prs.length = gs.length := by rw [← tl, kv.length]
    obtain ⟨o, zs, hH, ho⟩ := hp
    have hk : s.heap.get? a = some o := (show ObjOk X.prog X.w H s.heap a (.frz o (.tup zs)) from I.hok a _ hH).1
    obtain ⟨o', ho', hc', n', hd'⟩ := ht
    rw [hk] at ho'
    cases ho'
    refine PySem.call_dict_pairs (knd := mixKind X.prog X.w) (kvs := prs) (PairArg.tuple a (as.map Value.ref).toArray (fun j => as.getD j 0) ps) (I.ok.hd hcalm) ⟨⟨o, n', hk, hc', ho, hd'⟩, by simp [la, lp], fun j k v e => ?_⟩ ⟨by rw [pl', lp], fun i key v e => ?_⟩ (by rw [lp, ← hl]; exact hz) fun h' tk hdd hkk => ?_
    · obtain ⟨⟨b, hb, hpa⟩, _⟩ := hh j k v e
      have e2 : as.getD j 0 = b := by rw [List.getD_eq_getElem?_getD, hb]; rfl
      show (List.map Value.ref as).toArray[j]? = some (Value.ref (as.getD j 0)) ∧ PairAt s.heap (as.getD j 0) k v
      rw [e2]
      exact ⟨by simp [hb], hpa⟩
    · obtain ⟨_, key', h1, h2⟩ := hh i key v e
      exact ⟨key', h1, h2⟩
    · have hm : (s.heap.objs.size == sysModules) = false := beq_eq_false_iff_ne.mpr (Nat.ne_of_gt I.big)
      have em : mergeK [] (kvG gs) = kvG gs := merge_snoc (k := .inl 0) (v := .non) (kvG gs) [] (by rw [List.nil_append]; exact kvG_nodup hnd)
      have mr := KV.merge kv (kvs := []) (vs := []) .nil
      rw [em] at mr
      refine ⟨.ref s.heap.objs.size, upd H s.heap.objs.size (.dK (kvG gs)), I.laid (t' := tk) (fun b o e => hkk b o (by simp) e) (Nat.le_refl _) (show ObjOk X.prog X.w _ _ _ (.dK (kvG gs)) from ⟨?_, hm, merged [] prs, mr, hdd⟩), rfl, q _ (I.hok.fresh (Nat.le_refl _))⟩
      rw [tl, ← hl]
      exact hz
end
end K8


set_option Elab.async false
set_option linter.all false
set_option maxRecDepth 100000
set_option maxHeartbeats 8000000
namespace K8
open PySem L2 Nd Bk Gd
theorem sortK_mem {κ : Type} [DecidableEq κ] [Ky κ] {ks : List κ} (h : ks.Nodup) {z : κ} : z ∈ sortK ks ↔ z ∈ ks := by
  have := (sortK_ok ks [] (by simpa using h) List.Pairwise.nil).2.mem_iff (a := z)
  simpa [sortK] using this
theorem dd_mem : ∀ (l acc : List Str) {z : Str}, z ∈ l.foldl dd acc ↔ z ∈ acc ∨ z ∈ l
  | [], acc, z => by simp
  | t :: l, acc, z => by
    rw [List.foldl_cons, dd_mem l]
    unfold dd
    by_cases h : t ∈ acc
    · rw [if_pos h]
      constructor
      · rintro (a | a)
        · exact .inl a
        · exact .inr (List.mem_cons_of_mem _ a)
      · rintro (a | a)
        · exact .inl a
        · rcases List.mem_cons.mp a with rfl | a
          · exact .inl h
          · exact .inr a
    · rw [if_neg h]
      simp only [List.mem_append, List.mem_cons, List.not_mem_nil, or_false]
      constructor
      · rintro ((a | a) | a)
        · exact .inl a
        · exact .inr (.inl a)
        · exact .inr (.inr a)
      · rintro (a | a | a)
        · exact .inl (.inl a)
        · exact .inl (.inr a)
        · exact .inr a
theorem tokK_mem {p : Poly} {z : Str} (h : z ∈ tokK p) : ∃ t ∈ p, ∃ x ∈ t.1, x.1 = z := by
  rw [tokK_seen] at h
  have h := (sortK_mem (seen_nodup p)).mp h
  rcases (dd_mem _ _).mp h with h | h
  · cases h
  · obtain ⟨t, ht, hz⟩ := List.mem_flatMap.mp h
    obtain ⟨x, hx, e⟩ := List.mem_map.mp hz
    exact ⟨t, ht, x, hx, e⟩
def spNeed (K : PySem.W.Frag) : Sp := fun vs H Q _ => ∃ (T D : Addr) (zs : List Str) (kvs : List (Key × V)), vs = [.ref T, .ref D] ∧ SqT K H T (zs.map V.str) ∧ H D = some (.dK kvs) ∧ (∀ z ∈ zs, ∃ v, valV kvs (.inr z) = some v) ∧ Q .non H
def worthO (is : Bool) (σ : Str → Option Int) (m : Mono) : Option Int := m.foldl (fun a x => tmO is a (raO is x.2 (σ x.1))) (onO is)
def resO (is : Bool) (σ : Str → Option Int) (p : Poly) : Option Int := p.foldl (fun b t => plO is b (worthO is σ t.1)) (zeO is)
theorem nu_tm {is : Bool} {a b : Option Int} (ha : Nu is a) (hb : Nu is b) : Nu is (tmO is a b) := by
  intro e
  subst e
  obtain ⟨i, rfl⟩ := Option.isSome_iff_exists.mp (ha rfl)
  obtain ⟨j, rfl⟩ := Option.isSome_iff_exists.mp (hb rfl)
  rfl
theorem nu_pl {is : Bool} {a b : Option Int} (ha : Nu is a) (hb : Nu is b) : Nu is (plO is a b) := by
  intro e
  subst e
  obtain ⟨i, rfl⟩ := Option.isSome_iff_exists.mp (ha rfl)
  obtain ⟨j, rfl⟩ := Option.isSome_iff_exists.mp (hb rfl)
  rfl
theorem nu_ra {is : Bool} {a : Option Int} {e : Int} (ha : Nu is a) : Nu is (raO is e a) := by
  intro z
  subst z
  exact ha rfl
theorem nu_worth {is : Bool} {σ : Str → Option Int} {m : Mono} (h : ∀ x ∈ m, Nu is (σ x.1)) : Nu is (worthO is σ m) := by
  have key : ∀ (m : Mono) (a : Option Int), (∀ x ∈ m, Nu is (σ x.1)) → Nu is a → Nu is (m.foldl (fun a x => tmO is a (raO is x.2 (σ x.1))) a) := by
    intro m
    induction m with
    | nil => exact fun a _ h => h
    | cons x r ih => exact fun a h ha => ih _ (fun y hy => h y (List.mem_cons_of_mem _ hy)) (nu_tm ha (nu_ra (h x List.mem_cons_self)))
  exact key m _ h (fun e => by subst e; rfl)
theorem nu_res {is : Bool} {σ : Str → Option Int} {p : Poly} (h : ∀ t ∈ p, ∀ x ∈ t.1, Nu is (σ x.1)) : Nu is (resO is σ p) := by
  have key : ∀ (p : Poly) (a : Option Int), (∀ t ∈ p, ∀ x ∈ t.1, Nu is (σ x.1)) → Nu is a → Nu is (p.foldl (fun b t => plO is b (worthO is σ t.1)) a) := by
    intro p
    induction p with
    | nil => exact fun a _ h => h
    | cons t r ih => exact fun a h ha => ih _ (fun y hy => h y (List.mem_cons_of_mem _ hy)) (nu_pl ha (nu_worth (h t List.mem_cons_self)))
  exact key p _ h (fun e => by subst e; rfl)
theorem worth_take {is : Bool} {σ : Str → Option Int} {m : Mono} {j : Nat} {x : Str × Int} (e : m[j]? = some x) : worthO is σ (m.take (j + 1)) = tmO is (worthO is σ (m.take j)) (raO is x.2 (σ x.1)) := by
  unfold worthO
  rw [List.take_succ, e, List.foldl_append]
  rfl
theorem res_take {is : Bool} {σ : Str → Option Int} {p : Poly} {j : Nat} {t : Mono × Int} (e : p[j]? = some t) : resO is σ (p.take (j + 1)) = plO is (resO is σ (p.take j)) (worthO is σ t.1) := by
  unfold resO
  rw [List.take_succ, e, List.foldl_append]
  rfl
theorem dp_strs {K : PySem.W.Frag} {H : Hp} : ∀ {xs : List V} {zs : List Str}, DpAll K H xs (zs.map PyData.str) → xs = zs.map V.str
  | [], [], _ => rfl
  | _ :: _, [], h => by cases h
  | [], _ :: _, h => by cases h
  | x :: xs, z :: zs, h => by
    cases h with
    | cons h1 h2 => rw [dp_str h1, dp_strs h2]; rfl
/-- the pairs that are handed in -/
def GivenAt (K : PySem.W.Frag) (H : Hp) (v : V) (gs : List (Str × V)) : Prop := ∃ a ys, v = .ref a ∧ (SqL K H a ys ∨ (PlainT H a ∧ SqT K H a ys)) ∧ Paired (PairV K H) ys gs
/-- each token of p has a value there -/
def Has (gs : List (Str × V)) (is : Bool) (σ : Str → Option Int) (p : Poly) : Prop := ∀ t ∈ p, ∀ x ∈ t.1, valV (kvG gs) (.inr x.1) = some (ov (σ x.1)) ∧ Nu is (σ x.1)
def spVal (K : PySem.W.Frag) : Sp := fun vs H Q _ => ∃ (v g : V) (p : Poly) (is : Bool) (gs : List (Str × V)) (σ : Str → Option Int), vs = [v, .str (meas is), g] ∧ FD K H v (bD p) ∧ PZ p 8 8000 48 ∧ (tokK p).length ≤ 1000 ∧ GivenAt K H g gs ∧
  (gs.map (·.1)).Nodup ∧ Has gs is σ p ∧ ∀ H', Same H H' → Q (ov (resO is σ p)) H'
section
variable {P : Program} {w : World} {K : PySem.W.Frag} {mg : Str → Option Value} {base : Heap}
theorem scNeed : FnScope ["tokens", "values", "token"] ["tokens", "values"] (defScope sNeed) := ⟨rfl, rfl, rfl, by decide +kernel, rfl, by decide +kernel, by decide +kernel⟩
theorem ok_need {f : Addr} {fd : FuncData} (F : Fun K "need_all" "need_all" sNeed f fd) : FnOk P w K mg base CX0 1 f fd ["tokens", "values"] (spNeed K) := by
  refine F.ok scNeed (fun vs H Q E h => ?_) (fun cdv A outer s H vs Q E hr h => ?_)
  · obtain ⟨T, D, zs, kvs, rfl, _⟩ := h
    rfl
  · obtain ⟨T, D, zs, kvs, rfl, hT, hD, all, k⟩ := h
    refine ⟨_, pss_one (ps_for PassesOwn.never rfl (pi_tup (pv 0)) (pg_name (i := 2) scNeed.nd rfl (Or.inl rfl)) (pss_one (ps_if (pt_cmp (pc_dnotin (u1 hr) (pv 2) (pv 1))) (pss_one ps_never) pss_nil))), ?_⟩
    refine ⟨_, rfl, T, rfl, ⟨_, hT⟩, ?_⟩
    refine for_tup (K := K) (a := T) (xs := zs.map V.str) (fun i σ H2 => (∃ u, σ = [some (.ref T), some (.ref D), u]) ∧ H2 = H) ⟨⟨_, rfl⟩, rfl⟩ (fun i σ H2 _ ⟨_, e⟩ => by rw [e]; exact hT) ?_ ?_
    · rintro i x σ H2 hi ⟨⟨u, rfl⟩, rfl⟩
      rw [List.getElem?_map] at hi
      obtain ⟨z, hz, rfl⟩ := Option.map_eq_some_iff.mp hi
      obtain ⟨v, hv⟩ := all z (List.mem_of_getElem? hz)
      refine ⟨_, rfl, _, rfl, D, _, rfl, DGet.k (k := .inr z) hD, _, rfl, ?_⟩
      rw [hv]
      exact iteF ⟨⟨_, rfl⟩, rfl⟩
    · rintro σ H2 ⟨⟨u, rfl⟩, rfl⟩
      exact k
abbrev valN : List Str := ["p", "measure", "given", "values", "persons", "total", "monomial", "_", "worth", "token", "exponent"]
theorem scValued : FnScope valN ["p", "measure", "given"] (defScope sValued) := ⟨rfl, rfl, rfl, by decide +kernel, rfl, by decide +kernel, by decide +kernel⟩
theorem ok_valued {f : Addr} {fd : FuncData} (F : Fun K "valued" "valued" sValued f fd) (C : Cn K mg) (Gt : Df P w K mg base 1 "tokens_of" ["p"] (spTks K)) (Gn : Df P w K mg base 1 "need_all" ["tokens", "values"] (spNeed K)) (Gz : Df P w K mg base 1 "measured_zero" ["measure", "persons"] spMZero)
    (Go : Df P w K mg base 1 "measured_one" ["measure", "persons"] spMOne) (Gm : Df P w K mg base 2 "measured_times" ["measure", "a", "b"] spMTimes) (Gp : Df P w K mg base 2 "measured_plus" ["measure", "a", "b"] spMPlus)
    (Gr : Df P w K mg base 1 "_raised" ["measure", "value", "exponent"] spRaised) : FnOk P w K mg base CX0 3 f fd ["p", "measure", "given"] (spVal K) := by
  obtain ⟨ft, fdt, gT, kT, bT, GT⟩ := Gt.ok
  obtain ⟨fn, fdn, gN, kN, bN, GN⟩ := Gn.ok
  obtain ⟨fz, fdz, gZ, kZ, bZ, GZ⟩ := Gz.ok
  obtain ⟨fo, fdo, gO, kO, bO, GO⟩ := Go.ok
  obtain ⟨fm, fdm, gM, kM, bM, GM⟩ := Gm.ok
  obtain ⟨fp, fdp, gP, kP, bP, GP⟩ := Gp.ok
  obtain ⟨fr, fdr, gR, kR, bR, GR⟩ := Gr.ok
  refine F.ok scValued (fun vs H Q E h => ?_) (fun cdv A outer s H vs Q E hr h => ?_)
  · obtain ⟨v, g, p, is, gs, σ, rfl, _⟩ := h
    rfl
  · obtain ⟨v, g, p, is, gs, σ, rfl, hd, zp, htl, ⟨ga, gys, rfl, hg, hpg⟩, hnd, has, k⟩ := h
    have hr1 : Room 1 _ := hr.mono (by decide)
    have hr2 : Room 2 _ := hr
    refine ⟨_, pss_cons (ps_set (i := 3) scValued.nd rfl (Or.inl rfl) (pe_callTy (show CallR _ _ (rDictG K) from call_dictG rfl) (by rfl) C.dict (by rfl) (pa_cons (pv 2) pa_nil)))
      (pss_cons (ps_if (PW.pt (pw_and (pt_cmpR op_eq (pv 1) pe_str (nomark _)) pw_never)) (pss_one ps_never) pss_nil)
      (pss_cons (ps_expr (pe_call GN hr1 rfl gN kN bN .nil pass0 (pa_cons (pe_call GT hr1 rfl gT kT bT .nil pass0 (pa_cons (pv 0) pa_nil)) (pa_cons (pv 3) pa_nil))))
      (pss_cons (ps_if (pt_cmpR op_eq (pv 1) pe_str (nomark _)) pss_never pss_nil)
      (pss_cons (ps_set (i := 4) scValued.nd rfl (Or.inl rfl) (pe_dget1 (u1 hr) (pv 3) pe_str ⟨rfl, rfl, rfl, rfl⟩))
      (pss_cons (ps_set (i := 5) scValued.nd rfl (Or.inl rfl) (pe_call GZ hr1 rfl gZ kZ bZ .nil pass0 (pa_cons (pv 1) (pa_cons (pv 4) pa_nil))))
      (pss_cons (ps_for PassesOwn.never rfl (pi_seq (pv 0)) (pg_seq rfl (pgs_cons (pg_name (i := 6) scValued.nd rfl (Or.inl rfl)) (pgs_cons (pg_name (i := 7) scValued.nd rfl (Or.inl rfl)) pgs_nil)))
        (pss_cons (ps_set (i := 8) scValued.nd rfl (Or.inl rfl) (pe_call GO hr1 rfl gO kO bO .nil pass0 (pa_cons (pv 1) (pa_cons (pv 4) pa_nil))))
        (pss_cons (ps_for PassesOwn.never rfl (pi_seq (pv 6)) (pg_seq rfl (pgs_cons (pg_name (i := 9) scValued.nd rfl (Or.inl rfl)) (pgs_cons (pg_name (i := 10) scValued.nd rfl (Or.inl rfl)) pgs_nil)))
          (pss_one (ps_set (i := 8) scValued.nd rfl (Or.inl rfl) (pe_call GM hr2 rfl gM kM bM .nil pass0 (pa_cons (pv 1) (pa_cons (pv 8) (pa_cons (pe_call GR hr1 rfl gR kR bR .nil pass0 (pa_cons (pv 1) (pa_cons (pe_dget (u1 hr) (pv 3) (pv 9) (fun _ _ => rfl)) (pa_cons (pv 10) pa_nil)))) pa_nil)))))))
        (pss_one (ps_set (i := 5) scValued.nd rfl (Or.inl rfl) (pe_call GP hr2 rfl gP kP bP .nil pass0 (pa_cons (pv 1) (pa_cons (pv 5) (pa_cons (pv 8) pa_nil)))))))))
      (pss_one (ps_ret (pv 5))))))))), ?_⟩
    refine ⟨_, rfl, ga, gys, gs, rfl, hg, hpg, hnd, fun D nD => ?_⟩
    have s1 : Same H (upd H D (.dK (kvG gs))) := sm_new sm_refl nD
    have hD : upd H D (.dK (kvG gs)) D = some (.dK (kvG gs)) := upd_same
    generalize upd H D (.dK (kvG gs)) = H1 at s1 hD ⊢
    have mn : ∀ {z : Str}, z = Str.ofString "seen" ∨ z = Str.ofString "count" → meas is ≠ z := fun {z} h => by
      rcases h with rfl | rfl <;> cases is <;> decide +kernel
    refine ⟨_, rfl, rfl, false, dn (mn (.inl rfl)), iteF (iteF ?_)⟩
    refine ⟨_, rfl, v, p, rfl, hd.same s1, zp.ok, szd_of zp.ok (Nat.le_trans zp.len (by decide)) fun t ht => Int.le_trans (zp.dg t ht) (by decide), htl, fun vt H2 s2 ht => ?_⟩
    obtain ⟨T, zs, rfl, hT, hzs⟩ := dp_tup ht
    cases dp_strs hzs
    have hD2 := s2 _ _ hD
    have s02 := s1.trans s2
    refine ⟨_, rfl, T, D, tokK p, kvG gs, rfl, hT, hD2, fun z hz => ?_, ?_⟩
    · obtain ⟨t, ht, x, hx, rfl⟩ := tokK_mem hz
      exact ⟨_, (has t ht x hx).1⟩
    refine ⟨_, rfl, rfl, false, dn (mn (.inr rfl)), iteF ?_⟩
    refine ⟨_, rfl, D, rfl, .inl ⟨_, .inl hD2⟩, _, DGet.k (k := .inr (Str.ofString "")) hD2, ?_⟩
    generalize (valV (kvG gs) (.inr (Str.ofString ""))).getD V.non = pers
    refine ⟨_, rfl, _, rfl, is, pers, rfl, ?_⟩
    obtain ⟨a, xs, rfl, hs, hl, hget⟩ := fd_bag (hd.same s02)
    refine seq_go rfl hs fun J G walk hG => ?_
    refine for_it walk (fun i τ H3 => (∃ u6 u7 u8 u9 u10, τ = [some (.ref a), some (.str (meas is)), some (.ref ga), some (.ref D), some pers, some (ov (resO is σ (p.take i))), u6, u7, u8, u9, u10]) ∧ H3 = H2) ⟨⟨_, _, _, _, _, rfl⟩, rfl⟩ (fun i τ H3 _ ⟨_, e⟩ => by rw [e]; exact hG H2 id id) ?_ ?_
    · rintro i x τ H3 Hx hi ⟨⟨u6, u7, u8, u9, u10, rfl⟩, rfl⟩ ⟨rfl, hx⟩
      obtain ⟨t, hti, hxt⟩ := hget i x hx
      have htm := List.mem_of_getElem? hti
      obtain ⟨T2, kk, rfl, hT2, hk⟩ := fd_pair hxt
      obtain ⟨b, ys, rfl, hb, hbl, hbget⟩ := fd_bag (κ := Str) hk
      refine ⟨T2, _, rfl, hT2, rfl, _, _, rfl, _, _, rfl, rfl, ?_⟩
      refine ⟨_, rfl, _, rfl, is, pers, rfl, ?_⟩
      refine seq_go rfl hb fun J2 G2 walk2 hG2 => ?_
      refine for_it walk2 (fun j τ H4 => (∃ u9 u10, τ = [some (.ref a), some (.str (meas is)), some (.ref ga), some (.ref D), some pers, some (ov (resO is σ (p.take i))), some (.ref b), some (.int t.2), some (ov (worthO is σ (t.1.take j))), u9, u10]) ∧ H4 = Hx) ⟨⟨_, _, rfl⟩, rfl⟩ (fun j τ H4 _ ⟨_, e⟩ => by rw [e]; exact hG2 Hx id id) ?_ ?_
      · rintro j y τ H4 _ hj ⟨⟨u9, u10, rfl⟩, rfl⟩ ⟨rfl, hy⟩
        obtain ⟨q, hq, hyq⟩ := hbget j y hy
        have hqm := List.mem_of_getElem? hq
        obtain ⟨U, kk2, rfl, hU, hkk⟩ := fd_pair hyq
        cases fd_str (z := q.1) hkk
        obtain ⟨hv, hn⟩ := has t htm q hqm
        have e0 := ((zp.ok.2.2 t htm).2 q hqm)
        have e1 : q.2 ≤ S t.1 := S_mem (zp.ok.2.2 t htm).2 q hqm
        have e2 := zp.dg t htm
        refine ⟨U, _, rfl, hU, rfl, _, _, rfl, _, _, rfl, rfl, ?_⟩
        refine ⟨_, rfl, _, rfl, _, rfl, _, rfl, _, rfl, D, _, rfl, hv ▸ DGet.k (k := .inr q.1) hD2, _, rfl, is, σ q.1, q.2, rfl, by omega, by omega, ?_⟩
        refine ⟨is, worthO is σ (t.1.take j), raO is q.2 (σ q.1), rfl, nu_worth fun x hx => (has t htm x (List.mem_of_mem_take hx)).2, nu_ra hn, ?_⟩
        rw [← worth_take hq]
        exact ⟨⟨_, _, rfl⟩, rfl⟩
      · rintro τ H4 ⟨⟨u9, u10, rfl⟩, rfl⟩
        rw [hbl, List.take_length]
        refine ⟨_, rfl, _, rfl, _, rfl, is, resO is σ (p.take i), worthO is σ t.1, rfl, nu_res fun x hx y hy => (has x (List.mem_of_mem_take hx) y hy).2, nu_worth fun x hx => (has t htm x hx).2, ?_⟩
        rw [← res_take hti]
        exact ⟨⟨_, _, _, _, _, rfl⟩, rfl⟩
    · rintro τ H3 ⟨⟨u6, u7, u8, u9, u10, rfl⟩, rfl⟩
      rw [hl, List.take_length]
      exact ⟨_, rfl, k _ s02⟩
end
end K8


set_option Elab.async false
set_option linter.all false
set_option maxRecDepth 100000
set_option maxHeartbeats 8000000
namespace K8
open PySem L2 Nd Bk Gd
theorem valG_none {l : List (Str × V)} {z : Str} (h : z ∉ l.map (·.1)) : valV (kvG l) (.inr z) = none := by
  unfold valV kvG
  rw [Option.map_eq_none_iff, List.find?_eq_none]
  intro q hq
  obtain ⟨g, hg, rfl⟩ := List.mem_map.mp hq
  intro e
  exact h (List.mem_map.mpr ⟨g, hg, Sum.inr.inj (of_decide_eq_true e)⟩)
theorem valG_mem : ∀ {l : List (Str × V)} {z : Str} {v : V}, (l.map (·.1)).Nodup → (z, v) ∈ l → valV (kvG l) (.inr z) = some v
  | [], z, v, _, h => by cases h
  | g :: l, z, v, nd, h => by
    rw [List.map_cons, List.nodup_cons] at nd
    unfold valV kvG
    rw [List.map_cons, List.find?_cons]
    by_cases e : g.1 = z
    · have e' : decide ((Sum.inr g.1 : Key) = .inr z) = true := by rw [e]; exact decide_eq_true rfl
      rw [e']
      rcases List.mem_cons.mp h with h | h
      · rw [← h]
        rfl
      · exact absurd (List.mem_map.mpr ⟨_, h, rfl⟩ : z ∈ l.map (·.1)) (by rw [← e]; exact nd.1)
    · have e' : decide ((Sum.inr g.1 : Key) = .inr z) = false := decide_eq_false fun q => e (Sum.inr.inj q)
      rw [e']
      rcases List.mem_cons.mp h with h | h
      · exact absurd (by rw [← h]) e
      · exact valG_mem nd.2 h
theorem kvG_step {l : List (Str × V)} {i : Nat} {g : Str × V} (nd : (l.map (·.1)).Nodup) (h : l[i]? = some g) : putK (kvG (l.take i)) (.inr g.1) g.2 = kvG (l.take (i + 1)) := by
  have hn : g.1 ∉ (l.take i).map (·.1) := fun q => by
    obtain ⟨x, hx, e⟩ := List.mem_map.mp q
    obtain ⟨j, hj, ex⟩ := List.getElem_of_mem hx
    rw [List.length_take] at hj
    have h1 : (l.map (·.1))[j]? = some g.1 := by
      rw [List.getElem?_map, ← e, ← ex, List.getElem_take, List.getElem?_eq_getElem (by omega)]
      rfl
    have h2 : (l.map (·.1))[i]? = some g.1 := by rw [List.getElem?_map, h]; rfl
    have := (List.getElem?_inj (by rw [List.length_map]; omega) nd).mp (h1.trans h2.symm)
    omega
  rw [putK_new _ (valG_none hn)]
  unfold kvG
  rw [List.take_succ, h, List.map_append]
  rfl
theorem paired_get {α β : Type} {R : α → β → Prop} : ∀ {xs : List α} {ys : List β}, Paired R xs ys → ∀ {i : Nat} {x : α}, xs[i]? = some x → ∃ y, ys[i]? = some y ∧ R x y
  | _, _, .cons h t, 0, x, e => by
    simp only [List.getElem?_cons_zero, Option.some.injEq] at e
    exact ⟨_, rfl, e ▸ h⟩
  | _, _, .cons h t, i + 1, x, e => by
    simp only [List.getElem?_cons_succ] at e ⊢
    exact paired_get t e
theorem PairV.same {K : PySem.W.Frag} {H H' : Hp} {x : V} {g : Str × V} (s : Same H H') (h : PairV K H x g) : PairV K H' x g := let ⟨T, e, q⟩ := h; ⟨T, e, sq_same s q⟩
def spDue (K : PySem.W.Frag) : Sp := fun vs H Q _ => ∃ (v : V) (l : Addr) (ys : List V) (p : Poly) (is : Bool) (gs : List (Str × V)) (σ : Str → Option Int), vs = [v, .ref l, .bl is] ∧ Dp K H v (bD p) ∧ PZ p 8 8000 48 ∧ (SqL K H l ys ∨ SqT K H l ys) ∧ Paired (PairV K H) ys gs ∧
  (gs.map (·.1)).Nodup ∧ gs.length ≤ 1000 ∧ Has gs is σ p ∧ ∀ H', Same H H' → Q (ov (resO is σ p)) H'
section
variable {P : Program} {w : World} {K : PySem.W.Frag} {mg : Str → Option Value} {base : Heap}
end
end K8


set_option Elab.async false
set_option linter.all false
set_option maxRecDepth 100000
set_option maxHeartbeats 8000000
namespace K8
open PySem L2 Nd Bk Gd
def encG (g : Str × PyData) : PyData := .tuple [.str g.1, g.2]
def perD : PyData := .tuple [.str (Str.ofString "ann"), .str (Str.ofString "bob")]
/-- a value that may be handed in -/
def GV (d : PyData) : Prop := (∃ o, d = oD o ∧ ∀ i, o = some i → 0 ≤ i ∧ i ≤ 1000001) ∨ d = perD
structure GOk (is : Bool) (p : Poly) (ds : List (Str × PyData)) : Prop where
  nd : (ds.map (·.1)).Nodup
  len : ds.length ≤ 100
  val : ∃ σ : Str → Option Int, ∀ t ∈ p, ∀ x ∈ t.1, (x.1, oD (σ x.1)) ∈ ds ∧ Nu is (σ x.1)
  shw : ∀ g ∈ ds, (shT g.1 = true ∨ g.1 = Str.ofString "") ∧ GV g.2
theorem tu_oD : ∀ o : Option Int, tupOnly (oD o) = true
  | none => rfl
  | some _ => rfl
theorem tu_perD : tupOnly perD = true := rfl
theorem GV.tu {d : PyData} (h : GV d) : tupOnly d = true := by
  rcases h with ⟨o, rfl, _⟩ | rfl
  · exact tu_oD o
  · rfl
theorem tu_encG {g : Str × PyData} (h : GV g.2) : tupOnly (encG g) = true := by
  show tupOnlyAll [.str g.1, g.2] = true
  simp [tupOnlyAll, tupOnly, h.tu]
def spGiven (K : PySem.W.Frag) : Sp := fun vs H Q _ => ∃ (b c : Addr) (ns : List Int) (v : V) (p : Poly) (is : Bool), vs = [.ref b, v, .bl is] ∧ BoxAt H b c ns ∧ Dp K H v (bD p) ∧ PB p ∧
  ∀ (l : Addr) (ys : List V) (ds : List (Str × PyData)) (H' : Hp), l ≠ b → BoxAt H' b c ns → But b H H' → H' l = some (.lst ys) → DpAll K H' ys (ds.map encG) → GOk is p ds → Q (.ref l) H'
/-- a function from pairs -/
def atD (l : List (Str × Option Int)) (z : Str) : Option Int := ((l.find? fun g => decide (g.1 = z)).map (·.2)).getD (some 0)
theorem atD_mem : ∀ {l : List (Str × Option Int)} {z : Str}, z ∈ l.map (·.1) → (z, atD l z) ∈ l
  | [], z, h => by cases h
  | g :: l, z, h => by
    unfold atD
    rw [List.find?_cons]
    by_cases e : g.1 = z
    · rw [decide_eq_true e]
      rw [← e]
      exact List.mem_cons_self
    · rw [decide_eq_false e]
      rw [List.map_cons] at h
      rcases List.mem_cons.mp h with q | q
      · exact absurd q.symm e
      · exact List.mem_cons_of_mem _ (atD_mem q)
/-- what is drawn for the names, in any sequence, and the persons -/
theorem gok_of {is : Bool} {p : Poly} {os : List (Str × Option Int)} {ds : List (Str × PyData)} (hp : ds.Perm (os.map fun g => (g.1, oD g.2)) ∨ ds.Perm ((Str.ofString "", perD) :: os.map fun g => (g.1, oD g.2))) (nd : (os.map (·.1)).Nodup) (hl : os.length ≤ 99)
    (all : ∀ t ∈ p, ∀ x ∈ t.1, x.1 ∈ os.map (·.1)) (dv : ∀ g ∈ os, shT g.1 = true ∧ Nu is g.2 ∧ ∀ i, g.2 = some i → 0 ≤ i ∧ i ≤ 1000001) : GOk is p ds := by
  have key : (os.map fun g => (g.1, oD g.2)).map (·.1) = os.map (·.1) := by rw [List.map_map]; rfl
  have nd0 : ((os.map fun g => (g.1, oD g.2)).map (·.1)).Nodup := by rw [key]; exact nd
  have sub : ∀ g ∈ (os.map fun g => (g.1, oD g.2)), g ∈ ds := fun g hg => hp.elim (fun q => q.mem_iff.mpr hg) fun q => q.mem_iff.mpr (List.mem_cons_of_mem _ hg)
  have ne : Str.ofString "" ∉ (os.map fun g => (g.1, oD g.2)).map (·.1) := fun q => by
    rw [key] at q
    obtain ⟨g, hg, e⟩ := List.mem_map.mp q
    exact shT_ne (dv g hg).1 e
  refine ⟨?_, ?_, ⟨atD os, fun t ht x hx => ?_⟩, fun g hg => ?_⟩
  · rcases hp with q | q
    · exact (q.map (·.1)).nodup_iff.mpr nd0
    · exact (q.map (·.1)).nodup_iff.mpr (List.nodup_cons.mpr ⟨ne, nd0⟩)
  · rcases hp with q | q
    · rw [q.length_eq, List.length_map]; omega
    · rw [q.length_eq, List.length_cons, List.length_map]; omega
  · have h := atD_mem (all t ht x hx)
    exact ⟨sub _ (List.mem_map.mpr ⟨_, h, rfl⟩), (dv _ h).2.1⟩
  · have h : g = (Str.ofString "", perD) ∨ g ∈ (os.map fun g => (g.1, oD g.2)) := hp.elim (fun q => .inr (q.mem_iff.mp hg)) fun q => List.mem_cons.mp (q.mem_iff.mp hg)
    rcases h with rfl | h
    · exact ⟨.inr rfl, .inr rfl⟩
    · obtain ⟨o, ho, rfl⟩ := List.mem_map.mp h
      exact ⟨.inl (dv o ho).1, .inl ⟨o.2, rfl, (dv o ho).2.2⟩⟩
theorem tokK_all {p : Poly} {t : Mono × Int} {x : Str × Int} (ht : t ∈ p) (hx : x ∈ t.1) : x.1 ∈ tokK p := by
  rw [tokK_seen]
  refine (sortK_mem (seen_nodup p)).mpr ((dd_mem _ _).mpr (.inr (List.mem_flatMap.mpr ⟨t, ht, List.mem_map.mpr ⟨x, hx, rfl⟩⟩)))
theorem tokK_nodup (p : Poly) : (tokK p).Nodup := by
  rw [tokK_seen]
  have h := (sortK_ok (seen p) [] (by simpa using seen_nodup p) List.Pairwise.nil).2
  exact h.nodup_iff.mpr (by simpa using seen_nodup p)
theorem tokK_sh {p : Poly} (h : PB p) : ∀ z ∈ tokK p, shT z = true := fun z hz => by
  obtain ⟨t, ht, x, hx, rfl⟩ := tokK_mem hz
  exact h.tk t ht x hx
end K8


set_option Elab.async false
set_option linter.all false
set_option maxRecDepth 100000
set_option maxHeartbeats 8000000
namespace K8
open PySem L2 Nd Bk Gd
def encO (g : Str × Option Int) : PyData := encG (g.1, oD g.2)
theorem encO_map (os : List (Str × Option Int)) : os.map encO = (os.map fun g => (g.1, oD g.2)).map encG := by rw [List.map_map]; rfl
theorem tu_encO (g : Str × Option Int) : tupOnly (encO g) = true := by
  show tupOnlyAll [.str g.1, oD g.2] = true
  simp [tupOnlyAll, tupOnly, tu_oD]
theorem tu_encOs (os : List (Str × Option Int)) : tupOnlyAll (os.map encO) = true := tupOnlyAll_of fun d hd => by
  obtain ⟨g, _, rfl⟩ := List.mem_map.mp hd
  exact tu_encO g
theorem dpAll_erase {K : PySem.W.Frag} {H : Hp} : ∀ {xs : List V} {ds : List PyData} (k : Nat), DpAll K H xs ds → DpAll K H (xs.eraseIdx k) (ds.eraseIdx k)
  | _, _, _, .nil => .nil
  | _, _, 0, .cons h t => t
  | _, _, k + 1, .cons h t => .cons h (dpAll_erase k t)
theorem dp_encO {K : PySem.W.Frag} {H : Hp} {T : Addr} {g : Str × Option Int} (h : SqT K H T [.str g.1, ov g.2]) : Dp K H (.ref T) (encO g) := .tup h (.cons (.str _) (.cons (dp_ov _) .nil))
def rLenS (K : PySem.W.Frag) : List V → Hp → VK → Prop := fun xs H Q => ∃ p ys, xs = [V.ref p] ∧ (SqL K H p ys ∨ SqT K H p ys) ∧ Q (.int ys.length) H
/-- the parts of what is drawn for the names nm -/
structure Nam (p : Poly) (nm : List Str) (n : Nat) : Prop where
  nd : nm.Nodup
  all : ∀ z ∈ tokK p, z ∈ nm
  sh : ∀ z ∈ nm, shT z = true
  len : nm.length ≤ n
theorem erase_one {α : Type} : ∀ (l : List α) (i : Nat) (y : α), l[i]? = some y → (y :: l.eraseIdx i).Perm l
  | [], i, y, h => by simp at h
  | x :: l, 0, y, h => by
    simp only [List.getElem?_cons_zero, Option.some.injEq] at h
    subst h
    exact List.Perm.refl _
  | x :: l, i + 1, y, h => by
    simp only [List.getElem?_cons_succ] at h
    exact (List.Perm.swap x y _).trans ((erase_one l i y h).cons x)
theorem erase_perm {α : Type} {fo lo : List α} {k : Nat} {y : α} (h : lo[k]? = some y) : (fo ++ [y] ++ lo.eraseIdx k).Perm (fo ++ lo) := by
  rw [List.append_assoc, List.singleton_append]
  exact List.Perm.append_left fo (erase_one lo k y h)
theorem erase_map {α β : Type} (f : α → β) : ∀ (l : List α) (k : Nat), (l.map f).eraseIdx k = (l.eraseIdx k).map f
  | [], _ => by simp
  | _ :: _, 0 => rfl
  | a :: l, k + 1 => by
    show f a :: (l.map f).eraseIdx k = f a :: (l.eraseIdx k).map f
    rw [erase_map f l k]
theorem but_free {b L : Addr} {H H4 : Hp} (k : But b H H4) (n : H4 L = none) (ne : L ≠ b) : H L = none := by
  cases e : H L with
  | none => rfl
  | some o =>
    rw [k L o e ne] at n
    cases n
theorem dpO_get {K : PySem.W.Frag} {H : Hp} {xs : List V} {os : List (Str × Option Int)} (h : DpAll K H xs (os.map encO)) {i : Nat} {x : V} (e : xs[i]? = some x) : ∃ g, os[i]? = some g ∧ Dp K H x (encO g) := by
  obtain ⟨d, h1, h2⟩ := dpAll_get h e
  rw [List.getElem?_map] at h1
  obtain ⟨g, hg, rfl⟩ := Option.map_eq_some_iff.mp h1
  exact ⟨g, hg, h2⟩
theorem ins_perm {α : Type} (l : List α) (i : Nat) (x : α) : (l.take i ++ [x] ++ l.drop i).Perm (x :: l) := by
  rw [List.append_assoc, List.singleton_append]
  refine List.perm_middle.trans ?_
  rw [List.take_append_drop]
section
variable {P : Program} {w : World} {K : PySem.W.Frag} {mg : Str → Option Value} {base : Heap}
abbrev givN : List Str := ["box", "p", "values", "names", "k", "token", "left", "found"]
end
end K8


set_option Elab.async false
set_option linter.all false
set_option maxRecDepth 100000
set_option maxHeartbeats 8000000
namespace K8
open PySem L2 Nd Bk Gd PySem.ExE
theorem PB.zz {p : Poly} (h : PB p) : PZ p 8 8000 48 := ⟨h.ok, h.len, h.sz, h.dg⟩
theorem PB.szd {p : Poly} (h : PB p) : Szd p := szd_of h.ok (Nat.le_trans h.len (by decide)) fun t ht => Int.le_trans (h.dg t ht) (by decide)
theorem fd_oD {K : PySem.W.Frag} {H : Hp} {v : V} {o : Option Int} (h : FD K H v (oD o)) : v = ov o := by
  obtain ⟨d', h, e⟩ := h
  cases o with
  | none =>
    cases d' <;> simp [flat, oD] at e
    cases h
    rfl
  | some i => exact fd_int ⟨d', h, e⟩
/-- the pairs as names and values -/
theorem pairs_mk {K : PySem.W.Frag} {H : Hp} : ∀ {ys : List V} {ds : List (Str × PyData)}, ys.length = ds.length → (∀ (i : Nat) (x : V), ys[i]? = some x → ∃ g, ds[i]? = some g ∧ FD K H x (encG g)) →
    ∃ gs : List (Str × V), Paired (PairV K H) ys gs ∧ Paired (fun (g : Str × V) (d : Str × PyData) => g.1 = d.1 ∧ FD K H g.2 d.2) gs ds
  | [], [], _, _ => ⟨[], .nil, .nil⟩
  | _ :: _, [], h, _ => by simp at h
  | [], _ :: _, h, _ => by simp at h
  | x :: ys, d :: ds, h, get => by
    obtain ⟨gs, h1, h2⟩ := pairs_mk (by simpa using h) (fun i x hx => get (i + 1) x hx)
    obtain ⟨g, hg, hx⟩ := get 0 x rfl
    simp only [List.getElem?_cons_zero, Option.some.injEq] at hg
    subst hg
    obtain ⟨T, zs, rfl, sq, len, zget⟩ := fd_seq hx
    match zs, len with
    | [u, y], _ =>
      obtain ⟨e, he, q1⟩ := zget 0 u rfl
      obtain ⟨e2, he2, q2⟩ := zget 1 y rfl
      simp only [List.getElem?_cons_zero, Option.some.injEq] at he
      simp only [List.getElem?_cons_succ, List.getElem?_cons_zero, Option.some.injEq] at he2
      subst he he2
      cases fd_str q1
      exact ⟨(d.1, y) :: gs, .cons ⟨T, rfl, sq⟩ h1, .cons ⟨rfl, q2⟩ h2⟩
theorem paired_keys {K : PySem.W.Frag} {H : Hp} : ∀ {gs : List (Str × V)} {ds : List (Str × PyData)}, Paired (fun (g : Str × V) (d : Str × PyData) => g.1 = d.1 ∧ FD K H g.2 d.2) gs ds → gs.map (·.1) = ds.map (·.1)
  | _, _, .nil => rfl
  | _, _, .cons h t => by rw [List.map_cons, List.map_cons, h.1, paired_keys t]
theorem paired_val {K : PySem.W.Frag} {H : Hp} {z : Str} {o : Option Int} : ∀ {gs : List (Str × V)} {ds : List (Str × PyData)}, Paired (fun (g : Str × V) (d : Str × PyData) => g.1 = d.1 ∧ FD K H g.2 d.2) gs ds → (z, oD o) ∈ ds → (z, ov o) ∈ gs
  | _, _, .nil, m => by cases m
  | _, _, .cons (a := g) h t, m => by
    rcases List.mem_cons.mp m with e | m
    · rw [← e] at h
      obtain ⟨e1, e2⟩ := h
      have e3 := fd_oD e2
      have : g = (z, ov o) := Prod.ext e1 e3
      rw [this]
      exact List.mem_cons_self
    · exact List.mem_cons_of_mem _ (paired_val t m)
/-- what is handed in tells what is asked -/
theorem given_has {K : PySem.W.Frag} {H : Hp} {is : Bool} {p : Poly} {ys : List V} {ds : List (Str × PyData)} {σ : Str → Option Int} (nd : (ds.map (·.1)).Nodup) (val : ∀ t ∈ p, ∀ x ∈ t.1, (x.1, oD (σ x.1)) ∈ ds ∧ Nu is (σ x.1)) (hl : ys.length = ds.length)
    (get : ∀ (i : Nat) (x : V), ys[i]? = some x → ∃ g, ds[i]? = some g ∧ FD K H x (encG g)) : ∃ gs : List (Str × V), Paired (PairV K H) ys gs ∧ (gs.map (·.1)).Nodup ∧ gs.length = ds.length ∧ Has gs is σ p := by
  obtain ⟨gs, h1, h2⟩ := pairs_mk hl get
  have hk := paired_keys h2
  refine ⟨gs, h1, by rw [hk]; exact nd, paired_len h2, fun t ht x hx => ⟨?_, (val t ht x hx).2⟩⟩
  exact valG_mem (by rw [hk]; exact nd) (paired_val h2 (val t ht x hx).1)
theorem dps_get {K : PySem.W.Frag} {H : Hp} {ys : List V} {ds : List (Str × PyData)} (h : DpAll K H ys (ds.map encG)) (gv : ∀ g ∈ ds, GV g.2) : ys.length = ds.length ∧ ∀ (i : Nat) (x : V), ys[i]? = some x → ∃ g, ds[i]? = some g ∧ FD K H x (encG g) := by
  refine ⟨by rw [dpAll_len h, List.length_map], fun i x hx => ?_⟩
  obtain ⟨d, h1, h2⟩ := dpAll_get h hx
  rw [List.getElem?_map] at h1
  obtain ⟨g, hg, rfl⟩ := Option.map_eq_some_iff.mp h1
  exact ⟨g, hg, FD.of h2 (tu_encG (gv g (List.mem_of_getElem? hg)))⟩
theorem fds_get {K : PySem.W.Frag} {H : Hp} {a : Addr} {ds : List (Str × PyData)} (h : FD K H (.ref a) (.tuple (ds.map encG))) : ∃ ys, (SqL K H a ys ∨ SqT K H a ys) ∧ ys.length = ds.length ∧ ∀ (i : Nat) (x : V), ys[i]? = some x → ∃ g, ds[i]? = some g ∧ FD K H x (encG g) := by
  obtain ⟨a', ys, e, sq, len, get⟩ := fd_seq h
  cases e
  refine ⟨ys, sq, by rw [len, List.length_map], fun i x hx => ?_⟩
  obtain ⟨d, h1, h2⟩ := get i x hx
  rw [List.getElem?_map] at h1
  obtain ⟨g, hg, rfl⟩ := Option.map_eq_some_iff.mp h1
  exact ⟨g, hg, h2⟩
theorem ak_ov {K : PySem.W.Frag} {H : Hp} {n : Nat} : ∀ {o : Option Int}, Alike K H n (ov o) (ov o)
  | none => by cases n with
    | zero => exact ⟨rfl, trivial⟩
    | succ n => exact .inl ⟨rfl, trivial⟩
  | some i => by cases n with
    | zero => exact ⟨rfl, trivial⟩
    | succ n => exact .inl ⟨rfl, trivial⟩
theorem Shw.flat {d d' : PyData} {c n : Nat} (e : K8.flat d' = d) (h : Shw d c n) : Shw d' c n := by
  obtain ⟨h1, h2, h3⟩ := flat_short d'
  exact ⟨by rw [h1, e]; exact h.sh, by rw [h2, e]; exact h.co, by rw [h3, e]; exact h.de⟩
theorem shw_GV {d : PyData} (h : GV d) : Shw d 227 2 := by
  rcases h with ⟨o, rfl, ho⟩ | rfl
  · cases o with
    | none => exact ⟨by simp [oD, shortD], by simp [oD, cost], by simp [oD, PyData.depth]⟩
    | some i =>
      have b := (by decide +kernel : (1000002 : Int) < 10 ^ 105)
      have := ho i rfl
      exact (shw_int this.1 (by omega)).weak (by decide) (by decide)
  · refine (shw_tup (l := 2) (c := 110) (n := 1) (by decide) fun d hd => ?_).weak (by decide) (by decide)
    simp only [List.mem_cons, List.not_mem_nil, or_false] at hd
    rcases hd with rfl | rfl
    · exact shw_str (by decide +kernel)
    · exact shw_str (by decide +kernel)
theorem shw_encG {g : Str × PyData} (h1 : shT g.1 = true ∨ g.1 = Str.ofString "") (h2 : GV g.2) : Shw (encG g) 461 3 := by
  refine (shw_tup (l := 2) (c := 227) (n := 2) (by show 2 ≤ 2; decide) fun d hd => ?_).weak (by decide) (by decide)
  simp only [List.mem_cons, List.not_mem_nil, or_false] at hd
  rcases hd with rfl | rfl
  · rcases h1 with h1 | h1
    · exact (shw_str h1).weak (by decide) (by decide)
    · rw [h1]
      exact ⟨by decide +kernel, by simp [cost], by simp [PyData.depth]⟩
  · exact shw_GV h2
theorem shw_pairs {ds : List (Str × PyData)} (hl : ds.length ≤ 1000) (h : ∀ g ∈ ds, (shT g.1 = true ∨ g.1 = Str.ofString "") ∧ GV g.2) : Shw (.tuple (ds.map encG)) 1000000 20 := by
  refine (shw_tup (l := 1000) (c := 461) (n := 3) (by rw [List.length_map]; exact hl) fun d hd => ?_).weak (by decide) (by decide)
  obtain ⟨g, hg, rfl⟩ := List.mem_map.mp hd
  exact shw_encG (h g hg).1 (h g hg).2
theorem okd_oD (o : Option Int) : Sc (oD o) := by
  cases o with
  | none => exact .non
  | some i => exact .int i
theorem okd_pairs {ds : List (Str × PyData)} (hl : ds.length ≤ 1000) (h : ∀ g ∈ ds, GV g.2) : Okd 4 (.tuple (ds.map encG)) := by
  refine okd_more (.inr (.inr ⟨_, rfl, by rw [List.length_map]; exact hl, fun e he => ?_⟩))
  obtain ⟨g, hg, rfl⟩ := List.mem_map.mp he
  refine .inr (.inr ⟨_, rfl, by show 2 ≤ 1000; decide, fun e he => ?_⟩)
  simp only [List.mem_cons, List.not_mem_nil, or_false] at he
  rcases he with rfl | rfl
  · exact .inr (.inl ⟨_, rfl⟩)
  · rcases h g hg with ⟨o, e, _⟩ | e
    · rw [e]
      exact .inl (okd_oD o)
    · rw [e]
      refine .inr (.inr ⟨_, rfl, by show 2 ≤ 1000; decide, fun e he => ?_⟩)
      simp only [List.mem_cons, List.not_mem_nil, or_false] at he
      rcases he with rfl | rfl <;> exact .inr ⟨_, rfl⟩
theorem dpAll_rev {K : PySem.W.Frag} {H : Hp} : ∀ {xs : List V} {ds : List PyData}, DpAll K H xs ds → DpAll K H xs.reverse ds.reverse
  | _, _, .nil => .nil
  | _, _, .cons h t => by
    rw [List.reverse_cons, List.reverse_cons]
    exact dpAll_append (dpAll_rev t) (.cons h .nil)
/-- keywords of three, told the other way round -/
def rv3 {α : Type} (us : List α) (l : List α) : List α := match us, l with
  | [], [a, b, c] => [c, b, a]
  | _, _ => []
theorem kb_rv3 {K : PySem.W.Frag} {st : Stmt} {f : Addr} {fd : FuncData} {x y1 y2 y3 : Str} (F : Fun K x x st f fd)
    (h : ∀ (kV doc pm : Value) (an : Option Addr) (cdv ct : Value) (a b c : Value), bindArgs (PySem.W.fnOf x x (defArgs st) (defBody st) (defScope st) .none kV doc pm an cdv ct) ⟨[], [(y3, a), (y2, b), (y1, c)]⟩ = pure [(y1, c), (y2, b), (y3, a)]) : KBinds K fd [y1, y2, y3] [y3, y2, y1] rv3 rv3 := by
  obtain ⟨oc, od, kV, doc, pm, an, cdv, ct, osl, rfl, lk, hcd⟩ := F.ex
  refine ⟨fun s us ws _ hl => ?_, fun {vs us zs ws} r1 r2 => ?_⟩
  · match us, ws, hl with
    | [], [a, b, c], _ => exact .of_eq (h kV doc pm an cdv ct a b c)
    | [], [], hl => simp [rv3] at hl
    | [], [_], hl => simp [rv3] at hl
    | [], [_, _], hl => simp [rv3] at hl
    | [], _ :: _ :: _ :: _ :: _, hl => simp [rv3] at hl
    | _ :: _, _, hl => simp [rv3] at hl
  · cases r1 with
    | nil =>
      cases r2 with
      | nil => exact .nil
      | cons a b =>
        cases b with
        | nil => exact .nil
        | cons c d =>
          cases d with
          | nil => exact .nil
          | cons e g =>
            cases g with
            | nil => exact .cons e (.cons c (.cons a .nil))
            | cons _ _ => exact .nil
    | cons _ _ => exact .nil
end K8


set_option Elab.async false
set_option linter.all false
set_option maxRecDepth 100000
set_option maxHeartbeats 8000000
namespace K8
open PySem L2 Nd Bk Gd PySem.ExE
def spVR (K : PySem.W.Frag) : Sp := fun vs H Q _ => ∃ (b c : Addr) (ns : List Int) (v : V) (p : Poly) (l : Addr) (ys : List V) (ds : List (Str × PyData)) (is : Bool), vs = [.ref b, v, .ref l, .bl is] ∧ BoxAt H b c ns ∧ Dp K H v (bD p) ∧ PB p ∧ l ≠ b ∧ H l = some (.lst ys) ∧
  DpAll K H ys (ds.map encG) ∧ GOk is p ds ∧ ∀ H', BoxAt H' b c ns → But b H H' → Q (.bl true) H'
theorem tu_encGs {ds : List (Str × PyData)} (h : ∀ g ∈ ds, GV g.2) : tupOnlyAll (ds.map encG) = true := tupOnlyAll_of fun d hd => by
  obtain ⟨g, hg, rfl⟩ := List.mem_map.mp hd
  exact tu_encG (h g hg)
theorem fp_pairs {K : PySem.W.Frag} {H : Hp} {av : List Addr} {a : Addr} {d' : PyData} {ds : List (Str × PyData)} (h : Fp K H av (.ref a) d') (e : flat d' = .tuple (ds.map encG)) (top : Top H (.ref a) d') :
    ∃ zs, (SqL K H a zs ∨ (PlainT H a ∧ SqT K H a zs)) ∧ zs.length = ds.length ∧ ∀ (i : Nat) (x : V), zs[i]? = some x → ∃ g, ds[i]? = some g ∧ FD K H x (encG g) := by
  have key : ∀ {xs : List V} {es : List PyData}, DpAll K H xs es → flats es = ds.map encG → xs.length = ds.length ∧ ∀ (i : Nat) (x : V), xs[i]? = some x → ∃ g, ds[i]? = some g ∧ FD K H x (encG g) := by
    intro xs es ha hes
    rw [flats_map] at hes
    refine ⟨by rw [dpAll_len ha, ← List.length_map (f := flat), hes, List.length_map], fun i x hx => ?_⟩
    obtain ⟨d, h1, h2⟩ := dpAll_get ha hx
    have q : (ds.map encG)[i]? = some (flat d) := by rw [← hes, List.getElem?_map, h1]; rfl
    rw [List.getElem?_map] at q
    obtain ⟨g, hg, eg⟩ := Option.map_eq_some_iff.mp q
    exact ⟨g, hg, d, h2, eg.symm⟩
  cases h with
  | lst h1 h2 h3 =>
    simp only [flat, PyData.tuple.injEq] at e
    obtain ⟨k1, k2⟩ := key h3.dp e
    exact ⟨_, .inl (SqL.of h1), k1, k2⟩
  | tup h1 h2 =>
    simp only [flat, PyData.tuple.injEq] at e
    obtain ⟨k1, k2⟩ := key h2.dp e
    obtain ⟨T, eT, pT⟩ := top _ rfl
    cases eT
    exact ⟨_, .inr ⟨pT, h1⟩, k1, k2⟩
section
variable {P : Program} {w : World} {K : PySem.W.Frag} {mg : Str → Option Value} {base : Heap}
end
end K8


set_option Elab.async false
set_option linter.all false
set_option maxRecDepth 100000
set_option maxHeartbeats 8000000
namespace K8
open PySem L2 Nd Bk Gd PySem.ExE
def CPowW (i j : Int) : Prop := 0 ≤ j ∧ (Builtin.Int.intBits i : Int) * j ≤ 2 ^ 27
theorem op_powW {X : Cx} : OpR X (binaryOp .Pow) (rI CPowW fun i j => .int (i ^ j.toNat)) := opI fun _ _ _ _ _ _ _ hc q => PyProof.Rows.pow_int hc.1 hc.2 q
/-- base ** exponent, but cap where it is not below it -/
def capI (b e c : Int) : Int := if c ≤ b ^ e.toNat then c else b ^ e.toNat
def spCap : Sp := fun vs H Q _ => ∃ (b e : Nat) (c : Int), vs = [.int b, .int e, .int c] ∧ 1 ≤ e ∧ e < 2 ^ 60 ∧ 2 ≤ c ∧ c.natAbs.log2 < 200000 ∧ b.log2 < 200000 ∧ Q (.int (capI b e c)) H
theorem bits_lt {e : Nat} (h : 1 ≤ e) : Builtin.Int.intBits (e : Int) = e.log2 + 1 ∧ e < 2 ^ (e.log2 + 1) := by
  refine ⟨?_, Nat.lt_log2_self⟩
  unfold Builtin.Int.intBits
  rw [Int.natAbs_natCast]
  split
  · rename_i q
    exact absurd q (by simp; omega)
  · rfl
theorem half_step (e L i : Nat) (h : i < L) : e / 2 ^ (L - (i + 1)) = 2 * (e / 2 ^ (L - i)) + e / 2 ^ (L - (i + 1)) % 2 := by
  have e1 : L - i = (L - (i + 1)) + 1 := by omega
  rw [e1, Nat.pow_succ, ← Nat.div_div_eq_div_mul]
  omega
theorem log_mono {x y : Nat} (h : x ≤ y) : x.log2 ≤ y.log2 := by
  by_cases hx : x = 0
  · subst hx
    exact Nat.zero_le _
  · have hy : y ≠ 0 := by omega
    exact (Nat.le_log2 hy).mpr (Nat.le_trans (Nat.log2_self_le hx) h)
theorem log_mul (x y : Nat) : (x * y).log2 ≤ x.log2 + y.log2 + 1 := by
  by_cases h : x * y = 0
  · rw [h]
    exact Nat.zero_le _
  · have h1 : x < 2 ^ (x.log2 + 1) := Nat.lt_log2_self
    have h2 : y < 2 ^ (y.log2 + 1) := Nat.lt_log2_self
    have h3 : x * y < 2 ^ (x.log2 + y.log2 + 2) := by
      rw [show x.log2 + y.log2 + 2 = (x.log2 + 1) + (y.log2 + 1) by omega, Nat.pow_add]
      exact Nat.mul_lt_mul'' h1 h2
    have := (Nat.log2_lt h).mpr h3
    omega
theorem cap_small {b e : Nat} {c : Int} (hb : b < 2) (he : 1 ≤ e) (hc : 2 ≤ c) : capI b e c = b := by
  have h : ((b : Nat) : Int) ^ e = b := by
    have : b = 0 ∨ b = 1 := by omega
    rcases this with rfl | rfl
    · exact Int.zero_pow (by omega)
    · exact Int.one_pow
  unfold capI
  rw [Int.toNat_natCast, h, if_neg (by omega)]
section
variable {P : Program} {w : World} {K : PySem.W.Frag} {mg : Str → Option Value} {base : Heap}
theorem scCapped : FnScope ["base", "exponent", "cap", "power", "place"] ["base", "exponent", "cap"] (defScope sCapped) := ⟨rfl, rfl, rfl, by decide +kernel, rfl, by decide +kernel, by decide +kernel⟩
theorem ok_capped {f : Addr} {fd : FuncData} (F : Fun K "capped_power" "capped_power" sCapped f fd) (C : Cn K mg) (rv : mg "reversed" = none) : FnOk P w K mg base CX0 1 f fd ["base", "exponent", "cap"] spCap := by
  refine F.ok scCapped (fun vs H Q E h => ?_) (fun cdv A outer s H vs Q E hr h => ?_)
  · obtain ⟨b, e, c, rfl, _⟩ := h
    rfl
  · obtain ⟨b, e, c, rfl, he, hem, hc, hcl, hbl, k⟩ := h
    refine ⟨_, pss_cons (ps_if (pt_cmpR op_lt (pv 0) pe_int (nomark _)) (pss_one (ps_ret (pv 0))) pss_nil)
      (pss_cons (ps_set (i := 3) scCapped.nd rfl (Or.inl rfl) pe_int)
      (pss_cons (ps_for PassesOwn.never rfl (pi_revR (by rfl) rv (prg_1 (by rfl) C.N.rng (pe_bits (pv 1)))) (pg_name (i := 4) scCapped.nd rfl (Or.inl rfl))
        (pss_cons (ps_set (i := 3) scCapped.nd rfl (Or.inl rfl) (pe_op op_mulW (pv 3) (pv 3)))
        (pss_cons (ps_if (pt_truth (pe_op op_odd (pe_op op_shrN (pv 1) (pv 4)) pe_int) (fun _ => rfl)) (pss_one (ps_set (i := 3) scCapped.nd rfl (Or.inl rfl) (pe_op op_mulW (pv 3) (pv 0)))) pss_nil)
        (pss_one (ps_if (pt_cmpR op_ge (pv 3) (pv 2) (nomark _)) (pss_one (ps_ret (pv 2))) pss_nil)))))
      (pss_one (ps_ret (pv 3))))), ?_⟩
    refine ⟨_, rfl, _, _, rfl, rfl, _, rfl, ?_⟩
    by_cases hb : (b : Int) < 2
    · rw [decide_eq_true hb]
      rw [cap_small (by omega) he hc] at k
      exact iteT ⟨_, rfl, k⟩
    rw [decide_eq_false hb]
    refine iteF ?_
    obtain ⟨hL1, hL2⟩ := bits_lt he
    have hLs : e.log2 + 1 ≤ 60 := by
      have := (Nat.log2_lt (n := e) (k := 60) (by omega)).mpr hem
      omega
    refine ⟨_, rfl, _, rfl, _, rfl, by decide, by decide, by rw [hL1]; omega, by rw [hL1]; omega, ?_⟩
    rw [hL1]
    generalize e.log2 + 1 = L at hL1 hL2 hLs ⊢
    rw [show (((L : Nat) : Int) - 0).toNat = L by omega]
    have hpos : (0 : Int) < (b : Int) := by omega
    refine for_rangeC (n := L) (fun i τ H' => (∃ u, τ = [some (.int b), some (.int e), some (.int c), some (.int ((b : Int) ^ (e / 2 ^ (L - i)))), u]) ∧ H' = H ∧ (b : Int) ^ (e / 2 ^ (L - i)) < c) ⟨⟨none, ?_⟩, rfl, ?_⟩ ?_ ?_
    · rw [Nat.sub_zero, Nat.div_eq_of_lt hL2, Int.pow_zero]
      rfl
    · rw [Nat.sub_zero, Nat.div_eq_of_lt hL2, Int.pow_zero]
      omega
    · rintro i τ H' hi ⟨⟨u, rfl⟩, rfl, hlt⟩
      have hs := half_step e L i hi
      have nn : (0 : Int) ≤ (b : Int) ^ (e / 2 ^ (L - i)) := Int.pow_nonneg (by omega)
      have lgP : ((b : Int) ^ (e / 2 ^ (L - i))).natAbs.log2 ≤ c.natAbs.log2 := log_mono (by omega)
      have sq : (b : Int) ^ (e / 2 ^ (L - i)) * (b : Int) ^ (e / 2 ^ (L - i)) = (b : Int) ^ (2 * (e / 2 ^ (L - i))) := by rw [Nat.two_mul, Int.pow_add]
      have hle : e / 2 ^ (L - (i + 1)) ≤ e := Nat.div_le_self _ _
      have hr : e / 2 ^ (L - (i + 1)) % 2 = 0 ∨ e / 2 ^ (L - (i + 1)) % 2 = 1 := by omega
      refine ⟨_, rfl, _, rfl, _, _, rfl, rfl, (by unfold CMulW; omega), ?_⟩
      rw [show ((fun i j : Int => V.int (i * j)) ((b : Int) ^ (e / 2 ^ (L - i))) ((b : Int) ^ (e / 2 ^ (L - i)))) = V.int ((b : Int) ^ (2 * (e / 2 ^ (L - i)))) from congrArg V.int sq]
      have lgS : ((b : Int) ^ (2 * (e / 2 ^ (L - i)))).natAbs.log2 ≤ 400001 := by
        rw [← sq, Int.natAbs_mul]
        have := log_mul ((b : Int) ^ (e / 2 ^ (L - i))).natAbs ((b : Int) ^ (e / 2 ^ (L - i))).natAbs
        omega
      refine ⟨_, rfl, _, rfl, _, L - (i + 1), rfl, congrArg V.int (by omega), e / 2 ^ (L - (i + 1)), congrArg V.int (by rw [Int.natCast_ediv, Int.natCast_pow]; rfl), rfl, _, rfl, ?_⟩
      have fin : ∀ u, (b : Int) ^ (e / 2 ^ (L - (i + 1))) = u → (if c ≤ u then Q (.int c) H' else (∃ u5, [some (V.int b), some (V.int e), some (V.int c), some (V.int u), some (V.int (0 + (L : Int) - 1 + (i : Int) * -1))] = [some (V.int b), some (V.int e), some (V.int c), some (V.int ((b : Int) ^ (e / 2 ^ (L - (i + 1))))), u5]) ∧ H' = H' ∧ (b : Int) ^ (e / 2 ^ (L - (i + 1))) < c) := by
        rintro u rfl
        by_cases hc2 : c ≤ (b : Int) ^ (e / 2 ^ (L - (i + 1)))
        · rw [if_pos hc2]
          have mono : (b : Int) ^ (e / 2 ^ (L - (i + 1))) ≤ (b : Int) ^ e := by
            rw [← Int.natCast_pow, ← Int.natCast_pow]
            exact Int.ofNat_le.mpr (Nat.pow_le_pow_right (by omega) hle)
          unfold capI at k
          rw [Int.toNat_natCast, if_pos (by omega)] at k
          exact k
        · rw [if_neg hc2]
          exact ⟨⟨_, rfl⟩, rfl, by omega⟩
      rcases hr with hr | hr
      · rw [hr]
        refine iteF ?_
        have f := fin ((b : Int) ^ (2 * (e / 2 ^ (L - i)))) (by rw [hs, hr, Nat.add_zero])
        refine ⟨_, rfl, _, rfl, _, _, rfl, rfl, _, rfl, ?_⟩
        by_cases h : c ≤ (b : Int) ^ (2 * (e / 2 ^ (L - i)))
        · rw [if_pos h] at f
          rw [decide_eq_true h]
          exact iteT ⟨_, rfl, f⟩
        · rw [if_neg h] at f
          rw [decide_eq_false h]
          exact iteF f
      · rw [hr]
        refine iteT ?_
        refine ⟨_, rfl, _, rfl, _, _, rfl, rfl, (by unfold CMulW; rw [Int.natAbs_natCast]; omega), ?_⟩
        have pb : (b : Int) ^ (2 * (e / 2 ^ (L - i))) * b = (b : Int) ^ (2 * (e / 2 ^ (L - i)) + 1) := (Int.pow_succ _ _).symm
        rw [show ((fun i j : Int => V.int (i * j)) ((b : Int) ^ (2 * (e / 2 ^ (L - i)))) (b : Int)) = V.int ((b : Int) ^ (2 * (e / 2 ^ (L - i)) + 1)) from congrArg V.int pb]
        have f := fin ((b : Int) ^ (2 * (e / 2 ^ (L - i)) + 1)) (by rw [hs, hr])
        refine ⟨_, rfl, _, rfl, _, _, rfl, rfl, _, rfl, ?_⟩
        by_cases h : c ≤ (b : Int) ^ (2 * (e / 2 ^ (L - i)) + 1)
        · rw [if_pos h] at f
          rw [decide_eq_true h]
          exact iteT ⟨_, rfl, f⟩
        · rw [if_neg h] at f
          rw [decide_eq_false h]
          exact iteF f
    · rintro τ H' ⟨⟨u, rfl⟩, rfl, hlt⟩
      rw [Nat.sub_self, Nat.pow_zero, Nat.div_one] at hlt ⊢
      refine ⟨_, rfl, ?_⟩
      unfold capI at k
      rw [Int.toNat_natCast, if_neg (by omega)] at k
      exact k
end
end K8


set_option Elab.async false
set_option linter.all false
set_option maxRecDepth 100000
set_option maxHeartbeats 8000000
namespace K8
open PySem L2 Nd Bk Gd PySem.ExE
def B4 : Int := BEY ^ 40
theorem B4_pos : 2 ≤ B4 := by decide +kernel
theorem B4_log : B4.natAbs.log2 < 20000 := by decide +kernel
theorem B4_bits : CPowW BEY 40 := ⟨by decide, by decide +kernel⟩
theorem BEY_B4 : BEY < B4 := by decide +kernel
def cpB (x : Int) : Int := if B4 < x then B4 else x
theorem cpB_small {x : Int} (h : x ≤ B4) : cpB x = x := if_neg (by omega)
theorem cpB_big {x : Int} (h : B4 ≤ x) : cpB x = B4 := by
  unfold cpB
  split <;> omega
theorem cpB_le (x : Int) : cpB x ≤ B4 := by
  unfold cpB
  split <;> omega
theorem cpB_nn {x : Int} (h : 0 ≤ x) : 0 ≤ cpB x := by
  have := B4_pos
  unfold cpB
  split <;> omega
theorem cap_cpB (b e : Nat) : capI b e B4 = cpB ((b : Int) ^ e) := by
  unfold capI cpB
  rw [Int.toNat_natCast]
  split <;> split <;> omega
theorem mul_big {x y : Int} (hx : B4 ≤ x) (hy : 1 ≤ y) : B4 ≤ x * y := by
  have := B4_pos
  have h : x * 1 ≤ x * y := Int.mul_le_mul_of_nonneg_left hy (by omega)
  omega
theorem cpB_mul {x y : Int} (hx : 0 ≤ x) (hy : 0 ≤ y) : cpB (cpB x * cpB y) = cpB (x * y) := by
  have hp := B4_pos
  by_cases h1 : x = 0
  · subst h1
    rw [cpB_small (show (0 : Int) ≤ B4 by omega), Int.zero_mul, Int.zero_mul]
  by_cases h2 : y = 0
  · subst h2
    rw [cpB_small (show (0 : Int) ≤ B4 by omega), Int.mul_zero, Int.mul_zero]
  by_cases h3 : B4 ≤ x
  · rw [cpB_big h3, cpB_big (mul_big h3 (by omega))]
    refine cpB_big (mul_big (Int.le_refl _) ?_)
    by_cases h4 : B4 ≤ y
    · rw [cpB_big h4]; omega
    · rw [cpB_small (by omega)]; omega
  · rw [cpB_small (show x ≤ B4 by omega)]
    by_cases h4 : B4 ≤ y
    · rw [cpB_big h4, Int.mul_comm x B4, Int.mul_comm x y, cpB_big (mul_big h4 (by omega)), cpB_big (mul_big (Int.le_refl _) (by omega))]
    · rw [cpB_small (show y ≤ B4 by omega)]
theorem log_le {x : Int} (h0 : 0 ≤ x) (h : x ≤ B4) : x.natAbs.log2 < 20000 := Nat.lt_of_le_of_lt (log_mono (by omega)) B4_log
/-- the product of the values, each so often; the sum over the terms -/
def powC (τ : Str → Nat) (m : Mono) : Int := m.foldl (fun a x => a * (τ x.1 : Int) ^ x.2.toNat) 1
def cntP (τ : Str → Nat) (p : Poly) : Int := p.foldl (fun s t => s + t.2 * powC τ t.1) 0
theorem powC_take {τ : Str → Nat} {m : Mono} {j : Nat} {x : Str × Int} (e : m[j]? = some x) : powC τ (m.take (j + 1)) = powC τ (m.take j) * (τ x.1 : Int) ^ x.2.toNat := by
  unfold powC
  rw [List.take_succ, e, List.foldl_append]
  rfl
theorem cntP_take {τ : Str → Nat} {p : Poly} {j : Nat} {t : Mono × Int} (e : p[j]? = some t) : cntP τ (p.take (j + 1)) = cntP τ (p.take j) + t.2 * powC τ t.1 := by
  unfold cntP
  rw [List.take_succ, e, List.foldl_append]
  rfl
theorem powC_nn (τ : Str → Nat) (m : Mono) : 0 ≤ powC τ m := by
  have key : ∀ (m : Mono) (a : Int), 0 ≤ a → 0 ≤ m.foldl (fun a x => a * (τ x.1 : Int) ^ x.2.toNat) a := by
    intro m
    induction m with
    | nil => exact fun a h => h
    | cons x r ih => exact fun a h => ih _ (Int.mul_nonneg h (Int.pow_nonneg (Int.natCast_nonneg _)))
  exact key m 1 (by decide)
theorem cntP_mono {τ : Str → Nat} {p : Poly} (h : ∀ t ∈ p, 0 ≤ t.2) (i : Nat) : cntP τ (p.take i) ≤ cntP τ p := by
  have key : ∀ (q : Poly) (a : Int), (∀ t ∈ q, 0 ≤ t.2) → a ≤ q.foldl (fun s t => s + t.2 * powC τ t.1) a := by
    intro q
    induction q with
    | nil => exact fun a _ => Int.le_refl _
    | cons t r ih =>
      intro a hq
      have h1 : 0 ≤ t.2 * powC τ t.1 := Int.mul_nonneg (hq t List.mem_cons_self) (powC_nn _ _)
      have := ih (a + t.2 * powC τ t.1) fun u hu => hq u (List.mem_cons_of_mem _ hu)
      rw [List.foldl_cons]
      omega
  have := key (p.drop i) (cntP τ (p.take i)) fun t ht => h t (List.mem_of_mem_drop ht)
  unfold cntP at this ⊢
  rw [← List.foldl_append, List.take_append_drop] at this
  exact this
/-- what may be counted -/
structure CntOk (p : Poly) : Prop where
  co : ∀ t ∈ p, 0 ≤ t.2 ∧ t.2 ≤ BEY
  ex : ∀ t ∈ p, ∀ x ∈ t.1, 1 ≤ x.2 ∧ x.2 < 2 ^ 60
/-- each token of p has a number -/
def HasC (gs : List (Str × V)) (τ : Str → Nat) (p : Poly) : Prop := ∀ t ∈ p, ∀ x ∈ t.1, valV (kvG gs) (.inr x.1) = some (.int (τ x.1)) ∧ (τ x.1).log2 < 200000
structure Cnt (τ : Str → Nat) (C : Addr) (p : Poly) (H : Hp) (Q : VK) (E : XK) : Prop where
  figs : B4 ≤ cntP τ p → ∀ x H', Same H H' → H' x = some (.xd [("word", .str "figures")]) → E (.ref C) (some x) H'
  num : cntP τ p < B4 → ∀ H', Same H H' → Q (.int (cntP τ p)) H'
def spCnt (K : PySem.W.Frag) (C : Addr) : Sp := fun vs H Q E => ∃ (v : V) (D : Addr) (p : Poly) (gs : List (Str × V)) (τ : Str → Nat), vs = [v, .ref D] ∧ FD K H v (bD p) ∧ CntOk p ∧ H D = some (.dK (kvG gs)) ∧ HasC gs τ p ∧ Cnt τ C p H Q E
section
variable {P : Program} {w : World} {K : PySem.W.Frag} {mg : Str → Option Value} {base : Heap} {T C fI : Addr}
abbrev cntN : List Str := ["p", "values", "beyond", "total", "monomial", "coefficient", "many", "token", "exponent"]
theorem scCounted : FnScope cntN ["p", "values"] (defScope sCounted) := ⟨rfl, rfl, rfl, by decide +kernel, rfl, by decide +kernel, by decide +kernel⟩
theorem ok_counted {f : Addr} {fd : FuncData} (F : Fun K "_counted" "_counted" sCounted f fd) (N : Cn K mg) (X : Tm K mg T C fI) (Gc : Df P w K mg base 1 "capped_power" ["base", "exponent", "cap"] spCap) : FnOk P w K mg base (L2.CX P w) 2 f fd ["p", "values"] (spCnt K C) := by
  obtain ⟨fc, fdc, gC, kC, bC, GC⟩ := Gc.ok
  refine F.okX scCounted (fun vs H Q E h => ?_) (fun cdv A outer s H vs Q E hr h => ?_)
  · obtain ⟨v, D, p, gs, τ, rfl, _⟩ := h
    rfl
  · obtain ⟨v, D, p, gs, τ, rfl, hd, ok, hD, has, out⟩ := h
    have hr1 : Room 1 _ := hr.mono (by decide)
    obtain ⟨t0, ht0⟩ := N.bey
    have tk := takes_of (X := cxOf (L2.CX P w) P w K mg base cntN "_counted" (defScope sCounted) f cdv A outer s H E) (E := E) rfl rfl rfl rfl
    refine ⟨_, pss_cons (ps_set (i := 2) scCounted.nd rfl (Or.inl rfl) (pe_op op_powW (pe_glob (v := .int BEY) (by rfl) ht0 ⟨_, rfl⟩) pe_int))
      (pss_cons (ps_set (i := 3) scCounted.nd rfl (Or.inl rfl) pe_int)
      (pss_cons (ps_for (passes_of rfl) rfl (pi_seq (pv 0)) (pg_seq rfl (pgs_cons (pg_name (i := 4) scCounted.nd rfl (Or.inl rfl)) (pgs_cons (pg_name (i := 5) scCounted.nd rfl (Or.inl rfl)) pgs_nil)))
        (pss_cons (ps_set (i := 6) scCounted.nd rfl (Or.inl rfl) (pv 5))
        (pss_cons (ps_for (passes_of rfl) rfl (pi_seq (pv 4)) (pg_seq rfl (pgs_cons (pg_name (i := 7) scCounted.nd rfl (Or.inl rfl)) (pgs_cons (pg_name (i := 8) scCounted.nd rfl (Or.inl rfl)) pgs_nil)))
          (pss_one (ps_set (i := 6) scCounted.nd rfl (Or.inl rfl) (pe_callB (call_min2 rfl) (by rfl) N.min (by rfl) (pa_cons (pe_op op_mulW (pv 6) (pe_call GC hr1 rfl gC kC bC .nil pass0 (pa_cons (pe_dget (u1 hr) (pv 1) (pv 7) (fun _ _ => rfl)) (pa_cons (pv 8) (pa_cons (pv 2) pa_nil))))) (pa_cons (pv 2) pa_nil))))))
        (pss_cons (ps_set (i := 3) scCounted.nd rfl (Or.inl rfl) (pe_op op_add (pv 3) (pv 6)))
        (pss_one (ps_if (pt_cmpR op_ge (pv 3) (pv 2) (nomark _)) (pss_one (ps_raise rfl tk (pmk_mk X.E X.mks X.g hr (pa_cons pe_str pa_nil) rfl))) pss_nil))))))
      (pss_one (ps_ret (pv 3))))), ?_⟩
    refine ⟨_, _, rfl, rfl, B4_bits, ?_⟩
    rw [show ((fun i j : Int => V.int (i ^ j.toNat)) BEY 40) = V.int B4 from rfl]
    obtain ⟨a, xs, rfl, hs, hl, hget⟩ := fd_bag hd
    refine seq_go rfl hs fun J G walk hG => ?_
    refine for_it walk (fun i σ H3 => (∃ u4 u5 u6 u7 u8, σ = [some (.ref a), some (.ref D), some (.int B4), some (.int (cntP τ (p.take i))), u4, u5, u6, u7, u8]) ∧ H3 = H ∧ cntP τ (p.take i) < B4) ⟨⟨_, _, _, _, _, rfl⟩, rfl, (by show (0 : Int) < B4; have := B4_pos; omega)⟩ (fun i σ H3 _ ⟨_, e, _⟩ => by rw [e]; exact hG H id id) ?_ ?_
    · rintro i x σ H3 Hx hi ⟨⟨u4, u5, u6, u7, u8, rfl⟩, rfl, hlt⟩ ⟨rfl, hx⟩
      obtain ⟨t, hti, hxt⟩ := hget i x hx
      have htm := List.mem_of_getElem? hti
      obtain ⟨T2, kk, rfl, hT2, hk⟩ := fd_pair hxt
      obtain ⟨b, ys, rfl, hb, hbl, hbget⟩ := fd_bag (κ := Str) hk
      obtain ⟨c0, c1⟩ := ok.co t htm
      have cB := BEY_B4
      refine ⟨T2, _, rfl, hT2, rfl, _, _, rfl, _, _, rfl, rfl, ?_⟩
      refine ⟨_, rfl, ?_⟩
      refine seq_go rfl hb fun J2 G2 walk2 hG2 => ?_
      refine for_it walk2 (fun j σ H4 => (∃ u7 u8, σ = [some (.ref a), some (.ref D), some (.int B4), some (.int (cntP τ (p.take i))), some (.ref b), some (.int t.2), some (.int (cpB (t.2 * powC τ (t.1.take j)))), u7, u8]) ∧ H4 = Hx) ⟨⟨u7, u8, ?_⟩, rfl⟩ (fun j σ H4 _ ⟨_, e⟩ => by rw [e]; exact hG2 Hx id id) ?_ ?_
      · rw [show powC τ (t.1.take 0) = 1 from rfl, Int.mul_one, cpB_small (by omega)]
        rfl
      · rintro j y σ H4 Hy hj ⟨⟨u7, u8, rfl⟩, rfl⟩ ⟨rfl, hy⟩
        obtain ⟨q, hq, hyq⟩ := hbget j y hy
        have hqm := List.mem_of_getElem? hq
        obtain ⟨U, kk2, rfl, hU, hkk⟩ := fd_pair hyq
        cases fd_str (z := q.1) hkk
        obtain ⟨hv, hlog⟩ := has t htm q hqm
        obtain ⟨x1, x2⟩ := ok.ex t htm q hqm
        have eq2 : q.2 = ((q.2.toNat : Nat) : Int) := by omega
        have hg : DGet Hy D (.str q.1) (some (.int (τ q.1))) := hv ▸ DGet.k (k := .inr q.1) hD
        have n1 : 0 ≤ t.2 * powC τ (t.1.take j) := Int.mul_nonneg c0 (powC_nn _ _)
        have n2 : (0 : Int) ≤ (τ q.1 : Int) ^ q.2.toNat := Int.pow_nonneg (Int.natCast_nonneg _)
        refine ⟨U, _, rfl, hU, rfl, _, _, rfl, _, _, rfl, rfl, ?_⟩
        refine ⟨_, rfl, _, rfl, _, rfl, D, _, rfl, hg, _, rfl, _, rfl, τ q.1, q.2.toNat, B4, by rw [← eq2]; rfl, by omega, by omega, B4_pos, Nat.lt_trans B4_log (by decide), hlog, ?_⟩
        rw [cap_cpB]
        refine ⟨_, _, rfl, rfl, ?_, _, rfl, _, _, rfl, ?_⟩
        · unfold CMulW
          have l1 := log_le (cpB_nn n1) (cpB_le (t.2 * powC τ (t.1.take j)))
          have l2 := log_le (cpB_nn n2) (cpB_le ((τ q.1 : Int) ^ q.2.toNat))
          omega
        · have e1 : (if B4 < cpB (t.2 * powC τ (t.1.take j)) * cpB ((τ q.1 : Int) ^ q.2.toNat) then B4 else cpB (t.2 * powC τ (t.1.take j)) * cpB ((τ q.1 : Int) ^ q.2.toNat)) = cpB (t.2 * powC τ (t.1.take (j + 1))) := by
            show cpB _ = _
            rw [cpB_mul n1 n2, powC_take hq, Int.mul_assoc]
          rw [e1]
          exact ⟨⟨_, _, rfl⟩, rfl⟩
      · rintro σ H4 ⟨⟨u7, u8, rfl⟩, rfl⟩
        rw [hbl, List.take_length]
        have stp := cntP_take (τ := τ) hti
        have n1 : 0 ≤ t.2 * powC τ t.1 := Int.mul_nonneg c0 (powC_nn _ _)
        have n0 : 0 ≤ cntP τ (p.take i) := by
          have := cntP_mono (τ := τ) (p := p.take i) (fun u hu => (ok.co u (List.mem_of_mem_take hu)).1) 0
          exact this
        refine ⟨_, rfl, _, rfl, _, _, rfl, rfl, ?_⟩
        refine ⟨_, rfl, _, rfl, _, _, rfl, rfl, _, rfl, ?_⟩
        by_cases h : B4 ≤ cntP τ (p.take i) + cpB (t.2 * powC τ t.1)
        · rw [decide_eq_true h]
          have hle : cpB (t.2 * powC τ t.1) ≤ t.2 * powC τ t.1 := by
            unfold cpB
            split <;> omega
          have hm := cntP_mono (τ := τ) (p := p) (fun u hu => (ok.co u hu).1) (i + 1)
          rw [stp] at hm
          exact iteT ⟨_, rfl, fun x nx => out.figs (by omega) x _ (sm_new sm_refl nx) upd_same⟩
        · rw [decide_eq_false h]
          have hc : cpB (t.2 * powC τ t.1) = t.2 * powC τ t.1 := by
            by_cases q : B4 ≤ t.2 * powC τ t.1
            · rw [cpB_big q] at h
              omega
            · exact cpB_small (by omega)
          rw [hc] at h ⊢
          exact iteF ⟨⟨some (.ref b), some (.int t.2), some (.int (t.2 * powC τ t.1)), u7, u8, by rw [stp]; rfl⟩, rfl, by rw [stp]; omega⟩
    · rintro σ H3 ⟨⟨u4, u5, u6, u7, u8, rfl⟩, rfl, hlt⟩
      rw [hl, List.take_length] at hlt ⊢
      exact ⟨_, rfl, out.num hlt _ sm_refl⟩
end
end K8


set_option Elab.async false
set_option linter.all false
set_option maxRecDepth 100000
set_option maxHeartbeats 8000000
namespace K8
open PySem L2 Nd Bk Gd PySem.ExE PySem.Spec PyProof.Rows
/-- a tuple display, known to be without a dict -/
def tTupF (t : TA) : TE := fun σ H Q => t σ H fun xs H1 => xs.length ≤ sizeLine ∧ ∀ (p : Addr) (o : Obj), H1 p = none → o.dict = none → Q (.ref p) (upd H1 p (.frz o (.tup xs)))
theorem pe_tupF {X : Cx} {es : List Expr} {t : TA} {x1} {pos : Pos} (h : PA X es t) : PE X (.Tuple es x1 pos) (tTupF t) := by
  refine ⟨fun pins s σ H Q I hq => ?_⟩
  refine wpAny_Tuple_spliced (thn (h.run pos pins s σ H _ I hq) fun us s1 ⟨xs, H1, I1, r, z, q⟩ => ⟨by rw [← r.length]; exact z, ?_⟩)
  have hf : H1 s1.heap.objs.size = none := I1.hok.fresh (Nat.le_refl _)
  refine ⟨.ref s1.heap.objs.size, upd H1 s1.heap.objs.size (.frz { cls := .type "tuple", data := .seq us.toArray } (.tup xs)), I1.laid (t' := s1.toks) (fun b u e => Heap.get?_push_of_some _ e) (Nat.le_refl _) ?_, rfl, q _ _ hf rfl⟩
  exact ⟨Heap.get?_push_size _ rfl, z, us, r, IsTup.new _ _⟩
def count_ : Str := Str.ofString "count"
def spValC (K : PySem.W.Frag) (C : Addr) : Sp := fun vs H Q E => ∃ (v g : V) (p : Poly) (gs : List (Str × V)) (τ : Str → Nat), vs = [v, .str count_, g] ∧ FD K H v (bD p) ∧ POk p ∧ Szd p ∧ (tokK p).length ≤ 1000 ∧ CntOk p ∧ GivenAt K H g gs ∧ (gs.map (·.1)).Nodup ∧ HasC gs τ p ∧ Cnt τ C p H Q E
theorem Cnt.after {τ : Str → Nat} {C : Addr} {p : Poly} {H H' : Hp} {Q : VK} {E : XK} (s : Same H H') (c : Cnt τ C p H Q E) : Cnt τ C p H' Q E := ⟨fun h x H2 s2 hx => c.figs h x H2 (s.trans s2) hx, fun h H2 s2 => c.num h H2 (s.trans s2)⟩
section
variable {P : Program} {w : World} {K : PySem.W.Frag} {mg : Str → Option Value} {base : Heap} {T C fI : Addr}
theorem ok_valuedC {f : Addr} {fd : FuncData} (F : Fun K "valued" "valued" sValued f fd) (N : Cn K mg) (Gt : Df P w K mg base 1 "tokens_of" ["p"] (spTks K)) (Gn : Df P w K mg base 1 "need_all" ["tokens", "values"] (spNeed K))
    {fc : Addr} {fdc : FuncData} (gC : mg "_counted" = some (.ref fc)) (kC : PySem.W.keepIn K (.ref fc) = true) (bC : Binds K fdc ["p", "values"] []) (GC : FnOk P w K mg base (L2.CX P w) 2 fc fdc ["p", "values"] (spCnt K C)) :
    FnOk P w K mg base (L2.CX P w) 3 f fd ["p", "measure", "given"] (spValC K C) := by
  obtain ⟨ft, fdt, gT, kT, bT, GT⟩ := Gt.ok
  obtain ⟨fn, fdn, gN, kN, bN, GN⟩ := Gn.ok
  refine F.okX scValued (fun vs H Q E h => ?_) (fun cdv A outer s H vs Q E hr h => ?_)
  · obtain ⟨v, g, p, gs, τ, rfl, _⟩ := h
    rfl
  · obtain ⟨v, g, p, gs, τ, rfl, hd, okp, szp, htl, cok, ⟨ga, gys, rfl, hg, hpg⟩, hnd, has, out⟩ := h
    have hr1 : Room 1 _ := hr.mono (by decide)
    have hr2 : Room 2 _ := hr
    have tk := takes_of (X := cxOf (L2.CX P w) P w K mg base valN "valued" (defScope sValued) f cdv A outer s H E) (E := E) rfl rfl rfl rfl
    refine ⟨_, pss_cons (ps_set (i := 3) scValued.nd rfl (Or.inl rfl) (pe_callTy (show CallR _ _ (rDictG K) from call_dictG rfl) (by rfl) N.dict (by rfl) (pa_cons (pv 2) pa_nil)))
      (pss_cons (ps_if (PW.pt (pw_and (pt_cmpR op_eq (pv 1) pe_str (nomark _)) pw_never)) (pss_one ps_never) pss_nil)
      (pss_cons (ps_expr (pe_call GN hr1 rfl gN kN bN .nil pass0 (pa_cons (pe_call GT hr1 rfl gT kT bT .nil pass0 (pa_cons (pv 0) pa_nil)) (pa_cons (pv 3) pa_nil))))
      (pss_cons (ps_if (pt_cmpR op_eq (pv 1) pe_str (nomark _)) (pss_one (ps_ret (pe_callS GC hr2 rfl gC kC bC (fun σ => passAt tk σ) (pa_cons (pv 0) (pa_cons (pv 3) pa_nil))))) pss_nil)
      pss_never))), ?_⟩
    refine ⟨_, rfl, ga, gys, gs, rfl, hg, hpg, hnd, fun D nD => ?_⟩
    have s1 : Same H (upd H D (.dK (kvG gs))) := sm_new sm_refl nD
    have hD : upd H D (.dK (kvG gs)) D = some (.dK (kvG gs)) := upd_same
    generalize upd H D (.dK (kvG gs)) = H1 at s1 hD ⊢
    refine ⟨_, rfl, rfl, false, dn (by decide +kernel), iteF (iteF ?_)⟩
    refine ⟨_, rfl, v, p, rfl, hd.same s1, okp, szp, htl, fun vt H2 s2 ht => ?_⟩
    obtain ⟨T1, zs, rfl, hT, hzs⟩ := dp_tup ht
    cases dp_strs hzs
    have hD2 := s2 _ _ hD
    have s02 := s1.trans s2
    refine ⟨_, rfl, T1, D, tokK p, kvG gs, rfl, hT, hD2, fun z hz => ?_, ?_⟩
    · obtain ⟨t, ht, x, hx, rfl⟩ := tokK_mem hz
      exact ⟨_, (has t ht x hx).1⟩
    refine ⟨_, rfl, rfl, true, dy, iteT ?_⟩
    exact ⟨_, rfl, _, rfl, v, D, p, gs, τ, rfl, hd.same s02, cok, hD2, has, out.after s02⟩
end
end K8


set_option Elab.async false
set_option linter.all false
set_option maxRecDepth 100000
set_option maxHeartbeats 8000000
namespace K8
open PySem L2 Nd Bk Gd PySem.ExE
/-- the names of k05 -/
structure Cw (K : PySem.W.Frag) (w : World) (mg : Str → Option Value) : Prop where
  sum : mg "sum" = none
  zeros : ∃ a, mg "_ZEROS" = some (.ref a) ∧ KDct K w a count_ (.int 0)
  ones : ∃ a, mg "_ONES" = some (.ref a) ∧ KDct K w a count_ (.int 1)
def spPlC : Sp := fun vs H Q _ => ∃ a b : Int, vs = [.str count_, .int a, .int b] ∧ Q (.int (a + b)) H
def spTmC : Sp := fun vs H Q _ => ∃ a b : Int, vs = [.str count_, .int a, .int b] ∧ 0 ≤ a ∧ a ≤ 1000000 ∧ Q (.int (a * b)) H
def spZeC : Sp := fun vs H Q _ => ∃ x : V, vs = [.str count_, x] ∧ Q (.int 0) H
def spOnC : Sp := fun vs H Q _ => ∃ x : V, vs = [.str count_, x] ∧ Q (.int 1) H
section
variable {P : Program} {w : World} {K : PySem.W.Frag} {mg : Str → Option Value} {base : Heap}
theorem ok_plC {f : Addr} {fd : FuncData} (F : Fun K "measured_plus" "measured_plus" sMPlus f fd) : FnOk P w K mg base CX0 1 f fd ["measure", "a", "b"] spPlC := by
  refine F.ok scMPlus (fun vs H Q E h => ?_) (fun cdv A outer s H vs Q E hr h => ?_)
  · obtain ⟨a, b, rfl, _⟩ := h
    rfl
  · obtain ⟨a, b, rfl, k⟩ := h
    refine ⟨_, pss_cons (ps_if (pt_cmpR op_eq (pv 0) pe_str (nomark _)) (pss_one (ps_ret (pe_op op_add (pv 1) (pv 2)))) pss_nil) pss_never, ?_⟩
    exact ⟨_, rfl, rfl, true, dy, iteT ⟨_, rfl, _, rfl, _, _, rfl, rfl, k⟩⟩
theorem ok_tmC {f : Addr} {fd : FuncData} (F : Fun K "measured_times" "measured_times" sMTimes f fd) : FnOk P w K mg base CX0 1 f fd ["measure", "a", "b"] spTmC := by
  refine F.ok scMTimes (fun vs H Q E h => ?_) (fun cdv A outer s H vs Q E hr h => ?_)
  · obtain ⟨a, b, rfl, _⟩ := h
    rfl
  · obtain ⟨a, b, rfl, h0, h1, k⟩ := h
    refine ⟨_, pss_cons (ps_if (pt_cmpR op_eq (pv 0) pe_str (nomark _)) (pss_one (ps_ret (pe_op op_mul (pv 1) (pv 2)))) pss_nil) pss_never, ?_⟩
    exact ⟨_, rfl, rfl, true, dy, iteT ⟨_, rfl, _, rfl, _, _, rfl, rfl, .inl ⟨by omega, by omega⟩, k⟩⟩
theorem ok_zeC {f : Addr} {fd : FuncData} (F : Fun K "measured_zero" "measured_zero" sMZero f fd) (V : Cw K w mg) : FnOk P w K mg base CX0 1 f fd ["measure", "persons"] spZeC := by
  refine F.ok scMZero (fun vs H Q E h => ?_) (fun cdv A outer s H vs Q E hr h => ?_)
  · obtain ⟨x, rfl, _⟩ := h
    rfl
  · obtain ⟨x, rfl, k⟩ := h
    obtain ⟨z, gz, z1⟩ := V.zeros
    refine ⟨_, pss_one (ps_ret (pe_ix (show IxR _ (rIxD K w) from ix_kdict) (pe_glob (v := .ref z) (by rfl) gz rfl) (pv 0) (fun _ _ => rfl))), ?_⟩
    exact ⟨_, rfl, z, count_, _, rfl, rfl, z1, k⟩
theorem ok_onC {f : Addr} {fd : FuncData} (F : Fun K "measured_one" "measured_one" sMOne f fd) (V : Cw K w mg) : FnOk P w K mg base CX0 1 f fd ["measure", "persons"] spOnC := by
  refine F.ok scMOne (fun vs H Q E h => ?_) (fun cdv A outer s H vs Q E hr h => ?_)
  · obtain ⟨x, rfl, _⟩ := h
    rfl
  · obtain ⟨x, rfl, k⟩ := h
    obtain ⟨z, gz, z1⟩ := V.ones
    refine ⟨_, pss_cons (ps_if (pt_cmpR op_eq (pv 0) pe_str (nomark _)) pss_never pss_nil) (pss_one (ps_ret (pe_ix (show IxR _ (rIxD K w) from ix_kdict) (pe_glob (v := .ref z) (by rfl) gz rfl) (pv 0) (fun _ _ => rfl)))), ?_⟩
    exact ⟨_, rfl, rfl, false, dn (by decide +kernel), iteF ⟨_, rfl, z, count_, _, rfl, rfl, z1, k⟩⟩
end
end K8


set_option Elab.async false
set_option linter.all false
set_option maxRecDepth 100000
set_option maxHeartbeats 8000000
namespace K8
open PySem L2 Nd Bk Gd
/-! the pool, from which the laws k07 to k13 draw: a dict -/
def kC : Str := Str.ofString "cells"
def kA : Str := Str.ofString "at"
def kR : Str := Str.ofString "rest"
def kL : Str := Str.ofString "left"
def kS : Str := Str.ofString "small"
def kD : Str := Str.ofString "seed"
def kT : Str := Str.ofString "turn"
def pk (c : Addr) (a r l : Int) (s : Bool) (d t : Int) : List (Key × V) := [(.inr kC, .ref c), (.inr kA, .int a), (.inr kR, .int r), (.inr kL, .int l), (.inr kS, .bl s), (.inr kD, .int d), (.inr kT, .int t)]
theorem pk_ne : ([kC, kA, kR, kL, kS, kD, kT] : List Str).Nodup := by decide +kernel
theorem nK {x y : Str} (h : decide (x = y) = false) : decide ((Sum.inr x : Key) = .inr y) = false := decide_eq_false fun e => (of_decide_eq_false h) (Sum.inr.inj e)
theorem yK (x : Str) : decide ((Sum.inr x : Key) = .inr x) = true := decide_eq_true rfl
theorem val_hit {k : Str} {v : V} {r : List (Key × V)} : valV ((.inr k, v) :: r) (.inr k) = some v := by
  unfold valV
  rw [List.find?_cons, yK]
  rfl
theorem val_miss {k j : Str} {v : V} {r : List (Key × V)} (h : decide (k = j) = false) : valV ((.inr k, v) :: r) (.inr j) = valV r (.inr j) := by
  unfold valV
  rw [List.find?_cons, nK h]
section
variable {c : Addr} {a r l d t : Int} {s : Bool}
theorem pk_C : valV (pk c a r l s d t) (.inr kC) = some (.ref c) := val_hit
theorem pk_A : valV (pk c a r l s d t) (.inr kA) = some (.int a) := (val_miss (by decide +kernel)).trans val_hit
theorem pk_R : valV (pk c a r l s d t) (.inr kR) = some (.int r) := (val_miss (by decide +kernel)).trans ((val_miss (by decide +kernel)).trans val_hit)
theorem pk_L : valV (pk c a r l s d t) (.inr kL) = some (.int l) := (val_miss (by decide +kernel)).trans ((val_miss (by decide +kernel)).trans ((val_miss (by decide +kernel)).trans val_hit))
theorem pk_S : valV (pk c a r l s d t) (.inr kS) = some (.bl s) := (val_miss (by decide +kernel)).trans ((val_miss (by decide +kernel)).trans ((val_miss (by decide +kernel)).trans ((val_miss (by decide +kernel)).trans val_hit)))
theorem pk_D : valV (pk c a r l s d t) (.inr kD) = some (.int d) := (val_miss (by decide +kernel)).trans ((val_miss (by decide +kernel)).trans ((val_miss (by decide +kernel)).trans ((val_miss (by decide +kernel)).trans ((val_miss (by decide +kernel)).trans val_hit))))
theorem pk_T : valV (pk c a r l s d t) (.inr kT) = some (.int t) := (val_miss (by decide +kernel)).trans ((val_miss (by decide +kernel)).trans ((val_miss (by decide +kernel)).trans ((val_miss (by decide +kernel)).trans ((val_miss (by decide +kernel)).trans ((val_miss (by decide +kernel)).trans val_hit)))))
theorem put_there {kvs : List (Key × V)} {k : Str} {v w : V} (h : valV kvs (.inr k) = some w) : putK kvs (.inr k) v = kvs.map fun kv => if kv.1 = (.inr k : Key) then (kv.1, v) else kv := by
  unfold putK
  have e : (kvs.any fun kv => decide (kv.1 = (.inr k : Key))) = true := by
    unfold valV at h
    obtain ⟨q, hq, _⟩ := Option.map_eq_some_iff.mp h
    have h1 := List.mem_of_find?_eq_some hq
    have h2' := List.find?_some hq
    have h2 : q.1 = (.inr k : Key) := of_decide_eq_true h2'
    exact List.any_eq_true.mpr ⟨q, h1, decide_eq_true h2⟩
  rw [if_pos e]
theorem inr_ne {x y : Str} (h : decide (x = y) = false) : ¬ ((Sum.inr x : Key) = .inr y) := fun e => (of_decide_eq_false h) (Sum.inr.inj e)
theorem up_A (x : Int) : putK (pk c a r l s d t) (.inr kA) (.int x) = pk c x r l s d t := by
  rw [put_there pk_A]
  simp only [pk, List.map_cons, List.map_nil, if_neg (inr_ne (show decide (kC = kA) = false by decide +kernel)), if_neg (inr_ne (show decide (kR = kA) = false by decide +kernel)), if_neg (inr_ne (show decide (kL = kA) = false by decide +kernel)), if_neg (inr_ne (show decide (kS = kA) = false by decide +kernel)), if_neg (inr_ne (show decide (kD = kA) = false by decide +kernel)), if_neg (inr_ne (show decide (kT = kA) = false by decide +kernel)), if_true]
theorem up_R (x : Int) : putK (pk c a r l s d t) (.inr kR) (.int x) = pk c a x l s d t := by
  rw [put_there pk_R]
  simp only [pk, List.map_cons, List.map_nil, if_neg (inr_ne (show decide (kC = kR) = false by decide +kernel)), if_neg (inr_ne (show decide (kA = kR) = false by decide +kernel)), if_neg (inr_ne (show decide (kL = kR) = false by decide +kernel)), if_neg (inr_ne (show decide (kS = kR) = false by decide +kernel)), if_neg (inr_ne (show decide (kD = kR) = false by decide +kernel)), if_neg (inr_ne (show decide (kT = kR) = false by decide +kernel)), if_true]
theorem up_L (x : Int) : putK (pk c a r l s d t) (.inr kL) (.int x) = pk c a r x s d t := by
  rw [put_there pk_L]
  simp only [pk, List.map_cons, List.map_nil, if_neg (inr_ne (show decide (kC = kL) = false by decide +kernel)), if_neg (inr_ne (show decide (kA = kL) = false by decide +kernel)), if_neg (inr_ne (show decide (kR = kL) = false by decide +kernel)), if_neg (inr_ne (show decide (kS = kL) = false by decide +kernel)), if_neg (inr_ne (show decide (kD = kL) = false by decide +kernel)), if_neg (inr_ne (show decide (kT = kL) = false by decide +kernel)), if_true]
theorem up_S (x : Bool) : putK (pk c a r l s d t) (.inr kS) (.bl x) = pk c a r l x d t := by
  rw [put_there pk_S]
  simp only [pk, List.map_cons, List.map_nil, if_neg (inr_ne (show decide (kC = kS) = false by decide +kernel)), if_neg (inr_ne (show decide (kA = kS) = false by decide +kernel)), if_neg (inr_ne (show decide (kR = kS) = false by decide +kernel)), if_neg (inr_ne (show decide (kL = kS) = false by decide +kernel)), if_neg (inr_ne (show decide (kD = kS) = false by decide +kernel)), if_neg (inr_ne (show decide (kT = kS) = false by decide +kernel)), if_true]
theorem up_T (x : Int) : putK (pk c a r l s d t) (.inr kT) (.int x) = pk c a r l s d x := by
  rw [put_there pk_T]
  simp only [pk, List.map_cons, List.map_nil, if_neg (inr_ne (show decide (kC = kT) = false by decide +kernel)), if_neg (inr_ne (show decide (kA = kT) = false by decide +kernel)), if_neg (inr_ne (show decide (kR = kT) = false by decide +kernel)), if_neg (inr_ne (show decide (kL = kT) = false by decide +kernel)), if_neg (inr_ne (show decide (kS = kT) = false by decide +kernel)), if_neg (inr_ne (show decide (kD = kT) = false by decide +kernel)), if_true]
end
structure PoolAt (H : Hp) (p c : Addr) (ns : List Int) : Prop where
  dct : ∃ (a r l : Int) (s : Bool) (d t : Int), 0 ≤ a ∧ H p = some (.dK (pk c a r l s d t))
  cells : H c = some (.lst (ns.map V.int))
  len : ns.length ≤ 1000
theorem PoolAt.ne {H : Hp} {p c : Addr} {ns : List Int} (x : PoolAt H p c ns) : c ≠ p := fun e => by
  obtain ⟨a, r, l, s, d, t, _, h⟩ := x.dct
  have h2 := x.cells
  rw [e, h] at h2
  cases h2
theorem PoolAt.put {H : Hp} {p c : Addr} {ns : List Int} (x : PoolAt H p c ns) {a r l d t : Int} {s : Bool} (h : 0 ≤ a) : PoolAt (upd H p (.dK (pk c a r l s d t))) p c ns := ⟨⟨a, r, l, s, d, t, h, upd_same⟩, by rw [upd_ne x.ne]; exact x.cells, x.len⟩
theorem PoolAt.same {H H' : Hp} {p c : Addr} {ns : List Int} (x : PoolAt H p c ns) (s : Same H H') : PoolAt H' p c ns := let ⟨a, r, l, q, d, t, h0, h⟩ := x.dct; ⟨⟨a, r, l, q, d, t, h0, s _ _ h⟩, s _ _ x.cells, x.len⟩
theorem PoolAt.notT {H : Hp} {p c : Addr} {ns : List Int} (x : PoolAt H p c ns) : NotT (H p) := by
  obtain ⟨a, r, l, s, d, t, _, h⟩ := x.dct
  rw [h]
  exact notT_dK
theorem PoolAt.off {H : Hp} {p c d : Addr} {ns : List Int} (x : PoolAt H p c ns) (n : H d = none) : d ≠ p := by
  obtain ⟨a, r, l, s, e, t, _, h⟩ := x.dct
  exact Ne.symm (ne_of_none h n)
theorem PoolAt.mine {H : Hp} {p c d : Addr} {ns : List Int} {o : HO} (x : PoolAt H p c ns) (h1 : p ≠ d) (h2 : c ≠ d) : PoolAt (upd H d o) p c ns := by
  obtain ⟨a, r, l, s, e, t, h0, h⟩ := x.dct
  exact ⟨⟨a, r, l, s, e, t, h0, by rw [upd_ne h1]; exact h⟩, by rw [upd_ne h2]; exact x.cells, x.len⟩
def spMixd : Sp := fun vs H Q _ => ∃ n t m : Int, vs = [.int n, .int t, .int m] ∧ 0 < m ∧ m < 10000000 ∧ ∀ r : Int, 0 ≤ r → r < m → Q (.int r) H
section
variable {P : Program} {w : World} {K : PySem.W.Frag} {mg : Str → Option Value} {base : Heap}
theorem scMixd : FnScope ["number", "turn", "many", "prime", "once", "twice"] ["number", "turn", "many"] (defScope sMixd) := ⟨rfl, rfl, rfl, by decide +kernel, rfl, by decide +kernel, by decide +kernel⟩
theorem ok_mixd {f : Addr} {fd : FuncData} (F : Fun K "_law_mixed" "_law_mixed" sMixd f fd) (mI : mg "int" = none) : FnOk P w K mg base CX0 1 f fd ["number", "turn", "many"] spMixd := by
  refine F.ok scMixd (fun vs H Q E h => ?_) (fun cdv A outer s H vs Q E hr h => ?_)
  · obtain ⟨n, t, m, rfl, _⟩ := h
    rfl
  · obtain ⟨n, t, m, rfl, m0, m1, k⟩ := h
    refine ⟨_, pss_cons (ps_set (i := 3) scMixd.nd rfl (Or.inl rfl) pe_int)
      (pss_cons (ps_set (i := 4) scMixd.nd rfl (Or.inl rfl) (pe_op op_modN (pe_callTy call_int1 (by rfl) mI (by decide +kernel) (pa_cons (pe_op op_add (pe_op op_add (pe_op op_mul (pv 0) pe_int) (pe_op op_mul (pv 1) pe_int)) pe_int) pa_nil)) (pv 3)))
      (pss_cons (ps_set (i := 5) scMixd.nd rfl (Or.inl rfl) (pe_op op_modN (pe_op op_mul (pe_callTy call_int1 (by rfl) mI (by decide +kernel) (pa_cons (pe_op op_add (pe_op op_mul (pv 4) (pv 4)) (pv 1)) pa_nil)) pe_int) (pv 3)))
      (pss_one (ps_ret (pe_op op_modN (pe_op op_fdivN (pv 5) pe_int) (pv 2)))))), ?_⟩
    refine ⟨_, rfl, _, _, rfl, rfl, .inr ⟨by decide, by decide⟩, _, rfl, _, _, rfl, rfl, .inr ⟨by decide, by decide⟩, _, _, rfl, rfl, _, _, rfl, rfl, .inl ⟨_, rfl, _, rfl, _, _, rfl, rfl, (by show (2305843009213693951 : Int) ≠ 0; decide), ?_⟩⟩
    have h0 := Int.fmod_nonneg_of_pos (n * 48271 + t * 1000000000039 + 12345678910111213) (show (0 : Int) < 2305843009213693951 by decide)
    have h1 := Int.fmod_lt_of_pos (n * 48271 + t * 1000000000039 + 12345678910111213) (show (0 : Int) < 2305843009213693951 by decide)
    have cm : CMul ((n * 48271 + t * 1000000000039 + 12345678910111213).fmod 2305843009213693951) ((n * 48271 + t * 1000000000039 + 12345678910111213).fmod 2305843009213693951) := .inl ⟨by omega, by omega⟩
    refine ⟨_, rfl, _, rfl, _, _, rfl, rfl, cm, _, rfl, _, _, rfl, rfl, .inl ⟨_, rfl, _, _, rfl, rfl, .inr ⟨by decide, by decide⟩, _, rfl, _, _, rfl, rfl, (by show (2305843009213693951 : Int) ≠ 0; decide), ?_⟩⟩
    refine ⟨_, rfl, _, _, rfl, rfl, ⟨by decide, by decide⟩, _, rfl, _, _, rfl, rfl, (show m ≠ 0 by omega), ?_⟩
    exact k _ (Int.fmod_nonneg_of_pos _ m0) (Int.fmod_lt_of_pos _ m0)
end
end K8


set_option Elab.async false
set_option linter.all false
set_option maxRecDepth 100000
set_option maxHeartbeats 8000000
namespace K8
open PySem L2 Nd Bk Gd
theorem getK {H : Hp} {p : Addr} {kvs : List (Key × V)} {k : Str} {v : V} (h : H p = some (.dK kvs)) (e : valV kvs (.inr k) = some v) : DGet H p (.str k) (some v) := e ▸ DGet.k (k := .inr k) h
theorem putD {H : Hp} {p : Addr} {kvs kvs' : List (Key × V)} {k : Str} {v : V} (h : H p = some (.dK kvs)) (l : kvs.length ≤ 1000) (e : putK kvs (.inr k) v = kvs') : DPut H p (.str k) v (upd H p (.dK kvs')) := e ▸ DPut.k (k := .inr k) h (small1000 l)
def spTake : Sp := fun vs H Q _ => ∃ (p c : Addr) (ns : List Int) (many : Int), vs = [.ref p, .int many] ∧ 0 < many ∧ many < 10000000 ∧ PoolAt H p c ns ∧ ∀ (r : Int) (H' : Hp), 0 ≤ r → r < many → PoolAt H' p c ns → But p H H' → Q (.int r) H'
section
variable {P : Program} {w : World} {K : PySem.W.Frag} {mg : Str → Option Value} {base : Heap}
theorem scTake : FnScope ["pool", "many", "drawn"] ["pool", "many"] (defScope sTake) := ⟨rfl, rfl, rfl, by decide +kernel, rfl, by decide +kernel, by decide +kernel⟩
theorem ok_take {f : Addr} {fd : FuncData} (F : Fun K "_law_take" "_law_take" sTake f fd) (mI : mg "int" = none) (mL : mg "len" = none) (Gm : Df P w K mg base 1 "_law_mixed" ["number", "turn", "many"] spMixd) : FnOk P w K mg base CX0 2 f fd ["pool", "many"] spTake := by
  obtain ⟨fm, fdm, gM, kM, bM, GM⟩ := Gm.ok
  refine F.ok scTake (fun vs H Q E h => ?_) (fun cdv A outer s H vs Q E hr h => ?_)
  · obtain ⟨p, c, ns, many, rfl, _⟩ := h
    rfl
  · obtain ⟨p, c, ns, many, rfl, m0, m1, hP, k⟩ := h
    have hr1 : Room 1 _ := hr
    refine ⟨_, pss_cons (ps_dput (u1 hr) (pv 0) pe_str (pe_op op_add (pe_dget (u1 hr) (pv 0) pe_str (fun _ _ => rfl)) pe_int) rfl)
      (C8.pss_cut (ps_if (PW.pt (pw_and (pt_cmpR op_eq (pe_dget (u1 hr) (pv 0) pe_str (fun _ _ => rfl)) pe_int (nomark _)) (pw_and1 (pt_cmpR op_lt (pe_dget (u1 hr) (pv 0) pe_str (fun _ _ => rfl)) (pe_callB call_len_seq (by rfl) mL PySem.boot_len (pa_cons (pe_dget (u1 hr) (pv 0) pe_str (fun _ _ => rfl)) pa_nil)) (nomark _)))))
        (pss_cons (ps_dput (u1 hr) (pv 0) pe_str (pe_ix ix_list (pe_dget (u1 hr) (pv 0) pe_str (fun _ _ => rfl)) (pe_dget (u1 hr) (pv 0) pe_str (fun _ _ => rfl)) (fun _ _ => rfl)) rfl)
        (pss_cons (ps_dput (u1 hr) (pv 0) pe_str (pe_op op_add (pe_dget (u1 hr) (pv 0) pe_str (fun _ _ => rfl)) pe_int) rfl)
        (pss_cons (ps_dput (u1 hr) (pv 0) pe_str (pe_cmpR op_lt (pe_dget (u1 hr) (pv 0) pe_str (fun _ _ => rfl)) (pe_op op_pow pe_int pe_int) (nomark _)) rfl)
        (pss_one (ps_dput (u1 hr) (pv 0) pe_str (pe_ix ix_list (pe_lst (pa_cons pe_int (pa_cons pe_int pa_nil))) (pe_callTy call_int1 (by rfl) mI (by decide +kernel) (pa_cons (pe_dget (u1 hr) (pv 0) pe_str (fun _ _ => rfl)) pa_nil)) (fun _ _ => rfl)) rfl))))) pss_nil)
      (pss_cons (ps_if (pt_cmpR op_eq (pe_dget (u1 hr) (pv 0) pe_str (fun _ _ => rfl)) pe_int (nomark _)) (pss_one (ps_ret (pe_call GM hr1 rfl gM kM bM .nil pass0 (pa_cons (pe_dget (u1 hr) (pv 0) pe_str (fun _ _ => rfl)) (pa_cons (pe_dget (u1 hr) (pv 0) pe_str (fun _ _ => rfl)) (pa_cons (pv 1) pa_nil)))))) pss_nil)
      (pss_cons (ps_dput (u1 hr) (pv 0) pe_str (pe_op op_sub (pe_dget (u1 hr) (pv 0) pe_str (fun _ _ => rfl)) pe_int) rfl)
      (pss_cons (ps_if (pt_val (pe_dget (u1 hr) (pv 0) pe_str (fun _ _ => rfl))) (pss_one (ps_ret (pe_call GM hr1 rfl gM kM bM .nil pass0 (pa_cons (pe_dget (u1 hr) (pv 0) pe_str (fun _ _ => rfl)) (pa_cons (pe_dget (u1 hr) (pv 0) pe_str (fun _ _ => rfl)) (pa_cons (pv 1) pa_nil)))))) pss_nil)
      (pss_cons (ps_set (i := 2) scTake.nd rfl (Or.inl rfl) (pe_op op_modN (pe_callTy call_int1 (by rfl) mI (by decide +kernel) (pa_cons (pe_dget (u1 hr) (pv 0) pe_str (fun _ _ => rfl)) pa_nil)) (pv 1)))
      (pss_cons (ps_dput (u1 hr) (pv 0) pe_str (pe_op op_fdivN (pe_dget (u1 hr) (pv 0) pe_str (fun _ _ => rfl)) (pv 1)) rfl)
      (pss_cons (ps_if (pt_cmpR op_eq (pe_dget (u1 hr) (pv 0) pe_str (fun _ _ => rfl)) pe_int (nomark _)) (pss_one (ps_dput (u1 hr) (pv 0) pe_str pe_int rfl)) pss_nil)
      (pss_one (ps_ret (pv 2)))))))))), ?_⟩
    have len7 : ∀ {c : Addr} {a r l d t : Int} {s : Bool}, (pk c a r l s d t).length ≤ 1000 := by
      intros
      show 7 ≤ 1000
      decide
    obtain ⟨a, r, l, sm, d, t, ha, hp⟩ := id hP.dct
    refine ⟨_, rfl, p, _, rfl, getK hp pk_T, _, _, rfl, rfl, _, rfl, p, _, rfl, putD hp len7 (up_T (t + 1)), ?_⟩
    have hP1 : PoolAt (upd H p (.dK (pk c a r l sm d (t + 1)))) p c ns := hP.put ha
    have hp1 : upd H p (.dK (pk c a r l sm d (t + 1))) p = some (.dK (pk c a r l sm d (t + 1))) := upd_same
    have k1 : But p H (upd H p (.dK (pk c a r l sm d (t + 1)))) := But.upd
    generalize upd H p (.dK (pk c a r l sm d (t + 1))) = H1 at hP1 hp1 k1 ⊢
    refine ⟨fun σ H2 => σ = [some (.ref p), some (.int many), none] ∧ PoolAt H2 p c ns ∧ But p H H2, ?_, ?_⟩
    · refine ⟨_, rfl, p, _, rfl, getK hp1 pk_L, rfl, _, rfl, ?_⟩
      refine ite2 (fun _ => ?_) (fun _ => ⟨rfl, hP1, k1⟩)
      refine ⟨_, rfl, p, _, rfl, getK hp1 pk_A, _, rfl, p, _, rfl, getK hp1 pk_C, c, _, rfl, .inl (SqL.of hP1.cells), _, _, rfl, rfl, _, rfl, ?_⟩
      refine ite2 (fun hlt => ?_) (fun _ => ⟨rfl, hP1, k1⟩)
      have hlt' : a < ((ns.map V.int).length : Int) := of_decide_eq_true hlt
      rw [List.length_map] at hlt'
      obtain ⟨j, rfl⟩ := Int.eq_ofNat_of_zero_le ha
      have hj : j < ns.length := by omega
      have hget : (ns.map V.int)[j]? = some (V.int ns[j]) := by rw [List.getElem?_map, List.getElem?_eq_getElem hj]; rfl
      refine ⟨_, rfl, p, _, rfl, getK hp1 pk_C, _, rfl, p, _, rfl, getK hp1 pk_A, c, _, _, _, rfl, rfl, SqL.of hP1.cells, atI_nat hget, _, rfl, p, _, rfl, putD hp1 len7 (up_R _), ?_⟩
      have hP2 : PoolAt (upd H1 p (.dK (pk c (j : Int) ns[j] l sm d (t + 1)))) p c ns := hP1.put ha
      have hp2 : upd H1 p (.dK (pk c (j : Int) ns[j] l sm d (t + 1))) p = some (.dK (pk c (j : Int) ns[j] l sm d (t + 1))) := upd_same
      have k2 : But p H1 (upd H1 p (.dK (pk c (j : Int) ns[j] l sm d (t + 1)))) := But.upd
      generalize upd H1 p (.dK (pk c (j : Int) ns[j] l sm d (t + 1))) = H2 at hP2 hp2 k2 ⊢
      refine ⟨_, rfl, p, _, rfl, getK hp2 pk_A, _, _, rfl, rfl, _, rfl, p, _, rfl, putD hp2 len7 (up_A _), ?_⟩
      have hP3 : PoolAt (upd H2 p (.dK (pk c ((j : Int) + 1) ns[j] l sm d (t + 1)))) p c ns := hP2.put (by omega)
      have hp3 : upd H2 p (.dK (pk c ((j : Int) + 1) ns[j] l sm d (t + 1))) p = some (.dK (pk c ((j : Int) + 1) ns[j] l sm d (t + 1))) := upd_same
      have k3 : But p H2 (upd H2 p (.dK (pk c ((j : Int) + 1) ns[j] l sm d (t + 1)))) := But.upd
      generalize upd H2 p (.dK (pk c ((j : Int) + 1) ns[j] l sm d (t + 1))) = H3 at hP3 hp3 k3 ⊢
      refine ⟨_, rfl, p, _, rfl, getK hp3 pk_R, _, _, rfl, rfl, ⟨by decide, by decide, by decide⟩, _, _, rfl, rfl, _, rfl, p, _, rfl, putD hp3 len7 (up_S _), ?_⟩
      generalize decide (ns[j] < (10 : Int) ^ Int.toNat 18) = sb
      have hP4 : PoolAt (upd H3 p (.dK (pk c ((j : Int) + 1) ns[j] l sb d (t + 1)))) p c ns := hP3.put (by omega)
      have hp4 : upd H3 p (.dK (pk c ((j : Int) + 1) ns[j] l sb d (t + 1))) p = some (.dK (pk c ((j : Int) + 1) ns[j] l sb d (t + 1))) := upd_same
      have k4 : But p H3 (upd H3 p (.dK (pk c ((j : Int) + 1) ns[j] l sb d (t + 1)))) := But.upd
      generalize upd H3 p (.dK (pk c ((j : Int) + 1) ns[j] l sb d (t + 1))) = H4 at hP4 hp4 k4 ⊢
      refine ⟨(by show 2 ≤ sizeLine; decide), fun L nL => ?_⟩
      have sL : Same H4 (upd H4 L (.lst [.int 60, .int 2])) := sm_new sm_refl nL
      have hL : upd H4 L (.lst [.int 60, .int 2]) L = some (.lst [.int 60, .int 2]) := upd_same
      generalize upd H4 L (.lst [.int 60, .int 2]) = H5 at sL hL ⊢
      have hp5 := sL _ _ hp4
      have hP5 := hP4.same sL
      refine ⟨_, rfl, p, _, rfl, getK hp5 pk_S, .inr ⟨sb, rfl, L, _, _, .int (if sb = true then 2 else 60), rfl, rfl, SqL.of hL, by cases sb <;> rfl, _, rfl, p, _, rfl, putD hp5 len7 (up_L _), ?_⟩⟩
      exact ⟨rfl, hP5.put (by omega), (((((k1.trans k2).trans k3).trans k4).same sL).trans But.upd)⟩
    · rintro σ H2 ⟨rfl, hP2, k2⟩
      obtain ⟨a2, r2, l2, s2, d2, t2, ha2, hp2⟩ := id hP2.dct
      refine ⟨_, rfl, p, _, rfl, getK hp2 pk_L, rfl, _, rfl, ?_⟩
      refine ite2 (fun _ => ?_) (fun _ => ?_)
      · exact ⟨_, rfl, p, _, rfl, getK hp2 pk_D, _, rfl, p, _, rfl, getK hp2 pk_T, _, rfl, d2, t2, many, rfl, m0, m1, fun r h0 h1 => k r H2 h0 h1 hP2 k2⟩
      refine ⟨_, rfl, p, _, rfl, getK hp2 pk_L, _, _, rfl, rfl, _, rfl, p, _, rfl, putD hp2 len7 (up_L _), ?_⟩
      have hP3 : PoolAt (upd H2 p (.dK (pk c a2 r2 (l2 - 1) s2 d2 t2))) p c ns := hP2.put ha2
      have hp3 : upd H2 p (.dK (pk c a2 r2 (l2 - 1) s2 d2 t2)) p = some (.dK (pk c a2 r2 (l2 - 1) s2 d2 t2)) := upd_same
      have k3 : But p H (upd H2 p (.dK (pk c a2 r2 (l2 - 1) s2 d2 t2))) := k2.trans But.upd
      generalize upd H2 p (.dK (pk c a2 r2 (l2 - 1) s2 d2 t2)) = H3 at hP3 hp3 k3 ⊢
      refine ⟨_, rfl, p, _, rfl, getK hp3 pk_S, _, rfl, ?_⟩
      cases s2 with
      | true => exact iteT ⟨_, rfl, p, _, rfl, getK hp3 pk_R, _, rfl, p, _, rfl, getK hp3 pk_T, _, rfl, r2, t2, many, rfl, m0, m1, fun r h0 h1 => k r H3 h0 h1 hP3 k3⟩
      | false =>
        refine iteF ⟨_, rfl, p, _, rfl, getK hp3 pk_R, .inl ⟨_, rfl, _, rfl, _, _, rfl, rfl, (show many ≠ 0 by omega), ?_⟩⟩
        refine ⟨_, rfl, p, _, rfl, getK hp3 pk_R, _, rfl, _, _, rfl, rfl, ⟨by omega, by omega⟩, _, rfl, p, _, rfl, putD hp3 len7 (up_R _), ?_⟩
        have hP4 : PoolAt (upd H3 p (.dK (pk c a2 (r2.fdiv many) (l2 - 1) false d2 t2))) p c ns := hP3.put ha2
        have hp4 : upd H3 p (.dK (pk c a2 (r2.fdiv many) (l2 - 1) false d2 t2)) p = some (.dK (pk c a2 (r2.fdiv many) (l2 - 1) false d2 t2)) := upd_same
        have k4 : But p H (upd H3 p (.dK (pk c a2 (r2.fdiv many) (l2 - 1) false d2 t2))) := k3.trans But.upd
        generalize upd H3 p (.dK (pk c a2 (r2.fdiv many) (l2 - 1) false d2 t2)) = H4 at hP4 hp4 k4 ⊢
        have f0 := Int.fmod_nonneg_of_pos r2 m0
        have f1 := Int.fmod_lt_of_pos r2 m0
        refine ⟨_, rfl, p, _, rfl, getK hp4 pk_R, rfl, _, rfl, ?_⟩
        refine ite2 (fun _ => ?_) (fun _ => ?_)
        · exact ⟨_, rfl, p, _, rfl, putD hp4 len7 (up_L _), _, rfl, k _ _ f0 f1 (hP4.put ha2) (k4.trans But.upd)⟩
        · exact ⟨_, rfl, k _ _ f0 f1 hP4 k4⟩
end
end K8


set_option Elab.async false
set_option linter.all false
set_option maxRecDepth 100000
set_option maxHeartbeats 8000000
namespace K8
open PySem L2 Nd Bk Gd
theorem pk_mer {c : Addr} {a r l d t : Int} {s : Bool} : mergeK [] (pk c a r l s d t) = pk c a r l s d t := by
  have ne : ∀ {x y : Str}, decide (x = y) = false → ¬ ((Sum.inr x : Key) = .inr y) := fun h => inr_ne h
  have st : ∀ (kvs : List (Key × V)) (k : Str) (v : V), valV kvs (.inr k) = none → putK kvs (.inr k) v = kvs ++ [(.inr k, v)] := fun kvs k v h => putK_new v h
  have ms : ∀ {k j : Str} {v : V} {r : List (Key × V)}, decide (k = j) = false → valV r (.inr j) = none → valV ((.inr k, v) :: r) (.inr j) = none := fun h e => (val_miss h).trans e
  unfold mergeK pk
  simp only [List.foldl_cons, List.foldl_nil]
  rw [st [] kC _ rfl]
  rw [st ([] ++ [_]) kA _ (ms (by decide +kernel) rfl)]
  rw [st ([] ++ [_] ++ [_]) kR _ (ms (by decide +kernel) (ms (by decide +kernel) rfl))]
  rw [st ([] ++ [_] ++ [_] ++ [_]) kL _ (ms (by decide +kernel) (ms (by decide +kernel) (ms (by decide +kernel) rfl)))]
  rw [st ([] ++ [_] ++ [_] ++ [_] ++ [_]) kS _ (ms (by decide +kernel) (ms (by decide +kernel) (ms (by decide +kernel) (ms (by decide +kernel) rfl))))]
  rw [st ([] ++ [_] ++ [_] ++ [_] ++ [_] ++ [_]) kD _ (ms (by decide +kernel) (ms (by decide +kernel) (ms (by decide +kernel) (ms (by decide +kernel) (ms (by decide +kernel) rfl)))))]
  rw [st ([] ++ [_] ++ [_] ++ [_] ++ [_] ++ [_] ++ [_]) kT _ (ms (by decide +kernel) (ms (by decide +kernel) (ms (by decide +kernel) (ms (by decide +kernel) (ms (by decide +kernel) (ms (by decide +kernel) rfl))))))]
  rfl
def spPool (K : PySem.W.Frag) : Sp := fun vs H Q _ => ∃ (a : Addr) (ns : List Int), vs = [.ref a] ∧ (SqL K H a (ns.map V.int) ∨ SqT K H a (ns.map V.int)) ∧ ns.length ≤ 1000 ∧
  ∀ (p c : Addr) (H' : Hp) (ms : List Int), H p = none → H c = none → Same H H' → PoolAt H' p c ms → Q (.ref p) H'
section
variable {P : Program} {w : World} {K : PySem.W.Frag} {mg : Str → Option Value} {base : Heap}
theorem scPool : FnScope ["script", "seed", "cell", "cells"] ["script"] (defScope sPool) := ⟨rfl, rfl, rfl, by decide +kernel, rfl, by decide +kernel, by decide +kernel⟩
theorem ok_pool {f : Addr} {fd : FuncData} (F : Fun K "_law_pool" "_law_pool" sPool f fd) (mI : mg "int" = none) (mL : mg "len" = none) (mLs : mg "list" = none) : FnOk P w K mg base CX0 1 f fd ["script"] (spPool K) := by
  refine F.ok scPool (fun vs H Q E h => ?_) (fun cdv A outer s H vs Q E hr h => ?_)
  · obtain ⟨a, ns, rfl, _⟩ := h
    rfl
  · obtain ⟨a, ns, rfl, hS, hl, k⟩ := h
    refine ⟨_, pss_cons (ps_set (i := 1) scPool.nd rfl (Or.inl rfl) pe_int)
      (pss_cons (ps_for PassesOwn.never rfl (pi_seq (pv 0)) (pg_name (i := 2) scPool.nd rfl (Or.inl rfl))
        (pss_one (ps_set (i := 1) scPool.nd rfl (Or.inl rfl) (pe_op op_modN (pe_callTy call_int1 (by rfl) mI (by decide +kernel) (pa_cons (pe_op op_add (pe_op op_mul (pv 1) pe_int) (pv 2)) pa_nil)) pe_int))))
      (pss_cons (ps_set (i := 3) scPool.nd rfl (Or.inl rfl) (pe_callTy call_list_of (by rfl) mLs (by decide +kernel) (pa_cons (pv 0) pa_nil)))
      (C8.pss_cut (ps_if (PW.pt (pw_and (pt_cmpR op_gt (pe_callB call_len_seq (by rfl) mL PySem.boot_len (pa_cons (pv 3) pa_nil)) pe_int (nomark _))
          (pw_and1 (pt_cmpR op_eq (pe_op op_modN (pe_callTy call_int1 (by rfl) mI (by decide +kernel) (pa_cons (pe_ix ix_list (pv 3) pe_int (fun _ _ => rfl)) pa_nil)) pe_int) pe_int (nomark _)))))
        (pss_one (ps_set (i := 3) scPool.nd rfl (Or.inl rfl) (pe_lst pa_nil))) pss_nil)
      (C8.pss_cut (ps_if (pt_cmpR op_gt (pe_callB call_len_seq (by rfl) mL PySem.boot_len (pa_cons (pv 3) pa_nil)) pe_int (nomark _))
        (pss_one (ps_asg (pe_op op_fdivN (pe_ix ix_list (pv 3) pe_int (fun _ _ => rfl)) pe_int) (pg_sub (pv 3) pe_int set_list))) pss_nil)
      (pss_one (ps_ret (pe_disp (pps_cons pe_str (pv 3) (pps_cons pe_str pe_int (pps_cons pe_str pe_int (pps_cons pe_str pe_int (pps_cons pe_str pe_bl (pps_cons pe_str (pv 1) (pps_cons pe_str pe_int pps_nil))))))) rfl rfl (by simp) (by decide)))))))), ?_⟩
    have hln : (ns.map V.int).length = ns.length := List.length_map ..
    refine seq_go rfl hS fun J G walk hG => ?_
    refine for_it walk (fun i σ H2 => (∃ (d : Int) (u2 : Option V), σ = [some (.ref a), some (.int d), u2, none]) ∧ H2 = H) ⟨⟨_, _, rfl⟩, rfl⟩ (fun i σ H2 _ ⟨_, e⟩ => e ▸ hG H id id) ?_ ?_
    · rintro i x σ H2 Hx hi ⟨⟨d, u2, rfl⟩, rfl⟩ ⟨rfl, hx⟩
      obtain ⟨z, hz, rfl⟩ : ∃ z, ns[i]? = some z ∧ x = V.int z := by
        rw [List.getElem?_map] at hx
        cases e : ns[i]? with
        | none => rw [e] at hx; cases hx
        | some z => rw [e] at hx; exact ⟨z, rfl, (Option.some.inj hx).symm⟩
      refine ⟨_, rfl, _, _, rfl, rfl, .inr ⟨by decide, by decide⟩, _, rfl, _, _, rfl, rfl, .inl ⟨_, rfl, _, _, rfl, rfl, (by show (2305843009213693951 : Int) ≠ 0; decide), ?_⟩⟩
      exact ⟨⟨_, _, rfl⟩, rfl⟩
    · rintro σ H2 ⟨⟨d, u2, rfl⟩, rfl⟩
      refine ⟨_, rfl, a, _, rfl, hS, fun L nL => ?_⟩
      have s1 : Same H2 (upd H2 L (.lst (ns.map V.int))) := sm_new sm_refl nL
      have hL : upd H2 L (.lst (ns.map V.int)) L = some (.lst (ns.map V.int)) := upd_same
      generalize upd H2 L (.lst (ns.map V.int)) = H3 at s1 hL ⊢
      let I : L2.St → Hp → Prop := fun σ H4 => ∃ (c : Addr) (ms : List Int), σ = [some (.ref a), some (.int d), u2, some (.ref c)] ∧ H2 c = none ∧ Same H2 H4 ∧ H4 c = some (.lst (ms.map V.int)) ∧ ms.length ≤ 1000
      refine ⟨I, ?_, ?_⟩
      · refine ⟨_, rfl, L, _, rfl, .inl (SqL.of hL), _, _, rfl, rfl, _, rfl, ?_⟩
        refine ite2 (fun hc => ?_) (fun _ => ⟨L, ns, rfl, nL, s1, hL, hl⟩)
        have hc' : (((ns.map V.int).length : Nat) : Int) > 0 := of_decide_eq_true hc
        rw [hln] at hc'
        have h0 : 0 < ns.length := by omega
        have hget : (ns.map V.int)[0]? = some (V.int ns[0]) := by rw [List.getElem?_map, List.getElem?_eq_getElem h0]; rfl
        refine ⟨_, rfl, L, _, 0, _, rfl, rfl, SqL.of hL, atI_nat (j := 0) hget, .inl ⟨_, rfl, _, _, rfl, rfl, (by show (2 : Int) ≠ 0; decide), rfl, _, rfl, ?_⟩⟩
        refine ite2 (fun _ => ?_) (fun _ => ⟨L, ns, rfl, nL, s1, hL, hl⟩)
        refine ⟨(by show 0 ≤ sizeLine; decide), fun c nc => ?_⟩
        exact ⟨c, [], rfl, s1.free nc, s1.trans (sm_new sm_refl nc), upd_same, by show 0 ≤ 1000; decide⟩
      · rintro σ H4 ⟨c, ms, rfl, nc, s4, hc4, ml⟩
        have mln : (ms.map V.int).length = ms.length := List.length_map ..
        refine ⟨I, ?_, ?_⟩
        · refine ⟨_, rfl, c, _, rfl, .inl (SqL.of hc4), _, _, rfl, rfl, _, rfl, ?_⟩
          refine ite2 (fun hc => ?_) (fun _ => ⟨c, ms, rfl, nc, s4, hc4, ml⟩)
          have hc' : (((ms.map V.int).length : Nat) : Int) > 0 := of_decide_eq_true hc
          rw [mln] at hc'
          have h0 : 0 < ms.length := by omega
          have hget : (ms.map V.int)[0]? = some (V.int ms[0]) := by rw [List.getElem?_map, List.getElem?_eq_getElem h0]; rfl
          refine ⟨_, rfl, c, _, 0, _, rfl, rfl, SqL.of hc4, atI_nat (j := 0) hget, _, _, rfl, rfl, ⟨by decide, by decide⟩, _, rfl, c, _, 0, 0, rfl, rfl, hc4, (by unfold ixN; rw [if_pos (by omega), if_pos (by rw [mln]; omega)]; rfl), ?_⟩
          refine ⟨c, ms.set 0 (ms[0].fdiv 2), rfl, nc, fun b o e => by rw [upd_ne (ne_of_none e nc)]; exact s4 b o e, ?_, by rw [List.length_set]; exact ml⟩
          rw [upd_same, List.map_set]
        · rintro σ H5 ⟨c, ms, rfl, nc, s5, hc5, ml⟩
          refine fun p np => ?_
          have np2 : H2 p = none := s5.free np
          have hcp : c ≠ p := ne_of_none hc5 np
          have sp : Same H5 (upd H5 p (.dK [])) := sm_new sm_refl np
          have hp : upd H5 p (.dK []) p = some (.dK []) := upd_same
          have hc6 := sp _ _ hc5
          generalize upd H5 p (.dK []) = H6 at sp hp hc6 ⊢
          refine ⟨_, rfl, _, rfl, hp, pk c 0 0 0 true d 0, rfl, (by show 7 ≤ 15; decide), ?_⟩
          rw [pk_mer]
          refine k p c _ ms np2 nc (fun b o e => by rw [upd_ne (ne_of_none e np2)]; exact sp _ _ (s5 b o e)) ⟨⟨0, 0, 0, true, d, 0, Int.le_refl 0, upd_same⟩, by rw [upd_ne hcp]; exact hc6, ml⟩
end
end K8


set_option Elab.async false
set_option linter.all false
set_option maxRecDepth 100000
set_option maxHeartbeats 8000000
namespace K8
open PySem L2 Nd Bk Gd
theorem butp_free {p a : Addr} {H H1 : Hp} (k : But p H H1) (n : H1 a = none) (ne : a ≠ p) : H a = none := by
  cases e : H a with
  | none => rfl
  | some u =>
    have := k a u e ne
    rw [n] at this
    cases this
theorem nd_le {α : Type} [DecidableEq α] : ∀ {l m : List α}, l.Nodup → (∀ x ∈ l, x ∈ m) → l.length ≤ m.length
  | [], m, _, _ => Nat.zero_le _
  | x :: l, m, n, h => by
    obtain ⟨n1, n2⟩ := List.nodup_cons.mp n
    have hx := h x List.mem_cons_self
    have := nd_le (l := l) (m := m.erase x) n2 fun y hy => (List.mem_erase_of_ne (fun e : y = x => n1 (by rw [← e]; exact hy))).mpr (h y (List.mem_cons_of_mem _ hy))
    rw [List.length_erase_of_mem hx] at this
    have := List.length_pos_of_mem hx
    rw [List.length_cons]
    omega
/-- the figures of 1 to 39 -/
def fig39 : List Str := (List.range 39).map fun n : Nat => Str.ofString (toString (1 + (n : Int)))
theorem fig39_nd : fig39.Nodup := by decide +kernel
theorem str_cancel {x a b : Str} (h : x ++ a = x ++ b) : a = b := by
  have e : (x ++ a).cps.toList = (x ++ b).cps.toList := by rw [h]
  rw [PySem.W.KT.app_list, PySem.W.KT.app_list] at e
  have e2 := List.append_cancel_left e
  cases a; cases b
  simp only [Str.mk.injEq] at *
  exact Array.toList_inj.mp e2
theorem filter_one {fs : List Str} {u : Str} : List.filter (fun t => decide (t ∉ fs)) [u] = if u ∈ fs then [] else [u] := by
  by_cases z : u ∈ fs <;> simp [z]
/-- one of 39 tokens isn't there yet -/
theorem free39 {fs : List Str} (x : Str) (h : fs.length ≤ 38) : ((fig39.map (x ++ ·)).filter fun t => decide (t ∉ fs)) ≠ [] := fun e => by
  have al : ∀ t ∈ fig39.map (x ++ ·), t ∈ fs := fun t ht => by
    have := List.filter_eq_nil_iff.mp e t ht
    simpa using this
  have nd : (fig39.map (x ++ ·)).Nodup := by
    rw [List.nodup_iff_pairwise_ne, List.pairwise_map]
    exact List.Pairwise.imp (fun hne hc => hne (str_cancel hc)) fig39_nd
  have := nd_le nd al
  rw [List.length_map] at this
  have e39 : fig39.length = 39 := by decide +kernel
  omega
/-- a token as it is drawn: short, and of signs that there are -/
def shU (z : Str) : Bool := shT z && PyData.strOk z
theorem shU_T {z : Str} (h : shU z = true) : shT z = true := (Bool.and_eq_true_iff.mp h).1
theorem shU_K {z : Str} (h : shU z = true) : SeqAt.shaped (Ky.enc z) = true := by
  have := (Bool.and_eq_true_iff.mp h).2
  show SeqAt.shaped (.str z) = true
  unfold SeqAt.shaped
  simp [PyData.canLay0, PyData.depth, this]
theorem ofString_uni (t : String) : ∀ c ∈ (Str.ofString t).cps.toList, c < 0x110000 := by
  rw [Str.ofString_eq_toList]
  intro c hc
  obtain ⟨x, _, rfl⟩ := List.mem_map.mp hc
  have h := x.valid
  have h2 : x.val.toNat < 0xd800 ∨ 0xdfff < x.val.toNat ∧ x.val.toNat < 0x110000 := h
  show x.val.toNat < 0x110000
  omega
def spPTok : Sp := fun vs H Q _ => ∃ (p c : Addr) (ns : List Int) (many : Int), vs = [.ref p, .int many] ∧ 0 ≤ many ∧ many ≤ 38 ∧ PoolAt H p c ns ∧
  ∀ (fo : Addr) (fs : List Str) (H' : Hp), H fo = none → But p H H' → PoolAt H' p c ns → H' fo = some (.lst (fs.map V.str)) → fs.Nodup → fs.length = many.toNat → (∀ z ∈ fs, shU z = true) → Q (.ref fo) H'
theorem tok_sh {x : Str} {n : Int} (hx : x.length = 1) (hc : ∀ c ∈ x.cps.toList, c < 0x110000) (h0 : 0 ≤ n) (h1 : n ≤ 99999) : shU (x ++ Str.ofString (toString n)) = true := by
  have l4 : (Str.ofString (toString n)).length ≤ 5 := PyProof.Rows.toString_length_le h0 (by decide) (by omega)
  have all : ∀ c ∈ (x ++ Str.ofString (toString n)).cps.toList, c < 0x110000 := by
    intro c h
    rw [PySem.W.KT.app_list] at h
    rcases List.mem_append.mp h with q | q
    · exact hc c q
    · exact ofString_uni _ c q
  unfold shU
  rw [Bool.and_eq_true]
  refine ⟨shT_mk ?_ ?_ fun c h => Nat.lt_trans (all c h) (by decide), ?_⟩
  · rw [Str.length_append, hx]; omega
  · rw [Str.length_append, hx]; omega
  · unfold PyData.strOk
    rw [← Array.all_toList, List.all_eq_true]
    exact fun c h => decide_eq_true (all c h)
section
variable {P : Program} {w : World} {K : PySem.W.Frag} {mg : Str → Option Value} {base : Heap}
abbrev ptokN : List Str := ["pool", "many", "letters", "letter", "found", "k", "first", "most", "token", "n"]
theorem scPTok : FnScope ptokN ["pool", "many"] (defScope sPTok) := ⟨rfl, rfl, rfl, by decide +kernel, rfl, by decide +kernel, by decide +kernel⟩
abbrev abc : Str := "abcdefghijklmnopqrstuvwxyz"
def One (x : Str) : Prop := x.length = 1 ∧ ∀ c ∈ x.cps.toList, c < 0x110000
theorem one_abc {j : Nat} (h : j < (Str.cps abc).toList.length) : One ⟨#[(Str.cps abc).toList[j]]⟩ := ⟨rfl, fun c hc => by
  rw [List.mem_singleton.mp hc]
  exact (by decide +kernel : ∀ y ∈ (Str.cps abc).toList, y < 0x110000) _ (List.getElem_mem h)⟩
theorem ok_ptok {f : Addr} {fd : FuncData} (F : Fun K "_law_tokens" "_law_tokens" sPTok f fd) (N : Nm mg) (Gt : Df P w K mg base 2 "_law_take" ["pool", "many"] spTake) : FnOk P w K mg base CX0 3 f fd ["pool", "many"] spPTok := by
  obtain ⟨ft, fdt, gT, kT, bT, GT⟩ := Gt.ok
  refine F.ok scPTok (fun vs H Q E h => ?_) (fun cdv A outer s H vs Q E hr h => ?_)
  · obtain ⟨p, c, ns, many, rfl, _⟩ := h
    rfl
  · obtain ⟨p, c, ns, many, rfl, m0, m1, hP, k⟩ := h
    have hr2 : Room 2 _ := hr
    refine ⟨_, pss_cons (ps_set (i := 2) scPTok.nd rfl (Or.inl rfl) pe_str)
      (pss_cons (ps_set (i := 3) scPTok.nd rfl (Or.inl rfl) (pe_ix ix_str (pv 2) (pe_call GT hr2 rfl gT kT bT .nil pass0 (pa_cons (pv 0) (pa_cons pe_int pa_nil))) (fun _ _ => rfl)))
      (pss_cons (ps_set (i := 4) scPTok.nd rfl (Or.inr rfl) (pe_lst pa_nil))
      (pss_cons (ps_for PassesOwn.never rfl (pi_range1 rfl N.rng (pa_cons (pv 1) pa_nil)) (pg_name (i := 5) scPTok.nd rfl (Or.inl rfl))
        (pss_cons (ps_set (i := 6) scPTok.nd rfl (Or.inr rfl) (pe_ix ix_list (pe_lst (pa_cons (pv 3) (pa_cons (pv 3) (pa_cons (pe_ix ix_str (pv 2) (pe_call GT hr2 rfl gT kT bT .nil pass0 (pa_cons (pv 0) (pa_cons pe_int pa_nil))) (fun _ _ => rfl)) pa_nil)))) (pe_call GT hr2 rfl gT kT bT .nil pass0 (pa_cons (pv 0) (pa_cons pe_int pa_nil))) (fun _ _ => rfl)))
        (pss_cons (ps_set (i := 7) scPTok.nd rfl (Or.inl rfl) (pe_ix ix_list (pe_lst (pa_cons pe_int (pa_cons pe_int (pa_cons pe_int pa_nil)))) (pe_call GT hr2 rfl gT kT bT .nil pass0 (pa_cons (pv 0) (pa_cons pe_int pa_nil))) (fun _ _ => rfl)))
        (pss_cons (ps_set (i := 8) scPTok.nd rfl (Or.inl rfl) (pe_op op_add_str (pv 6) (pe_callTy call_str_int (by rfl) N.str (by rfl) (pa_cons (pe_op op_add pe_int (pe_call GT hr2 rfl gT kT bT .nil pass0 (pa_cons (pv 0) (pa_cons (pv 7) pa_nil)))) pa_nil))))
        (C8.pss_cut (ps_if (pt_cmpR (show OpR _ _ (rIn K false) from op_in_seq) (pv 8) (pv 4) (by rfl))
          (pss_one (ps_set (i := 8) scPTok.nd rfl (Or.inl rfl) (pe_ix ix_list
            (pe_lc (own := [("n", 9)]) (g := gName 9) (tt := tTest (tOp (rIn K true) _ (tVar 4))) rfl scPTok.nd (pi_range2 rfl N.rng (pa_cons pe_int (pa_cons pe_int pa_nil))) (blkOk_by (N := ptokN) (sc := defScope sPTok) (by decide +kernel))
              (fun _ _ _ _ _ => pg_name (i := 9) scPTok.nd rfl (Or.inl rfl))
              (fun _ _ _ _ _ => pts_one (pt_cmpR (show OpR _ _ (rIn K true) from op_notIn_seq) (pe_op op_add_str (pv 6) (pe_callTy call_str_int (by rfl) N.str (by rfl) (pa_cons (pv 9) pa_nil))) (pv 4) (by rfl)))
              (fun _ _ _ _ _ => pe_op op_add_str (pv 6) (pe_callTy call_str_int (by rfl) N.str (by rfl) (pa_cons (pv 9) pa_nil)))) pe_int (fun _ _ => rfl)))) pss_nil)
        (pss_one (ps_expr (pe_bm PySem.F.plainAttrs_list PySem.F.slot_list_append PySem.F.type_list_append mt_append (pv 4) (pa_cons (pv 8) pa_nil)))))))))
      (pss_one (ps_ret (pv 4)))))), ?_⟩
    refine ⟨_, rfl, _, rfl, p, c, ns, _, rfl, by decide, by decide, hP, fun r H1 r0 r1 P1 k1 => ?_⟩
    obtain ⟨j, rfl⟩ := Int.eq_ofNat_of_zero_le r0
    have len26 : (Str.cps abc).toList.length = 26 := by decide +kernel
    have hj : j < (Str.cps abc).toList.length := by omega
    refine ⟨_, _, _, rfl, rfl, by decide +kernel, atI_nat (List.getElem?_eq_getElem hj), ?_⟩
    have o1 := one_abc hj
    generalize (⟨#[(Str.cps abc).toList[j]]⟩ : Str) = lt at o1 ⊢
    refine ⟨(by show 0 ≤ sizeLine; decide), fun fo nfo => ?_⟩
    have s2 : Same H1 (upd H1 fo (.lst [])) := sm_new sm_refl nfo
    have h2 : upd H1 fo (.lst []) fo = some (.lst (([] : List Str).map V.str)) := upd_same
    have fp : fo ≠ p := P1.off nfo
    have fc : c ≠ fo := ne_of_none P1.cells nfo
    have nfoH : H fo = none := butp_free k1 nfo fp
    have P2 := P1.same s2
    have k2 : But p H (upd H1 fo (.lst [])) := k1.same s2
    generalize upd H1 fo (.lst []) = H2 at h2 P2 k2 ⊢
    refine ⟨_, rfl, _, rfl, by omega, by omega, ?_⟩
    refine for_range (n := many.toNat) (fun i σ H4 => (∃ u5 u6 u7 u8, σ = [some (.ref p), some (.int many), some (.str abc), some (.str lt), some (.ref fo), u5, u6, u7, u8, none]) ∧ PoolAt H4 p c ns ∧ But p H H4 ∧ ∃ fs : List Str, H4 fo = some (.lst (fs.map V.str)) ∧ fs.Nodup ∧ fs.length = i ∧ ∀ z ∈ fs, shU z = true)
      ⟨⟨_, _, _, _, rfl⟩, P2, k2, [], h2, List.nodup_nil, rfl, fun z h => nomatch h⟩ ?_ ?_
    · rintro i σ H4 hi ⟨⟨u5, u6, u7, u8, rfl⟩, P4, k4, fs, hfs, fnd, fl, fsh⟩
      refine ⟨_, rfl, _, rfl, _, rfl, _, rfl, p, c, ns, _, rfl, by decide, by decide, P4, fun r5 H5 a0 a1 P5 k5 => ?_⟩
      obtain ⟨j5, rfl⟩ := Int.eq_ofNat_of_zero_le a0
      have hj5 : j5 < (Str.cps abc).toList.length := by omega
      refine ⟨_, _, _, rfl, rfl, by decide +kernel, atI_nat (List.getElem?_eq_getElem hj5), ?_⟩
      have o5 := one_abc hj5
      generalize (⟨#[(Str.cps abc).toList[j5]]⟩ : Str) = l5 at o5 ⊢
      refine ⟨(by show 3 ≤ sizeLine; decide), fun q nq => ?_⟩
      have s6 : Same H5 (upd H5 q (.lst [.str lt, .str lt, .str l5])) := sm_new sm_refl nq
      have hq : upd H5 q (.lst [.str lt, .str lt, .str l5]) q = some (.lst (([lt, lt, l5] : List Str).map V.str)) := upd_same
      have qp := P5.off nq
      have P6 := P5.same s6
      generalize upd H5 q (.lst [.str lt, .str lt, .str l5]) = H6 at s6 hq P6 ⊢
      refine ⟨_, rfl, p, c, ns, _, rfl, by decide, by decide, P6, fun r7 H7 b0 b1 P7 k7 => ?_⟩
      obtain ⟨j7, rfl⟩ := Int.eq_ofNat_of_zero_le b0
      obtain ⟨x, hx, hxm⟩ := pick_strM (zs := [lt, lt, l5]) (j := j7) (by show j7 < 3; omega)
      have ox : One x := by
        simp only [List.mem_cons, List.not_mem_nil, or_false] at hxm
        rcases hxm with rfl | rfl | rfl
        · exact o1
        · exact o1
        · exact o5
      refine ⟨q, _, _, _, rfl, rfl, SqL.of (k7 _ _ hq qp), atI_nat hx, ?_⟩
      refine ⟨(by show 3 ≤ sizeLine; decide), fun q2 nq2 => ?_⟩
      have s8 : Same H7 (upd H7 q2 (.lst [.int 12, .int 130, .int 9999])) := sm_new sm_refl nq2
      have hq2 : upd H7 q2 (.lst [.int 12, .int 130, .int 9999]) q2 = some (.lst (([12, 130, 9999] : List Int).map V.int)) := upd_same
      have qp2 := P7.off nq2
      have P8 := P7.same s8
      generalize upd H7 q2 (.lst [.int 12, .int 130, .int 9999]) = H8 at s8 hq2 P8 ⊢
      refine ⟨_, rfl, p, c, ns, _, rfl, by decide, by decide, P8, fun r9 H9 c0 c1 P9 k9 => ?_⟩
      obtain ⟨j9, rfl⟩ := Int.eq_ofNat_of_zero_le c0
      obtain ⟨z, hz, hzm⟩ := pick_int (zs := [12, 130, 9999]) (j := j9) (by show j9 < 3; omega)
      have hz9 : 0 < z ∧ z ≤ 9999 := by
        simp only [List.mem_cons, List.not_mem_nil, or_false] at hzm
        omega
      refine ⟨q2, _, _, _, rfl, rfl, SqL.of (k9 _ _ hq2 qp2), atI_nat hz, ?_⟩
      refine ⟨_, rfl, _, rfl, _, rfl, p, c, ns, _, rfl, by omega, by omega, P9, fun r10 HA d0 d1 PA kA => ?_⟩
      refine ⟨_, _, rfl, rfl, _, rfl, ?_, ?_⟩
      · refine (Nat.log2_lt (by omega)).mpr (Nat.lt_of_lt_of_le (show (1 + r10).natAbs < 2 ^ 14 by omega) (Nat.pow_le_pow_right (by decide) (by decide)))
      have szx : ∀ n : Int, 0 ≤ n → n ≤ 99999 → x.length + (Str.ofString (toString n)).length ≤ sizeLine := fun n h0 h1 => by
        have l4 : (Str.ofString (toString n)).length ≤ 5 := PyProof.Rows.toString_length_le h0 (by decide) (by omega)
        rw [sizeLine_eq, ox.1]
        omega
      refine ⟨_, _, rfl, rfl, szx _ (by omega) (by omega), ?_⟩
      have kAA : But p H4 HA := (((((k5.same s6).trans k7).same s8).trans k9).trans kA)
      have hfA := kAA _ _ hfs fp
      have shTok : shU (x ++ Str.ofString (toString (1 + r10))) = true := tok_sh ox.1 ox.2 (by omega) (by omega)
      have kHA : But p H HA := k4.trans kAA
      generalize x ++ Str.ofString (toString (1 + r10)) = tk at shTok ⊢
      refine ⟨fun σ H' => ∃ tk : Str, σ = [some (.ref p), some (.int many), some (.str abc), some (.str lt), some (.ref fo), some (.int (0 + (i : Int))), some (.str x), some (.int z), some (.str tk), none] ∧ shU tk = true ∧ tk ∉ fs ∧ PoolAt H' p c ns ∧ But p H H' ∧ H' fo = some (.lst (fs.map V.str)), ?_, ?_⟩
      · refine ⟨_, rfl, _, rfl, fo, _, rfl, .inl (SqL.of hfA), rfl, flat_strs' _, _, rfl, ?_⟩
        have inE : inV (V.str tk) (fs.map V.str) = decide (tk ∈ fs) := by
          have := inV_strs tk fs
          by_cases hm : tk ∈ fs <;> simp [hm] at this ⊢ <;> exact this
        show if inV (V.str tk) (fs.map V.str) = true then _ else _
        rw [inE]
        by_cases hm : tk ∉ fs
        · rw [decide_eq_false hm]
          exact iteF ⟨tk, rfl, shTok, hm, PA, kHA, hfA⟩
        rw [decide_eq_true (Classical.not_not.mp hm)]
        refine iteT ⟨_, _, rfl, ⟨by decide, by decide, by decide, by decide⟩, fun D nD => ?_⟩
        have nlog : ∀ i : Nat, i < 39 → Nat.log2 (1 + (i : Int)).natAbs < 14 := fun i hi => (Nat.log2_lt (by omega)).mpr (by omega)
        refine lc_range (n := 39) (fun i H3 => Same HA H3 ∧ H3 D = some (.lst ((((fig39.take i).map (x ++ ·)).filter fun t => decide (t ∉ fs)).map V.str))) ⟨sm_new sm_refl nD, upd_same⟩ ?_ ?_
        · rintro i3 H3 hi3 ⟨s3, hD⟩
          have h3 := s3 _ _ hfA
          refine ⟨rfl, _, rfl, _, rfl, _, rfl, ?_, _, _, rfl, rfl, szx _ (by omega) (by omega), _, rfl, fo, _, rfl, .inl (SqL.of h3), rfl, flat_strs' _, _, rfl, ?_⟩
          · exact Nat.lt_trans (nlog _ hi3) (by decide)
          have f39 : fig39[i3]? = some (Str.ofString (toString (1 + (i3 : Int)))) := by
            unfold fig39
            rw [List.getElem?_map, List.getElem?_range hi3]
            rfl
          have hbx : ((((fig39.take i3).map (x ++ ·)).filter fun t => decide (t ∉ fs)).map V.str).length ≤ 39 := by
            rw [List.length_map]
            refine Nat.le_trans (List.length_filter_le _ _) ?_
            rw [List.length_map, List.length_take]
            omega
          have stp : ((fig39.take (i3 + 1)).map (x ++ ·)).filter (fun t => decide (t ∉ fs)) = ((fig39.take i3).map (x ++ ·)).filter (fun t => decide (t ∉ fs)) ++ if x ++ Str.ofString (toString (1 + (i3 : Int))) ∈ fs then [] else [x ++ Str.ofString (toString (1 + (i3 : Int)))] := by
            rw [List.take_succ, f39, List.map_append, List.filter_append]
            congr 1
            exact filter_one
          show if (!inV (V.str (x ++ Str.ofString (toString (1 + (i3 : Int))))) (fs.map V.str)) = true then _ else _
          rw [inV_strs]
          by_cases z : x ++ Str.ofString (toString (1 + (i3 : Int))) ∈ fs
          · rw [decide_eq_false (by simpa using z)]
            rw [if_pos z, List.append_nil] at stp
            exact iteF ⟨s3, by rw [stp]; exact hD⟩
          · rw [decide_eq_true z]
            rw [if_neg z] at stp
            have hDn : HA D = none := nD
            refine iteT ⟨_, rfl, _, rfl, _, rfl, Nat.lt_trans (nlog _ hi3) (by decide), _, _, rfl, rfl, szx _ (by omega) (by omega), _, hD, by rw [sizeLine_eq]; omega, fun b o e => ?_, ?_⟩
            · rw [upd_ne (ne_of_none e hDn)]
              exact s3 b o e
            · rw [upd_same, stp, List.map_append]
              rfl
        · rintro H3 ⟨s3, hD⟩
          have e39 : fig39.length = 39 := by unfold fig39; rw [List.length_map, List.length_range]
          rw [show fig39.take 39 = fig39 by rw [← e39, List.take_length]] at hD
          have fr := free39 (fs := fs) x (by omega)
          cases eq : (fig39.map (x ++ ·)).filter (fun t => decide (t ∉ fs)) with
          | nil => exact absurd eq fr
          | cons t ts =>
            rw [eq] at hD
            have ht : t ∈ (fig39.map (x ++ ·)).filter (fun t => decide (t ∉ fs)) := by rw [eq]; exact List.mem_cons_self
            obtain ⟨h1, h2⟩ := List.mem_filter.mp ht
            obtain ⟨y, hy, rfl⟩ := List.mem_map.mp h1
            obtain ⟨n, hn, rfl⟩ := List.mem_map.mp hy
            have hn39 := List.mem_range.mp hn
            have nin : x ++ Str.ofString (toString (1 + (n : Int))) ∉ fs := of_decide_eq_true h2
            exact ⟨D, _, 0, _, rfl, rfl, SqL.of hD, atI_nat (j := 0) rfl, _, rfl, tok_sh ox.1 ox.2 (by omega) (by omega), nin, PA.same s3, kHA.same s3, s3 _ _ hfA⟩
      · rintro σ H' ⟨tk', rfl, sh', nin, PB, kB, hfB⟩
        refine ⟨_, rfl, .inl ⟨rfl, _, SqL.of hfB⟩, _, rfl, fo, _, _, rfl, rfl, hfB, ?_, ⟨_, _, _, _, rfl⟩, PB.mine (Ne.symm fp) fc, but_mine kB nfoH, fs ++ [tk'], ?_, ?_, ?_, ?_⟩
        · rw [List.length_map, sizeLine_eq]
          omega
        · rw [upd_same, List.map_append]; rfl
        · rw [List.nodup_append]
          exact ⟨fnd, List.nodup_cons.mpr ⟨by simp, List.nodup_nil⟩, fun a ha y hy => by
            rw [List.mem_singleton.mp hy]
            exact fun e => nin (e ▸ ha)⟩
        · rw [List.length_append, fl]; rfl
        · intro y hy
          rcases List.mem_append.mp hy with q | q
          · exact fsh y q
          · rw [List.mem_singleton.mp q]
            exact sh'
    · rintro σ H4 ⟨⟨u5, u6, u7, u8, rfl⟩, P4, k4, fs, hfs, fnd, fl, fsh⟩
      exact ⟨_, rfl, k fo fs H4 nfoH k4 P4 hfs fnd fl fsh⟩
end
end K8


set_option Elab.async false
set_option linter.all false
set_option maxRecDepth 100000
set_option maxHeartbeats 8000000
namespace K8
open PySem L2 Nd Bk Gd
section
variable {κ : Type} [DecidableEq κ] [Ky κ]
def insU (f : List κ) (k : κ) : List κ := if k ∈ f then f else insK f k
def sortU (ks : List κ) : List κ := ks.foldl insU []
theorem insU_asc {f : List κ} {k : κ} (h : AscK f) : AscK (insU f k) := by
  unfold insU
  by_cases e : k ∈ f
  · rw [if_pos e]; exact h
  · rw [if_neg e]; exact insK_asc h e
theorem insU_mem {f : List κ} {k x : κ} : x ∈ insU f k ↔ x = k ∨ x ∈ f := by
  unfold insU
  by_cases e : k ∈ f
  · rw [if_pos e]
    exact ⟨.inr, fun h => h.elim (fun h => h ▸ e) id⟩
  · rw [if_neg e, (insK_perm f k).mem_iff, List.mem_cons]
theorem insU_len {f : List κ} {k : κ} : (insU f k).length ≤ f.length + 1 := by
  unfold insU
  by_cases e : k ∈ f
  · rw [if_pos e]; omega
  · rw [if_neg e, (insK_perm f k).length_eq, List.length_cons]; omega
theorem sortU_foldl : ∀ (ks f : List κ), AscK f → AscK (ks.foldl insU f) ∧ (∀ x, x ∈ ks.foldl insU f ↔ x ∈ ks ∨ x ∈ f) ∧ (ks.foldl insU f).length ≤ f.length + ks.length
  | [], f, h => ⟨h, fun x => ⟨.inr, fun q => q.elim (fun q => nomatch q) id⟩, Nat.le_refl _⟩
  | k :: r, f, h => by
    obtain ⟨h1, h2, h3⟩ := sortU_foldl r (insU f k) (insU_asc h)
    refine ⟨h1, fun x => ?_, ?_⟩
    · rw [List.foldl_cons, h2, insU_mem, List.mem_cons]
      constructor
      · rintro (q | q | q)
        · exact .inl (.inr q)
        · exact .inl (.inl q)
        · exact .inr q
      · rintro ((q | q) | q)
        · exact .inr (.inl q)
        · exact .inl q
        · exact .inr (.inr q)
    · rw [List.foldl_cons]
      have := insU_len (f := f) (k := k)
      rw [List.length_cons]
      omega
theorem sortU_asc (ks : List κ) : AscK (sortU ks) := (sortU_foldl ks [] List.Pairwise.nil).1
theorem sortU_mem {ks : List κ} {x : κ} : x ∈ sortU ks ↔ x ∈ ks := by
  rw [show sortU ks = ks.foldl insU [] from rfl, (sortU_foldl ks [] List.Pairwise.nil).2.1 x]
  exact ⟨fun h => h.elim id (fun q => nomatch q), fun h => Or.inl h⟩
theorem sortU_len (ks : List κ) : (sortU ks).length ≤ ks.length := by
  have := (sortU_foldl ks [] List.Pairwise.nil).2.2
  rw [List.length_nil, Nat.zero_add] at this
  exact this
theorem sortU_take {ks : List κ} {i : Nat} {k : κ} (h : ks[i]? = some k) : sortU (ks.take (i + 1)) = insU (sortU (ks.take i)) k := by
  rw [List.take_succ, h]
  simp [sortU]
theorem sortU_nd : ∀ (ks f : List κ), (f ++ ks).Nodup → ks.foldl insU f = ks.foldl insK f
  | [], f, _ => rfl
  | k :: r, f, hn => by
    have hk : k ∉ f := fun q => by
      rw [List.nodup_append] at hn
      exact hn.2.2 k q k List.mem_cons_self rfl
    have p1 : (insK f k ++ r).Perm (f ++ k :: r) := ((insK_perm f k).append_right r).trans (by rw [List.cons_append]; exact List.perm_middle.symm)
    rw [List.foldl_cons, List.foldl_cons, show insU f k = insK f k from if_neg hk]
    exact sortU_nd r (insK f k) (p1.nodup_iff.mpr hn)
theorem sortU_sortK {ks : List κ} (h : ks.Nodup) : sortU ks = sortK ks := sortU_nd ks [] (by simpa using h)
theorem cnt_le (f : List κ) (k : κ) : cnt f k ≤ f.length := List.length_filter_le _ _
/-- where it would stand tells whether it is there -/
theorem at_in : ∀ {f : List κ} {k : κ}, AscK f → (k ∈ f ↔ f[cnt f k]? = some k)
  | [], k, _ => ⟨fun h => (nomatch h), fun h => by simp at h⟩
  | x :: r, k, h => by
    obtain ⟨h1, h2⟩ := List.pairwise_cons.mp h
    cases e : lt x k with
    | true =>
      have ec : cnt (x :: r) k = cnt r k + 1 := by simp [cnt, List.filter_cons, e]
      have ne : k ≠ x := fun q => by rw [q, lt_irrefl] at e; cases e
      rw [ec, List.getElem?_cons_succ, ← at_in h2, List.mem_cons]
      exact ⟨fun q => q.elim (fun q => absurd q ne) id, .inr⟩
    | false =>
      have hr : ∀ o ∈ r, lt o k = false := fun o ho => by
        cases q : lt o k with
        | false => rfl
        | true => rw [lt_trans (h1 o ho) q] at e; cases e
      have ec : cnt (x :: r) k = 0 := by
        unfold cnt
        rw [List.filter_cons, e, if_neg Bool.false_ne_true, List.filter_eq_nil_iff.mpr (fun o ho => by rw [hr o ho]; exact Bool.false_ne_true)]
        rfl
      rw [ec, List.getElem?_cons_zero, List.mem_cons]
      constructor
      · rintro (q | q)
        · rw [q]
        · rw [h1 k q] at e; cases e
      · intro q
        exact .inl (Option.some.inj q).symm
end
theorem cut_take {ys : List V} {n : Nat} (h : n ≤ ys.length) : cutV ys none (some (n : Int)) = ys.take n := by
  unfold cutV
  rw [HT.sIx_none, HT.sIx_nat, List.drop_zero, Nat.sub_zero, Nat.min_eq_left h]
theorem cut_drop {ys : List V} {n : Nat} (h : n ≤ ys.length) : cutV ys (some (n : Int)) none = ys.drop n := by
  unfold cutV
  rw [HT.sIx_none, HT.sIx_nat, Nat.min_eq_left h]
  exact List.take_of_length_le (by rw [List.length_drop]; omega)
def spPSort (K : PySem.W.Frag) (κ : Type) [DecidableEq κ] [Ky κ] : Sp := fun vs H Q _ => ∃ (a : Addr) (xs : List V) (ks : List κ), vs = [.ref a] ∧ SqL K H a xs ∧ DpAll K H xs (ks.map Ky.enc) ∧ (∀ k ∈ ks, SeqAt.shaped (Ky.enc k) = true) ∧ ks.length ≤ 1000 ∧
  ∀ (l : Addr) (ys : List V) (H' : Hp), H l = none → Same H H' → H' l = some (.lst ys) → DpAll K H' ys ((sortU ks).map Ky.enc) → Q (.ref l) H'
section
variable {P : Program} {w : World} {K : PySem.W.Frag} {mg : Str → Option Value} {base : Heap}
abbrev psortN : List Str := ["rows", "found", "row", "at", "one"]
theorem scPSort : FnScope psortN ["rows"] (defScope sPSort) := ⟨rfl, rfl, rfl, by decide +kernel, rfl, by decide +kernel, by decide +kernel⟩
theorem ok_psort (κ : Type) [DecidableEq κ] [Ky κ] {f : Addr} {fd : FuncData} (F : Fun K "_law_sorted" "_law_sorted" sPSort f fd) (N : Nm mg) : FnOk P w K mg base CX0 1 f fd ["rows"] (spPSort K κ) := by
  refine F.ok scPSort (fun vs H Q E h => ?_) (fun cdv A outer s H vs Q E hr h => ?_)
  · obtain ⟨a, xs, ks, rfl, _⟩ := h
    rfl
  · obtain ⟨a, xs, ks, rfl, hs, hd, hsh, hl, k⟩ := h
    refine ⟨_, pss_cons (ps_set (i := 1) scPSort.nd rfl (Or.inl rfl) (pe_lst pa_nil))
      (pss_cons (ps_for PassesOwn.never rfl (pi_list (pv 0)) (pg_name (i := 2) scPSort.nd rfl (Or.inr rfl))
        (pss_cons (ps_set (i := 3) scPSort.nd rfl (Or.inl rfl) (pe_callB call_len_seq (by rfl) N.len PySem.boot_len (pa_cons
          (pe_lc (own := [("one", 4)]) (g := gName 4) (tt := tTest (tOp (rLtD K) (tVar 4) (tVar 2))) rfl scPSort.nd (pi_list (pv 1)) (blkOk_by (N := psortN) (sc := defScope sPSort) (by decide +kernel))
            (fun _ _ _ _ _ => pg_name (i := 4) scPSort.nd rfl (Or.inl rfl)) (fun _ _ _ _ _ => pts_one (pt_cmpR (show OpR _ _ (rLtD K) from op_ltD (u64 hr)) (pv 4) (pv 2) (nomark _))) (fun _ _ _ _ _ => pv 4)) pa_nil)))
        (pss_one (ps_if (PW.pt (pw_or (pt_cmpR op_eq (pv 3) (pe_callB call_len_seq (by rfl) N.len PySem.boot_len (pa_cons (pv 1) pa_nil)) (nomark _))
            (pw_or1 (pt_cmpR (show OpR _ _ (rNeD K) from op_neD (u64 hr)) (pe_ix ix_list (pv 1) (pv 3) (fun _ _ => rfl)) (pv 2) (nomark _)))))
          (pss_one (ps_set (i := 1) scPSort.nd rfl (Or.inl rfl) (pe_op op_cat (pe_op op_cat (pe_slice (show SlR _ (rSlL K) from sl_list) (pv 1) po_none (po_some (pv 3))) (pe_lst (pa_cons (pv 2) pa_nil))) (pe_slice (show SlR _ (rSlL K) from sl_list) (pv 1) (po_some (pv 3)) po_none)))) pss_nil))))
      (pss_one (ps_ret (pv 1)))), ?_⟩
    refine ⟨(by show 0 ≤ sizeLine; decide), fun l nl => ?_⟩
    have s0 : Same H (upd H l (.lst [])) := sm_new sm_refl nl
    have h0 : upd H l (.lst []) l = some (.lst []) := upd_same
    generalize upd H l (.lst []) = H0 at s0 h0 ⊢
    refine ⟨_, rfl, a, rfl, ⟨_, s0.seq hs⟩, ?_⟩
    refine for_list (K := K) (a := a) (xs := xs) (fun i σ H4 => ∃ (l : Addr) (v2 v3 : Option V) (ys : List V), σ = [some (.ref a), some (.ref l), v2, v3, none] ∧ H l = none ∧ Same H H4 ∧ H4 l = some (.lst ys) ∧ DpAll K H4 ys ((sortU (ks.take i)).map Ky.enc)) ⟨l, none, none, [], rfl, nl, s0, h0, .nil⟩
      (fun i σ H4 _ ⟨_, _, _, _, _, _, s4, _⟩ => s4.seq hs) ?_ ?_
    · rintro i x σ H4 hi ⟨l, v2, v3, ys, rfl, nl, s4, h4, d4⟩
      obtain ⟨k1, hk, hx⟩ := enc_get hd hi
      have lks : (sortU (ks.take i)).length ≤ 1000 := by
        have := sortU_len (ks.take i)
        rw [List.length_take] at this
        omega
      have lk : (sortU (ks.take i)).length = ys.length := by rw [dpAll_len d4, List.length_map]
      refine ⟨_, rfl, l, rfl, ⟨_, SqL.of h4⟩, fun D nD => ?_⟩
      refine lc_list (K := K) (a := l) (xs := ys) (fun j H5 => Same H4 H5 ∧ ∃ acc, H5 D = some (.lst acc) ∧ acc.length = (((sortU (ks.take i)).take j).filter fun o => lt o k1).length) ⟨sm_new sm_refl nD, [], upd_same, rfl⟩ (fun j H5 _ ⟨s5, _⟩ => s5.seq (SqL.of h4)) ?_ ?_
      · rintro j y H5 hj ⟨s5, acc, hD, hlen⟩
        obtain ⟨o, ho, hy⟩ := enc_get d4 hj
        have hd1 := Ky.dep o
        refine ⟨rfl, _, rfl, _, rfl, _, _, dp_same s5 hy, dp_same (s4.trans s5) hx, Ky.al _ _, Ky.nn _, by omega, _, rfl, ?_⟩
        have hacc : acc.length ≤ 1000 := by
          rw [hlen]
          refine Nat.le_trans (List.length_filter_le _ _) ?_
          rw [List.length_take]
          omega
        show if lt o k1 = true then _ else _
        cases e : lt o k1 with
        | true =>
          refine iteT ⟨_, rfl, acc, hD, small1000 hacc, sm_new s5 nD, _, upd_same, ?_⟩
          rw [List.length_append, hlen, List.take_succ, ho, List.filter_append, List.length_append]
          simp [e]
        | false =>
          refine iteF ⟨s5, acc, hD, ?_⟩
          rw [hlen, List.take_succ, ho, List.filter_append, List.length_append]
          simp [e]
      · rintro H5 ⟨s5, acc, hD, hlen⟩
        rw [← lk, List.take_length] at hlen
        have hcnt : acc.length = cnt (sortU (ks.take i)) k1 := hlen
        have hle : acc.length ≤ ys.length := by
          rw [hcnt, ← lk]
          exact cnt_le _ _
        have h5 := s5 _ _ h4
        have asc := sortU_asc (ks.take i)
        refine ⟨D, acc, rfl, .inl (SqL.of hD), ?_⟩
        refine ⟨_, rfl, _, rfl, l, _, rfl, .inl (SqL.of h5), rfl, _, rfl, ?_⟩
        refine ite2 (fun hc => ?_) (fun hc => ?_)
        · have he : acc.length = ys.length := by
            have := of_decide_eq_true hc
            injection this with this
            omega
          have nin : k1 ∉ sortU (ks.take i) := fun q => by
            have := (at_in asc).mp q
            rw [← hcnt, he, ← lk, List.getElem?_eq_none (Nat.le_refl _)] at this
            cases this
          have lz : (ys.take acc.length ++ [x]).length ≤ 1001 := by
            rw [List.length_append, List.length_take]
            show _ + 1 ≤ 1001
            omega
          refine ⟨_, rfl, _, rfl, _, rfl, l, _, rfl, SqL.of h5, fun S1 n1 => ?_⟩
          rw [cut_take hle]
          have t1 : Same H5 (upd H5 S1 (.lst (ys.take acc.length))) := sm_new sm_refl n1
          have g1 : upd H5 S1 (.lst (ys.take acc.length)) S1 = some (.lst (ys.take acc.length)) := upd_same
          generalize upd H5 S1 (.lst (ys.take acc.length)) = H6 at t1 g1 ⊢
          refine ⟨_, rfl, (by show 1 ≤ sizeLine; decide), fun S2 n2 => ?_⟩
          have t2 : Same H6 (upd H6 S2 (.lst [x])) := sm_new sm_refl n2
          have g2 : upd H6 S2 (.lst [x]) S2 = some (.lst [x]) := upd_same
          generalize upd H6 S2 (.lst [x]) = H7 at t2 g2 ⊢
          refine ⟨S1, S2, _, _, rfl, rfl, t2 _ _ g1, g2, (by rw [List.length_append] at lz; rw [sizeLine_eq]; omega), fun S3 n3 => ?_⟩
          have t3 : Same H7 (upd H7 S3 (.lst (ys.take acc.length ++ [x]))) := sm_new sm_refl n3
          have g3 : upd H7 S3 (.lst (ys.take acc.length ++ [x])) S3 = some (.lst (ys.take acc.length ++ [x])) := upd_same
          generalize upd H7 S3 (.lst (ys.take acc.length ++ [x])) = H8 at t3 g3 ⊢
          have t58 := (t1.trans t2).trans t3
          refine ⟨_, rfl, _, rfl, _, rfl, l, _, rfl, SqL.of (t58 _ _ h5), fun S4 n4 => ?_⟩
          rw [cut_drop hle]
          have t4 : Same H8 (upd H8 S4 (.lst (ys.drop acc.length))) := sm_new sm_refl n4
          have g4 : upd H8 S4 (.lst (ys.drop acc.length)) S4 = some (.lst (ys.drop acc.length)) := upd_same
          generalize upd H8 S4 (.lst (ys.drop acc.length)) = H9 at t4 g4 ⊢
          refine ⟨S3, S4, _, _, rfl, rfl, t4 _ _ g3, g4, (by rw [List.length_drop, sizeLine_eq]; omega), fun S5 n5 => ?_⟩
          have t5 : Same H9 (upd H9 S5 (.lst (ys.take acc.length ++ [x] ++ ys.drop acc.length))) := sm_new sm_refl n5
          have g5 : upd H9 S5 (.lst (ys.take acc.length ++ [x] ++ ys.drop acc.length)) S5 = some (.lst (ys.take acc.length ++ [x] ++ ys.drop acc.length)) := upd_same
          have t59 := (t58.trans t4).trans t5
          have fr5 := ((s4.trans s5).trans t58 |>.trans t4).free n5
          generalize upd H9 S5 (.lst (ys.take acc.length ++ [x] ++ ys.drop acc.length)) = HA at t5 g5 t59 ⊢
          have tH5 := s4.trans s5
          refine ⟨S5, _, _, _, rfl, fr5, tH5.trans t59, g5, ?_⟩
          rw [sortU_take hk, show insU (sortU (ks.take i)) k1 = insK (sortU (ks.take i)) k1 from if_neg nin, hcnt]
          unfold insK
          rw [List.map_append, List.map_append, List.map_take, List.map_drop]
          have d9 := dpAll_same (s5.trans t59) d4
          exact dpAll_append (dpAll_append (dpAll_take _ d9) (.cons (dp_same (tH5.trans t59) hx) .nil)) (dpAll_drop _ d9)
        · have hne : acc.length ≠ ys.length := fun q => hc (decide_eq_true (by rw [q]))
          have hlt : acc.length < ys.length := by omega
          obtain ⟨o, ho, hy⟩ := enc_get (i := acc.length) d4 (List.getElem?_eq_getElem hlt)
          refine ⟨_, rfl, _, rfl, l, _, _, _, rfl, rfl, SqL.of h5, atI_nat (List.getElem?_eq_getElem hlt), _, rfl, _, _, dp_same s5 hy, dp_same (s4.trans s5) hx, hsh o (List.mem_of_mem_take (sortU_mem.mp (List.mem_of_getElem? ho))), hsh k1 (List.mem_of_getElem? hk), _, rfl, ?_⟩
          rw [Ky.eqv]
          by_cases e : o = k1
          · rw [decide_eq_true e]
            have inn : k1 ∈ sortU (ks.take i) := by rw [← e]; exact List.mem_of_getElem? ho
            refine iteF ⟨l, _, _, ys, rfl, nl, s4.trans s5, h5, ?_⟩
            rw [sortU_take hk, show insU (sortU (ks.take i)) k1 = sortU (ks.take i) from if_pos inn]
            exact dpAll_same s5 d4
          · rw [decide_eq_false e]
            have nin : k1 ∉ sortU (ks.take i) := fun q => by
              have := (at_in asc).mp q
              rw [← hcnt, ho] at this
              exact e (Option.some.inj this)
            refine iteT ?_
            have lz : (ys.take acc.length ++ [x]).length ≤ 1001 := by
              rw [List.length_append, List.length_take]
              show _ + 1 ≤ 1001
              omega
            refine ⟨_, rfl, _, rfl, _, rfl, l, _, rfl, SqL.of h5, fun S1 n1 => ?_⟩
            rw [cut_take hle]
            have t1 : Same H5 (upd H5 S1 (.lst (ys.take acc.length))) := sm_new sm_refl n1
            have g1 : upd H5 S1 (.lst (ys.take acc.length)) S1 = some (.lst (ys.take acc.length)) := upd_same
            generalize upd H5 S1 (.lst (ys.take acc.length)) = H6 at t1 g1 ⊢
            refine ⟨_, rfl, (by show 1 ≤ sizeLine; decide), fun S2 n2 => ?_⟩
            have t2 : Same H6 (upd H6 S2 (.lst [x])) := sm_new sm_refl n2
            have g2 : upd H6 S2 (.lst [x]) S2 = some (.lst [x]) := upd_same
            generalize upd H6 S2 (.lst [x]) = H7 at t2 g2 ⊢
            refine ⟨S1, S2, _, _, rfl, rfl, t2 _ _ g1, g2, (by rw [List.length_append] at lz; rw [sizeLine_eq]; omega), fun S3 n3 => ?_⟩
            have t3 : Same H7 (upd H7 S3 (.lst (ys.take acc.length ++ [x]))) := sm_new sm_refl n3
            have g3 : upd H7 S3 (.lst (ys.take acc.length ++ [x])) S3 = some (.lst (ys.take acc.length ++ [x])) := upd_same
            generalize upd H7 S3 (.lst (ys.take acc.length ++ [x])) = H8 at t3 g3 ⊢
            have t58 := (t1.trans t2).trans t3
            refine ⟨_, rfl, _, rfl, _, rfl, l, _, rfl, SqL.of (t58 _ _ h5), fun S4 n4 => ?_⟩
            rw [cut_drop hle]
            have t4 : Same H8 (upd H8 S4 (.lst (ys.drop acc.length))) := sm_new sm_refl n4
            have g4 : upd H8 S4 (.lst (ys.drop acc.length)) S4 = some (.lst (ys.drop acc.length)) := upd_same
            generalize upd H8 S4 (.lst (ys.drop acc.length)) = H9 at t4 g4 ⊢
            refine ⟨S3, S4, _, _, rfl, rfl, t4 _ _ g3, g4, (by rw [List.length_drop, sizeLine_eq]; omega), fun S5 n5 => ?_⟩
            have t5 : Same H9 (upd H9 S5 (.lst (ys.take acc.length ++ [x] ++ ys.drop acc.length))) := sm_new sm_refl n5
            have g5 : upd H9 S5 (.lst (ys.take acc.length ++ [x] ++ ys.drop acc.length)) S5 = some (.lst (ys.take acc.length ++ [x] ++ ys.drop acc.length)) := upd_same
            have t59 := (t58.trans t4).trans t5
            have fr5 := ((s4.trans s5).trans t58 |>.trans t4).free n5
            generalize upd H9 S5 (.lst (ys.take acc.length ++ [x] ++ ys.drop acc.length)) = HA at t5 g5 t59 ⊢
            have tH5 := s4.trans s5
            refine ⟨S5, _, _, _, rfl, fr5, tH5.trans t59, g5, ?_⟩
            rw [sortU_take hk, show insU (sortU (ks.take i)) k1 = insK (sortU (ks.take i)) k1 from if_neg nin, hcnt]
            unfold insK
            rw [List.map_append, List.map_append, List.map_take, List.map_drop]
            have d9 := dpAll_same (s5.trans t59) d4
            exact dpAll_append (dpAll_append (dpAll_take _ d9) (.cons (dp_same (tH5.trans t59) hx) .nil)) (dpAll_drop _ d9)
    · rintro σ H4 ⟨l, v2, v3, ys, rfl, nl, s4, h4, d4⟩
      have lk : xs.length = ks.length := by rw [dpAll_len hd, List.length_map]
      rw [lk, List.take_length] at d4
      exact ⟨_, rfl, k l ys H4 nl s4 h4 d4⟩
end
end K8


set_option Elab.async false
set_option linter.all false
set_option maxRecDepth 100000
set_option maxHeartbeats 8000000
namespace K8
open PySem L2 Nd Bk Gd
def spPProd (K : PySem.W.Frag) : Sp := fun vs H Q _ => ∃ (x y : V) (m n : Mono), vs = [x, y] ∧ Dp K H x (mD m) ∧ Dp K H y (mD n) ∧ MOk m ∧ MOk n ∧ (∀ t ∈ m ++ n, SeqAt.shaped (Ky.enc t.1) = true) ∧ m.length + n.length ≤ 1000 ∧ ∀ (a : Addr) (H' : Hp), Same H H' → Dp K H' (.ref a) (mD (mulM m n)) → Q (.ref a) H'
section
variable {P : Program} {w : World} {K : PySem.W.Frag} {mg : Str → Option Value} {base : Heap}
abbrev pprodN : List Str := ["one", "other", "powers", "token", "number", "key"]
theorem scPProd : FnScope pprodN ["one", "other"] (defScope sPProd) := ⟨rfl, rfl, rfl, by decide +kernel, rfl, by decide +kernel, by decide +kernel⟩
theorem ok_pprod {f : Addr} {fd : FuncData} (F : Fun K "_law_product" "_law_product" sPProd f fd) (N : Nm mg) (Gs : Df P w K mg base 1 "_law_sorted" ["rows"] (spPSort K Str)) : FnOk P w K mg base CX0 2 f fd ["one", "other"] (spPProd K) := by
  obtain ⟨fs, fds, gS, kS, bS, GS⟩ := Gs.ok
  refine F.ok scPProd (fun vs H Q E h => ?_) (fun cdv A outer s H vs Q E hr h => ?_)
  · obtain ⟨x, y, m, n, rfl, _⟩ := h
    rfl
  · obtain ⟨x, y, m, n, rfl, hx, hy, okm, okn, hsh, hl, k⟩ := h
    have hr1 : Room 1 _ := hr
    refine ⟨_, pss_cons (ps_set (i := 2) scPProd.nd rfl (Or.inr rfl) pe_dnewK)
      (pss_cons (ps_for PassesOwn.never rfl (pi_tup (pe_op op_catA (pv 0) (pv 1))) (pg_tup rfl (pgs_cons (pg_name (i := 3) scPProd.nd rfl (Or.inl rfl)) (pgs_cons (pg_name (i := 4) scPProd.nd rfl (Or.inl rfl)) pgs_nil)))
        (pss_one (ps_dput (u1 hr) (pv 2) (pv 3) (pe_op op_add (pe_dget2 (u1 hr) (pv 2) (pv 3) pe_int ⟨rfl, rfl, rfl, rfl⟩) (pv 4)) rfl)))
      (pss_one (ps_ret (pe_callTy call_tuple_of (by rfl) N.tup (by rfl) (pa_cons
        (pe_lc (own := [("token", 3)]) (g := gName 3) (tt := tYes) rfl scPProd.nd
          (pi_list (pe_call GS hr1 rfl gS kS bS .nil pass0 (pa_cons (pe_lock (pe_lc (own := [("key", 5)]) (g := gName 5) (tt := tYes) rfl scPProd.nd (pi_keys (pv 2)) (blkOk_by (N := pprodN) (sc := defScope sPProd) (by decide +kernel))
            (fun _ _ _ _ _ => pg_name (i := 5) scPProd.nd rfl (Or.inl rfl)) (fun _ _ _ _ _ => pts_nil) (fun _ _ _ _ _ => pv 5))) pa_nil)))
          (blkOk_by (N := pprodN) (sc := defScope sPProd) (by decide +kernel))
          (fun _ _ _ _ _ => pg_name (i := 3) scPProd.nd rfl (Or.inl rfl)) (fun _ _ _ _ _ => pts_nil)
          (fun _ _ _ _ _ => pe_tup (pa_cons (pv 3) (pa_cons (pe_dget (u1 hr) (pv 2) (pv 3) (fun _ _ => rfl)) pa_nil)))) pa_nil))))), ?_⟩
    intro d nd
    have s0 : Same H (upd H d (.dK [])) := sm_new sm_refl nd
    have d0 : upd H d (.dK []) d = some (.dK (tx [])) := upd_same
    generalize upd H d (.dK []) = H0 at s0 d0 ⊢
    obtain ⟨a1, xs, rfl, hxs, lx, hxa⟩ := dp_bag (κ := Str) (dp_same s0 hx)
    obtain ⟨a2, ys, rfl, hys, lY, hya⟩ := dp_bag (κ := Str) (dp_same s0 hy)
    refine ⟨_, rfl, _, rfl, rcat_mk hxs hys (by rw [lx, lY, sizeLine_eq]; omega) fun r H3 s3 hr3 => ?_⟩
    have all3 : DpAll K H3 (xs ++ ys) ((m ++ n).map encP) := by
      rw [List.map_append]
      exact dpAll_append (dpAll_same s3 hxa) (dpAll_same s3 hya)
    have lz : (xs ++ ys).length = (m ++ n).length := by rw [List.length_append, List.length_append, lx, lY]
    have d3 := s3 _ _ d0
    have nt3 : NotT (H3 d) := by rw [d3]; exact notT_dK
    have len : (m ++ n).length ≤ 1000 := by rw [List.length_append]; exact hl
    have lenb : ∀ i, (tx (book ((m ++ n).take i))).length ≤ 1000 := fun i => by
      rw [tx_len]
      refine Nat.le_trans (len_book _) ?_
      rw [List.length_take]
      omega
    refine ⟨r, rfl, ⟨_, hr3⟩, ?_⟩
    refine for_tup (K := K) (a := r) (xs := xs ++ ys) (fun i σ H4 => (∃ u v, σ = [some (.ref a1), some (.ref a2), some (.ref d), u, v, none]) ∧ But d H3 H4 ∧ H4 d = some (.dK (tx (book ((m ++ n).take i))))) ⟨⟨none, none, rfl⟩, But.refl, d3⟩
      (fun i σ H4 _ ⟨_, b4, _⟩ => sqT_kt (.but nt3 b4) hr3) ?_ ?_
    · rintro i y σ H4 hi ⟨⟨u, v, rfl⟩, b4, h4⟩
      obtain ⟨t, ht, hy⟩ := bag_get (bA_kt (.but nt3 b4) all3) hi
      obtain ⟨T, kk, rfl, hT, hk⟩ := dp_pair hy
      cases dp_str (i := t.1) hk
      refine ⟨T, _, rfl, hT, rfl, _, _, rfl, _, _, rfl, rfl, ?_⟩
      refine ⟨_, rfl, d, rfl, .inl ⟨_, .inl h4⟩, _, rfl, _, DGet.k (k := Sum.inr t.1) h4, _, rfl, ?_⟩
      rw [getD_tx]
      refine ⟨_, _, rfl, rfl, _, rfl, _, rfl, d, _, rfl, DPut.k (k := Sum.inr t.1) h4 (small1000 (lenb i)), ⟨_, _, rfl⟩, b4.trans But.upd, ?_⟩
      rw [upd_same, putK_tx, List.take_succ, ht, show (some t).toList = [t] from rfl, book_snoc]
      rfl
    · rintro σ H4 ⟨⟨u, v, rfl⟩, b4, h4⟩
      rw [lz, List.take_length] at h4
      have lenB : (tx (book (m ++ n))).length ≤ 1000 := by
        have := lenb (m ++ n).length
        rw [List.take_length] at this
        exact this
      have s4 : Same H H4 := sm_but (s0.trans s3) nd b4
      clear hx hy
      have hshB : ∀ k ∈ (book (m ++ n)).map (·.1), SeqAt.shaped (Ky.enc k) = true := fun k hk => by
        obtain ⟨t, ht, rfl⟩ := List.mem_map.mp hk
        exact key_book (Pk := fun z : Str => SeqAt.shaped (Ky.enc z) = true) (m ++ n) [] (fun _ q => nomatch q) hsh t ht
      generalize hB : book (m ++ n) = B at h4 lenB hshB
      have ndB : (B.map (·.1)).Nodup := by rw [← hB]; exact book_nodup _
      refine ⟨d, _, h4, True.intro, fun od => ?_⟩
      refine ⟨_, rfl, d, od, rfl, .inl ⟨_, upd_same, fun D nD => ?_⟩⟩
      have Dd : D ≠ d := fun e => by rw [e, upd_same] at nD; cases nD
      refine lc_it walk_keys (fun i H5 => Same (upd H4 d (.frz od (.dK (tx B)))) H5 ∧ H5 D = some (.lst (((tx B).take i).map fun kv => kV kv.1))) ⟨sm_new sm_refl nD, upd_same⟩ (fun i H5 _ ⟨s5, _⟩ => s5 _ _ upd_same) ?_ ?_
      · rintro i x H5 H6 hi ⟨s5, hD⟩ ⟨rfl, kk, vv, he, rfl⟩
        refine ⟨rfl, _, rfl, _, hD, small1000 (by rw [List.length_map, List.length_take]; omega), sm_new s5 nD, ?_⟩
        rw [upd_same, List.take_succ, he, List.map_append]
        rfl
      · rintro H5 ⟨s5, hD⟩
        rw [List.take_length] at hD
        refine ⟨s5 _ _ upd_same, ?_⟩
        have sb := lock_back h4 s5
        have hD3 : upd H5 d (.dK (tx B)) D = some (.lst ((tx B).map fun kv => kV kv.1)) := by rw [upd_ne Dd]; exact hD
        generalize upd H5 d (.dK (tx B)) = H6 at sb hD3 ⊢
        have h6 := sb _ _ h4
        refine ⟨D, _, B.map (·.1), rfl, SqL.of hD3, txkeys_dp B, hshB, by rw [List.length_map, ← tx_len]; exact lenB, fun l zs H7 nl s7 hzs hd7 => ?_⟩
        have lsrt : (srt B).length ≤ 1000 := by
          rw [(srt_perm _).length_eq, ← tx_len]
          exact lenB
        rw [sortU_sortK ndB, ← srt_keys ndB] at hd7
        have lz : zs.length = (srt B).length := by rw [dpAll_len hd7, List.length_map, List.length_map]
        refine ⟨l, rfl, ⟨_, SqL.of hzs⟩, fun D2 nD2 => ?_⟩
        refine lc_list (K := K) (a := l) (xs := zs) (fun j H8 => AccI K H7 D2 ((srt B).map encP) j H8) (acc_zero nD2) (fun j H8 _ a8 => a8.sm.seq (SqL.of hzs)) ?_ ?_
        · rintro j y H8 hj a8
          obtain ⟨key, hk, hy⟩ := enc_get hd7 hj
          rw [List.getElem?_map] at hk
          obtain ⟨t, ht, rfl⟩ := Option.map_eq_some_iff.mp hk
          cases dp_str (i := t.1) hy
          have tm : t ∈ B := (srt_perm _).mem_iff.mp (List.mem_of_getElem? ht)
          have hg : valV (tx B) (.inr t.1) = some (.int t.2) := by
            rw [valV_tx, look_of_mem ndB tm]
            rfl
          have h8 := a8.sm _ _ (s7 _ _ h6)
          refine ⟨rfl, _, rfl, _, rfl, _, rfl, d, .int t.2, rfl, by rw [← hg]; exact DGet.k (k := Sum.inr t.1) h8, (by show 2 ≤ sizeLine; decide), fun W nW => ?_⟩
          exact acc_step a8 nD2 (by rw [List.length_map]; exact list1000 lsrt) (tu_encPs _) (sm_new sm_refl nW) (by rw [List.getElem?_map, ht]; rfl) (dp_mk (κ := Str) (x := t.1) (SqT.of upd_same) (.str _))
        · rintro H8 a8
          obtain ⟨s8, us, hu, hd8⟩ := acc_end a8 (by rw [lz, List.length_map])
          refine ⟨D2, us, rfl, .inl ⟨SqL.of hu, fun v nv => ?_⟩⟩
          have s08 : Same H H8 := ((s4.trans sb).trans s7).trans s8
          refine k _ _ (sm_new s08 (s08.free nv)) ?_
          have e : mulM m n = srt B := by rw [← hB]; rfl
          rw [e]
          exact .tup (SqT.of upd_same) (dpAll_put (by rw [nv]; exact notT_none) (tupOnlyAll_of (tu_encPs _)) hd8)
end
end K8


set_option Elab.async false
set_option linter.all false
set_option maxRecDepth 100000
set_option maxHeartbeats 8000000
namespace K8
open PySem L2 Nd Bk Gd
def spPPoly (K : PySem.W.Frag) : Sp := fun vs H Q _ => ∃ (a : Addr) (xs : List V) (ts : Poly), vs = [.ref a] ∧ SqL K H a xs ∧ DpAll K H xs (ts.map encP) ∧ (∀ t ∈ ts, SeqAt.shaped (Ky.enc t.1) = true) ∧ ts.length ≤ 1000 ∧
  ∀ (v : V) (H' : Hp), Same H H' → Dp K H' v (bD (nf ts)) → Q v H'
section
variable {P : Program} {w : World} {K : PySem.W.Frag} {mg : Str → Option Value} {base : Heap}
abbrev ppolyN : List Str := ["terms", "many", "monomial", "number", "key"]
theorem scPPoly : FnScope ppolyN ["terms"] (defScope sPPoly) := ⟨rfl, rfl, rfl, by decide +kernel, rfl, by decide +kernel, by decide +kernel⟩
theorem ok_ppoly {f : Addr} {fd : FuncData} (F : Fun K "_law_poly" "_law_poly" sPPoly f fd) (N : Nm mg) (Gs : Df P w K mg base 1 "_law_sorted" ["rows"] (spPSort K Mono)) : FnOk P w K mg base CX0 2 f fd ["terms"] (spPPoly K) := by
  obtain ⟨fs, fds, gS, kS, bS, GS⟩ := Gs.ok
  refine F.ok scPPoly (fun vs H Q E h => ?_) (fun cdv A outer s H vs Q E hr h => ?_)
  · obtain ⟨a, xs, ts, rfl, _⟩ := h
    rfl
  · obtain ⟨a, xs, ts, rfl, hs, hd, hsh, hl, k⟩ := h
    have hr1 : Room 1 _ := hr
    refine ⟨_, pss_cons (ps_set (i := 1) scPPoly.nd rfl (Or.inr rfl) (show PE _ _ (tNdNew P w) from pe_ndNew))
      (pss_cons (ps_for PassesOwn.never rfl (pi_list (pv 0)) (pg_tup rfl (pgs_cons (pg_name (i := 2) scPPoly.nd rfl (Or.inl rfl)) (pgs_cons (pg_name (i := 3) scPPoly.nd rfl (Or.inl rfl)) pgs_nil)))
        (pss_one (ps_asg (pe_op op_add (pe_ndGetOr (u9 hr) (pv 1) (pv 2) pe_int ⟨rfl, rfl, rfl, rfl⟩) (pv 3)) (pg_sub (pv 1) (pv 2) (set_nd (u9 hr))))))
      (pss_one (ps_ret (pe_callTy call_tuple_of (by rfl) N.tup (by rfl) (pa_cons
      (pe_lc (own := [("monomial", 2)]) (g := gName 2) (tt := tYes) rfl scPPoly.nd
        (pi_list (pe_call GS hr1 rfl gS kS bS .nil pass0 (pa_cons (pe_lock (pe_lc (own := [("key", 4)]) (g := gName 4) (tt := tYes) rfl scPPoly.nd (show PI _ _ _ (iKeysN P w _) from pi_keysN (pv 1)) (blkOk_by (N := ppolyN) (sc := defScope sPPoly) (by decide +kernel))
          (fun _ _ _ _ _ => pg_name (i := 4) scPPoly.nd rfl (Or.inl rfl)) (fun _ _ _ _ _ => pts_nil) (fun _ _ _ _ _ => pv 4))) pa_nil)))
        (blkOk_by (N := ppolyN) (sc := defScope sPPoly) (by decide +kernel))
        (fun _ _ _ _ _ => pg_name (i := 2) scPPoly.nd rfl (Or.inl rfl)) (fun _ _ _ _ _ => pts_nil)
        (fun _ _ _ _ _ => pe_tup (pa_cons (pv 2) (pa_cons (show PE _ _ (tNdGet K P w (tVar 1) (tVar 2)) from pe_ndGet (u9 hr) (pv 1) (pv 2) (fun _ _ => rfl)) pa_nil)))) pa_nil))))), ?_⟩
    intro d nd
    have s0 : Same H (upd H d (ndO P w d [])) := sm_new sm_refl nd
    have n0 : NdAt K P w (upd H d (ndO P w d [])) d [] := ⟨upd_same, fun e he => nomatch he⟩
    generalize upd H d (ndO P w d []) = H0 at s0 n0 ⊢
    have nt0 : NotT (H0 d) := by rw [n0.at_]; exact notT_nd
    have hs0 := s0.seq hs
    have hd0 := dpAll_same s0 hd
    have lz : xs.length = ts.length := by rw [dpAll_len hd, List.length_map]
    refine ⟨_, rfl, a, rfl, ⟨_, hs0⟩, ?_⟩
    refine for_list (K := K) (a := a) (xs := xs) (fun i σ H4 => (∃ u v, σ = [some (.ref a), some (.ref d), u, v, none]) ∧ But d H0 H4 ∧ ∃ es, NdAt K P w H4 d es ∧ bagOf es = book (ts.take i)) ⟨⟨none, none, rfl⟩, But.refl, [], n0, rfl⟩
      (fun i σ H4 _ ⟨_, b4, _⟩ => (sm_but s0 nd b4).seq hs) ?_ ?_
    · rintro i u σ H4 hi ⟨⟨u2, u3, rfl⟩, b4, es, n4, e4⟩
      obtain ⟨t, ht, hu⟩ := bag_get (dpAll_same (sm_but s0 nd b4) hd) hi
      obtain ⟨T, kk, rfl, hT, hk⟩ := dp_pair hu
      obtain ⟨b', zs, rfl, _⟩ := dp_bag (κ := Str) hk
      have el : es.length ≤ 1000 := by
        rw [← bagOf_len, e4]
        refine Nat.le_trans (len_book _) ?_
        rw [List.length_take]
        omega
      refine ⟨T, _, rfl, hT, rfl, _, _, rfl, _, _, rfl, rfl, ?_⟩
      refine ⟨_, rfl, d, es, rfl, n4, _, rfl, b', t.1, 0, rfl, rfl, n4, hk, _, rfl, _, _, rfl, rfl, ?_⟩
      refine ⟨_, rfl, _, rfl, d, b', es, t.1, _, rfl, rfl, rfl, n4, hk, small1000 el, ?_⟩
      refine ⟨⟨_, _, rfl⟩, b4.trans But.upd, _, nd_put n4 hk, ?_⟩
      rw [bagOf_put, List.take_succ, ht, show (some t).toList = [t] from rfl, book_snoc, ← e4, ← look_bagOf]
      rfl
    · rintro σ H4 ⟨⟨u2, u3, rfl⟩, b4, es, n, e4⟩
      rw [lz, List.take_length] at e4
      have sH4 := sm_but s0 nd b4
      have nd : ((bagOf es).map (·.1)).Nodup := by rw [e4]; exact book_nodup _
      have hl2 : es.length ≤ 1000 := by
        rw [← bagOf_len, e4]
        exact Nat.le_trans (len_book _) hl
      have hshB : ∀ k ∈ (bagOf es).map (·.1), SeqAt.shaped (Ky.enc k) = true := fun k hk => by
        rw [e4] at hk
        obtain ⟨t, ht, rfl⟩ := List.mem_map.mp hk
        exact key_book (Pk := fun z : Mono => SeqAt.shaped (Ky.enc z) = true) ts [] (fun _ q => nomatch q) hsh t ht
      have enf : nf ts = srt (bagOf es) := by rw [e4]; rfl
      rw [enf] at k
      refine ⟨d, _, n.at_, mut_nd, fun od => ?_⟩
      refine ⟨_, rfl, d, od, es, rfl, upd_same, fun D nD => ?_⟩
      have Dd : D ≠ d := fun e => by rw [e, upd_same] at nD; cases nD
      refine lc_it walk_keysN (fun i H2 => Same (upd H4 d (.frz od (ndO P w d es))) H2 ∧ H2 D = some (.lst ((es.take i).map fun e => V.ref e.2.1))) ⟨sm_new sm_refl nD, upd_same⟩ (fun i H2 _ ⟨s2, _⟩ => s2 _ _ upd_same) ?_ ?_
      · rintro i x H2 H3 hi ⟨s2, hD⟩ ⟨rfl, e, he, rfl⟩
        refine ⟨rfl, _, rfl, _, hD, small1000 (by rw [List.length_map, List.length_take]; omega), sm_new s2 nD, ?_⟩
        rw [upd_same, List.take_succ, he, List.map_append]
        rfl
      · rintro H2 ⟨s2, hD⟩
        rw [List.take_length] at hD
        refine ⟨s2 _ _ upd_same, ?_⟩
        have sb := lock_back n.at_ s2
        have hD3 : upd H2 d (ndO P w d es) D = some (.lst (es.map fun e => V.ref e.2.1)) := by rw [upd_ne Dd]; exact hD
        generalize upd H2 d (ndO P w d es) = H3 at sb hD3 ⊢
        have n3 := nd_back n sb
        refine ⟨D, _, (bagOf es).map (·.1), rfl, SqL.of hD3, keys_dp n3.keys, hshB, by rw [List.length_map, bagOf_len]; exact hl2, fun l ys H5 nl s4 hys hd4 => ?_⟩
        have n4 := nd_back n3 s4
        have lsrt : (srt (bagOf es)).length ≤ 1000 := by
          rw [(srt_perm _).length_eq, bagOf_len]
          exact hl2
        rw [sortU_sortK nd, ← srt_keys nd] at hd4
        have ly : ys.length = (srt (bagOf es)).length := by rw [dpAll_len hd4, List.length_map, List.length_map]
        refine ⟨l, rfl, ⟨_, SqL.of hys⟩, fun D2 nD2 => ?_⟩
        refine lc_list (K := K) (a := l) (xs := ys) (fun j H6 => AccI K H5 D2 ((srt (bagOf es)).map encP) j H6) (acc_zero nD2) (fun j H6 _ a5 => a5.sm.seq (SqL.of hys)) ?_ ?_
        · rintro j y H6 hj a5
          obtain ⟨key, hk, hy⟩ := enc_get hd4 hj
          rw [List.getElem?_map] at hk
          obtain ⟨t, ht, rfl⟩ := Option.map_eq_some_iff.mp hk
          obtain ⟨b, zs, rfl, _⟩ := dp_bag (κ := Str) hy
          have tm : t ∈ bagOf es := (srt_perm _).mem_iff.mp (List.mem_of_getElem? ht)
          have hg : getN es t.1 = some t.2 := by
            rw [← look_bagOf]
            exact look_of_mem nd tm
          have n5 := nd_back n4 a5.sm
          have hm5 : Dp K H6 (.ref b) (mD t.1) := dp_same a5.sm hy
          refine ⟨rfl, _, rfl, _, rfl, _, rfl, d, b, es, t.1, t.2, rfl, rfl, n5, hm5, hg, (by show 2 ≤ sizeLine; decide), fun W nW => ?_⟩
          exact acc_step a5 nD2 (by rw [List.length_map]; exact list1000 lsrt) (tu_encPs _) (sm_new sm_refl nW) (by rw [List.getElem?_map, ht]; rfl) (dp_mk (κ := Mono) (x := t.1) (SqT.of upd_same) (dp_same (sm_new sm_refl nW) hm5))
        · rintro H6 a5
          obtain ⟨s5, zs, hz, hd5⟩ := acc_end a5 (by rw [ly, List.length_map])
          refine ⟨D2, zs, rfl, .inl ⟨SqL.of hz, fun v nv => ?_⟩⟩
          have s05 : Same H H6 := ((sH4.trans sb).trans s4).trans s5
          exact k _ _ (sm_new s05 (s05.free nv)) (.tup (SqT.of upd_same) (dpAll_put (by rw [nv]; exact notT_none) (tupOnlyAll_of (tu_encPs _)) hd5))
end
end K8


set_option Elab.async false
set_option linter.all false
set_option maxRecDepth 100000
set_option maxHeartbeats 8000000
namespace K8
open PySem L2 Nd Bk Gd
/-- the tokens, term by term -/
def fk (p : Poly) : List Str := p.flatMap fun t => t.1.map (·.1)
theorem fk_take {p : Poly} {i : Nat} {t : Mono × Int} (h : p[i]? = some t) : fk (p.take (i + 1)) = fk (p.take i) ++ t.1.map (·.1) := by
  unfold fk
  rw [List.take_succ, h, List.flatMap_append]
  congr 1
  exact List.append_nil _
theorem fk_le (p : Poly) (i : Nat) : (fk (p.take i)).length ≤ (fk p).length := by
  have e : fk p = fk (p.take i) ++ fk (p.drop i) := by
    unfold fk
    rw [← List.flatMap_append, List.take_append_drop]
  rw [e, List.length_append]
  omega
def spPTokOf (K : PySem.W.Frag) : Sp := fun vs H Q _ => ∃ (v : V) (p : Poly), vs = [v] ∧ Dp K H v (bD p) ∧ (∀ k ∈ fk p, SeqAt.shaped (Ky.enc k) = true) ∧ (fk p).length ≤ 1000 ∧ (∀ t ∈ p, t.1.length ≤ 1000) ∧
  ∀ (l : Addr) (H' : Hp), H l = none → Same H H' → (∃ ys, H' l = some (.lst ys) ∧ DpAll K H' ys ((sortU (fk p)).map Ky.enc)) → Q (.ref l) H'
section
variable {P : Program} {w : World} {K : PySem.W.Frag} {mg : Str → Option Value} {base : Heap}
abbrev ptofN : List Str := ["p", "found", "monomial", "number", "pair"]
theorem scPTokOf : FnScope ptofN ["p"] (defScope sPTokOf) := ⟨rfl, rfl, rfl, by decide +kernel, rfl, by decide +kernel, by decide +kernel⟩
theorem ok_ptokof {f : Addr} {fd : FuncData} (F : Fun K "_law_tokens_of" "_law_tokens_of" sPTokOf f fd) (Gs : Df P w K mg base 1 "_law_sorted" ["rows"] (spPSort K Str)) : FnOk P w K mg base CX0 2 f fd ["p"] (spPTokOf K) := by
  obtain ⟨fs, fds, gS, kS, bS, GS⟩ := Gs.ok
  refine F.ok scPTokOf (fun vs H Q E h => ?_) (fun cdv A outer s H vs Q E hr h => ?_)
  · obtain ⟨v, p, rfl, _⟩ := h
    rfl
  · obtain ⟨v, p, rfl, hd, hsh, hfl, hml, k⟩ := h
    have hr1 : Room 1 _ := hr
    refine ⟨_, pss_cons (ps_set (i := 1) scPTokOf.nd rfl (Or.inl rfl) (pe_lst pa_nil))
      (pss_cons (ps_for PassesOwn.never rfl (pi_tup (pv 0)) (pg_tup rfl (pgs_cons (pg_name (i := 2) scPTokOf.nd rfl (Or.inl rfl)) (pgs_cons (pg_name (i := 3) scPTokOf.nd rfl (Or.inl rfl)) pgs_nil)))
        (pss_one (ps_set (i := 1) scPTokOf.nd rfl (Or.inl rfl) (pe_op op_cat (pv 1)
          (pe_lc (own := [("pair", 4)]) (g := gName 4) (tt := tYes) rfl scPTokOf.nd (pi_tup (pv 2)) (blkOk_by (N := ptofN) (sc := defScope sPTokOf) (by decide +kernel))
            (fun _ _ _ _ _ => pg_name (i := 4) scPTokOf.nd rfl (Or.inl rfl)) (fun _ _ _ _ _ => pts_nil)
            (fun _ _ _ _ _ => pe_ix (show IxR _ (rIx K) from ix_seq) (pv 4) pe_int (fun _ _ => rfl)))))))
      (pss_one (ps_ret (pe_call GS hr1 rfl gS kS bS .nil pass0 (pa_cons (pv 1) pa_nil))))), ?_⟩
    obtain ⟨a, xs, rfl, hs, hl, hall⟩ := dp_bag hd
    refine ⟨(by show 0 ≤ sizeLine; decide), fun l nl => ?_⟩
    have s0 : Same H (upd H l (.lst [])) := sm_new sm_refl nl
    have h0 : upd H l (.lst []) l = some (.lst []) := upd_same
    generalize upd H l (.lst []) = H0 at s0 h0 ⊢
    refine ⟨_, rfl, a, rfl, ⟨_, sqT_same s0 hs⟩, ?_⟩
    refine for_tup (K := K) (a := a) (xs := xs) (fun i σ H2 => (∃ f u1 u2, σ = [some (.ref a), some (.ref f), u1, u2, none] ∧ H2 f = some (.lst ((fk (p.take i)).map V.str))) ∧ Same H0 H2) ⟨⟨l, _, _, rfl, h0⟩, sm_refl⟩ (fun i σ H2 _ ⟨_, s2⟩ => sqT_same (s0.trans s2) hs) ?_ ?_
    · rintro i x σ H2 hi ⟨⟨fo, u1, u2, rfl, hfo⟩, s2⟩
      obtain ⟨t, ht, hxt⟩ := bag_get hall hi
      obtain ⟨T, kk, rfl, hT, hk⟩ := dp_pair (dp_same (s0.trans s2) hxt)
      obtain ⟨b, zs, rfl, hb, hbl, hball⟩ := dp_bag (κ := Str) hk
      have tl := hml t (List.mem_of_getElem? ht)
      refine ⟨T, _, rfl, hT, rfl, _, _, rfl, _, _, rfl, rfl, ?_⟩
      refine ⟨_, rfl, _, rfl, b, rfl, ⟨_, hb⟩, fun D nD => ?_⟩
      refine lc_tup (K := K) (a := b) (xs := zs) (fun j H3 => Same H2 H3 ∧ H3 D = some (.lst (((t.1.take j).map (·.1)).map V.str))) ⟨sm_new sm_refl nD, upd_same⟩ (fun j H3 _ ⟨s3, _⟩ => sqT_same s3 hb) ?_ ?_
      · rintro j y H3 hj ⟨s3, hD⟩
        obtain ⟨q, hq, hyq⟩ := bag_get hball hj
        obtain ⟨U, kk2, rfl, hU, hkk⟩ := dp_pair (dp_same s3 hyq)
        cases dp_str (i := q.1) hkk
        have ix := (fd_ix (K := K) (H := H3) (.inr hU))
        have hbx : (((t.1.take j).map (·.1)).map V.str).length ≤ 1000 := by
          rw [List.length_map, List.length_map, List.length_take]
          omega
        refine ⟨rfl, _, rfl, (ix _).2 ⟨_, hD, small1000 hbx, sm_new s3 nD, ?_⟩⟩
        rw [upd_same, List.take_succ, hq, List.map_append, List.map_append]
        rfl
      · rintro H3 ⟨s3, hD⟩
        rw [hbl, List.take_length] at hD
        have hn := fk_le p (i + 1)
        rw [fk_take ht, List.length_append] at hn
        refine ⟨fo, D, _, _, rfl, rfl, s3 _ _ hfo, hD, ?_, fun p' np => ⟨⟨p', _, _, rfl, ?_⟩, (s2.trans s3).trans (sm_new sm_refl np)⟩⟩
        · rw [List.length_map, List.length_map, sizeLine_eq]
          omega
        · rw [upd_same, fk_take ht, List.map_append]
    · rintro σ H2 ⟨⟨fo, u1, u2, rfl, hfo⟩, s2⟩
      rw [hl, List.take_length] at hfo
      exact ⟨_, rfl, fo, _, fk p, rfl, SqL.of hfo, strs_dp _, hsh, hfl, fun l' ys H3 nl' s3 hys hd3 => k l' H3 ((s0.trans s2).free nl') ((s0.trans s2).trans s3) ⟨ys, hys, hd3⟩⟩
end
end K8


set_option Elab.async false
set_option linter.all false
set_option maxRecDepth 100000
set_option maxHeartbeats 8000000
namespace K8
open PySem L2 Nd Bk Gd
def spPLs (K : PySem.W.Frag) (n : Nat) : Sp := fun vs H Q _ => ∃ (av : List Addr) (v : V) (d : PyData), vs = [v] ∧ Dp K H v d ∧ Okd n d ∧ (∀ x ∈ av, H x ≠ none) ∧
  ∀ (v' : V) (d' : PyData) (H' : Hp), flat d' = d → Same H H' → Fp K H' av v' d' → Top H' v' d' → Q v' H'
def spPs (K : PySem.W.Frag) : Nat → Sp
  | 0 => fun _ _ _ _ => False
  | n + 1 => spPLs K n
def spPListed (K : PySem.W.Frag) (n : Nat) : Sp := fun vs H Q _ => ∃ (p c : Addr) (ns : List Int) (av : List Addr) (v : V) (d : PyData) (tp : Bool), vs = [.ref p, v] ∧ PoolAt H p c ns ∧ Dp K H v d ∧ Okd n d ∧ p ∈ av ∧ (∀ x ∈ av, H x ≠ none) ∧ (tp = true → Top H v d) ∧
  ∀ (v' : V) (d' : PyData) (H' : Hp), flat d' = d → PoolAt H' p c ns → But p H H' → Fp K H' av v' d' → (tp = true → Top H' v' d') → Q v' H'
section
variable {P : Program} {w : World} {K : PySem.W.Frag} {mg : Str → Option Value} {base : Heap}
theorem scPLists : FnScope ["value", "one"] ["value"] (defScope sPLists) := ⟨rfl, rfl, rfl, by decide +kernel, rfl, by decide +kernel, by decide +kernel⟩
theorem ok_plists {f : Addr} {fd : FuncData} (F : Fun K "_law_lists" "_law_lists" sPLists f fd) (b : Binds K fd ["value"] []) (g : mg "_law_lists" = some (.ref f)) (kp : PySem.W.keepIn K (.ref f) = true) (N : Nm mg) :
    ∀ n : Nat, FnOk P w K mg base CX0 n f fd ["value"] (spPs K n) := by
  intro n
  induction n with
  | zero => exact ⟨fun _ _ _ _ h => False.elim h, fun _ _ _ _ _ _ _ _ _ _ _ _ _ h => False.elim h⟩
  | succ n ih =>
    refine F.ok scPLists (fun vs H Q E h => ?_) (fun cdv A outer s H vs Q E hr h => ?_)
    · obtain ⟨av, v, d, rfl, _⟩ := h
      rfl
    · obtain ⟨av, v, d, rfl, hd, okd, hall, k⟩ := h
      refine ⟨_, pss_cons (ps_if (pt_val (pe_callB call_isi (by rfl) N.isi (by decide +kernel) (pa_cons (pv 0) (pa_cons (pe_bltn (v := .ty "tuple") (by rfl) N.tup (by decide +kernel) rfl) pa_nil))))
          (pss_one (ps_ret (pe_lc (own := [("one", 1)]) (g := gName 1) (tt := tYes) rfl scPLists.nd (pi_tup (pv 0)) (blkOk_by (N := ["value", "one"]) (sc := defScope sPLists) (by decide +kernel))
            (fun _ _ _ _ _ => pg_name (i := 1) scPLists.nd rfl (Or.inl rfl)) (fun _ _ _ _ _ => pts_nil) (fun _ _ _ _ _ => pe_call ih hr rfl g kp b .nil pass0 (pa_cons (pv 1) pa_nil))))) pss_nil)
        (pss_one (ps_ret (pv 0))), ?_⟩
      have scal : tupOnly d = true → Sc d ∨ (∃ z, d = .str z) → Q v H := fun tu q => k v d H (flat_tup tu) sm_refl (Fp.of hd tu) (fun ds e => by subst e; rcases q with q | ⟨z, q⟩ <;> cases q)
      have tu := okd.tu
      cases n with
      | zero =>
        rcases okd with oks | ⟨z, rfl⟩
        · cases oks with
          | int i =>
            cases dp_int hd
            exact ⟨_, rfl, _, _, _, _, false, rfl, .ty _, .base (.int i), kit_ty (by decide +kernel), false, rfl, iteF ⟨_, rfl, scal tu (.inl (.int _))⟩⟩
          | non =>
            cases hd
            exact ⟨_, rfl, _, _, _, _, false, rfl, .ty _, .base .non, kit_ty (by decide +kernel), false, rfl, iteF ⟨_, rfl, scal tu (.inl .non)⟩⟩
          | bl b =>
            cases hd
            exact ⟨_, rfl, _, _, _, _, false, rfl, .ty _, .base (.bl b), kit_ty (by decide +kernel), false, rfl, iteF ⟨_, rfl, scal tu (.inl (.bl b))⟩⟩
        · cases dp_str hd
          exact ⟨_, rfl, _, _, _, _, false, rfl, .ty _, .base (.str z), kit_ty (by decide +kernel), false, rfl, iteF ⟨_, rfl, scal tu (.inr ⟨_, rfl⟩)⟩⟩
      | succ m =>
        rcases okd with oks | ⟨z, rfl⟩ | ⟨ds, rfl, hl, hds⟩
        · cases oks with
          | int i =>
            cases dp_int hd
            exact ⟨_, rfl, _, _, _, _, false, rfl, .ty _, .base (.int i), kit_ty (by decide +kernel), false, rfl, iteF ⟨_, rfl, scal tu (.inl (.int _))⟩⟩
          | non =>
            cases hd
            exact ⟨_, rfl, _, _, _, _, false, rfl, .ty _, .base .non, kit_ty (by decide +kernel), false, rfl, iteF ⟨_, rfl, scal tu (.inl .non)⟩⟩
          | bl b =>
            cases hd
            exact ⟨_, rfl, _, _, _, _, false, rfl, .ty _, .base (.bl b), kit_ty (by decide +kernel), false, rfl, iteF ⟨_, rfl, scal tu (.inl (.bl b))⟩⟩
        · cases dp_str hd
          exact ⟨_, rfl, _, _, _, _, false, rfl, .ty _, .base (.str z), kit_ty (by decide +kernel), false, rfl, iteF ⟨_, rfl, scal tu (.inr ⟨_, rfl⟩)⟩⟩
        · obtain ⟨a, xs, rfl, hxs, hxd⟩ := dp_tup hd
          have lx := dpAll_len hxd
          refine ⟨_, rfl, _, _, _, _, true, rfl, .ty _, tyX_T hxs, kit_ty (by decide +kernel), true, rfl, iteT ?_⟩
          refine ⟨_, rfl, a, rfl, ⟨_, hxs⟩, fun D nD => ?_⟩
          have Dav : D ∉ av := fun q => hall D q nD
          refine lc_tup (K := K) (a := a) (xs := xs) (fun i H2 => Same H H2 ∧ ∃ ys es, H2 D = some (.lst ys) ∧ FpAll K H2 (D :: av) ys es ∧ flats es = ds.take i) ⟨sm_new sm_refl nD, [], [], upd_same, .nil, by simp [flats]⟩
            (fun i H2 _ ⟨s2, _⟩ => sqT_same s2 hxs) ?_ ?_
          · rintro i x H2 hi ⟨s2, ys, es, hD, hys, hes⟩
            obtain ⟨e, he, hx⟩ := dpAll_get hxd hi
            refine ⟨rfl, _, rfl, D :: av, x, e, rfl, dp_same s2 hx, hds e (List.mem_of_getElem? he), fun y hy => ?_, fun v' d' H3 hf s3 hv' _ => ?_⟩
            · rcases List.mem_cons.mp hy with q | q
              · rw [q, hD]
                exact fun z => nomatch z
              · intro z
                obtain ⟨o, ho⟩ := Option.ne_none_iff_exists'.mp (hall y q)
                rw [s2 y o ho] at z
                cases z
            · have hD3 : H3 D = some (.lst ys) := s3 _ _ hD
              have hys3 := hys.same s3
              have nt3 : NotT (H3 D) := by rw [hD3]; exact notT_lst
              have leny : ys.length ≤ 1000 := by
                have e1 := hys.len
                have e2 := congrArg List.length hes
                rw [flats_map, List.length_map, List.length_take] at e2
                omega
              refine ⟨ys, hD3, small1000 leny, sm_new (s2.trans s3) nD, ys ++ [v'], es ++ [d'], upd_same, ?_, ?_⟩
              · have all := FpAll.snoc hys3 hv'
                exact all.but List.mem_cons_self nt3 But.upd
              · rw [flats_map, List.map_append, ← flats_map, hes, List.take_succ, he, List.map_cons, List.map_nil, hf]
                rfl
          · rintro H2 ⟨s2, ys, es, hD, hys, hes⟩
            rw [lx, List.take_length] at hes
            have hysA : FpAll K H2 av ys es := hys.less fun x hx => List.mem_cons_of_mem _ hx
            have ff : flat (.list es) = .tuple ds := by simp only [flat]; rw [hes]
            exact k (.ref D) (.list es) H2 ff s2 (.lst hD Dav hysA) fun _ e => nomatch e
theorem scPListed : FnScope ["pool", "value"] ["pool", "value"] (defScope sPListed) := ⟨rfl, rfl, rfl, by decide +kernel, rfl, by decide +kernel, by decide +kernel⟩
theorem ok_plisted {n : Nat} {f : Addr} {fd : FuncData} (F : Fun K "_law_listed" "_law_listed" sPListed f fd) (Gt : Df P w K mg base 2 "_law_take" ["pool", "many"] spTake) (Gl : Df P w K mg base (n + 2) "_law_lists" ["value"] (spPLs K (n + 1))) : FnOk P w K mg base CX0 (n + 3) f fd ["pool", "value"] (spPListed K (n + 1)) := by
  obtain ⟨ft, fdt, gT, kT, bT, GT⟩ := Gt.ok
  obtain ⟨fl, fdl, gL, kL, bL, GL⟩ := Gl.ok
  refine F.ok scPListed (fun vs H Q E h => ?_) (fun cdv A outer s H vs Q E hr h => ?_)
  · obtain ⟨p, c, ns, av, v, d, tp, rfl, _⟩ := h
    rfl
  · obtain ⟨p, c, ns, av, v, d, tp, rfl, hP, hd, okd, hav, hall, top, k⟩ := h
    have hr2 : Room 2 _ := hr.mono (by omega)
    have hrl : Room (n + 2) _ := hr
    refine ⟨_, pss_cons (ps_if (pt_cmpR op_gt (pe_call GT hr2 rfl gT kT bT .nil pass0 (pa_cons (pv 0) (pa_cons pe_int pa_nil))) pe_int (nomark _)) (pss_one (ps_ret (pv 1))) pss_nil)
      (pss_one (ps_ret (pe_call GL hrl rfl gL kL bL .nil pass0 (pa_cons (pv 1) pa_nil)))), ?_⟩
    have tu := okd.tu
    refine ⟨_, rfl, p, c, ns, _, rfl, by decide, by decide, hP, fun r H1 r0 r1 P1 k1 => ⟨_, _, rfl, rfl, _, rfl, ?_⟩⟩
    have kt : KeepT H H1 := .but hP.notT k1
    have hd1 : Dp K H1 v d := dp_kt0 kt hd tu
    refine ite2 (fun _ => ?_) (fun _ => ?_)
    · exact ⟨_, rfl, k v d H1 (flat_tup tu) P1 k1 (Fp.of hd1 tu) fun hb ds e => let ⟨T, h1, h2⟩ := top hb ds e; ⟨T, h1, h2.kt kt⟩⟩
    · refine ⟨_, rfl, av, v, d, rfl, hd1, okd, fun x hx z => ?_, fun v' d' H2 hf s2 hv ht => k v' d' H2 hf (P1.same s2) (k1.same s2) hv fun _ => ht⟩
      obtain ⟨o, ho⟩ := Option.ne_none_iff_exists'.mp (hall x hx)
      by_cases xp : x = p
      · obtain ⟨_, _, _, _, _, _, _, hb⟩ := P1.dct
        rw [xp, hb] at z
        cases z
      · rw [k1 x o ho xp] at z
        cases z
end
end K8


set_option Elab.async false
set_option linter.all false
set_option maxRecDepth 100000
set_option maxHeartbeats 8000000
namespace K8
open PySem L2 Nd Bk Gd
theorem S_nil0 : S ([] : Mono) = 0 := by unfold S; rw [pr_nil]
theorem S_one0 (t : Str) (e : Int) : S ([(t, e)] : Mono) = e := by unfold S; rw [pr_cons, pr_nil]; omega
structure PMd (fs : List Str) (j : Nat) (m : Mono) : Prop where
  ok : MOk m
  len : m.length ≤ j
  sz : S m ≤ 3 * j
  keys : ∀ x ∈ m, x.1 ∈ fs
theorem pmd_nil (fs : List Str) : PMd fs 0 [] := ⟨⟨List.Pairwise.nil, fun _ h => nomatch h⟩, Nat.le_refl _, by show S [] ≤ 0; rw [S_nil0]; decide, fun _ h => nomatch h⟩
theorem PMd.more {fs : List Str} {i j : Nat} {m : Mono} (h : PMd fs i m) (l : i ≤ j) : PMd fs j m := ⟨h.ok, Nat.le_trans h.len l, by have := h.sz; omega, h.keys⟩
theorem one_mok {t : Str} {e : Int} (h : 0 < e) : MOk [(t, e)] := ⟨asc_one _, pos_one h⟩
theorem PMd.mul {fs : List Str} {j : Nat} {m : Mono} {t : Str} {e : Int} (h : PMd fs j m) (ht : t ∈ fs) (e0 : 0 < e) (e1 : e ≤ 3) : PMd fs (j + 1) (mulM m [(t, e)]) := by
  refine ⟨mulM_ok h.ok (one_mok e0), ?_, ?_, ?_⟩
  · refine Nat.le_trans (nf_len _) ?_
    rw [List.length_append]
    have := h.len
    show _ + 1 ≤ _
    omega
  · rw [S_mulM, S_one0]
    have := h.sz
    omega
  · refine nf_key (Pk := fun z : Str => z ∈ fs) fun x hx => ?_
    rcases List.mem_append.mp hx with q | q
    · exact h.keys x q
    · rw [List.mem_singleton.mp q]; exact ht
theorem lay_keys : ∀ {m : Mono}, (∀ x ∈ m, shU x.1 = true) → PyData.canLayAll0 (m.map encP) = true
  | [], _ => rfl
  | x :: m, h => by
    have h1 := (Bool.and_eq_true_iff.mp (h x List.mem_cons_self)).2
    have h2 := lay_keys (m := m) fun y hy => h y (List.mem_cons_of_mem _ hy)
    rw [List.map_cons]
    show (PyData.canLay0 (.tuple [.str x.1, .int x.2]) && _) = true
    simp [PyData.canLay0, PyData.canLayAll0, h1, h2]
theorem mono_K {m : Mono} (h : ∀ x ∈ m, shU x.1 = true) : SeqAt.shaped (Ky.enc m) = true := by
  unfold SeqAt.shaped
  rw [Bool.and_eq_true]
  refine ⟨?_, decide_eq_true (Nat.le_trans (Ky.dep m) (by decide))⟩
  show PyData.canLay0 (.tuple (m.map encP)) = true
  simp [PyData.canLay0, lay_keys h]
def spPDrawn (K : PySem.W.Frag) : Sp := fun vs H Q _ => ∃ (p c : Addr) (ns : List Int) (fo : Addr) (fs : List Str) (most : Int), vs = [.ref p, .ref fo, .int most] ∧ PoolAt H p c ns ∧ H fo = some (.lst (fs.map V.str)) ∧ fo ≠ p ∧ (∀ z ∈ fs, shU z = true) ∧ fs.length ≤ 38 ∧ 0 ≤ most ∧ most ≤ 30 ∧
  ∀ (v : V) (ts : Poly) (H' : Hp), But p H H' → PoolAt H' p c ns → Dp K H' v (bD (nf ts)) → (ts.length : Int) ≤ most + 2 → (∀ t ∈ ts, (0 < t.2 ∧ t.2 ≤ 4) ∧ PMd fs 3 t.1) → Q v H'
section
variable {P : Program} {w : World} {K : PySem.W.Frag} {mg : Str → Option Value} {base : Heap}
abbrev pdrN : List Str := ["pool", "tokens", "most", "terms", "k", "monomial", "j"]
theorem scPDrawn : FnScope pdrN ["pool", "tokens", "most"] (defScope sPDrawn) := ⟨rfl, rfl, rfl, by decide +kernel, rfl, by decide +kernel, by decide +kernel⟩
theorem ok_pdrawn {f : Addr} {fd : FuncData} (F : Fun K "_law_drawn_poly" "_law_drawn_poly" sPDrawn f fd) (N : Nm mg) (Gt : Df P w K mg base 2 "_law_take" ["pool", "many"] spTake) (Gp : Df P w K mg base 2 "_law_product" ["one", "other"] (spPProd K)) (Gy : Df P w K mg base 2 "_law_poly" ["terms"] (spPPoly K)) : FnOk P w K mg base CX0 3 f fd ["pool", "tokens", "most"] (spPDrawn K) := by
  obtain ⟨ft, fdt, gT, kT, bT, GT⟩ := Gt.ok
  obtain ⟨fp', fdp, gP, kP, bP, GP⟩ := Gp.ok
  obtain ⟨fy, fdy, gY, kY, bY, GY⟩ := Gy.ok
  refine F.ok scPDrawn (fun vs H Q E h => ?_) (fun cdv A outer s H vs Q E hr h => ?_)
  · obtain ⟨p, c, ns, fo, fs, most, rfl, _⟩ := h
    rfl
  · obtain ⟨p, c, ns, fo, fs, most, rfl, hP, hfo, fp, fsh, fl, m0, m1, k⟩ := h
    have hr2 : Room 2 _ := hr
    refine ⟨_, pss_cons (ps_set (i := 3) scPDrawn.nd rfl (Or.inl rfl) (pe_lst pa_nil))
      (pss_cons (ps_for PassesOwn.never rfl (pi_range1 rfl N.rng (pa_cons (pe_ix ix_list (pe_lst (pa_cons pe_int (pa_cons pe_int (pa_cons pe_int (pa_cons (pe_call GT hr2 rfl gT kT bT .nil pass0 (pa_cons (pv 0) (pa_cons (pe_op op_add (pv 2) pe_int) pa_nil))) (pa_cons (pv 2) pa_nil)))))) (pe_call GT hr2 rfl gT kT bT .nil pass0 (pa_cons (pv 0) (pa_cons pe_int pa_nil))) (fun _ _ => rfl)) pa_nil)) (pg_name (i := 4) scPDrawn.nd rfl (Or.inl rfl))
        (pss_cons (ps_set (i := 5) scPDrawn.nd rfl (Or.inl rfl) (pe_tup pa_nil))
        (pss_cons (ps_for PassesOwn.never rfl (pi_range1 rfl N.rng (pa_cons (pe_ix ix_list (pe_lst (pa_cons pe_int (pa_cons pe_int (pa_cons pe_int (pa_cons pe_int (pa_cons pe_int pa_nil)))))) (pe_call GT hr2 rfl gT kT bT .nil pass0 (pa_cons (pv 0) (pa_cons pe_int pa_nil))) (fun _ _ => rfl)) pa_nil)) (pg_name (i := 6) scPDrawn.nd rfl (Or.inl rfl))
          (pss_one (ps_if (pt_cmpR op_gt (pe_callB call_len_seq (by rfl) N.len PySem.boot_len (pa_cons (pv 1) pa_nil)) pe_int (nomark _))
            (pss_one (ps_set (i := 5) scPDrawn.nd rfl (Or.inl rfl) (pe_call GP hr2 rfl gP kP bP .nil pass0 (pa_cons (pv 5) (pa_cons (pe_tup (pa_cons (pe_tup (pa_cons (pe_ix ix_list (pv 1) (pe_call GT hr2 rfl gT kT bT .nil pass0 (pa_cons (pv 0) (pa_cons (pe_callB call_len_seq (by rfl) N.len PySem.boot_len (pa_cons (pv 1) pa_nil)) pa_nil))) (fun _ _ => rfl)) (pa_cons (pe_op op_add pe_int (pe_call GT hr2 rfl gT kT bT .nil pass0 (pa_cons (pv 0) (pa_cons pe_int pa_nil)))) pa_nil))) pa_nil)) pa_nil))))) pss_nil)))
        (pss_one (ps_expr (pe_bm PySem.F.plainAttrs_list PySem.F.slot_list_append PySem.F.type_list_append mt_append (pv 3) (pa_cons (pe_tup (pa_cons (pv 5) (pa_cons (pe_op op_add pe_int (pe_call GT hr2 rfl gT kT bT .nil pass0 (pa_cons (pv 0) (pa_cons pe_int pa_nil)))) pa_nil))) pa_nil)))))))
      (pss_one (ps_ret (pe_call GY hr2 rfl gY kY bY .nil pass0 (pa_cons (pv 3) pa_nil))))), ?_⟩
    refine ⟨(by show 0 ≤ sizeLine; decide), fun l nl => ?_⟩
    have s0 : Same H (upd H l (.lst [])) := sm_new sm_refl nl
    have h0 : upd H l (.lst []) l = some (.lst []) := upd_same
    have lp : l ≠ p := hP.off nl
    have lc : c ≠ l := ne_of_none hP.cells nl
    have lfo : fo ≠ l := ne_of_none hfo nl
    have P0 := hP.same s0
    have k0 : But p H (upd H l (.lst [])) := But.refl.same s0
    generalize upd H l (.lst []) = H0 at s0 h0 P0 k0 ⊢
    refine ⟨_, rfl, _, rfl, _, _, rfl, rfl, p, c, ns, _, rfl, by omega, by omega, P0, fun r H1 r0 r1 P1 k1 => ?_⟩
    refine ⟨_, rfl, (by show 5 ≤ sizeLine; decide), fun L nL => ?_⟩
    have s2 : Same H1 (upd H1 L (.lst [.int 0, .int 1, .int 2, .int r, .int most])) := sm_new sm_refl nL
    have hL : upd H1 L (.lst [.int 0, .int 1, .int 2, .int r, .int most]) L = some (.lst (([0, 1, 2, r, most] : List Int).map V.int)) := upd_same
    have Lp := P1.off nL
    have P2 := P1.same s2
    generalize upd H1 L (.lst [.int 0, .int 1, .int 2, .int r, .int most]) = H2 at s2 hL P2 ⊢
    refine ⟨_, rfl, p, c, ns, _, rfl, by decide, by decide, P2, fun r3 H3 a0 a1 P3 k3 => ?_⟩
    obtain ⟨j3, rfl⟩ := Int.eq_ofNat_of_zero_le a0
    obtain ⟨n, hn, hnm⟩ := pick_int (zs := [0, 1, 2, r, most]) (j := j3) (by show j3 < 5; omega)
    have n0 : 0 ≤ n ∧ n ≤ most + 2 := by
      simp only [List.mem_cons, List.not_mem_nil, or_false] at hnm
      omega
    refine ⟨L, _, _, _, rfl, rfl, SqL.of (k3 _ _ hL Lp), atI_nat hn, _, rfl, by omega, by omega, ?_⟩
    have k03 : But p H0 H3 := (k1.same s2).trans k3
    have kt : ∀ {H2 : Hp}, But p H0 H2 → KeepT H0 H2 := fun kb => .but P0.notT kb
    have kOf : ∀ {H4 H5 : Hp} {o : HO}, But p H H5 → H l = none → But p H (upd H5 l o) := fun kb e => but_mine kb e
    refine for_range (n := n.toNat) (fun i σ H4 => (∃ u4 u5 u6, σ = [some (.ref p), some (.ref fo), some (.int most), some (.ref l), u4, u5, u6]) ∧ PoolAt H4 p c ns ∧ But p H H4 ∧ ∃ (ys : List V) (ts : Poly), H4 l = some (.lst ys) ∧ DpAll K H4 ys (ts.map encP) ∧ ts.length = i ∧ ∀ t ∈ ts, (0 < t.2 ∧ t.2 ≤ 4) ∧ PMd fs 3 t.1)
      ⟨⟨_, _, _, rfl⟩, P3, k0.trans k03, [], [], k03 _ _ h0 lp, .nil, rfl, fun t h => nomatch h⟩ ?_ ?_
    · rintro i σ H4 hi ⟨⟨u4, u5, u6, rfl⟩, P4, k4, ys, ts, hl4, hys, tl, hts⟩
      refine ⟨(by show 0 ≤ sizeLine; decide), fun T nT => ?_⟩
      have s5 : Same H4 (upd H4 T (.tup [])) := sm_new sm_refl nT
      have dT : Dp K (upd H4 T (.tup [])) (.ref T) (mD []) := .tup (SqT.of upd_same) .nil
      have P5 := P4.same s5
      generalize upd H4 T (.tup []) = H5 at s5 dT P5 ⊢
      refine ⟨(by show 5 ≤ sizeLine; decide), fun L2 nL2 => ?_⟩
      have s6 : Same H5 (upd H5 L2 (.lst [.int 0, .int 1, .int 1, .int 2, .int 3])) := sm_new sm_refl nL2
      have hL2 : upd H5 L2 (.lst [.int 0, .int 1, .int 1, .int 2, .int 3]) L2 = some (.lst (([0, 1, 1, 2, 3] : List Int).map V.int)) := upd_same
      have L2p := P5.off nL2
      have P6 := P5.same s6
      have dT6 := dp_same s6 dT
      generalize upd H5 L2 (.lst [.int 0, .int 1, .int 1, .int 2, .int 3]) = H6 at s6 hL2 P6 dT6 ⊢
      refine ⟨_, rfl, p, c, ns, _, rfl, by decide, by decide, P6, fun r7 H7 b0 b1 P7 k7 => ?_⟩
      obtain ⟨j7, rfl⟩ := Int.eq_ofNat_of_zero_le b0
      obtain ⟨n7, hn7, hnm7⟩ := pick_int (zs := [0, 1, 1, 2, 3]) (j := j7) (by show j7 < 5; omega)
      have n70 : 0 ≤ n7 ∧ n7 ≤ 3 := by
        simp only [List.mem_cons, List.not_mem_nil, or_false] at hnm7
        omega
      refine ⟨L2, _, _, _, rfl, rfl, SqL.of (k7 _ _ hL2 L2p), atI_nat hn7, _, rfl, by omega, by omega, ?_⟩
      have k47 : But p H4 H7 := ((But.refl.same s5).same s6).trans k7
      have dT7 : Dp K H7 (.ref T) (mD []) := dp_kt0 (.but P6.notT k7) dT6 (tu_bD (κ := Str) [])
      refine for_range (n := n7.toNat) (fun j σ H8 => (∃ (M : Addr) (m : Mono) (u6 : Option V), σ = [some (.ref p), some (.ref fo), some (.int most), some (.ref l), some (.int (0 + (i : Int))), some (.ref M), u6] ∧ Dp K H8 (.ref M) (mD m) ∧ PMd fs j m) ∧ PoolAt H8 p c ns ∧ But p H4 H8)
        ⟨⟨T, [], _, rfl, dT7, pmd_nil fs⟩, P7, k47⟩ ?_ ?_
      · rintro j σ H8 hj ⟨⟨M, m, u6, rfl, dM, pm⟩, P8, k8⟩
        have hfo8 := (k4.trans k8) _ _ hfo fp
        refine ⟨_, rfl, fo, _, rfl, .inl (SqL.of hfo8), _, _, rfl, rfl, _, rfl, ?_⟩
        refine ite2 (fun hc => ?_) (fun _ => ⟨⟨M, m, _, rfl, dM, pm.more (by omega)⟩, P8, k8⟩)
        have hc' : (((fs.map V.str).length : Nat) : Int) > 0 := of_decide_eq_true hc
        have fl2 : (fs.map V.str).length = fs.length := List.length_map ..
        refine ⟨_, rfl, _, rfl, _, rfl, _, rfl, fo, _, rfl, .inl (SqL.of hfo8), p, c, ns, _, rfl, by omega, by omega, P8, fun r9 H9 c0 c1 P9 k9 => ?_⟩
        obtain ⟨j9, rfl⟩ := Int.eq_ofNat_of_zero_le c0
        have hj9 : j9 < fs.length := by omega
        have hget : (fs.map V.str)[j9]? = some (V.str fs[j9]) := by rw [List.getElem?_map, List.getElem?_eq_getElem hj9]; rfl
        have htm : fs[j9] ∈ fs := List.getElem_mem hj9
        generalize fs[j9] = t at hget htm
        refine ⟨fo, _, _, _, rfl, rfl, SqL.of (k9 _ _ hfo8 fp), atI_nat hget, _, rfl, p, c, ns, _, rfl, by decide, by decide, P9, fun r10 HA d0 d1 PA kA => ?_⟩
        refine ⟨_, _, rfl, rfl, (by show 2 ≤ sizeLine; decide), fun T1 n1 => ⟨(by show 1 ≤ sizeLine; decide), fun T2 n2 => ?_⟩⟩
        have t1 : Same HA (upd HA T1 (.tup [.str t, .int (1 + r10)])) := sm_new sm_refl n1
        have t2 := sm_new (o := .tup [.ref T1]) t1 (t1.free n2)
        have dq : Dp K (upd (upd HA T1 (.tup [.str t, .int (1 + r10)])) T2 (.tup [.ref T1])) (.ref T2) (mD [(t, 1 + r10)]) := .tup (SqT.of upd_same) (.cons (dp_same (sm_new sm_refl n2) (dp_mk (κ := Str) (x := t) (SqT.of upd_same) (.str _))) .nil)
        have dMA : Dp K HA (.ref M) (mD m) := dp_kt0 (.but P8.notT (k9.trans kA)) dM (tu_bD (κ := Str) m)
        have PB := PA.same t2
        generalize upd (upd HA T1 (.tup [.str t, .int (1 + r10)])) T2 (.tup [.ref T1]) = HB at t2 dq PB ⊢
        refine ⟨.ref M, .ref T2, m, [(t, 1 + r10)], rfl, dp_same t2 dMA, dq, pm.ok, one_mok (by omega), fun x hx => ?_, ?_, fun a HC sC hC => ⟨⟨a, _, _, rfl, hC, pm.mul htm (by omega) (by omega)⟩, PB.same sC, ((k8.trans (k9.trans kA)).same t2).same sC⟩⟩
        · rcases List.mem_append.mp hx with q | q
          · exact shU_K (fsh _ (pm.keys x q))
          · rw [List.mem_singleton.mp q]; exact shU_K (fsh _ htm)
        · have := pm.len
          show _ + 1 ≤ _
          omega
      · rintro σ H8 ⟨⟨M, m, u6, rfl, dM, pm⟩, P8, k8⟩
        have hl8 := k8 _ _ hl4 lp
        refine ⟨_, rfl, .inl ⟨rfl, ys, SqL.of hl8⟩, _, rfl, _, rfl, p, c, ns, _, rfl, by decide, by decide, P8, fun r9 H9 c0 c1 P9 k9 => ⟨_, _, rfl, rfl, (by show 2 ≤ sizeLine; decide), fun W nW => ?_⟩⟩
        have k49 := k8.trans k9
        have sW : Same H9 (upd H9 W (.tup [.ref M, .int (1 + r9)])) := sm_new sm_refl nW
        have dM9 : Dp K H9 (.ref M) (mD m) := dp_kt0 (.but P8.notT k9) dM (tu_bD (κ := Str) m)
        have dW : Dp K (upd H9 W (.tup [.ref M, .int (1 + r9)])) (.ref W) (encP (m, 1 + r9)) := dp_mk (κ := Mono) (x := m) (SqT.of upd_same) (dp_same sW dM9)
        have PW := P9.same sW
        generalize upd H9 W (.tup [.ref M, .int (1 + r9)]) = HW at sW dW PW ⊢
        have k4W : But p H4 HW := k49.same sW
        have hlW := k4W _ _ hl4 lp
        have ysW : DpAll K HW ys (ts.map encP) := dpAll_kt0 (.but P4.notT k4W) hys (tupOnlyAll_of (tu_encPs _))
        have ntl : NotT (HW l) := by rw [hlW]; exact notT_lst
        have yl : ys.length = ts.length := by rw [dpAll_len hys, List.length_map]
        refine ⟨l, ys, _, rfl, rfl, hlW, by rw [sizeLine_eq]; omega, ⟨_, _, _, rfl⟩, PW.mine (Ne.symm lp) lc, but_mine (k4.trans k4W) nl, ys ++ [.ref W], ts ++ [(m, 1 + r9)], upd_same, ?_, ?_, ?_⟩
        · rw [List.map_append]
          exact dpAll_append (dpAll_put ntl (tupOnlyAll_of (tu_encPs _)) ysW) (.cons (dp_put ntl (tu_encP _) dW) .nil)
        · rw [List.length_append, tl]; rfl
        · intro t ht
          rcases List.mem_append.mp ht with q | q
          · exact hts t q
          · rw [List.mem_singleton.mp q]
            exact ⟨⟨by show 0 < 1 + r9; omega, by show 1 + r9 ≤ 4; omega⟩, pm.more (by omega)⟩
    · rintro σ H4 ⟨⟨u4, u5, u6, rfl⟩, P4, k4, ys, ts, hl4, hys, tl, hts⟩
      refine ⟨_, rfl, l, ys, ts, rfl, SqL.of hl4, hys, fun t ht => mono_K fun x hx => fsh _ ((hts t ht).2.keys x hx), by omega, fun v H5 s5 hv => k v ts H5 (k4.same s5) (P4.same s5) hv (by omega) hts⟩
end
end K8


set_option Elab.async false
set_option linter.all false
set_option maxRecDepth 100000
set_option maxHeartbeats 8000000
namespace K8
open PySem L2 Nd Bk Gd
/-! the same data at both: numbers, texts, none, truth values, tuples -/
def spSm (K : PySem.W.Frag) (n : Nat) : Sp := fun vs H Q _ => ∃ (x y : V) (d : PyData), vs = [x, y] ∧ Dp K H x d ∧ Dp K H y d ∧ Okd n d ∧ ∀ H', Same H H' → Q (.bl true) H'
def spSms (K : PySem.W.Frag) : Nat → Sp
  | 0 => fun _ _ _ _ => False
  | n + 1 => spSm K n
theorem okd_two {n : Nat} {d : PyData} (h : Okd n d) : (Sc d ∨ ∃ z, d = .str z) ∨ ∃ (m : Nat) (ds : List PyData), n = m + 1 ∧ d = .tuple ds ∧ ds.length ≤ 1000 ∧ ∀ e ∈ ds, Okd m e := by
  cases n with
  | zero => exact .inl h
  | succ m =>
    rcases h with h | h | ⟨ds, h1, h2, h3⟩
    · exact .inl (.inl h)
    · exact .inl (.inr h)
    · exact .inr ⟨m, ds, rfl, h1, h2, h3⟩
section
variable {P : Program} {w : World} {K : PySem.W.Frag} {mg : Str → Option Value} {base : Heap}
theorem scPSame : FnScope ["actual", "due", "k"] ["actual", "due"] (defScope sPSame) := ⟨rfl, rfl, rfl, by decide +kernel, rfl, by decide +kernel, by decide +kernel⟩
theorem ok_psame {f : Addr} {fd : FuncData} (F : Fun K "_law_same" "_law_same" sPSame f fd) (b : Binds K fd ["actual", "due"] []) (g : mg "_law_same" = some (.ref f)) (kp : PySem.W.keepIn K (.ref f) = true) (N : Nm mg) :
    ∀ n : Nat, FnOk P w K mg base CX0 n f fd ["actual", "due"] (spSms K n) := by
  intro n
  induction n with
  | zero => exact ⟨fun _ _ _ _ h => h.elim, fun _ _ _ _ _ _ _ _ _ _ _ _ _ h => h.elim⟩
  | succ n ih =>
    refine F.ok scPSame (fun vs H Q E h => ?_) (fun cdv A outer s H vs Q E hr h => ?_)
    · obtain ⟨x, y, d, rfl, _⟩ := h
      rfl
    · obtain ⟨x, y, d, rfl, dx, dy', okd, k⟩ := h
      refine ⟨_, pss_cons (ps_if (pt_val (pe_callB call_isi (by rfl) N.isi (by decide +kernel) (pa_cons (pv 1) (pa_cons (pe_bltn (v := .ty "tuple") (by rfl) N.tup (by decide +kernel) rfl) pa_nil))))
          (pss_cons (ps_if (PW.pt (pw_or (pt_not (pt_val (pe_callB call_isi (by rfl) N.isi (by decide +kernel) (pa_cons (pv 0) (pa_cons (pe_bltn (v := .ty "tuple") (by rfl) N.tup (by decide +kernel) rfl) pa_nil)))))
              (pw_or1 (pt_cmpR op_ne (pe_callB call_len_seq (by rfl) N.len PySem.boot_len (pa_cons (pv 0) pa_nil)) (pe_callB call_len_seq (by rfl) N.len PySem.boot_len (pa_cons (pv 1) pa_nil)) (nomark _))))) (pss_one (ps_ret pe_bl)) pss_nil)
          (pss_cons (ps_for PassesOwn.never rfl (pi_range1 rfl N.rng (pa_cons (pe_callB call_len_seq (by rfl) N.len PySem.boot_len (pa_cons (pv 1) pa_nil)) pa_nil)) (pg_name (i := 2) scPSame.nd rfl (Or.inl rfl))
            (pss_one (ps_if (pt_not (pt_val (pe_call ih hr rfl g kp b .nil pass0 (pa_cons (pe_ix ix_seq (pv 0) (pv 2) (fun _ _ => rfl)) (pa_cons (pe_ix ix_seq (pv 1) (pv 2) (fun _ _ => rfl)) pa_nil))))) (pss_one (ps_ret pe_bl)) pss_nil)))
          (pss_one (ps_ret pe_bl)))) pss_nil)
        (pss_cons (ps_if (pt_cmpR op_isN (pv 1) pe_non (nomark _)) (pss_one (ps_ret (pe_cmpR op_isN (pv 0) pe_non (nomark _)))) pss_nil)
        (pss_cons (ps_if (pt_val (pe_callB call_isi (by rfl) N.isi (by decide +kernel) (pa_cons (pv 1) (pa_cons (pe_bltn (v := .ty "str") (by rfl) N.str (by decide +kernel) rfl) pa_nil)))) (pss_one (ps_ret (pe_and (pe_callB call_isi (by rfl) N.isi (by decide +kernel) (pa_cons (pv 0) (pa_cons (pe_bltn (v := .ty "str") (by rfl) N.str (by decide +kernel) rfl) pa_nil))) (pe_one (pe_cmpR op_eq (pv 0) (pv 1) (nomark _)))))) pss_nil)
        (pss_cons (ps_if (pt_val (pe_callB call_isi (by rfl) N.isi (by decide +kernel) (pa_cons (pv 1) (pa_cons (pe_bltn (v := .ty "bool") (by rfl) N.bool (by decide +kernel) rfl) pa_nil)))) (pss_one (ps_ret (pe_and (pe_callB call_isi (by rfl) N.isi (by decide +kernel) (pa_cons (pv 0) (pa_cons (pe_bltn (v := .ty "bool") (by rfl) N.bool (by decide +kernel) rfl) pa_nil))) (pe_one (pe_cmpR op_eq (pv 0) (pv 1) (nomark _)))))) pss_nil)
        (pss_one (ps_ret (pe_and (pe_callB call_isi (by rfl) N.isi (by decide +kernel) (pa_cons (pv 0) (pa_cons (pe_bltn (v := .ty "int") (by rfl) N.int (by decide +kernel) rfl) pa_nil)))
          (pe_and (pe_not (pe_callB call_isi (by rfl) N.isi (by decide +kernel) (pa_cons (pv 0) (pa_cons (pe_bltn (v := .ty "bool") (by rfl) N.bool (by decide +kernel) rfl) pa_nil)))) (pe_one (pe_cmpR op_eq (pv 0) (pv 1) (nomark _)))))))))), ?_⟩
      have kk := k _ sm_refl
      rcases okd_two okd with (hs | ⟨z, rfl⟩) | ⟨m, ds, rfl, rfl, h1, h2⟩
      · cases hs with
        | non =>
          cases dx
          cases dy'
          refine ⟨_, rfl, _, _, _, _, false, rfl, .ty _, .base .non, kit_ty (by decide +kernel), false, rfl, iteF ?_⟩
          exact ⟨_, rfl, rfl, _, rfl, iteT ⟨_, rfl, rfl, kk⟩⟩
        | bl z =>
          cases dx
          cases dy'
          refine ⟨_, rfl, _, _, _, _, false, rfl, .ty _, .base (.bl z), kit_ty (by decide +kernel), false, rfl, iteF ?_⟩
          refine ⟨_, rfl, rfl, _, rfl, iteF ?_⟩
          refine ⟨_, rfl, _, _, _, _, false, rfl, .ty _, .base (.bl z), kit_ty (by decide +kernel), false, rfl, iteF ?_⟩
          refine ⟨_, rfl, _, _, _, _, true, rfl, .ty _, .base (.bl z), kit_ty (by decide +kernel), true, rfl, iteT ?_⟩
          refine ⟨_, rfl, _, _, _, _, true, rfl, .ty _, .base (.bl z), kit_ty (by decide +kernel), true, rfl, ?_⟩
          refine iteT ⟨_, rfl, _, rfl, rfl, ?_⟩
          rw [decide_eq_true rfl]
          exact kk
        | int z =>
          cases dp_int dx
          cases dp_int dy'
          refine ⟨_, rfl, _, _, _, _, false, rfl, .ty _, .base (.int z), kit_ty (by decide +kernel), false, rfl, iteF ?_⟩
          refine ⟨_, rfl, rfl, _, rfl, iteF ?_⟩
          refine ⟨_, rfl, _, _, _, _, false, rfl, .ty _, .base (.int z), kit_ty (by decide +kernel), false, rfl, iteF ?_⟩
          refine ⟨_, rfl, _, _, _, _, false, rfl, .ty _, .base (.int z), kit_ty (by decide +kernel), false, rfl, iteF ?_⟩
          refine ⟨_, rfl, _, _, _, _, true, rfl, .ty _, .base (.int z), kit_ty (by decide +kernel), true, rfl, ?_⟩
          refine iteT ⟨_, rfl, _, _, _, _, false, rfl, .ty _, .base (.int z), kit_ty (by decide +kernel), false, rfl, true, rfl, ?_⟩
          refine iteT ⟨_, rfl, _, rfl, rfl, ?_⟩
          rw [decide_eq_true rfl]
          exact kk
      · cases dp_str dx
        cases dp_str dy'
        refine ⟨_, rfl, _, _, _, _, false, rfl, .ty _, .base (.str z), kit_ty (by decide +kernel), false, rfl, iteF ?_⟩
        refine ⟨_, rfl, rfl, _, rfl, iteF ?_⟩
        refine ⟨_, rfl, _, _, _, _, true, rfl, .ty _, .base (.str z), kit_ty (by decide +kernel), true, rfl, iteT ?_⟩
        refine ⟨_, rfl, _, _, _, _, true, rfl, .ty _, .base (.str z), kit_ty (by decide +kernel), true, rfl, ?_⟩
        refine iteT ⟨_, rfl, _, rfl, rfl, ?_⟩
        rw [decide_eq_true rfl]
        exact kk
      · obtain ⟨a, xs, rfl, sa, da⟩ := dp_tup dx
        obtain ⟨c, ys, rfl, sc, dc⟩ := dp_tup dy'
        have la := dpAll_len da
        have lc := dpAll_len dc
        refine ⟨_, rfl, _, _, _, _, true, rfl, .ty _, tyX_T sc, kit_ty (by decide +kernel), true, rfl, iteT ?_⟩
        refine ⟨_, rfl, _, _, _, _, true, rfl, .ty _, tyX_T sa, kit_ty (by decide +kernel), true, rfl, ?_⟩
        refine iteF ⟨_, rfl, a, xs, rfl, .inr sa, _, rfl, c, ys, rfl, .inr sc, rfl, _, rfl, ?_⟩
        rw [la, lc, show (!decide (V.int (ds.length : Int) = V.int (ds.length : Int))) = false by simp]
        refine iteF ⟨_, rfl, c, ys, rfl, .inr sc, _, rfl, (by omega), (by omega), ?_⟩
        rw [lc]
        refine for_range (n := ds.length) (fun i σ H2 => (∃ v, σ = [some (.ref a), some (.ref c), v]) ∧ Same H H2) ⟨⟨none, rfl⟩, sm_refl⟩ ?_ ?_
        · rintro i σ H2 hi ⟨⟨v, rfl⟩, s2⟩
          have ha : i < xs.length := by omega
          have hc : i < ys.length := by omega
          obtain ⟨e1, q1, p1⟩ := dpAll_get da (List.getElem?_eq_getElem ha)
          obtain ⟨e2, q2, p2⟩ := dpAll_get dc (List.getElem?_eq_getElem hc)
          rw [q1] at q2
          cases q2
          have em := h2 e1 (List.mem_of_getElem? q1)
          exact ⟨_, rfl, _, rfl, .inr (.inl ⟨a, xs, _, _, rfl, rfl, sqT_same s2 sa, atI_some ha, _, rfl, _, rfl, .inr (.inl ⟨c, ys, _, _, rfl, rfl, sqT_same s2 sc, atI_some hc,
            _, _, e1, rfl, dp_same s2 p1, dp_same s2 p2, em, fun H3 s3 => ⟨_, rfl, iteF ⟨⟨_, rfl⟩, s2.trans s3⟩⟩⟩)⟩)⟩
        · rintro σ H2 ⟨_, s2⟩
          exact k _ s2
end
end K8


set_option Elab.async false
set_option linter.all false
set_option maxRecDepth 100000
set_option maxHeartbeats 4000000
/-! a set's table laid anew: there is room -/
namespace Sy
open PySem PySem.Spec PyProof.Rows L2
/-- the masks of small sets -/
def Mk (m : Nat) : Prop := m = 7 ∨ m = 15 ∨ m = 31
def cyc (m : Nat) : Bool := (List.range (m + 1)).all fun i => (List.range (m + 1)).all fun j => (List.range (m + 1)).any fun k => lcgI m i k == j
theorem cyc_of {m : Nat} (h : cyc m = true) {i j : Nat} (hi : i ≤ m) (hj : j ≤ m) : ∃ k, k ≤ m ∧ lcgI m i k = j := by
  have a := List.all_eq_true.mp (List.all_eq_true.mp h i (List.mem_range.mpr (by omega))) j (List.mem_range.mpr (by omega))
  obtain ⟨k, hk, e⟩ := List.any_eq_true.mp a
  exact ⟨k, by have := List.mem_range.mp hk; omega, beq_iff_eq.mp e⟩
theorem cyc7 : cyc 7 = true := by decide +kernel
theorem cyc15 : cyc 15 = true := by decide +kernel
theorem cyc31 : cyc 31 = true := by decide +kernel
theorem cycle {m : Nat} (h : Mk m) {i j : Nat} (hi : i ≤ m) (hj : j ≤ m) : ∃ k, k ≤ m ∧ lcgI m i k = j := by
  rcases h with rfl | rfl | rfl
  · exact cyc_of cyc7 hi hj
  · exact cyc_of cyc15 hi hj
  · exact cyc_of cyc31 hi hj
theorem runEnd_le {m i : Nat} (h : i ≤ m) : i ≤ SetTable.runEnd m i ∧ SetTable.runEnd m i ≤ m := by
  unfold SetTable.runEnd; split <;> omega
theorem leap_le {m i b : Nat} : (SetTable.leap m i b).1 ≤ m := by
  have := Nat.mod_lt (i * 5 + 1 + b / 32) (Nat.succ_pos m)
  exact Nat.le_of_lt_succ this
theorem itL_snd (m : Nat) : ∀ (n i b : Nat), (itL m i b n).2 = b / 32 ^ n
  | 0, _, b => by show b = _; rw [Nat.pow_zero, Nat.div_one]
  | n + 1, i, b => by
    show (itL m (SetTable.leap m i b).1 (b / 32) n).2 = _
    rw [itL_snd m n, Nat.div_div_eq_div_mul, Nat.pow_succ, Nat.mul_comm]
theorem itL_fst_le (m : Nat) : ∀ (n i b : Nat), i ≤ m → (itL m i b n).1 ≤ m
  | 0, _, _, h => h
  | n + 1, i, b, _ => itL_fst_le m n _ _ leap_le
theorem itL_add (m : Nat) : ∀ (a n i b : Nat), itL m i b (a + n) = itL m (itL m i b a).1 (itL m i b a).2 n
  | 0, n, i, b => by rw [Nat.zero_add]; rfl
  | a + 1, n, i, b => by
    rw [show a + 1 + n = (a + n) + 1 by omega]
    exact itL_add m a n _ _
theorem itL_zero (m i : Nat) : ∀ n, itL m i 0 n = (lcgI m i n, 0)
  | 0 => rfl
  | n + 1 => by
    rw [itL_back, itL_zero m i n]
    show ((lcgI m i n * 5 + 1 + 0 / 32) % (m + 1), 0 / 32) = _
    rw [Nat.zero_div, Nat.add_zero]; rfl
theorem free_none {m : Nat} {owner : Array (Option Nat)} : ∀ (f i b : Nat), i ≤ m → SetTable.layClean.free m owner f i b = none → ∀ n, n < f → oAt owner (itL m i b n).1 ≠ none
  | 0, _, _, _, _, n, h => absurd h (Nat.not_lt_zero _)
  | f + 1, i, b, hi, e, n, hn => by
    rw [free_succ] at e
    cases q : (List.range (SetTable.runEnd m i + 1 - i)).find? fun k => (oAt owner (i + k)).isNone with
    | some k => rw [q] at e; exact nomatch e
    | none =>
      rw [q] at e
      cases n with
      | succ n => exact free_none f _ _ leap_le e n (by omega)
      | zero =>
        have z := List.find?_eq_none.mp q 0 (List.mem_range.mpr (by have := runEnd_le hi; omega))
        intro c
        exact z (by show (oAt owner (i + 0)).isNone = true; rw [Nat.add_zero, show oAt owner i = none from c]; rfl)
theorem free_some {m : Nat} {owner : Array (Option Nat)} : ∀ (f i b j : Nat), i ≤ m → SetTable.layClean.free m owner f i b = some j → j ≤ m ∧ oAt owner j = none
  | 0, _, _, _, _, e => nomatch e
  | f + 1, i, b, j, hi, e => by
    rw [free_succ] at e
    cases q : (List.range (SetTable.runEnd m i + 1 - i)).find? fun k => (oAt owner (i + k)).isNone with
    | none => rw [q] at e; exact free_some f _ _ j leap_le e
    | some k =>
      rw [q] at e
      obtain rfl : i + k = j := Option.some.inj e
      have a := List.find?_some q
      have b := List.mem_range.mp (List.mem_of_find?_eq_some q)
      have c := runEnd_le hi
      exact ⟨by omega, Option.isNone_iff_eq_none.mp a⟩
theorem free_ok {m : Nat} (hm : Mk m) (owner : Array (Option Nat)) (h : Int) {j : Nat} (hj : j ≤ m) (hf : oAt owner j = none) :
    ∃ j', SetTable.layClean.free m owner (SetTable.turns m) (SetTable.bits h % (m + 1)) (SetTable.bits h) = some j' ∧ j' ≤ m ∧ oAt owner j' = none := by
  have h0 : SetTable.bits h % (m + 1) ≤ m := Nat.le_of_lt_succ (Nat.mod_lt _ (Nat.succ_pos m))
  cases q : SetTable.layClean.free m owner (SetTable.turns m) (SetTable.bits h % (m + 1)) (SetTable.bits h) with
  | some j' => exact ⟨j', rfl, free_some _ _ _ _ h0 q⟩
  | none =>
    exfalso
    have a := free_none _ _ _ h0 q
    obtain ⟨k, hk, e⟩ := cycle hm (itL_fst_le m 13 _ (SetTable.bits h) h0) hj
    refine a (13 + k) (by unfold SetTable.turns; omega) ?_
    rw [itL_add, itL_snd, Nat.div_eq_of_lt (Nat.lt_of_lt_of_le (bits_lt h) (by decide)), itL_zero]
    show oAt owner (lcgI m _ k) = none
    rw [e]; exact hf
structure Wh (m n : Nat) (owner : Array (Option Nat)) : Prop where
  sz : owner.size = m + 1
  all : ∀ k, k < n → ∃ j, j ≤ m ∧ oAt owner j = some k
  ps : ∃ ps : List Nat, ps.length = n ∧ ∀ j, j ≤ m → oAt owner j ≠ none → j ∈ ps
theorem Wh.step {m n : Nat} (hm : Mk m) {owner : Array (Option Nat)} (W : Wh m n owner) (hl : n ≤ m) (h : Int) :
    ∃ j, SetTable.layClean.free m owner (SetTable.turns m) (SetTable.bits h % (m + 1)) (SetTable.bits h) = some j ∧ Wh m (n + 1) (owner.setIfInBounds j (some n)) := by
  obtain ⟨ps, pl, pi⟩ := W.ps
  obtain ⟨j0, a0, b0⟩ := st_missing ps (m + 1) (by omega)
  obtain ⟨j, e, hj, hn⟩ := free_ok hm owner h (Nat.le_of_lt_succ a0) (Classical.byContradiction fun c => b0 (pi j0 (Nat.le_of_lt_succ a0) c))
  have hs := oAt_set_self (some n) (show j < owner.size by rw [W.sz]; omega)
  refine ⟨j, e, by rw [Array.size_setIfInBounds]; exact W.sz, fun k hk => ?_, j :: ps, by rw [List.length_cons, pl], fun i hi c => ?_⟩
  · rcases Nat.lt_succ_iff_lt_or_eq.mp hk with hk | rfl
    · obtain ⟨i, hi, ei⟩ := W.all k hk
      exact ⟨i, hi, by rw [oAt_set_ne _ (fun z => by rw [z, hn] at ei; exact nomatch ei)]; exact ei⟩
    · exact ⟨j, hj, hs⟩
  · by_cases z : i = j
    · rw [z]; exact List.mem_cons_self
    · rw [oAt_set_ne _ z] at c; exact List.mem_cons_of_mem _ (pi i hi c)
theorem wh_fold {m : Nat} (hm : Mk m) : ∀ (l : List Int) (n : Nat) (owner : Array (Option Nat)), Wh m n owner → n + l.length ≤ m →
    ∃ owner', l.foldl (stepF m) (some (owner, n)) = some (owner', n + l.length) ∧ Wh m (n + l.length) owner'
  | [], n, owner, W, _ => ⟨owner, rfl, W⟩
  | h :: l, n, owner, W, hl => by
    rw [List.length_cons] at hl
    obtain ⟨j, e, W2⟩ := W.step hm (by omega) h
    obtain ⟨o, f, W3⟩ := wh_fold hm l (n + 1) _ W2 (by omega)
    rw [List.length_cons, show n + (l.length + 1) = n + 1 + l.length by omega]
    exact ⟨o, by rw [List.foldl_cons, stepF_some e]; exact f, W3⟩
theorem lay_ok {m : Nat} (hm : Mk m) {hs : Array Int} (hn : hs.size ≤ m) : ∃ owner, SetTable.layClean m hs = some owner ∧ Wh m hs.size owner := by
  have W0 : Wh m 0 (Array.replicate (m + 1) none) := ⟨by simp, fun k hk => absurd hk (Nat.not_lt_zero _), [], rfl, fun j hj e => absurd (oAt_init hj) e⟩
  obtain ⟨o, f, W⟩ := wh_fold hm hs.toList 0 _ W0 (by rw [Array.length_toList]; omega)
  rw [Array.length_toList, Nat.zero_add] at f W
  exact ⟨o, by rw [layClean_eq, f]; rfl, W⟩
/-- a table laid with room: its places fit, its order is a permutation -/
theorem laid_ok {m f mv : Nat} {l p : Bool} (hm : Mk m) {hs : Array Int} (hn : hs.size ≤ m) :
    ∃ t' order, SetTable.laid m f mv l p hs = some (t', order) ∧ order.toList.Perm (List.range hs.size) ∧ t'.fits hs.size = true ∧ Ris t'.place.toList ∧ t'.led = l ∧ t'.mask = m ∧ t'.dummies = #[] := by
  obtain ⟨owner, e, W⟩ := lay_ok hm hn
  have ris := ris_live (fun j => owner.getD j none) (List.range (m + 1)) (by unfold Ris; exact List.pairwise_lt_range)
  have nd : ((liveOf m owner).map (·.1)).Nodup := List.Pairwise.imp (fun h => Nat.ne_of_lt h) ris.1
  have len : (liveOf m owner).length = hs.size := by
    obtain ⟨ps, pl, pi⟩ := W.ps
    have a := nat_nodup_len _ ps nd fun x hx => by
      obtain ⟨⟨y, k⟩, hq, rfl⟩ := List.mem_map.mp hx
      obtain ⟨b1, b2⟩ := (mem_live W.sz).1 hq
      exact pi y b1 (by rw [b2]; exact nofun)
    have b := nat_nodup_len (List.range hs.size) ((liveOf m owner).map (·.2)) List.nodup_range fun k hk => by
      obtain ⟨j, b1, b2⟩ := W.all k (List.mem_range.mp hk)
      exact List.mem_map.mpr ⟨(j, k), (mem_live W.sz).2 ⟨b1, b2⟩, rfl⟩
    rw [List.length_map, pl] at a
    rw [List.length_map, List.length_range] at b
    omega
  refine ⟨{ mask := m, place := ((liveOf m owner).map (·.1)).toArray, dummies := #[], finger := f, led := l, moves := mv, plain := p }, ((liveOf m owner).map (·.2)).toArray, ?_, ?_, ?_, ris.1, rfl, rfl, rfl⟩
  · show (SetTable.layClean m hs).bind _ = _
    rw [e]; rfl
  · refine perm_range _ _ (by show ((liveOf m owner).map (·.2)).length = _; rw [List.length_map]; exact len) fun k hk => ?_
    obtain ⟨j, b1, b2⟩ := W.all k hk
    exact List.mem_map.mpr ⟨(j, k), (mem_live W.sz).2 ⟨b1, b2⟩, rfl⟩
  · unfold SetTable.fits SetTable.fill
    rw [Bool.and_eq_true, beq_iff_eq, decide_eq_true_eq]
    show ((liveOf m owner).map (·.1)).toArray.size = hs.size ∧ ((liveOf m owner).map (·.1)).toArray.size + 0 ≤ m
    rw [List.size_toArray, List.length_map, len]
    omega
theorem relaid_laid (t : SetTable) (hs : Array Int) (wanted : Nat) : t.relaid hs wanted = SetTable.laid (SetTable.sizeAbove wanted - 1) t.finger (t.movedTo (SetTable.sizeAbove wanted - 1)) t.led t.plain hs := rfl
/-- the entries in a permuted order -/
theorem order_perm {α : Type} (es : Array α) {order : Array Nat} (hp : order.toList.Perm (List.range es.size)) : (order.filterMap (es[·]?)).toList.Perm es.toList := by
  rw [Array.toList_filterMap]
  refine (hp.filterMap _).trans ?_
  have key : ∀ n, n ≤ es.size → (List.range n).filterMap (fun i => es[i]?) = es.toList.take n := by
    intro n
    induction n with
    | zero => intro _; rfl
    | succ n ih =>
      intro hn
      have hlt : n < es.toList.length := hn
      rw [List.range_succ, List.filterMap_append, ih (Nat.le_of_lt hn), List.take_succ, List.getElem?_eq_getElem hlt, List.filterMap_cons_some (show es[n]? = some es.toList[n] by rw [← Array.getElem?_toList, List.getElem?_eq_getElem hlt])]
      rfl
  rw [key es.size (Nat.le_refl _), ← Array.length_toList, List.take_length]
end Sy


set_option Elab.async false
set_option linter.all false
set_option maxRecDepth 100000
set_option maxHeartbeats 4000000
/-! sets of texts: walked unseen, put together -/
namespace Sy
open PySem PySem.Spec PyProof.Rows L2 Sx
section
variable {P : Program} {w : World} {A : Around} {E : Value → Shared → Prop} {s : Shared} {a r : Addr} {L K : List Str}
theorem for_keep {α β : Type} {f : α → β → Sem (ForInStep β)} (c : β) {Q : β → Shared → Prop} : ∀ (l : List α), (∀ x ∈ l, ∀ (R : ForInStep β → Shared → Prop), R (.yield c) s → wpAny (model P w) A (f x c) R E s) → Q c s → wpAny (model P w) A (forIn l c f) Q E s
  | [], _, q => by rw [List.forIn_nil]; exact wpAny_pure q
  | x :: l, h, q => by
    rw [List.forIn_cons]
    exact wpAny_bind (h x List.mem_cons_self _ (for_keep c l (fun y hy => h y (List.mem_cons_of_mem _ hy)) q))
theorem quiet {l : List Addr} (h : ∀ b ∈ l, ∃ K, SetS w s.heap b K) {Q : Bool → Shared → Prop} (q : Q true s) : wpAny (model P w) A (setsQuiet l) Q E s := by
  unfold setsQuiet
  refine wpAny_bind (for_keep _ l (fun b hb R hr => ?_) ?_)
  · obtain ⟨K, o, es, ep, t, ho, hx, hd, hs, ht⟩ := h b hb
    refine wpAny_bind (wpAny_setEntries_of ho hd ht.fit ?_)
    refine wpAny_bind ?_
    rw [← Array.forIn_toList]
    refine for_keep _ es.toList (fun e he R hr => ?_) (wpAny_pure hr)
    obtain ⟨x, tk, rfl⟩ := hs.all e he
    exact wpAny_pure hr
  · exact wpAny_pure q
theorem walk_at {o : Obj} {es : Array (Int × Value)} {ep : Nat} {t : SetTable} (ho : s.heap.get? a = some o) (hd : o.data = .set es ep t) (ht : Tab w es t) {Q : Array (Int × Value) → Shared → Prop}
    (q : ∀ (es' : Array (Int × Value)) d, es'.toList.Perm es.toList → Q es' { s with drawn := d }) : wpAny (model P w) A (setWalk a) Q E s := by
  unfold setWalk
  refine wpAny_bind (wpAny_setState_of ho hd ht.fit ?_)
  dsimp only
  refine wpAny_bind (wpAny_byText ?_)
  by_cases b : w.params.followText "set-order" = true
  · refine wp_if_pos b ?_
    exact wpAny_bind (wpAny_askSetting (wpAny_pure (q _ s.drawn (pick_perm _ _))))
  · refine wp_if_neg b ?_
    try refine wpAny_bind (wpAny_pure ?_)
    have bf : w.params.followText "set-order" = false := eq_false_of_ne_true b
    by_cases c : (!t.plain && decide (es.size > 1)) = true
    · refine wp_if_pos (show _ = true from c) ?_
      exact wpAny_bind (drawOrder_at _ _ _ _ (by rw [Array.length_toList]; exact Nat.le_refl _) fun ys d p => wpAny_pure (q _ d p))
    · refine wp_if_neg (show ¬ (_ = true) from c) ?_
      try refine wpAny_bind (wpAny_pure ?_)
      have led : t.led = true := ht.led.resolve_left b
      refine wpAny_bind (wpAny_of_eq (a := ()) ?_ ?_)
      · show (if (!t.led && decide (es.size > 1)) = true then unsupported "set:maker-not-led" else pure ()) = pure ()
        rw [led] <;> rfl
      · exact wpAny_pure (q es s.drawn (.refl _))
/-- walked unseen: the entries in some order; the set that is filled keeps its texts -/
theorem unseen (R : SetS w s.heap a L) {others : List Addr} (ho : ∀ b ∈ others, ∃ K, SetS w s.heap b K) (F : SetS w s.heap r K) {Q : Array (Int × Value) → Shared → Prop}
    (q : ∀ (es' : Array (Int × Value)) h' d, Has w es' L → Heap.SameBut r s.heap h' → SetS w h' r K → Q es' { s with heap := h', drawn := d }) : wpAny (model P w) A (setWalkUnseen a others (some r)) Q E s := by
  obtain ⟨o, es, ep, t, go, hx, hd, hs, ht⟩ := id R
  have wk : wpAny (model P w) A (setWalk a) Q E s := walk_at go hd ht fun es' d p => q es' s.heap d (hs.move p) (.refl _ _) F
  unfold setWalkUnseen
  refine wpAny_bind (wpAny_setState_of go hd ht.fit ?_)
  dsimp only
  refine wpAny_bind (wpAny_byText ?_)
  split
  · exact wk
  · rename_i nb
    have bt : ¬ w.params.followText "set-order" = true := fun z => nb (by rw [z]; rfl)
    try refine wpAny_bind (wpAny_pure ?_)
    refine wpAny_bind (quiet (l := a :: others) (fun b hb => (List.mem_cons.mp hb).elim (fun z => ⟨L, z ▸ R⟩) (ho b)) ?_)
    simp only [Bool.not_true, Bool.false_eq_true, ↓reduceIte]
    try refine wpAny_bind (wpAny_pure ?_)
    refine wpAny_bind (wpAny_rule ?_)
    obtain ⟨o2, es2, ep2, t2, go2, hx2, hd2, hs2, ht2⟩ := id F
    refine wpAny_bind (wpAny_setState_of go2 hd2 ht2.fit ?_)
    dsimp only
    split
    · refine wpAny_bind (wpAny_storeSet_of go2 hd2 ?_ (fits_of_scanBound ht2.few))
      refine wpAny_pure (q es _ s.drawn hs (Heap.SameBut.update _ _ _) ⟨_, es2, ep2 + 1, _, laidAt go2 hd2, hx2, rfl, hs2, ht2.few, ht2.fit, ht2.ris, ?_⟩)
      refine ht2.led.imp_right fun z => ?_
      show (t2.led && t.led) = true
      rw [z, ht.led.resolve_left bt]; rfl
    · exact wpAny_pure (q es s.heap s.drawn hs (.refl _ _) F)

/-- a small set whose table is known -/
def SetM (w : World) (h : Heap) (a : Addr) (L : List Str) : Prop := ∃ o es ep t, h.get? a = some o ∧ o.ExactSet ∧ o.data = .set es ep t ∧ Has w es L ∧ Tab w es t ∧ Mk t.mask ∧ t.dummies = #[]
theorem SetM.set {h : Heap} (R : SetM w h a L) : SetS w h a L := let ⟨o, es, ep, t, p, q, u, v, x, _⟩ := R; ⟨o, es, ep, t, p, q, u, v, x⟩
theorem setM_new (h : Heap) : SetM w (h.push { cls := .type "set", dict := none, data := .set #[] 0 (.fresh 0 0 (!w.params.followText "set-order")) }) h.objs.size [] := by
  refine ⟨_, #[], 0, _, Heap.get?_push_size _ rfl, ⟨rfl, rfl, rfl⟩, rfl, ⟨fun e he => (by simp at he), .refl _, List.Pairwise.nil⟩, ⟨by decide, rfl, List.Pairwise.nil, ?_⟩, .inl rfl, rfl⟩
  show _ ∨ (!w.params.followText "set-order") = true
  cases w.params.followText "set-order" <;> first | exact .inl rfl | exact .inr rfl
theorem above_mk : ∀ n, n ≤ 16 → Mk (SetTable.sizeAbove n - 1) := by
  have k : ((List.range 17).all fun n => (SetTable.sizeAbove n - 1 == 7) || (SetTable.sizeAbove n - 1 == 15) || (SetTable.sizeAbove n - 1 == 31)) = true := by decide +kernel
  intro n hn
  have := List.all_eq_true.mp k n (List.mem_range.mpr (by omega))
  simp only [Bool.or_eq_true, beq_iff_eq] at this
  rcases this with (h | h) | h
  · exact .inl h
  · exact .inr (.inl h)
  · exact .inr (.inr h)
theorem mk_ge {m : Nat} (h : Mk m) : 7 ≤ m ∧ m ≤ 31 := by rcases h with rfl | rfl | rfl <;> decide
theorem room_ok (M : SetM w s.heap r L) (hL : L.length ≤ 4) {n : Nat} (hn : n ≤ 4) {Q : Unit → Shared → Prop} (q : ∀ h', Heap.SameBut r s.heap h' → SetM w h' r L → Q () { s with heap := h' }) :
    wpAny (model P w) A (setRoomFor r n) Q E s := by
  obtain ⟨o, es, ep, t, ho, hx, hd, hs, ht, hm, hdm⟩ := id M
  have sz : es.size = L.length := hs.len.symm
  unfold setRoomFor
  refine wpAny_bind (wpAny_setState_of ho hd ht.fit ?_)
  dsimp only
  cases c : t.roomFor n with
  | none => exact wpAny_pure (q s.heap (.refl _ _) M)
  | some wanted =>
    dsimp only
    have pl : t.place.size = es.size := by
      have := ht.fit
      unfold SetTable.fits at this
      rw [Bool.and_eq_true, beq_iff_eq] at this
      exact this.1
    have hw : wanted ≤ 16 := by
      unfold SetTable.roomFor at c
      split at c
      · obtain rfl := Option.some.inj c
        omega
      · exact nomatch c
    have mk := above_mk wanted hw
    have mg := mk_ge mk
    obtain ⟨t', order, e, hp, hf, ri, le, em, ed⟩ := laid_ok (f := t.finger) (mv := t.movedTo (SetTable.sizeAbove wanted - 1)) (l := t.led) (p := t.plain) mk (hs := es.map (·.1)) (by rw [Array.size_map]; omega)
    rw [Array.size_map] at hp hf
    have op := order_perm es hp
    have os : (order.filterMap (es[·]?)).size = es.size := by have := op.length_eq; rwa [Array.length_toList, Array.length_toList] at this
    rw [setRelay_eq]
    refine wpAny_bind (wpAny_setState_of ho hd ht.fit ?_)
    dsimp only
    refine wp_if_neg (by rw [sizeLine_eq]; omega) ?_
    try refine wpAny_bind (wpAny_pure ?_)
    rw [relaid_laid, e]
    dsimp only
    refine wpAny_bind ?_
    refine wp_if_neg (by rw [os]; simp) ?_
    try refine wpAny_bind (wpAny_pure ?_)
    refine wpAny_pure ?_
    dsimp only
    refine wpAny_storeSet_of ho hd ?_ (by rw [os, sz, sizeLine_eq]; omega)
    exact q _ (Heap.SameBut.update ..) ⟨_, _, ep + 1, t', laidAt ho hd, hx, rfl, hs.move op, ⟨by rw [os]; exact ht.few, by rw [os]; exact hf, ri, by rw [le]; exact ht.led⟩, by rw [em]; exact mk, ed⟩
theorem each_ok {o : Addr} {g : Str → List Str → List Str} {f : Int × Value → PUnit → Sem (ForInStep PUnit)} {ob : Obj} (grow : ∀ x L, (g x L).length ≤ L.length + 1)
    (hf : ∀ (x : Str) (tk : Tok) (s' : Shared) (L' : List Str) (R : ForInStep PUnit → Shared → Prop), SetS w s'.heap r L' → s'.heap.get? o = some ob → L'.length + 1 < scanBound → (∀ h', Heap.SameBut r s'.heap h' → SetS w h' r (g x L') → R (.yield ()) { s' with heap := h' }) → wpAny (model P w) A (f (hashStr w x, .str x tk) ()) R E s')
    (ne : o ≠ r) {Q : PUnit → Shared → Prop} : ∀ (l : List (Int × Value)) (s : Shared) (L : List Str), (∀ e ∈ l, IsTxt w e) → SetS w s.heap r L → s.heap.get? o = some ob → L.length + l.length < scanBound →
    (∀ h', Heap.SameBut r s.heap h' → SetS w h' r ((l.map txt).foldl (fun M x => g x M) L) → Q () { s with heap := h' }) → wpAny (model P w) A (forIn l () f) Q E s
  | [], s, L, _, R, _, _, q => by rw [List.forIn_nil]; exact wpAny_pure (q s.heap (.refl _ _) R)
  | e :: l, s, L, al, R, ho, few, q => by
    rw [List.forIn_cons]
    obtain ⟨x, tk, rfl⟩ := al e List.mem_cons_self
    rw [List.length_cons] at few
    refine wpAny_bind (hf x tk s L _ R ho (by omega) fun h' sb R' => ?_)
    exact each_ok grow hf ne l { s with heap := h' } (g x L) (fun y hy => al y (List.mem_cons_of_mem _ hy)) R' ((sb.2 o ne).trans ho) (by have := grow x L; omega) fun h2 sb2 R2 => q h2 (sb.trans sb2) R2
def uni (L K : List Str) : List Str := K.foldl (fun M x => ins x M) L
theorem mem_ins {x y : Str} {L : List Str} : y ∈ ins x L ↔ y = x ∨ y ∈ L := by
  unfold ins; split
  · rename_i h; exact ⟨.inr, fun z => z.elim (fun e => e ▸ h) id⟩
  · exact List.mem_cons
theorem mem_uni {y : Str} : ∀ {K L : List Str}, y ∈ uni L K ↔ y ∈ L ∨ y ∈ K
  | [], L => by unfold uni; simp
  | x :: K, L => by
    show y ∈ uni (ins x L) K ↔ _
    rw [mem_uni, mem_ins, List.mem_cons]
    constructor
    · rintro ((h | h) | h) <;> simp [h]
    · rintro (h | h | h) <;> simp [h]
theorem ins_len (x : Str) (L : List Str) : (ins x L).length ≤ L.length + 1 := by unfold ins; split <;> simp
theorem ins_nodup {x : Str} {L : List Str} (h : L.Nodup) : (ins x L).Nodup := by
  unfold ins
  split
  · exact h
  · rename_i n
    exact List.nodup_cons.mpr ⟨n, h⟩
theorem uni_nodup : ∀ {K L : List Str}, L.Nodup → (uni L K).Nodup
  | [], _, h => h
  | _ :: K, _, h => uni_nodup (K := K) (ins_nodup h)
theorem SetS.once {h : Heap} (R : SetS w h a L) : L.Nodup := let ⟨_, _, _, _, _, _, _, v, _⟩ := R; v.once
theorem SetS.perm {h : Heap} {L' : List Str} (R : SetS w h a L) (p : L.Perm L') : SetS w h a L' := let ⟨o, es, ep, t, go, hx, hd, hs, ht⟩ := R; ⟨o, es, ep, t, go, hx, hd, ⟨hs.all, hs.perm.trans p, p.nodup_iff.mp hs.once⟩, ht⟩
theorem perm_of_mem {L L' : List Str} (a : L.Nodup) (b : L'.Nodup) (h : ∀ x, x ∈ L ↔ x ∈ L') : L.Perm L' := (List.perm_ext_iff_of_nodup a b).mpr h
end
end Sy


set_option Elab.async false
set_option linter.all false
set_option maxRecDepth 100000
set_option maxHeartbeats 4000000
/-! sets of texts: one put into another -/
namespace Sy
open PySem PySem.Spec PyProof.Rows L2 Sx
section
variable {P : Program} {w : World} {A : Around} {E : Value → Shared → Prop} {s : Shared} {a r : Addr} {L K : List Str}
/-- each: what is asked at each step holds while the walked set stays -/
def Quiet (P : Program) (w : World) (A : Around) (E : Value → Shared → Prop) (o : Addr) (ob : Obj) (each : Sem Unit) : Prop := ∀ (s' : Shared) (R : Unit → Shared → Prop), s'.heap.get? o = some ob → R () s' → wpAny (model P w) A each R E s'
theorem merge_ok {o : Addr} {each : Sem Unit} (M : SetM w s.heap r L) (O : SetS w s.heap o K) (hL : L.length ≤ 4) (hK : K.length ≤ 4) (ne : o ≠ r)
    (he : ∀ ob, s.heap.get? o = some ob → Quiet P w A E o ob each) {Q : Unit → Shared → Prop}
    (q : ∀ h' d, Heap.SameBut r s.heap h' → SetS w h' r (uni L K) → (L = [] → SetM w h' r (uni L K)) → Q () { s with heap := h', drawn := d }) : wpAny (model P w) A (setMerge r o each) Q E s := by
  obtain ⟨ob, eo, epo, to, ho, hxo, hdo, hso, hto⟩ := id O
  unfold setMerge
  refine wp_if_neg (by simpa using fun z => ne z.symm) ?_
  try refine wpAny_bind (wpAny_pure ?_)
  refine wpAny_bind (wpAny_setState_of ho hdo hto.fit ?_)
  dsimp only
  by_cases emp : K = []
  · have : eo.isEmpty = true := by have := hso.len; rw [emp] at this; exact Array.isEmpty_iff_size_eq_zero.mpr this.symm
    refine wp_if_pos this ?_
    subst emp
    exact wpAny_pure (q s.heap s.drawn (.refl _ _) M.set fun _ => M)
  · have kn : eo.size ≠ 0 := by rw [← hso.len]; exact fun z => emp (List.eq_nil_of_length_eq_zero z)
    refine wp_if_neg (by rw [Array.isEmpty_iff_size_eq_zero]; exact kn) ?_
    try refine wpAny_bind (wpAny_pure ?_)
    refine wpAny_bind (room_ok M hL (by rw [← hso.len]; exact hK) fun h1 sb1 M1 => ?_)
    have ho1 : h1.get? o = some ob := (sb1.2 o ne).trans ho
    obtain ⟨obr, er, epr, tr, hor, hxr, hdr, hsr, htr, hm, hdm⟩ := id M1
    refine wpAny_bind (wpAny_setState_of hor hdr htr.fit ?_)
    dsimp only
    have pl : tr.place.size = er.size := by
      have := htr.fit
      unfold SetTable.fits at this
      rw [Bool.and_eq_true, beq_iff_eq] at this
      exact this.1
    have fl : tr.fill = L.length := by
      unfold SetTable.fill
      rw [pl, hdm, ← hsr.len]; rfl
    have fin : ∀ {h2 es2 t2}, Heap.SameBut r s.heap h2 → (∃ ob2 ep2, h2.get? r = some ob2 ∧ ob2.ExactSet ∧ ob2.data = .set es2 ep2 t2) → Has w es2 K → Tab w es2 t2 → Mk t2.mask → t2.dummies = #[] → L = [] → Q () { s with heap := h2 } := by
      intro h2 es2 t2 sb ⟨ob2, ep2, g1, g2, g3⟩ hs ht mk dm e
      subst e
      have R : SetM w h2 r K := ⟨ob2, es2, ep2, t2, g1, g2, g3, hs, ht, mk, dm⟩
      have pm : K.Perm (uni [] K) := perm_of_mem hso.once (uni_nodup List.nodup_nil) fun x => by rw [mem_uni]; simp
      have R2 : SetM w h2 r (uni [] K) := ⟨ob2, es2, ep2, t2, g1, g2, g3, ⟨hs.all, hs.perm.trans pm, pm.nodup_iff.mp hs.once⟩, ht, mk, dm⟩
      exact q h2 s.drawn sb R2.set fun _ => R2
    cases c : tr.road to with
    | slotForSlot =>
      have l0 : tr.fill = 0 ∧ tr.mask = to.mask ∧ to.dummies = #[] := by
        unfold SetTable.road at c
        split at c
        · exact nomatch c
        · rename_i z
          split at c
          · rename_i y
            rw [Bool.and_eq_true, beq_iff_eq] at y
            exact ⟨by simpa using z, y.1, Array.isEmpty_iff.mp y.2⟩
          · exact nomatch c
      have le : L = [] := List.eq_nil_of_length_eq_zero (by omega)
      dsimp only
      refine wpAny_storeSet_of hor hdr ?_ (fits_of_scanBound hto.few)
      refine fin (sb1.trans (Heap.SameBut.update ..)) ⟨_, epr + 1, laidAt hor hdr, hxr, rfl⟩ hso ⟨hto.few, hto.fit, hto.ris, ?_⟩ (by show Mk to.mask; rw [← l0.2.1]; exact hm) l0.2.2 le
      rcases htr.led with x | x
      · exact .inl x
      · refine hto.led.imp_right fun y => ?_
        show (tr.led && to.led) = true
        rw [x, y]; rfl
    | clean =>
      have l0 : tr.fill = 0 := by
        unfold SetTable.road at c
        split at c
        · exact nomatch c
        · rename_i z; simpa using z
      have le : L = [] := List.eq_nil_of_length_eq_zero (by omega)
      have mg := mk_ge hm
      obtain ⟨t', order, e, hp, hf, ri, led, em, ed⟩ := laid_ok (f := tr.finger) (mv := tr.moves) (l := tr.led && to.led) (p := tr.plain && to.plain) hm (hs := eo.map (·.1)) (by rw [Array.size_map, ← hso.len]; omega)
      rw [Array.size_map] at hp hf
      have op := order_perm eo hp
      have os : (order.filterMap (eo[·]?)).size = eo.size := by have := op.length_eq; rwa [Array.length_toList, Array.length_toList] at this
      dsimp only
      rw [e]
      refine wpAny_bind ?_
      show wpAny _ _ (if ((order.filterMap (eo[·]?)).size != eo.size) = true then _ else _) _ _ _
      refine wp_if_neg (by rw [os]; simp) ?_
      try refine wpAny_bind (wpAny_pure ?_)
      refine wpAny_pure ?_
      dsimp only
      refine wpAny_storeSet_of hor hdr ?_ (by rw [os, ← hso.len, sizeLine_eq]; omega)
      refine fin (sb1.trans (Heap.SameBut.update ..)) ⟨_, epr + 1, laidAt hor hdr, hxr, rfl⟩ (hso.move op) ⟨by rw [os]; exact hto.few, by rw [os]; exact hf, ri, ?_⟩ (by rw [em]; exact hm) ed le
      rw [led]
      rcases htr.led with x | x
      · exact .inl x
      · refine hto.led.imp_right fun y => ?_
        rw [x, y]; rfl
    | oneByOne =>
      have ln : L ≠ [] := by
        rintro rfl
        unfold SetTable.road at c
        rw [if_neg (by rw [fl]; simp)] at c
        split at c <;> exact nomatch c
      dsimp only
      have O1 : SetS w h1 o K := ⟨ob, eo, epo, to, ho1, hxo, hdo, hso, hto⟩
      refine wpAny_bind (unseen (s := { s with heap := h1 }) O1 (fun b hb => ⟨L, by rw [List.mem_singleton.mp hb]; exact M1.set⟩) M1.set fun es' h2 d hs2 sb2 R2 => ?_)
      have ho2 : h2.get? o = some ob := (sb2.2 o ne).trans ho1
      rw [← Array.forIn_toList]
      have tx : ∀ {h' : Heap}, (es'.toList.map txt).Perm K := hs2.perm
      refine wpAny_bind (each_ok (P := P) (A := A) (g := fun x M => ins x M) (ob := ob) ins_len (fun x tk s' L' R RS g few k => ?_) ne es'.toList { s with heap := h2, drawn := d } L hs2.all R2 ho2 (by have := hs2.len; have z : es'.toList.length = es'.size := rfl; show L.length + _ < 4096; omega) fun h3 sb3 R3 => wpAny_pure ?_)
      · dsimp only
        refine wpAny_bind (wpAny_holding (add_hashed RS few fun b h' sb RS' => ?_))
        have g' : h'.get? o = some ob := (sb.2 o ne).trans g
        refine wpAny_bind (he ob ho { s' with heap := h' } _ g' ?_)
        refine wpAny_bind (wpAny_setState_of (s := { s' with heap := h' }) g' hdo hto.fit ?_)
        dsimp only
        refine wp_if_neg (by simp) ?_
        try refine wpAny_bind (wpAny_pure ?_)
        exact wpAny_pure (k h' sb RS')
      · refine q h3 d (sb1.trans (sb2.trans sb3)) (SetS.perm R3 (perm_of_mem (SetS.once R3) (uni_nodup (SetS.once M.set)) fun x => ?_)) fun z => absurd z ln
        rw [show List.foldl (fun M x => ins x M) L (es'.toList.map txt) = uni L (es'.toList.map txt) from rfl, mem_uni, mem_uni, hs2.perm.mem_iff]
end
end Sy


set_option Elab.async false
set_option linter.all false
set_option maxRecDepth 100000
set_option maxHeartbeats 4000000
/-! set(t) of a tuple of texts -/
namespace Sy
open PySem PySem.Spec PyProof.Rows L2 Sx
section
variable {P : Program} {w : World} {A : Around} {E : Value → Shared → Prop}
theorem uni_len : ∀ (K L : List Str), (uni L K).length ≤ L.length + K.length
  | [], L => Nat.le_refl _
  | x :: K, L => by
    have a := uni_len K (ins x L)
    have b := ins_len x L
    show (uni (ins x L) K).length ≤ _
    rw [List.length_cons]; omega
theorem fill_loop {I : Addr} {fp wr : List Addr} {G : Array GenState → Array GenState → Prop} {n : Nat} {Pv : Nat → Value → Prop} {St : Nat → Shared → Prop} {R : Result → Shared → Prop}
    (W : WalksS P w A.in1 I fp wr G n Pv St) {a : Addr} (hf : a ∉ fp) {xs : List Str} (hn : n = xs.length) (hv : ∀ i v, Pv i v → ∃ x t, xs[i]? = some x ∧ v = .str x t) :
    ∀ (m i : Nat) (s : Shared) (L : List Str), i + m = n → St i s → SetS w s.heap a L → L.length + m + 1 < scanBound →
      (∀ s', Moved (a :: wr) G s s' → SetS w s'.heap a (uni L (xs.drop i)) → R (.ok (.ret .none)) s') → codeAny (model P w) A (.builtin "set.update.loop" ⟨[.ref a, .ref I], []⟩) R s := by
  have hw : a ∉ wr := fun h => hf (W.sub _ h)
  have up : ∀ b ∈ wr, b ∈ a :: wr := fun b hb => List.mem_cons_of_mem _ hb
  intro m
  induction m with
  | zero =>
    intro i s L e st S _ q
    obtain rfl : i = n := by omega
    refine codeAny_builtin F.entry_set_update_loop ?_
    rw [Around.under_plainId F.plain_set_update_loop _]
    show wpAny _ A.in1 (pyNext (.ref I) >>= _) _ _ s
    refine wpAny_bind (W.done s _ _ st fun s' mv => ?_)
    show wpAny _ A.in1 (ret Value.none) _ _ s'
    refine wpAny_pure (q s' (mv.mono up) ?_)
    rw [List.drop_eq_nil_of_le (by omega)]
    exact SetS.keep S fun o g => mv.heap a o hw g
  | succ m ih =>
    intro i s L e st S few q
    refine codeAny_builtin F.entry_set_update_loop ?_
    rw [Around.under_plainId F.plain_set_update_loop _]
    show wpAny _ A.in1 (pyNext (.ref I) >>= _) _ _ s
    refine wpAny_bind (W.item i s _ _ (by omega) st fun v s' pv st' mv => ?_)
    obtain ⟨x, t, hx, rfl⟩ := hv i v pv
    have S' : SetS w s'.heap a L := SetS.keep S fun o g => mv.heap a o hw g
    show wpAny _ A.in1 (holding [Value.str x t] (setAdd a (.str x t)) >>= _) _ _ s'
    refine wpAny_bind (wpAny_holding ?_)
    unfold setAdd
    refine wpAny_holding (wpAny_bind ((strKind P w).pyHash (strKind_is P w x t) ?_))
    refine add_hashed (s := { s' with toks := s'.toks + 1 }) S' (by omega) fun b h' sb S2 => ?_
    have same : ∀ b, b ≠ a → h'.get? b = s'.heap.get? b := sb.2
    have ed : xs.drop i = x :: xs.drop (i + 1) := by
      obtain ⟨hi, hx'⟩ := List.getElem?_eq_some_iff.mp hx
      rw [List.drop_eq_getElem_cons hi, hx']
    refine wpAny_pure ⟨plainId_quiet F.plain_set_update_loop _, ih (i + 1) _ (ins x L) (by omega) (W.frame _ s' _ _ st' (Nat.le_succ _) fun b hb o g => ?_) S2 (by have := ins_len x L; omega) fun s2 mv2 S3 => ?_⟩
    · exact (same b fun z => hf (z ▸ hb)).trans g
    · refine q s2 (Moved.trans W.gtrans ((mv.mono up).then_heap (Nat.le_succ _) fun b o hb g => ?_) mv2) ?_
      · exact (same b fun z => hb (z ▸ List.mem_cons_self)).trans g
      · rw [ed]; exact S3
variable {s : Shared}
theorem set_made {l : Addr} {items : Array Value} {xs : List Str} {Q : Value → Shared → Prop} (hh : A.handled = none) (hl : s.heap.IsTuple l items) (hz : items.size = xs.length) (hv : ∀ (i : Nat) (v : Value), items[i]? = some v → ∃ x t, xs[i]? = some x ∧ v = Value.str x t) (few : xs.length + 1 < scanBound)
    (q : ∀ (h' : Heap) (tk : Nat), SetS w h' s.heap.objs.size (uni [] xs) → (∀ b o, s.heap.get? b = some o → h'.get? b = some o) → Q (.ref s.heap.objs.size) { s with heap := h', toks := tk }) :
    wpAny (model P w) A (call (.type "set") [.ref l]) Q E s := by
  obtain ⟨cm, tm, hmro⟩ := F.called_set.mro
  have made := F.called_set.made
  have sub0 := F.called_set.sub
  have nt := F.called_set.notType
  have cc := F.called_set.canCreate
  have tc := F.typeCall_set_1 (.ref l)
  have li := F.called_set.init.lookup
  have ni := F.sub_tuple_set
  have nf := F.sub_tuple_frozenset
  have nd : (Value.type "tuple" == Value.type "dict") = false := by decide
  obtain ⟨ol, gl, cl, nl, dl⟩ := id hl
  have lt : l < s.heap.objs.size := Heap.lt_size gl
  refine wpAny_call (codeAny_of_tree ?_)
  show wpAny _ _ (callAny (.type "set") _) _ _ _
  refine wpAny_pure ⟨Code.quiet_builtin _ (by decide +kernel), codeAny_builtin F.entry_type_call ?_⟩
  rw [Around.under_plain (weight_type_call_type "set" [.ref l] []) rfl]
  repeat (any_goals (first | assumption | wp_step))
  generalize hk : s.heap.push { cls := .type "set", dict := none, data := .set #[] 0 (.fresh 0 0 (!w.params.followText "set-order")) } = k0
  have z0 : k0.objs.size = s.heap.objs.size + 1 := by rw [← hk]; exact Heap.size_push ..
  have S0 : SetS w k0 s.heap.objs.size [] := by rw [← hk]; exact new_txt s.heap
  have hS : k0.get? s.heap.objs.size = some { cls := .type "set", dict := none, data := .set #[] 0 (.fresh 0 0 (!w.params.followText "set-order")) } := by rw [← hk]; exact Heap.get?_push_size _ rfl
  have g0 : ∀ b o, s.heap.get? b = some o → k0.get? b = some o := fun b o g => by rw [← hk]; exact Heap.get?_push_of_some _ g
  have ty : Shared.TypeIs { s with heap := k0 } (.ref s.heap.objs.size) "set" := by obtain ⟨o, _, _, _, g, x, _⟩ := id S0; exact ⟨o, g, x.1⟩
  refine codeAny_mono (code_set_led1 (.ref l) (E := E) (Q₁ := fun v s1 => v = .ref s.heap.objs.size ∧ s1 = { s with heap := k0 }) ⟨rfl, by rw [hk]⟩) fun r s1 hr => ?_
  rcases r with e | fl
  · exact hr
  cases fl with
  | ret v =>
    obtain ⟨rfl, rfl⟩ := hr
    have bi := F.called_set.init.bind (.ref s.heap.objs.size)
    repeat (any_goals (first | assumption | wp_step))
    refine codeAny_mono (codeAny_call_builtin (R := wants (fun v s2 => v = .none ∧ ∃ h' tk, s2 = { s with heap := h', toks := tk } ∧ SetS w h' s.heap.objs.size (uni [] xs) ∧ (∀ b o, s.heap.get? b = some o → h'.get? b = some o)) E)
      F.called_set.init.plain F.entry_set_init (check_set_init_1 ty ?_)) fun r2 s2 hr2 => ?_
    · obtain ⟨oc, odc, od, os⟩ := ol
      simp only at cl dl
      subst cl; subst dl
      have gl0 := g0 l _ gl
      have hl0 : k0.IsTuple l items := ⟨_, gl0, rfl, nl, rfl⟩
      unfold Builtin.«set.__init__» noKeywords Builtin.Frozenset.updateFrom
      generalize hp : pyIter = pit
      wp_walk
      subst hp
      refine wpAny_pyIter_tuple (s := { s with heap := k0 }) hl0 ?_
      refine wpAny_bind (wpAny_runValue ?_)
      have hh3 : A.in1.in1.in1.handled = none := by simp [hh]
      have ne : l ≠ k0.objs.size := by rw [z0]; exact Nat.ne_of_lt (Nat.lt_succ_of_lt lt)
      refine fill_loop ((Walks.tuple hh3 _ l ne items).toS) (a := s.heap.objs.size) (xs := xs) ?_ hz hv items.size 0 _ [] (by omega) ⟨⟨_, Heap.get?_push_size _ rfl, rfl, rfl⟩, hl0.push _⟩ (SetS.keep S0 fun o g => Heap.get?_push_of_some _ g) (by rw [hz]; simpa using few) fun s' mv S' => ?_
      · simp only [List.mem_cons, List.not_mem_nil, or_false, not_or]
        exact ⟨by rw [z0]; exact Nat.ne_of_lt (Nat.lt_succ_self _), Nat.ne_of_gt lt⟩
      · obtain ⟨h', g2, d', t', o'⟩ := s'
        obtain rfl : g2 = s.gens := mv.gens
        obtain rfl : d' = s.drawn := mv.drawn
        obtain rfl : o' = s.os := mv.os
        refine wpAny_pure ?_
        show wpAny _ _ (ret Value.none) _ _ _
        refine wpAny_pure ⟨rfl, h', t', rfl, S', fun b o g => mv.heap b o ?_ (Heap.get?_push_of_some _ (g0 b o g))⟩
        have lb := Heap.lt_size g
        simp only [List.mem_cons, List.not_mem_nil, or_false, not_or]
        exact ⟨Nat.ne_of_lt lb, by rw [z0]; exact Nat.ne_of_lt (Nat.lt_succ_of_lt lb)⟩
    · rcases r2 with e | fl2
      · exact hr2
      cases fl2 with
      | ret v2 =>
        obtain ⟨rfl, h', tk, rfl, S', kp⟩ := hr2
        repeat (any_goals (first | assumption | wp_step))
        exact q h' tk S' kp
      | _ => exact hr2.elim
  | _ => exact hr.elim
theorem set_madeL {l : Addr} {items : Array Value} {xs : List Str} {Q : Value → Shared → Prop} (hh : A.handled = none) (hl : s.heap.IsList l items) (hz : items.size = xs.length) (hv : ∀ (i : Nat) (v : Value), items[i]? = some v → ∃ x t, xs[i]? = some x ∧ v = Value.str x t) (few : xs.length + 1 < scanBound)
    (q : ∀ (h' : Heap) (tk : Nat), SetS w h' s.heap.objs.size (uni [] xs) → (∀ b o, s.heap.get? b = some o → h'.get? b = some o) → Q (.ref s.heap.objs.size) { s with heap := h', toks := tk }) :
    wpAny (model P w) A (call (.type "set") [.ref l]) Q E s := by
  obtain ⟨cm, tm, hmro⟩ := F.called_set.mro
  have made := F.called_set.made
  have sub0 := F.called_set.sub
  have nt := F.called_set.notType
  have cc := F.called_set.canCreate
  have tc := F.typeCall_set_1 (.ref l)
  have li := F.called_set.init.lookup
  have ni := F.sub_list_set
  have nf := F.sub_list_frozenset
  have nd : (Value.type "list" == Value.type "dict") = false := by decide
  obtain ⟨ol, gl, cl, nl, dl⟩ := id hl
  have lt : l < s.heap.objs.size := Heap.lt_size gl
  refine wpAny_call (codeAny_of_tree ?_)
  show wpAny _ _ (callAny (.type "set") _) _ _ _
  refine wpAny_pure ⟨Code.quiet_builtin _ (by decide +kernel), codeAny_builtin F.entry_type_call ?_⟩
  rw [Around.under_plain (weight_type_call_type "set" [.ref l] []) rfl]
  repeat (any_goals (first | assumption | wp_step))
  generalize hk : s.heap.push { cls := .type "set", dict := none, data := .set #[] 0 (.fresh 0 0 (!w.params.followText "set-order")) } = k0
  have z0 : k0.objs.size = s.heap.objs.size + 1 := by rw [← hk]; exact Heap.size_push ..
  have S0 : SetS w k0 s.heap.objs.size [] := by rw [← hk]; exact new_txt s.heap
  have hS : k0.get? s.heap.objs.size = some { cls := .type "set", dict := none, data := .set #[] 0 (.fresh 0 0 (!w.params.followText "set-order")) } := by rw [← hk]; exact Heap.get?_push_size _ rfl
  have g0 : ∀ b o, s.heap.get? b = some o → k0.get? b = some o := fun b o g => by rw [← hk]; exact Heap.get?_push_of_some _ g
  have ty : Shared.TypeIs { s with heap := k0 } (.ref s.heap.objs.size) "set" := by obtain ⟨o, _, _, _, g, x, _⟩ := id S0; exact ⟨o, g, x.1⟩
  refine codeAny_mono (code_set_led1 (.ref l) (E := E) (Q₁ := fun v s1 => v = .ref s.heap.objs.size ∧ s1 = { s with heap := k0 }) ⟨rfl, by rw [hk]⟩) fun r s1 hr => ?_
  rcases r with e | fl
  · exact hr
  cases fl with
  | ret v =>
    obtain ⟨rfl, rfl⟩ := hr
    have bi := F.called_set.init.bind (.ref s.heap.objs.size)
    repeat (any_goals (first | assumption | wp_step))
    refine codeAny_mono (codeAny_call_builtin (R := wants (fun v s2 => v = .none ∧ ∃ h' tk, s2 = { s with heap := h', toks := tk } ∧ SetS w h' s.heap.objs.size (uni [] xs) ∧ (∀ b o, s.heap.get? b = some o → h'.get? b = some o)) E)
      F.called_set.init.plain F.entry_set_init (check_set_init_1 ty ?_)) fun r2 s2 hr2 => ?_
    · obtain ⟨oc, odc, od, os⟩ := ol
      simp only at cl dl
      subst cl; subst dl
      have gl0 := g0 l _ gl
      have hl0 : k0.IsList l items := ⟨_, gl0, rfl, nl, rfl⟩
      unfold Builtin.«set.__init__» noKeywords Builtin.Frozenset.updateFrom
      generalize hp : pyIter = pit
      wp_walk
      subst hp
      refine wpAny_pyIter_list (s := { s with heap := k0 }) hl0 ?_
      refine wpAny_bind (wpAny_runValue ?_)
      have hh3 : A.in1.in1.in1.handled = none := by simp [hh]
      have ne : l ≠ k0.objs.size := by rw [z0]; exact Nat.ne_of_lt (Nat.lt_succ_of_lt lt)
      refine fill_loop ((Walks.list hh3 _ l ne items).toS) (a := s.heap.objs.size) (xs := xs) ?_ hz hv items.size 0 _ [] (by omega) ⟨⟨_, Heap.get?_push_size _ rfl, rfl, rfl⟩, hl0.push _⟩ (SetS.keep S0 fun o g => Heap.get?_push_of_some _ g) (by rw [hz]; simpa using few) fun s' mv S' => ?_
      · simp only [List.mem_cons, List.not_mem_nil, or_false, not_or]
        exact ⟨by rw [z0]; exact Nat.ne_of_lt (Nat.lt_succ_self _), Nat.ne_of_gt lt⟩
      · obtain ⟨h', g2, d', t', o'⟩ := s'
        obtain rfl : g2 = s.gens := mv.gens
        obtain rfl : d' = s.drawn := mv.drawn
        obtain rfl : o' = s.os := mv.os
        refine wpAny_pure ?_
        show wpAny _ _ (ret Value.none) _ _ _
        refine wpAny_pure ⟨rfl, h', t', rfl, S', fun b o g => mv.heap b o ?_ (Heap.get?_push_of_some _ (g0 b o g))⟩
        have lb := Heap.lt_size g
        simp only [List.mem_cons, List.not_mem_nil, or_false, not_or]
        exact ⟨Nat.ne_of_lt lb, by rw [z0]; exact Nat.ne_of_lt (Nat.lt_succ_of_lt lb)⟩
    · rcases r2 with e | fl2
      · exact hr2
      cases fl2 with
      | ret v2 =>
        obtain ⟨rfl, h', tk, rfl, S', kp⟩ := hr2
        repeat (any_goals (first | assumption | wp_step))
        exact q h' tk S' kp
      | _ => exact hr2.elim
  | _ => exact hr.elim
end
end Sy


set_option Elab.async false
set_option linter.all false
set_option maxRecDepth 100000
set_option maxHeartbeats 4000000
/-! | and & of sets of texts -/
namespace Sy
open PySem PySem.Spec PyProof.Rows L2 Sx
section
variable {P : Program} {w : World} {A : Around} {E : Value → Shared → Prop} {s : Shared} {a b : Addr} {L K : List Str}
theorem SetS.ty (R : SetS w s.heap a L) : s.TypeIs (.ref a) "set" := let ⟨o, _, _, _, g, x, _⟩ := R; ⟨o, g, x.1⟩
theorem base_ok (R : SetS w s.heap a L) {Q : Value → Shared → Prop} (q : Q (.type "set") s) : wpAny (model P w) A (Builtin.Frozenset.baseOf a) Q E s := by
  unfold Builtin.Frozenset.baseOf
  refine wpAny_bind (wpAny_isInstance (SetS.ty R) PySem.F.sub_set_set ?_)
  exact wpAny_pure q
theorem any_ok (R : SetS w s.heap a L) {Q : Bool → Shared → Prop} (q : Q true s) : wpAny (model P w) A (Builtin.Frozenset.isAnySet (.ref a)) Q E s := by
  unfold Builtin.Frozenset.isAnySet orM
  refine wpAny_bind (wpAny_isInstance (SetS.ty R) PySem.F.sub_set_set ?_)
  exact wpAny_pure q
theorem new_ok {Q : Value → Shared → Prop} (q : ∀ h', SetM w h' s.heap.objs.size [] → (∀ b o, s.heap.get? b = some o → h'.get? b = some o) → h'.objs.size = s.heap.objs.size + 1 → Q (.ref s.heap.objs.size) { s with heap := h' }) : wpAny (model P w) A (newSet (.type "set")) Q E s := by
  unfold newSet
  refine wpAny_bind (wpAny_byText ?_)
  dsimp only
  simp only [newObj]
  refine wpAny_bind (wpAny_alloc (wpAny_pure ?_))
  exact q _ (setM_new s.heap) (fun b o g => Heap.get?_push_of_some _ g) (Heap.size_push ..)
theorem size_ok (R : SetS w s.heap a L) {Q : Nat → Shared → Prop} (q : Q L.length s) : wpAny (model P w) A (Builtin.Frozenset.sizeOf a) Q E s := by
  obtain ⟨o, es, ep, t, g, x, d, hs, ht⟩ := R
  unfold Builtin.Frozenset.sizeOf
  refine wpAny_bind (wpAny_setEntries_of g d ht.fit (wpAny_pure ?_))
  rw [← hs.len]; exact q
theorem SameBut.old {h h' : Heap} {n : Nat} {h0 : Heap} (z : h0.objs.size = n) (k : ∀ b o, h0.get? b = some o → h.get? b = some o) (sb : Heap.SameBut n h h') : ∀ b o, h0.get? b = some o → h'.get? b = some o := fun b o g =>
  (sb.2 b (Nat.ne_of_lt (z ▸ Heap.lt_size g))).trans (k b o g)
theorem copy_ok (R : SetS w s.heap a L) (hL : L.length ≤ 4) {Q : Value → Shared → Prop} (q : ∀ h' d, SetM w h' s.heap.objs.size (uni [] L) → (∀ b o, s.heap.get? b = some o → h'.get? b = some o) → Q (.ref s.heap.objs.size) { s with heap := h', drawn := d }) : wpAny (model P w) A (Builtin.Frozenset.copyOf a) Q E s := by
  unfold Builtin.Frozenset.copyOf
  refine wpAny_bind (base_ok R (wpAny_bind (new_ok fun h1 M k1 z1 => ?_)))
  unfold Builtin.Frozenset.addrOf
  refine wpAny_bind (wpAny_pure ?_)
  have R1 : SetS w h1 a L := SetS.keep R fun o g => k1 a o g
  have ne : a ≠ s.heap.objs.size := by obtain ⟨o, _, _, _, g, _⟩ := R; exact Nat.ne_of_lt (Heap.lt_size g)
  refine wpAny_bind (merge_ok (s := { s with heap := h1 }) M R1 (by simp) hL ne (fun ob g s' R2 g2 r => wpAny_pure r) fun h2 d sb S2 M2 => wpAny_pure ?_)
  exact q h2 d (M2 rfl) (SameBut.old rfl k1 sb)

theorem uni_same (R : SetS w s.heap a L) (T : SetS w s.heap a K) : L.Perm K := by
  obtain ⟨o, es, ep, t, g, x, d, hs, ht⟩ := R
  obtain ⟨o2, es2, ep2, t2, g2, x2, d2, hs2, ht2⟩ := T
  obtain rfl : o = o2 := Option.some.inj (g.symm.trans g2)
  rw [d] at d2
  obtain rfl : es = es2 := by injection d2
  exact hs.perm.symm.trans hs2.perm
theorem slot_two {n : String} {x y : Value} : Builtin.Frozenset.slot1 n ⟨[x, y], []⟩ = pure (x, y) := rfl
theorem or_body (R : SetS w s.heap a L) (T : SetS w s.heap b K) (hL : L.length ≤ 4) (hK : K.length ≤ 4) {Q : PySem.Fin → Shared → Prop} (q : ∀ h' d, SetS w h' s.heap.objs.size (uni L K) → (∀ b o, s.heap.get? b = some o → h'.get? b = some o) → Q (.done (.ret (.ref s.heap.objs.size))) { s with heap := h', drawn := d }) :
    wpAny (model P w) A (Builtin.«frozenset.__or__» ⟨[.ref a, .ref b], []⟩) Q E s := by
  unfold Builtin.«frozenset.__or__»
  refine wpAny_bind ?_
  rw [slot_two]
  refine wpAny_pure ?_
  dsimp only
  refine wpAny_bind ?_
  unfold andM
  refine wpAny_bind (any_ok R ?_)
  try dsimp only
  refine any_ok T ?_
  refine wp_if_neg (by decide) ?_
  unfold Builtin.Frozenset.addrOf
  refine wpAny_bind (wpAny_pure ?_)
  have na : a ≠ s.heap.objs.size := by obtain ⟨o, _, _, _, g, _⟩ := R; exact Nat.ne_of_lt (Heap.lt_size g)
  have nb : b ≠ s.heap.objs.size := by obtain ⟨o, _, _, _, g, _⟩ := T; exact Nat.ne_of_lt (Heap.lt_size g)
  refine wpAny_bind ?_
  refine wpAny_bind (copy_ok R hL fun h1 d1 M k1 => ?_)
  by_cases e : b = a
  · subst e
    have nn : ¬ ((Value.ref b != Value.ref b) = true) := by simp
    refine wp_if_neg nn ?_
    try refine wpAny_bind (wpAny_pure ?_)
    refine wpAny_pure (wpAny_pure (q h1 d1 (SetS.perm M.set (perm_of_mem (SetS.once M.set) (uni_nodup (SetS.once R)) fun x => ?_)) k1))
    rw [mem_uni, mem_uni, (uni_same R T).mem_iff]
    simp
  · have nn : (Value.ref b != Value.ref a) = true := by simpa using e
    refine wp_if_pos nn ?_
    have T1 : SetS w h1 b K := SetS.keep T fun o g => k1 b o g
    unfold Builtin.Frozenset.addrOf
    refine wpAny_bind (wpAny_pure ?_)
    refine wpAny_bind (wpAny_holding ?_)
    unfold Builtin.Frozenset.updateFrom
    refine wpAny_bind (any_ok (s := { s with heap := h1, drawn := d1 }) T1 ?_)
    refine wp_if_pos rfl ?_
    unfold Builtin.Frozenset.addrOf
    refine wpAny_bind (wpAny_pure ?_)
    unfold Builtin.Frozenset.merge
    obtain ⟨ob, eo, epo, to, ho, hxo, hdo, hso, hto⟩ := id T1
    refine wpAny_bind (wpAny_setEpoch_of (s := { s with heap := h1, drawn := d1 }) ho hdo hto.fit ?_)
    refine merge_ok (s := { s with heap := h1, drawn := d1 }) M T1 (by have := uni_len L []; simp only [List.length_nil] at this; omega) hK nb (fun ob2 g2 s' R2 g3 r => ?_) fun h2 d2 sb S2 _ => wpAny_pure (wpAny_pure (q h2 d2 ?_ (SameBut.old rfl k1 sb)))
    · obtain rfl : ob = ob2 := Option.some.inj (ho.symm.trans g2)
      unfold Builtin.Frozenset.unchanged
      refine wpAny_bind (wpAny_setEpoch_of g3 hdo hto.fit ?_)
      exact wp_if_neg (by simp) (wpAny_pure r)
    · refine SetS.perm S2 (perm_of_mem (SetS.once S2) (uni_nodup (SetS.once R)) fun x => ?_)
      rw [mem_uni, mem_uni, mem_uni]
      simp

theorem each_two {r : Addr} {J : Heap → Prop} {g : Str → List Str → List Str} {f : Int × Value → PUnit → Sem (ForInStep PUnit)} (grow : ∀ x L, (g x L).length ≤ L.length + 1) (kp : ∀ h h', Heap.SameBut r h h' → J h → J h')
    (hf : ∀ (x : Str) (tk : Tok) (s' : Shared) (L' : List Str) (R : ForInStep PUnit → Shared → Prop), SetS w s'.heap r L' → J s'.heap → L'.length + 1 < scanBound → (∀ h', Heap.SameBut r s'.heap h' → SetS w h' r (g x L') → R (.yield ()) { s' with heap := h' }) → wpAny (model P w) A (f (hashStr w x, .str x tk) ()) R E s')
    {Q : PUnit → Shared → Prop} : ∀ (l : List (Int × Value)) (s : Shared) (L : List Str), (∀ e ∈ l, IsTxt w e) → SetS w s.heap r L → J s.heap → L.length + l.length < scanBound →
    (∀ h', Heap.SameBut r s.heap h' → SetS w h' r ((l.map txt).foldl (fun M x => g x M) L) → Q () { s with heap := h' }) → wpAny (model P w) A (forIn l () f) Q E s
  | [], s, L, _, R, _, _, q => by rw [List.forIn_nil]; exact wpAny_pure (q s.heap (.refl _ _) R)
  | e :: l, s, L, al, R, j, few, q => by
    rw [List.forIn_cons]
    obtain ⟨x, tk, rfl⟩ := al e List.mem_cons_self
    rw [List.length_cons] at few
    refine wpAny_bind (hf x tk s L _ R j (by omega) fun h' sb R' => ?_)
    exact each_two grow kp hf l { s with heap := h' } (g x L) (fun y hy => al y (List.mem_cons_of_mem _ hy)) R' (kp _ _ sb j) (by have := grow x L; omega) fun h2 sb2 R2 => q h2 (sb.trans sb2) R2
def cut (L K : List Str) : List Str := L.filter fun x => decide (x ∈ K)
theorem mem_cut {L K : List Str} {x : Str} : x ∈ cut L K ↔ x ∈ L ∧ x ∈ K := by unfold cut; rw [List.mem_filter, decide_eq_true_eq]
def keepIn (K : List Str) (x : Str) (M : List Str) : List Str := if x ∈ K then ins x M else M
theorem keep_len (K : List Str) (x : Str) (M : List Str) : (keepIn K x M).length ≤ M.length + 1 := by
  unfold keepIn
  split
  · exact ins_len x M
  · exact Nat.le_succ _
theorem mem_keep {K : List Str} {y : Str} : ∀ {l M : List Str}, y ∈ l.foldl (fun M x => keepIn K x M) M ↔ y ∈ M ∨ (y ∈ l ∧ y ∈ K)
  | [], M => by simp
  | x :: l, M => by
    rw [List.foldl_cons, mem_keep, List.mem_cons]
    unfold keepIn
    split
    · rename_i h
      rw [mem_ins]
      constructor
      · rintro ((rfl | z) | z)
        · exact .inr ⟨.inl rfl, h⟩
        · exact .inl z
        · exact .inr ⟨.inr z.1, z.2⟩
      · rintro (z | ⟨rfl | z, k⟩)
        · exact .inl (.inr z)
        · exact .inl (.inl rfl)
        · exact .inr ⟨z, k⟩
    · rename_i h
      constructor
      · rintro (z | z)
        · exact .inl z
        · exact .inr ⟨.inr z.1, z.2⟩
      · rintro (z | ⟨rfl | z, k⟩)
        · exact .inl z
        · exact absurd k h
        · exact .inr ⟨z, k⟩
theorem find_ok (R : SetS w s.heap a L) {x : Str} {tk : Tok} {Q : Option Nat → Shared → Prop} (q : ∀ r : Option Nat, r.isSome = decide (x ∈ L) → Q r s) : wpAny (model P w) A (setFind a (.str x tk) (hashStr w x)) Q E s := by
  obtain ⟨o, es, ep, t, g, hx, d, hs, ht⟩ := R
  refine wpAny_setFind_of (knd := strKind P w) (S := fun k => decide (k ∈ L)) (n := es.size) (k := x) (strKind_is P w x tk) rfl ⟨o, es, ep, t, g, hx, d, hs.elems, fun k => ?_, ht.few, ht.fit, rfl⟩ fun r h => q r h
  rw [decide_eq_true_eq]
  exact hs.mem
/-- one set walked, the other asked -/
theorem cut_ok {nid : String} {r wa as : Addr} (M : SetS w s.heap r []) (T : SetS w s.heap wa L) (U : SetS w s.heap as K) (few : L.length ≤ 4) (nw : wa ≠ r) (na : as ≠ r) {was : Nat} (hwas : ∀ o es ep t, s.heap.get? wa = some o → o.data = .set es ep t → ep = was) {Q : PUnit → Shared → Prop}
    (q : ∀ h' d, Heap.SameBut r s.heap h' → SetS w h' r (cut L K) → Q () { s with heap := h', drawn := d }) {f : Int × Value → PUnit → Sem (ForInStep PUnit)}
    (hf : ∀ h x, f (h, x) () = (do
      holding [x] (do if (← setFind as x h).isSome then do { let _ ← setAddHashed r x h; pure () } else pure ())
      Builtin.Frozenset.unchanged nid wa was
      pure (ForInStep.yield ()))) : wpAny (model P w) A (setWalkUnseen wa [as, r] (some r) >>= fun v => forIn v () f >>= fun _ => pure ()) Q E s := by
  refine wpAny_bind (unseen T (others := [as, r]) (fun b hb => ?_) M fun es' h1 d1 hs sb1 M1 => ?_)
  · simp only [List.mem_cons, List.not_mem_nil, or_false] at hb
    rcases hb with rfl | rfl
    · exact ⟨K, U⟩
    · exact ⟨[], M⟩
  · rw [← Array.forIn_toList]
    obtain ⟨o, es, ep, t, g, hx, hd, hso, hto⟩ := id T
    obtain rfl := hwas o es ep t g hd
    refine wpAny_bind (each_two (g := keepIn K) (J := fun h => h.get? wa = some o ∧ SetS w h as K) (keep_len K) (fun h h' sb j => ⟨(sb.2 wa nw).trans j.1, SetS.keep j.2 fun o2 g2 => by
      obtain ⟨o3, _, _, _, g3, _⟩ := id j.2
      exact (sb.2 as na).trans g2⟩) (fun x tk s' L' R RS j fw k => ?_) es'.toList { s with heap := h1, drawn := d1 } [] hs.all M1 ⟨(sb1.2 wa nw).trans g, SetS.keep U fun o2 g2 => (sb1.2 as na).trans g2⟩ (by have := hs.len; have z : es'.toList.length = es'.size := rfl; show 0 + _ < 4096; omega) fun h2 sb2 R2 => wpAny_pure ?_)
    · rw [hf]
      refine wpAny_bind (wpAny_holding (wpAny_bind (find_ok j.2 fun fr hr => ?_)))
      rw [hr]
      have fin : ∀ h', Heap.SameBut r s'.heap h' → SetS w h' r (keepIn K x L') → wpAny (model P w) A (do Builtin.Frozenset.unchanged nid wa ep; pure (ForInStep.yield ())) R E { s' with heap := h' } := fun h' sb S' => by
        unfold Builtin.Frozenset.unchanged
        refine wpAny_bind (wpAny_bind (wpAny_setEpoch_of (s := { s' with heap := h' }) ((sb.2 wa nw).trans j.1) hd hto.fit ?_))
        exact wp_if_neg (by simp) (wpAny_pure (wpAny_pure (k h' sb S')))
      by_cases c : x ∈ K
      · refine wp_if_pos (by simpa using c) ?_
        refine wpAny_bind (add_hashed RS fw fun b h' sb S' => wpAny_pure (fin h' sb ?_))
        unfold keepIn; rw [if_pos c]; exact S'
      · refine wp_if_neg (by simpa using c) ?_
        refine wpAny_pure (fin s'.heap (.refl _ _) ?_)
        unfold keepIn; rw [if_neg c]; exact RS
    · refine q h2 d1 (sb1.trans sb2) (SetS.perm R2 (perm_of_mem (SetS.once R2) ((SetS.once T).filter _) fun x => ?_))
      rw [mem_keep, hs.perm.mem_iff]
      show _ ↔ x ∈ cut L K
      rw [mem_cut]; simp
end
end Sy


set_option Elab.async false
set_option linter.all false
set_option maxRecDepth 100000
set_option maxHeartbeats 4000000
namespace Sy
open PySem PySem.Spec PyProof.Rows L2 Sx
section
variable {P : Program} {w : World} {A : Around} {E : Value → Shared → Prop} {s : Shared} {a b : Addr} {L K : List Str}
theorem and_body (R : SetS w s.heap a L) (T : SetS w s.heap b K) (hL : L.length ≤ 4) (hK : K.length ≤ 4) {Q : PySem.Fin → Shared → Prop} (q : ∀ h' d, SetS w h' s.heap.objs.size (cut L K) → (∀ b o, s.heap.get? b = some o → h'.get? b = some o) → Q (.done (.ret (.ref s.heap.objs.size))) { s with heap := h', drawn := d }) :
    wpAny (model P w) A (Builtin.«frozenset.__and__» ⟨[.ref a, .ref b], []⟩) Q E s := by
  unfold Builtin.«frozenset.__and__»
  refine wpAny_bind ?_
  rw [slot_two]
  refine wpAny_pure ?_
  dsimp only
  refine wpAny_bind ?_
  unfold andM
  refine wpAny_bind (any_ok R ?_)
  try dsimp only
  refine any_ok T ?_
  refine wp_if_neg (by decide) ?_
  unfold Builtin.Frozenset.addrOf
  refine wpAny_bind (wpAny_pure ?_)
  have na : a ≠ s.heap.objs.size := by obtain ⟨o, _, _, _, g, _⟩ := R; exact Nat.ne_of_lt (Heap.lt_size g)
  have nb : b ≠ s.heap.objs.size := by obtain ⟨o, _, _, _, g, _⟩ := T; exact Nat.ne_of_lt (Heap.lt_size g)
  refine wpAny_bind ?_
  unfold Builtin.Frozenset.intersection
  by_cases e : b = a
  · subst e
    have nn : ((Value.ref b == Value.ref b) = true) := by simp
    refine wp_if_pos nn ?_
    refine copy_ok R hL fun h1 d1 M k1 => wpAny_pure (q h1 d1 (SetS.perm M.set (perm_of_mem (SetS.once M.set) ((SetS.once R).filter _) fun x => ?_)) k1)
    rw [mem_uni, mem_cut, (uni_same R T).mem_iff]
    simp
  · have nn : ¬ ((Value.ref b == Value.ref a) = true) := by simpa using e
    refine wp_if_neg nn ?_
    try refine wpAny_bind (wpAny_pure ?_)
    refine wpAny_bind (base_ok R (wpAny_bind (new_ok fun h1 M k1 z1 => ?_)))
    have R1 : SetS w h1 a L := SetS.keep R fun o g => k1 a o g
    have T1 : SetS w h1 b K := SetS.keep T fun o g => k1 b o g
    unfold Builtin.Frozenset.addrOf
    refine wpAny_bind (wpAny_pure ?_)
    refine wpAny_bind (wpAny_holding ?_)
    refine wpAny_bind (any_ok (s := { s with heap := h1 }) T1 ?_)
    refine wp_if_pos rfl ?_
    refine wpAny_bind (wpAny_pure ?_)
    refine wpAny_bind (size_ok (s := { s with heap := h1 }) T1 ?_)
    refine wpAny_bind (size_ok (s := { s with heap := h1 }) R1 ?_)
    by_cases c : K.length > L.length
    · have c' : decide (K.length > L.length) = true := decide_eq_true c
      rw [if_pos c]
      dsimp only
      obtain ⟨o, es, ep, t, g, hx, hd, hso, hto⟩ := id R1
      refine wpAny_bind (wpAny_setEpoch_of (s := { s with heap := h1 }) g hd hto.fit ?_)
      refine cut_ok (nid := toString "frozenset." ++ toString "__and__") (was := ep) (s := { s with heap := h1 }) M.set R1 T1 hL na nb (fun o2 es2 ep2 t2 g2 d2 => ?_) (fun h2 d2 sb S2 => ?_) fun h x => ?_
      rotate_left
      · refine wpAny_pure (wpAny_pure ?_)
        exact q h2 d2 S2 (SameBut.old rfl k1 sb)
      · rfl
      obtain rfl : o = o2 := Option.some.inj (g.symm.trans g2)
      rw [hd] at d2
      injection d2 with _ z _
      exact z.symm
    · rw [if_neg c]
      dsimp only
      obtain ⟨o, es, ep, t, g, hx, hd, hso, hto⟩ := id T1
      refine wpAny_bind (wpAny_setEpoch_of (s := { s with heap := h1 }) g hd hto.fit ?_)
      refine cut_ok (nid := toString "frozenset." ++ toString "__and__") (was := ep) (s := { s with heap := h1 }) M.set T1 R1 hK nb na (fun o2 es2 ep2 t2 g2 d2 => ?_) (fun h2 d2 sb S2 => ?_) fun h x => ?_
      rotate_left
      · refine wpAny_pure (wpAny_pure ?_)
        refine q h2 d2 (SetS.perm S2 (perm_of_mem (SetS.once S2) ((SetS.once R).filter _) fun x => ?_)) (SameBut.old rfl k1 sb)
        show _ ↔ x ∈ cut L K
        rw [mem_cut, mem_cut]; exact And.comm
      · rfl
      · obtain rfl : o = o2 := Option.some.inj (g.symm.trans g2)
        rw [hd] at d2
        injection d2 with _ z _
        exact z.symm
end
end Sy


set_option Elab.async false
set_option linter.all false
set_option maxRecDepth 100000
set_option maxHeartbeats 4000000
/-! sets of texts, tracked: set(t), |, &, their sorted texts -/
namespace Sy
open PySem PySem.Spec PyProof.Rows L2 Sx
theorem entry_or : entryFor table "set.__or__" = some Builtin.«frozenset.__or__» := entryFor_alias (id' := "frozenset.__or__") (by kernel_rfl) rfl (by decide +kernel) (by kernel_rfl)
theorem entry_and : entryFor table "set.__and__" = some Builtin.«frozenset.__and__» := entryFor_alias (id' := "frozenset.__and__") (by kernel_rfl) rfl (by decide +kernel) (by kernel_rfl)
section
variable {X : Cx} {pins : List (Addr × Obj)} {σ : L2.St} {H : Hp} {s : Shared}
theorem made {h' : Heap} {d : Drawn} {t : Nat} {M : List Str} (I : Inv X pins σ H s) (S : SetS X.w h' s.heap.objs.size M) (k : ∀ b o, s.heap.get? b = some o → h'.get? b = some o) :
    Inv X pins σ (upd H s.heap.objs.size (SetSO X.w s.heap.objs.size M)) { s with heap := h', gens := s.gens, drawn := d, toks := t } :=
  have hn := I.hok.fresh (Nat.le_refl _)
  I.call (ch := []) (Un.laid k (Nat.le_refl _) hn) (I.hok.laid k (Nat.le_refl _) (setSO_ok S)) I.bare (fun _ z => nomatch z)
/-- a binary of two sets -/
def rSet2 (w : World) (f : List Str → List Str → List Str) : V → V → Hp → VK → Prop := fun x y H Q => ∃ (a b : Addr) (L K : List Str), x = .ref a ∧ y = .ref b ∧ H a = some (SetSO w a L) ∧ H b = some (SetSO w b K) ∧ L.length ≤ 4 ∧ K.length ≤ 4 ∧
  ∀ p, H p = none → Q (.ref p) (upd H p (SetSO w p (f L K)))
theorem op_setOr : OpR X (binaryOp .BitOr) (rSet2 X.w uni) := by
  intro pins s σ H x y v u Q I rx ry ⟨a, b, L, K, ex, ey, ha, hb, hL, hK, q⟩
  subst ex; subst ey
  obtain rfl : v = .ref a := rx
  obtain rfl : u = .ref b := ry
  have R : SetS X.w s.heap a L := (I.hok a _ ha).1
  have T : SetS X.w s.heap b K := (I.hok b _ hb).1
  refine wpAny_binaryOp_same (op := .BitOr) (T := "set") (SetS.ty R) (SetS.ty T) PySem.F.fills_set_or PySem.F.slot_set_or (wpAny_call_entry PySem.F.slot_set_or (SetS.ty R) entry_or ?_ (PySem.F.args_set_or_2 _ _))
  refine or_body R T hL hK fun h' d S k => ⟨_, rfl, nofun, ?_⟩
  exact ⟨.ref s.heap.objs.size, _, made I S k, rfl, q _ (I.hok.fresh (Nat.le_refl _))⟩
theorem op_setAnd : OpR X (binaryOp .BitAnd) (rSet2 X.w cut) := by
  intro pins s σ H x y v u Q I rx ry ⟨a, b, L, K, ex, ey, ha, hb, hL, hK, q⟩
  subst ex; subst ey
  obtain rfl : v = .ref a := rx
  obtain rfl : u = .ref b := ry
  have R : SetS X.w s.heap a L := (I.hok a _ ha).1
  have T : SetS X.w s.heap b K := (I.hok b _ hb).1
  refine wpAny_binaryOp_same (op := .BitAnd) (T := "set") (SetS.ty R) (SetS.ty T) PySem.F.fills_set_and PySem.F.slot_set_and (wpAny_call_entry PySem.F.slot_set_and (SetS.ty R) entry_and ?_ (PySem.F.args_set_and_2 _ _))
  refine and_body R T hL hK fun h' d S k => ⟨_, rfl, nofun, ?_⟩
  exact ⟨.ref s.heap.objs.size, _, made I S k, rfl, q _ (I.hok.fresh (Nat.le_refl _))⟩
/-- set(t) -/
def rSetT (K : PySem.W.Frag) (w : World) : List V → Hp → VK → Prop := fun xs H Q => ∃ (l : Addr) (L : List Str), xs = [V.ref l] ∧ (SqL K H l (L.map V.str) ∨ SqT K H l (L.map V.str)) ∧ L.length ≤ 1000 ∧ ∀ p, H p = none → Q (.ref p) (upd H p (SetSO w p (uni [] L)))
theorem cr_setT (hc : X.calm = true) : CallR X (.type "set") (rSetT X.K X.w) := by
  intro pins s σ H xs us Q I r ⟨l, L, e, hq, hl, q⟩
  subst e
  rw [Vals.ref1 r]
  have fin : ∀ (h' : Heap) (tk : Nat), SetS X.w h' s.heap.objs.size (uni [] L) → (∀ b o, s.heap.get? b = some o → h'.get? b = some o) → EP X pins σ Q (.ref s.heap.objs.size) { s with heap := h', toks := tk } := fun h' tk S k =>
    ⟨.ref s.heap.objs.size, _, made (t := tk) (d := s.drawn) I S k, rfl, q _ (I.hok.fresh (Nat.le_refl _))⟩
  have vs : ∀ {its : List Value}, Vals (L.map V.str) its → its.length = L.length ∧ ∀ (i : Nat) (v : Value), its.toArray[i]? = some v → ∃ x t, L[i]? = some x ∧ v = Value.str x t := fun {its} rv => by
    have len : its.length = L.length := by have := Vals.length rv; rw [List.length_map] at this; exact this.symm
    refine ⟨len, fun i v hv => ?_⟩
    have hv' : its[i]? = some v := by simpa using hv
    have hi : i < L.length := by rw [← len]; exact (List.getElem?_eq_some_iff.mp hv').1
    obtain ⟨u, hu, ru⟩ := Vals.get rv (i := i) (x := .str L[i]) (by rw [List.getElem?_map, List.getElem?_eq_getElem hi]; rfl)
    obtain rfl : u = v := Option.some.inj (hu.symm.trans hv')
    obtain ⟨t, rfl⟩ := ru
    exact ⟨L[i], t, List.getElem?_eq_getElem hi, rfl⟩
  rcases hq with hq | hq
  · obtain ⟨its, rv, pl, hz⟩ := I.list hq
    obtain ⟨len, hv⟩ := vs rv
    exact set_madeL (xs := L) (items := its.toArray) (I.ok.hd hc) pl.isList (by simpa using len) hv (by show L.length + 1 < 4096; omega) fin
  · obtain ⟨its, rv, pl, hz⟩ := I.tuple hq
    obtain ⟨len, hv⟩ := vs rv
    exact set_made (xs := L) (items := its.toArray) (I.ok.hd hc) pl (by simpa using len) hv (by show L.length + 1 < 4096; omega) fin
end
end Sy


set_option Elab.async false
set_option linter.all false
set_option maxRecDepth 100000
set_option maxHeartbeats 8000000
/-! the measures there and seen: a value is told by which persons it has (there: by the empty text) -/
namespace K8
open PySem L2 Nd Bk Gd PySem.ExE
abbrev sGPers : Stmt := topS 50
abbrev sGSome : Stmt := topS 51
abbrev sGDVal : Stmt := topS 52
abbrev sGZero : Stmt := topS 53
abbrev sGOne : Stmt := topS 54
abbrev sGSum : Stmt := topS 55
abbrev sGBoth : Stmt := topS 56
abbrev sGVal : Stmt := topS 57
abbrev sGGiven : Stmt := topS 58
def there_ : Str := Str.ofString "there"
def seen_ : Str := Str.ofString "seen"
def eps_ : Str := Str.ofString ""
def me (is : Bool) : Str := if is = true then there_ else seen_
def tvD (ps : List Str) (is : Bool) (f : Str → Bool) : PyData := if is = true then .bool (f eps_) else .tuple ((ps.filter f).map .str)
/-- persons: rising, few -/
structure PsOk (ps : List Str) : Prop where
  asc : AscK ps
  few : ps.length ≤ 4
section
variable {K : PySem.W.Frag} {H : Hp} {v : V}
theorem fd_bool {b : Bool} (h : FD K H v (.bool b)) : v = .bl b := by
  obtain ⟨d', h, e⟩ := h
  cases d' <;> simp [flat] at e
  subst e
  cases h; rfl
theorem fd_strs {L : List Str} (h : FD K H v (.tuple (L.map .str))) : ∃ a, v = .ref a ∧ (SqL K H a (L.map V.str) ∨ SqT K H a (L.map V.str)) := by
  obtain ⟨a, xs, rfl, sq, len, get⟩ := fd_seq h
  rw [List.length_map] at len
  have e : xs = L.map V.str := by
    refine List.ext_getElem? fun i => ?_
    cases q : xs[i]? with
    | none =>
      have := List.getElem?_eq_none_iff.mp q
      exact (List.getElem?_eq_none_iff.mpr (by rw [List.length_map]; omega)).symm
    | some x =>
      obtain ⟨d, h1, h2⟩ := get i x q
      rw [List.getElem?_map] at h1
      obtain ⟨z, hz, rfl⟩ := Option.map_eq_some_iff.mp h1
      rw [List.getElem?_map, hz, fd_str h2]; rfl
  rw [e] at sq
  exact ⟨a, rfl, sq⟩
theorem tv_tup (ps : List Str) (is : Bool) (f : Str → Bool) : tupOnly (tvD ps is f) = true := by
  unfold tvD
  split
  · rfl
  · show tupOnlyAll _ = true
    exact tupOnlyAll_of fun e he => by obtain ⟨x, _, rfl⟩ := List.mem_map.mp he; rfl
end
theorem srt_filter {ps M : List Str} {f : Str → Bool} (h : AscK ps) (nd : M.Nodup) (e : ∀ x, x ∈ M ↔ x ∈ ps ∧ f x = true) : Sx.srtT M = ps.filter f := by
  rw [srtT_sortK nd]
  obtain ⟨a1, a2⟩ := sortK_ok M [] (by simpa using nd) List.Pairwise.nil
  rw [List.nil_append] at a2
  refine ascK_ext a1 (List.Pairwise.filter _ h) fun k => ?_
  rw [show (k ∈ sortK M) = (k ∈ M.foldl insK []) from rfl, a2.mem_iff, e, List.mem_filter]
/-- the names of k07 -/
structure Ct (K : PySem.W.Frag) (w : World) (mg : Str → Option Value) : Prop where
  set : mg "set" = none
  zeros : ∃ a, mg "_ZEROS" = some (.ref a) ∧ KDct K w a there_ (.bl false) ∧ ∃ t, KDct K w a seen_ (.ref t) ∧ ∀ H, Dp K H (.ref t) (.tuple [])
  ones : ∃ a, mg "_ONES" = some (.ref a) ∧ KDct K w a there_ (.bl true)
section
variable {P : Program} {w : World} {K : PySem.W.Frag} {mg : Str → Option Value} {base : Heap}
def spTZero (K : PySem.W.Frag) : Sp := fun vs H Q _ => ∃ (is : Bool) (x : V) (ps : List Str), vs = [.str (me is), x] ∧ ∀ v, Dp K H v (tvD ps is fun _ => false) → Q v H
theorem ok_tzero {f : Addr} {fd : FuncData} (F : Fun K "measured_zero" "measured_zero" sMZero f fd) (V : Ct K w mg) : FnOk P w K mg base CX0 1 f fd ["measure", "persons"] (spTZero K) := by
  refine F.ok scMZero (fun vs H Q E h => ?_) (fun cdv A outer s H vs Q E hr h => ?_)
  · obtain ⟨is, x, ps, rfl, _⟩ := h
    rfl
  · obtain ⟨is, x, ps, rfl, k⟩ := h
    obtain ⟨z, gz, z1, t, z2, z3⟩ := V.zeros
    refine ⟨_, pss_one (ps_ret (pe_ix (show IxR _ (rIxD K w) from ix_kdict) (pe_glob (v := .ref z) (by rfl) gz rfl) (pv 0) (fun _ _ => rfl))), ?_⟩
    cases is with
    | true => exact ⟨_, rfl, z, there_, .bl false, rfl, rfl, z1, k _ (.bl false)⟩
    | false =>
      refine ⟨_, rfl, z, seen_, .ref t, rfl, rfl, z2, k _ ?_⟩
      have e : tvD ps false (fun _ => false) = .tuple [] := by
        unfold tvD
        rw [if_neg Bool.false_ne_true, List.filter_eq_nil_iff.mpr (fun _ _ => Bool.false_ne_true)]; rfl
      rw [e]
      exact z3 H
def spTOne (K : PySem.W.Frag) : Sp := fun vs H Q _ => ∃ (is : Bool) (x : V) (ps : List Str), vs = [.str (me is), x] ∧ (is = false → FD K H x (.tuple (ps.map .str))) ∧ ∀ v H', Same H H' → Dp K H' v (tvD ps is fun _ => true) → Q v H'
theorem ok_tone {f : Addr} {fd : FuncData} (F : Fun K "measured_one" "measured_one" sMOne f fd) (C : Cn K mg) (V : Ct K w mg) : FnOk P w K mg base CX0 1 f fd ["measure", "persons"] (spTOne K) := by
  refine F.ok scMOne (fun vs H Q E h => ?_) (fun cdv A outer s H vs Q E hr h => ?_)
  · obtain ⟨is, x, ps, rfl, _⟩ := h
    rfl
  · obtain ⟨is, x, ps, rfl, hp, k⟩ := h
    obtain ⟨z, gz, z1⟩ := V.ones
    refine ⟨_, pss_cons (ps_if (pt_cmpR op_eq (pv 0) pe_str (nomark _)) (pss_one (ps_ret (pe_callTy call_tuple_of (by rfl) C.N.tup (by rfl) (pa_cons (pv 1) pa_nil)))) pss_nil) (pss_one (ps_ret (pe_ix (show IxR _ (rIxD K w) from ix_kdict) (pe_glob (v := .ref z) (by rfl) gz rfl) (pv 0) (fun _ _ => rfl)))), ?_⟩
    cases is with
    | true => exact ⟨_, rfl, rfl, false, dn (by decide +kernel), iteF ⟨_, rfl, z, there_, _, rfl, rfl, z1, k _ _ sm_refl (.bl true)⟩⟩
    | false =>
      obtain ⟨a, rfl, sq⟩ := fd_strs (hp rfl)
      have e : tvD ps false (fun _ => true) = .tuple (ps.map .str) := by
        unfold tvD
        rw [if_neg Bool.false_ne_true, List.filter_eq_self.mpr (fun _ _ => rfl)]
      refine ⟨_, rfl, rfl, true, dy, iteT ⟨_, rfl, a, ps.map L2.V.str, rfl, ?_⟩⟩
      rcases sq with sq | sq
      · refine .inl ⟨sq, fun l nl => k _ _ (sm_new sm_refl nl) ?_⟩
        rw [e]; exact .tup (SqT.of upd_same) (strs_dp ps)
      · refine .inr ⟨sq, k _ _ sm_refl ?_⟩
        rw [e]; exact .tup sq (strs_dp ps)
theorem setT_mono {vs : List L2.V} {H : Hp} {Q Q' : VK} (h : Sy.rSetT K w vs H Q) (k : ∀ v H', Q v H' → Q' v H') : Sy.rSetT K w vs H Q' := by
  obtain ⟨l, L, e, a, b, q⟩ := h
  exact ⟨l, L, e, a, b, fun p n => k _ _ (q p n)⟩
def spTPlus (K : PySem.W.Frag) : Sp := fun vs H Q _ => ∃ (is : Bool) (a b : V) (ps : List Str) (f g : Str → Bool), vs = [.str (me is), a, b] ∧ PsOk ps ∧ FD K H a (tvD ps is f) ∧ FD K H b (tvD ps is g) ∧ ∀ v H', Same H H' → Dp K H' v (tvD ps is fun x => f x || g x) → Q v H'
def spTTimes (K : PySem.W.Frag) : Sp := fun vs H Q _ => ∃ (is : Bool) (a b : V) (ps : List Str) (f g : Str → Bool), vs = [.str (me is), a, b] ∧ PsOk ps ∧ FD K H a (tvD ps is f) ∧ FD K H b (tvD ps is g) ∧ ∀ v H', Same H H' → Dp K H' v (tvD ps is fun x => f x && g x) → Q v H'
/-- the sorted tuple of two sets put together -/
theorem set_two {mk : List Str → List Str → List Str} {op : (Str → Bool) → (Str → Bool) → Str → Bool} {H : Hp} {a b : Addr} {ps : List Str} {f g : Str → Bool} {Q : VK} (hp : PsOk ps) (ha : SqL K H a ((ps.filter f).map V.str) ∨ SqT K H a ((ps.filter f).map V.str)) (hb : SqL K H b ((ps.filter g).map V.str) ∨ SqT K H b ((ps.filter g).map V.str))
    (len : ∀ L M, L.length ≤ 4 → M.length ≤ 4 → (mk L M).length ≤ 8)
    (mem : ∀ L M x, L.Nodup → (x ∈ mk L M ↔ (op (fun y => decide (y ∈ L)) (fun y => decide (y ∈ M)) x = true))) (nd : ∀ L M, L.Nodup → (mk L M).Nodup) (opp : ∀ f g x, op (fun y => decide (y ∈ ps.filter f)) (fun y => decide (y ∈ ps.filter g)) x = true ↔ x ∈ ps ∧ op f g x = true)
    (k : ∀ v H', Same H H' → Dp K H' v (.tuple ((ps.filter (op f g)).map .str)) → Q v H') :
    Sy.rSetT K w [.ref a] H fun v1 H1 => Sy.rSetT K w [.ref b] H1 fun v2 H2 => Sy.rSet2 w mk v1 v2 H2 fun v3 H3 => Sx.rSortS w [v3] H3 fun v4 H4 => ∃ p ys, [v4] = [V.ref p] ∧ ((SqL K H4 p ys ∧ ∀ l, H4 l = none → Q (.ref l) (upd H4 l (.tup ys))) ∨ (SqT K H4 p ys ∧ Q (.ref p) H4)) := by
  have lf : (ps.filter f).length ≤ 4 := Nat.le_trans (List.length_filter_le ..) hp.few
  have lg : (ps.filter g).length ≤ 4 := Nat.le_trans (List.length_filter_le ..) hp.few
  refine ⟨a, _, rfl, ha, by omega, fun p1 n1 => ?_⟩
  have s1 : Same H (upd H p1 (Sx.SetSO w p1 (Sy.uni [] (ps.filter f)))) := sm_new sm_refl n1
  have g1 : upd H p1 (Sx.SetSO w p1 (Sy.uni [] (ps.filter f))) p1 = some (Sx.SetSO w p1 (Sy.uni [] (ps.filter f))) := upd_same
  generalize upd H p1 (Sx.SetSO w p1 (Sy.uni [] (ps.filter f))) = H1 at s1 g1 ⊢
  refine ⟨b, _, rfl, sq_same s1 hb, by omega, fun p2 n2 => ?_⟩
  have s2 : Same H1 (upd H1 p2 (Sx.SetSO w p2 (Sy.uni [] (ps.filter g)))) := sm_new sm_refl n2
  have g2 : upd H1 p2 (Sx.SetSO w p2 (Sy.uni [] (ps.filter g))) p2 = some (Sx.SetSO w p2 (Sy.uni [] (ps.filter g))) := upd_same
  generalize upd H1 p2 (Sx.SetSO w p2 (Sy.uni [] (ps.filter g))) = H2 at s2 g2 ⊢
  have l1 : (Sy.uni [] (ps.filter f)).length ≤ 4 := by have := Sy.uni_len (ps.filter f) []; simp only [List.length_nil] at this; omega
  have l2 : (Sy.uni [] (ps.filter g)).length ≤ 4 := by have := Sy.uni_len (ps.filter g) []; simp only [List.length_nil] at this; omega
  refine ⟨p1, p2, _, _, rfl, rfl, s2 _ _ g1, g2, l1, l2, fun p3 n3 => ?_⟩
  have s3 : Same H2 (upd H2 p3 (Sx.SetSO w p3 (mk (Sy.uni [] (ps.filter f)) (Sy.uni [] (ps.filter g))))) := sm_new sm_refl n3
  have g3 : upd H2 p3 (Sx.SetSO w p3 (mk (Sy.uni [] (ps.filter f)) (Sy.uni [] (ps.filter g)))) p3 = some (Sx.SetSO w p3 (mk (Sy.uni [] (ps.filter f)) (Sy.uni [] (ps.filter g)))) := upd_same
  generalize upd H2 p3 (Sx.SetSO w p3 (mk (Sy.uni [] (ps.filter f)) (Sy.uni [] (ps.filter g)))) = H3 at s3 g3 ⊢
  have nf : (Sy.uni [] (ps.filter f)).Nodup := Sy.uni_nodup List.nodup_nil
  refine ⟨p3, _, rfl, g3, by have := len _ _ l1 l2; omega, fun ks p4 pk n4 => ?_⟩
  have e : Sx.srtT ks = ps.filter (op f g) := by
    refine srt_filter hp.asc (pk.nodup_iff.mpr (nd _ _ nf)) fun x => ?_
    rw [pk.mem_iff, mem _ _ x nf, ← opp f g x]
    have m : ∀ L : List Str, (fun y => decide (y ∈ Sy.uni [] L)) = fun y => decide (y ∈ L) := fun L => by
      funext y
      exact decide_eq_decide.mpr (by rw [Sy.mem_uni]; simp)
    rw [m, m]
  rw [e]
  have s4 : Same H3 (upd H3 p4 (.lst ((ps.filter (op f g)).map V.str))) := sm_new sm_refl n4
  have g4 : upd H3 p4 (.lst ((ps.filter (op f g)).map V.str)) p4 = some (.lst ((ps.filter (op f g)).map V.str)) := upd_same
  generalize upd H3 p4 (.lst ((ps.filter (op f g)).map V.str)) = H4 at s4 g4 ⊢
  have s04 := s1.trans (s2.trans (s3.trans s4))
  exact ⟨p4, _, rfl, .inl ⟨SqL.of g4, fun T nT => k _ _ (sm_new s04 (s04.free nT)) (.tup (SqT.of upd_same) (strs_dp _))⟩⟩
theorem ok_tplus {f : Addr} {fd : FuncData} (F : Fun K "measured_plus" "measured_plus" sMPlus f fd) (C : Cn K mg) (V : Ct K w mg) : FnOk P w K mg base CX0 2 f fd ["measure", "a", "b"] (spTPlus K) := by
  refine F.ok scMPlus (fun vs H Q E h => ?_) (fun cdv A outer s H vs Q E hr h => ?_)
  · obtain ⟨is, a, b, ps, f, g, rfl, _⟩ := h
    rfl
  · obtain ⟨is, a, b, ps, f, g, rfl, hp, ha, hb, k⟩ := h
    have hr1 : Room 1 _ := hr.mono (by decide)
    refine ⟨_, pss_cons (ps_if (pt_cmpR op_eq (pv 0) pe_str (nomark _)) pss_never pss_nil)
      (pss_cons (ps_if (pt_cmpR op_eq (pv 0) pe_str (nomark _)) pss_never pss_nil)
      (pss_cons (ps_if (pt_cmpR op_eq (pv 0) pe_str (nomark _)) pss_never pss_nil)
      (pss_cons (ps_if (pt_cmpR op_eq (pv 0) pe_str (nomark _)) (pss_one (ps_ret (pe_or (pv 1) (pe_one (pv 2))))) pss_nil)
      (pss_one (ps_ret (pe_callTy call_tuple_of (by rfl) C.N.tup (by rfl) (pa_cons (pe_callB (Sx.cr_sortS rfl (u64 hr)) (by rfl) C.srt (by rfl) (pa_cons
        (pe_op Sy.op_setOr (pe_callTy (Sy.cr_setT rfl) (by rfl) V.set (by rfl) (pa_cons (pv 1) pa_nil)) (pe_callTy (Sy.cr_setT rfl) (by rfl) V.set (by rfl) (pa_cons (pv 2) pa_nil))) pa_nil)) pa_nil))))))), ?_⟩
    cases is with
    | true =>
      cases fd_bool ha
      cases fd_bool hb
      refine ⟨_, rfl, rfl, false, dn (by decide +kernel), iteF ⟨_, rfl, rfl, false, dn (by decide +kernel), iteF ⟨_, rfl, rfl, false, dn (by decide +kernel), iteF ⟨_, rfl, rfl, true, dy, iteT ⟨_, rfl, f eps_, rfl, ?_⟩⟩⟩⟩⟩
      cases q : f eps_ with
      | true => exact iteT (k _ _ sm_refl (by have : tvD ps true (fun x => f x || g x) = .bool true := (by show PyData.bool (f eps_ || g eps_) = _; rw [q]; rfl); rw [this]; exact .bl true))
      | false => exact iteF ⟨_, rfl, k _ _ sm_refl (by have : tvD ps true (fun x => f x || g x) = .bool (g eps_) := (by show PyData.bool (f eps_ || g eps_) = _; rw [q]; rfl); rw [this]; exact .bl _)⟩
    | false =>
      obtain ⟨a, rfl, sa⟩ := fd_strs (L := ps.filter f) ha
      obtain ⟨b, rfl, sb⟩ := fd_strs (L := ps.filter g) hb
      refine ⟨_, rfl, rfl, false, dn (by decide +kernel), iteF ⟨_, rfl, rfl, false, dn (by decide +kernel), iteF ⟨_, rfl, rfl, false, dn (by decide +kernel), iteF ⟨_, rfl, rfl, false, dn (by decide +kernel), iteF ⟨_, rfl, ?_⟩⟩⟩⟩⟩
      unfold tNil
      dsimp only
      refine setT_mono (set_two (w := w) (Q := Q) (op := fun f g x => f x || g x) (mk := Sy.uni) hp sa sb (fun L M hL hM => by have := Sy.uni_len M L; omega) (fun L M x _ => by rw [Sy.mem_uni, Bool.or_eq_true, decide_eq_true_eq, decide_eq_true_eq]) (fun L M h => Sy.uni_nodup h) (fun f g x => ?_) fun v H' s hv => k v H' s hv) ?_
      · rw [Bool.or_eq_true, decide_eq_true_eq, decide_eq_true_eq, List.mem_filter, List.mem_filter, Bool.or_eq_true]
        exact (and_or_left (a := x ∈ ps) (b := f x = true) (c := g x = true)).symm
      · intro v1 H1 h
        exact ⟨_, rfl, h⟩
theorem ok_ttimes {f : Addr} {fd : FuncData} (F : Fun K "measured_times" "measured_times" sMTimes f fd) (C : Cn K mg) (V : Ct K w mg) : FnOk P w K mg base CX0 2 f fd ["measure", "a", "b"] (spTTimes K) := by
  refine F.ok scMTimes (fun vs H Q E h => ?_) (fun cdv A outer s H vs Q E hr h => ?_)
  · obtain ⟨is, a, b, ps, f, g, rfl, _⟩ := h
    rfl
  · obtain ⟨is, a, b, ps, f, g, rfl, hp, ha, hb, k⟩ := h
    have hr1 : Room 1 _ := hr.mono (by decide)
    refine ⟨_, pss_cons (ps_if (pt_cmpR op_eq (pv 0) pe_str (nomark _)) pss_never pss_nil)
      (pss_cons (ps_if (pt_cmpR op_eq (pv 0) pe_str (nomark _)) pss_never pss_nil)
      (pss_cons (ps_if (pt_cmpR op_eq (pv 0) pe_str (nomark _)) pss_never pss_nil)
      (pss_cons (ps_if (pt_cmpR op_eq (pv 0) pe_str (nomark _)) (pss_one (ps_ret (pe_and (pv 1) (pe_one (pv 2))))) pss_nil)
      (pss_one (ps_ret (pe_callTy call_tuple_of (by rfl) C.N.tup (by rfl) (pa_cons (pe_callB (Sx.cr_sortS rfl (u64 hr)) (by rfl) C.srt (by rfl) (pa_cons
        (pe_op Sy.op_setAnd (pe_callTy (Sy.cr_setT rfl) (by rfl) V.set (by rfl) (pa_cons (pv 1) pa_nil)) (pe_callTy (Sy.cr_setT rfl) (by rfl) V.set (by rfl) (pa_cons (pv 2) pa_nil))) pa_nil)) pa_nil))))))), ?_⟩
    cases is with
    | true =>
      cases fd_bool ha
      cases fd_bool hb
      refine ⟨_, rfl, rfl, false, dn (by decide +kernel), iteF ⟨_, rfl, rfl, false, dn (by decide +kernel), iteF ⟨_, rfl, rfl, false, dn (by decide +kernel), iteF ⟨_, rfl, rfl, true, dy, iteT ⟨_, rfl, f eps_, rfl, ?_⟩⟩⟩⟩⟩
      cases q : f eps_ with
      | true => exact iteT ⟨_, rfl, k _ _ sm_refl (by have : tvD ps true (fun x => f x && g x) = .bool (g eps_) := (by show PyData.bool (f eps_ && g eps_) = _; rw [q]; rfl); rw [this]; exact .bl _)⟩
      | false => exact iteF (k _ _ sm_refl (by have : tvD ps true (fun x => f x && g x) = .bool false := (by show PyData.bool (f eps_ && g eps_) = _; rw [q]; rfl); rw [this]; exact .bl _))
    | false =>
      obtain ⟨a, rfl, sa⟩ := fd_strs (L := ps.filter f) ha
      obtain ⟨b, rfl, sb⟩ := fd_strs (L := ps.filter g) hb
      refine ⟨_, rfl, rfl, false, dn (by decide +kernel), iteF ⟨_, rfl, rfl, false, dn (by decide +kernel), iteF ⟨_, rfl, rfl, false, dn (by decide +kernel), iteF ⟨_, rfl, rfl, false, dn (by decide +kernel), iteF ⟨_, rfl, ?_⟩⟩⟩⟩⟩
      unfold tNil
      dsimp only
      refine setT_mono (set_two (w := w) (Q := Q) (op := fun f g x => f x && g x) (mk := Sy.cut) hp sa sb (fun L M hL hM => by have : (Sy.cut L M).length ≤ L.length := List.length_filter_le ..; omega) (fun L M x _ => by rw [Sy.mem_cut, Bool.and_eq_true, decide_eq_true_eq, decide_eq_true_eq]) (fun L M h => List.Nodup.sublist List.filter_sublist h) (fun f g x => ?_) fun v H' s hv => k v H' s hv) ?_
      · rw [Bool.and_eq_true, decide_eq_true_eq, decide_eq_true_eq, List.mem_filter, List.mem_filter, Bool.and_eq_true]
        exact ⟨fun h => ⟨h.1.1, h.1.2, h.2.2⟩, fun h => ⟨⟨h.1, h.2.1⟩, h.1, h.2.2⟩⟩
      · intro v1 H1 h
        exact ⟨_, rfl, h⟩
end
end K8


set_option Elab.async false
set_option linter.all false
set_option maxRecDepth 100000
set_option maxHeartbeats 8000000
/-! valued, of there and seen -/
namespace K8
open PySem L2 Nd Bk Gd PySem.ExE
def worthT (σ : Str → Str → Bool) (m : Mono) : Str → Bool := fun x => m.all fun q => σ q.1 x
def resT (σ : Str → Str → Bool) (p : Poly) : Str → Bool := fun x => p.any fun t => worthT σ t.1 x
theorem worthT_take {σ : Str → Str → Bool} {m : Mono} {j : Nat} {q : Str × Int} (e : m[j]? = some q) : worthT σ (m.take (j + 1)) = fun x => worthT σ (m.take j) x && σ q.1 x := by
  funext x
  unfold worthT
  rw [List.take_succ, e, List.all_append]
  simp
theorem resT_take {σ : Str → Str → Bool} {p : Poly} {i : Nat} {t : Mono × Int} (e : p[i]? = some t) : resT σ (p.take (i + 1)) = fun x => resT σ (p.take i) x || worthT σ t.1 x := by
  funext x
  unfold resT
  rw [List.take_succ, e, List.any_append]
  simp
/-- each token of p has a value there; for seen the persons -/
structure HasT (K : PySem.W.Frag) (H : Hp) (gs : List (Str × V)) (ps : List Str) (is : Bool) (σ : Str → Str → Bool) (p : Poly) : Prop where
  tok : ∀ t ∈ p, ∀ x ∈ t.1, ∃ u, valV (kvG gs) (.inr x.1) = some u ∧ FD K H u (tvD ps is (σ x.1))
  per : is = false → ∃ u, valV (kvG gs) (.inr eps_) = some u ∧ FD K H u (.tuple (ps.map .str))
def spTVal (K : PySem.W.Frag) : Sp := fun vs H Q _ => ∃ (v g : V) (p : Poly) (is : Bool) (gs : List (Str × V)) (ps : List Str) (σ : Str → Str → Bool), vs = [v, .str (me is), g] ∧ FD K H v (bD p) ∧ POk p ∧ Szd p ∧ (tokK p).length ≤ 1000 ∧ GivenAt K H g gs ∧
  (gs.map (·.1)).Nodup ∧ PsOk ps ∧ HasT K H gs ps is σ p ∧ ∀ v H', Same H H' → Dp K H' v (tvD ps is (resT σ p)) → Q v H'
def spTRaised : Sp := fun vs H Q _ => ∃ (is : Bool) (v : V) (e : Int), vs = [.str (me is), v, .int e] ∧ Q v H
theorem ite_both {c : Bool} {A B : Prop} (h1 : c = true → B → A) (hB : B) : if c = true then A else B := by
  cases c with
  | true => exact h1 rfl hB
  | false => exact hB
section
variable {P : Program} {w : World} {K : PySem.W.Frag} {mg : Str → Option Value} {base : Heap}
theorem ok_traised {f : Addr} {fd : FuncData} (F : Fun K "_raised" "_raised" sRaised f fd) : FnOk P w K mg base CX0 1 f fd ["measure", "value", "exponent"] spTRaised := by
  refine F.ok scRaised (fun vs H Q E h => ?_) (fun cdv A outer s H vs Q E hr h => ?_)
  · obtain ⟨is, o, e, rfl, _⟩ := h
    rfl
  · obtain ⟨is, v, e, rfl, k⟩ := h
    refine ⟨_, pss_cons (ps_if (PW.pt (pw_and (pt_cmpR op_eq (pv 0) pe_str (nomark _)) pw_never)) (pss_one ps_never) pss_nil) (pss_one (ps_ret (pv 1))), ?_⟩
    exact ⟨_, rfl, rfl, false, dn (by cases is <;> decide +kernel), iteF (iteF ⟨_, rfl, k⟩)⟩
theorem ok_tvalued {f : Addr} {fd : FuncData} (F : Fun K "valued" "valued" sValued f fd) (C : Cn K mg) (Gt : Df P w K mg base 1 "tokens_of" ["p"] (spTks K)) (Gn : Df P w K mg base 1 "need_all" ["tokens", "values"] (spNeed K)) (Gz : Df P w K mg base 1 "measured_zero" ["measure", "persons"] (spTZero K))
    (Go : Df P w K mg base 1 "measured_one" ["measure", "persons"] (spTOne K)) (Gm : Df P w K mg base 2 "measured_times" ["measure", "a", "b"] (spTTimes K)) (Gp : Df P w K mg base 2 "measured_plus" ["measure", "a", "b"] (spTPlus K))
    (Gr : Df P w K mg base 1 "_raised" ["measure", "value", "exponent"] spTRaised) : FnOk P w K mg base CX0 3 f fd ["p", "measure", "given"] (spTVal K) := by
  obtain ⟨ft, fdt, gT, kT, bT, GT⟩ := Gt.ok
  obtain ⟨fn, fdn, gN, kN, bN, GN⟩ := Gn.ok
  obtain ⟨fz, fdz, gZ, kZ, bZ, GZ⟩ := Gz.ok
  obtain ⟨fo, fdo, gO, kO, bO, GO⟩ := Go.ok
  obtain ⟨fm, fdm, gM, kM, bM, GM⟩ := Gm.ok
  obtain ⟨fp, fdp, gP, kP, bP, GP⟩ := Gp.ok
  obtain ⟨fr, fdr, gR, kR, bR, GR⟩ := Gr.ok
  refine F.ok scValued (fun vs H Q E h => ?_) (fun cdv A outer s H vs Q E hr h => ?_)
  · obtain ⟨v, g, p, is, gs, ps, σ, rfl, _⟩ := h
    rfl
  · obtain ⟨v, g, p, is, gs, ps, σ, rfl, hd, okp, szp, htl, ⟨ga, gys, rfl, hg, hpg⟩, hnd, hps, has, k⟩ := h
    have hr1 : Room 1 _ := hr.mono (by decide)
    have hr2 : Room 2 _ := hr.mono (by decide)
    refine ⟨_, pss_cons (ps_set (i := 3) scValued.nd rfl (Or.inl rfl) (pe_callTy (show CallR _ _ (rDictG K) from call_dictG rfl) (by rfl) C.dict (by rfl) (pa_cons (pv 2) pa_nil)))
      (pss_cons (ps_if (PW.pt (pw_and (pt_cmpR op_eq (pv 1) pe_str (nomark _)) (pw_and1 (pt_cmp (pc_dnotin (u1 hr) pe_str (pv 3)))))) (pss_one ps_never) pss_nil)
      (pss_cons (ps_expr (pe_call GN hr1 rfl gN kN bN .nil pass0 (pa_cons (pe_call GT hr1 rfl gT kT bT .nil pass0 (pa_cons (pv 0) pa_nil)) (pa_cons (pv 3) pa_nil))))
      (pss_cons (ps_if (pt_cmpR op_eq (pv 1) pe_str (nomark _)) pss_never pss_nil)
      (pss_cons (ps_set (i := 4) scValued.nd rfl (Or.inl rfl) (pe_dget1 (u1 hr) (pv 3) pe_str ⟨rfl, rfl, rfl, rfl⟩))
      (pss_cons (ps_set (i := 5) scValued.nd rfl (Or.inl rfl) (pe_call GZ hr1 rfl gZ kZ bZ .nil pass0 (pa_cons (pv 1) (pa_cons (pv 4) pa_nil))))
      (pss_cons (ps_for PassesOwn.never rfl (pi_seq (pv 0)) (pg_seq rfl (pgs_cons (pg_name (i := 6) scValued.nd rfl (Or.inl rfl)) (pgs_cons (pg_name (i := 7) scValued.nd rfl (Or.inl rfl)) pgs_nil)))
        (pss_cons (ps_set (i := 8) scValued.nd rfl (Or.inl rfl) (pe_call GO hr1 rfl gO kO bO .nil pass0 (pa_cons (pv 1) (pa_cons (pv 4) pa_nil))))
        (pss_cons (ps_for PassesOwn.never rfl (pi_seq (pv 6)) (pg_seq rfl (pgs_cons (pg_name (i := 9) scValued.nd rfl (Or.inl rfl)) (pgs_cons (pg_name (i := 10) scValued.nd rfl (Or.inl rfl)) pgs_nil)))
          (pss_one (ps_set (i := 8) scValued.nd rfl (Or.inl rfl) (pe_call GM hr2 rfl gM kM bM .nil pass0 (pa_cons (pv 1) (pa_cons (pv 8) (pa_cons (pe_call GR hr1 rfl gR kR bR .nil pass0 (pa_cons (pv 1) (pa_cons (pe_dget (u1 hr) (pv 3) (pv 9) (fun _ _ => rfl)) (pa_cons (pv 10) pa_nil)))) pa_nil)))))))
        (pss_one (ps_set (i := 5) scValued.nd rfl (Or.inl rfl) (pe_call GP hr2 rfl gP kP bP .nil pass0 (pa_cons (pv 1) (pa_cons (pv 5) (pa_cons (pv 8) pa_nil)))))))))
      (pss_one (ps_ret (pv 5))))))))), ?_⟩
    refine ⟨_, rfl, ga, gys, gs, rfl, hg, hpg, hnd, fun D nD => ?_⟩
    have s1 : Same H (upd H D (.dK (kvG gs))) := sm_new sm_refl nD
    have hD : upd H D (.dK (kvG gs)) D = some (.dK (kvG gs)) := upd_same
    generalize upd H D (.dK (kvG gs)) = H1 at s1 hD ⊢
    refine ⟨_, rfl, rfl, !is, ?_, ite_both (fun e b => ?_) (iteF ?_)⟩
    · cases is
      · exact dy
      · exact dn (by decide +kernel)
    · obtain ⟨u, hu, _⟩ := has.per (by cases is; rfl; exact absurd e (by decide))
      refine ⟨_, rfl, D, _, rfl, DGet.k (k := .inr eps_) hD, _, rfl, ?_⟩
      rw [hu]
      exact b
    refine ⟨_, rfl, v, p, rfl, hd.same s1, okp, szp, htl, fun vt H2 s2 ht => ?_⟩
    obtain ⟨T, zs, rfl, hT, hzs⟩ := dp_tup ht
    cases dp_strs hzs
    have hD2 := s2 _ _ hD
    have s02 := s1.trans s2
    refine ⟨_, rfl, T, D, tokK p, kvG gs, rfl, hT, hD2, fun z hz => ?_, ?_⟩
    · obtain ⟨t, ht, x, hx, rfl⟩ := tokK_mem hz
      obtain ⟨u, hu, _⟩ := has.tok t ht x hx
      exact ⟨u, hu⟩
    refine ⟨_, rfl, rfl, false, dn (by cases is <;> decide +kernel), iteF ?_⟩
    refine ⟨_, rfl, D, rfl, .inl ⟨_, .inl hD2⟩, _, DGet.k (k := .inr eps_) hD2, ?_⟩
    have hper : is = false → FD K H ((valV (kvG gs) (.inr eps_)).getD V.non) (.tuple (ps.map .str)) := fun e => by
      obtain ⟨u, hu, hf⟩ := has.per e
      rw [hu]; exact hf
    generalize (valV (kvG gs) (.inr eps_)).getD V.non = pers at hper ⊢
    refine ⟨_, rfl, _, rfl, is, pers, ps, rfl, fun v0 dv0 => ?_⟩
    obtain ⟨a, xs, rfl, hs, hl, hget⟩ := fd_bag (hd.same s02)
    have res0 : resT σ ([] : Poly) = fun _ => false := rfl
    refine seq_go rfl hs fun J G walk hG => ?_
    refine for_it walk (fun i τ H3 => ∃ u5 u6 u7 u8 u9 u10, τ = [some (.ref a), some (.str (me is)), some (.ref ga), some (.ref D), some pers, some u5, u6, u7, u8, u9, u10] ∧ Same H2 H3 ∧ Dp K H3 u5 (tvD ps is (resT σ (p.take i)))) ⟨v0, _, _, _, _, _, rfl, sm_refl, dv0⟩ (fun i τ H3 _ ⟨_, _, _, _, _, _, _, s3, _⟩ => hG H3 s3.seq (sqT_same s3)) ?_ ?_
    · rintro i x τ H3 Hx hi ⟨u5, u6, u7, u8, u9, u10, rfl, s3, d5⟩ ⟨rfl, hx⟩
      obtain ⟨t, hti, hxt⟩ := hget i x hx
      have htm := List.mem_of_getElem? hti
      obtain ⟨T2, kk, rfl, hT2, hk⟩ := fd_pair hxt
      refine ⟨T2, _, rfl, sq_same s3 hT2, rfl, _, _, rfl, _, _, rfl, rfl, ?_⟩
      refine ⟨_, rfl, _, rfl, is, pers, ps, rfl, fun e => (hper e).same (s02.trans s3), fun w0 H4 s4 dw0 => ?_⟩
      obtain ⟨b, ys, rfl, hb, hbl, hbget⟩ := fd_bag (κ := Str) (hk.same (s3.trans s4))
      refine seq_go rfl hb fun J2 G2 walk2 hG2 => ?_
      refine for_it walk2 (fun j τ H5 => ∃ w8 u9 u10, τ = [some (.ref a), some (.str (me is)), some (.ref ga), some (.ref D), some pers, some u5, some (.ref b), some (.int t.2), some w8, u9, u10] ∧ Same H4 H5 ∧ Dp K H5 w8 (tvD ps is (worthT σ (t.1.take j)))) ⟨w0, _, _, rfl, sm_refl, dw0⟩ (fun j τ H5 _ ⟨_, _, _, _, s5, _⟩ => hG2 H5 s5.seq (sqT_same s5)) ?_ ?_
      · rintro j y τ H5 _ hj ⟨w8, u9, u10, rfl, s5, d8⟩ ⟨rfl, hy⟩
        obtain ⟨q, hq, hyq⟩ := hbget j y hy
        have hqm := List.mem_of_getElem? hq
        obtain ⟨U, kk2, rfl, hU, hkk⟩ := fd_pair hyq
        cases fd_str (z := q.1) hkk
        obtain ⟨uv, hv, fv⟩ := has.tok t htm q hqm
        have hD5 := s5 _ _ (s4 _ _ (s3 _ _ hD2))
        refine ⟨U, _, rfl, sq_same s5 hU, rfl, _, _, rfl, _, _, rfl, rfl, ?_⟩
        refine ⟨_, rfl, _, rfl, _, rfl, _, rfl, _, rfl, D, _, rfl, hv ▸ DGet.k (k := .inr q.1) hD5, _, rfl, is, uv, q.2, rfl, ?_⟩
        refine ⟨is, w8, uv, ps, worthT σ (t.1.take j), σ q.1, rfl, hps, FD.of d8 (tv_tup ..), fv.same (s02.trans (s3.trans (s4.trans s5))), fun v6 H6 s6 d6 => ?_⟩
        refine ⟨v6, _, _, rfl, s5.trans s6, ?_⟩
        rw [worthT_take hq]
        exact d6
      · rintro τ H5 ⟨w8, u9, u10, rfl, s5, d8⟩
        rw [hbl, List.take_length] at d8
        refine ⟨_, rfl, _, rfl, _, rfl, is, u5, w8, ps, resT σ (p.take i), worthT σ t.1, rfl, hps, FD.of (dp_same (s4.trans s5) d5) (tv_tup ..), FD.of d8 (tv_tup ..), fun v6 H6 s6 d6 => ?_⟩
        refine ⟨v6, _, _, _, _, _, rfl, s3.trans (s4.trans (s5.trans s6)), ?_⟩
        rw [resT_take hti]
        exact d6
    · rintro τ H3 ⟨u5, u6, u7, u8, u9, u10, rfl, s3, d5⟩
      rw [hl, List.take_length] at d5
      exact ⟨_, rfl, k _ _ (s02.trans s3) d5⟩
end
end K8


set_option Elab.async false
set_option linter.all false
set_option maxRecDepth 100000
set_option maxHeartbeats 8000000
/-! what is drawn: some of the persons, a value -/
namespace K8
open PySem L2 Nd Bk Gd
def spGSome (K : PySem.W.Frag) : Sp := fun vs H Q _ => ∃ (p c a : Addr) (ns : List Int) (ps : List Str), vs = [.ref p, .ref a] ∧ PoolAt H p c ns ∧ SqT K H a (ps.map V.str) ∧ PsOk ps ∧
  ∀ (T : Addr) (f : Str → Bool) (H' : Hp), But p H H' → PoolAt H' p c ns → SqT K H' T ((ps.filter f).map V.str) → Q (.ref T) H'
section
variable {P : Program} {w : World} {K : PySem.W.Frag} {mg : Str → Option Value} {base : Heap}
theorem scGSome : FnScope ["pool", "persons", "one"] ["pool", "persons"] (defScope sGSome) := ⟨rfl, rfl, rfl, by decide +kernel, rfl, by decide +kernel, by decide +kernel⟩
theorem ascK_nodup {ps : List Str} (h : AscK ps) : ps.Nodup := List.Pairwise.imp (fun {a b} q e => by subst e; rw [lt_irrefl] at q; exact nomatch q) h
theorem filt_step {ps : List Str} {f : Str → Bool} {i : Nat} {z : Str} {b : Bool} (nd : ps.Nodup) (e : ps[i]? = some z) : (ps.take (i + 1)).filter (fun x => if x = z then b else f x) = (ps.take i).filter f ++ if b = true then [z] else [] := by
  rw [List.take_succ, e, List.filter_append]
  have hz : z ∉ ps.take i := fun m => by
    have hi := (List.getElem?_eq_some_iff.mp e)
    have d : (ps.take i ++ ps.drop i).Nodup := by rw [List.take_append_drop]; exact nd
    have h2 : z ∈ ps.drop i := by
      rw [List.drop_eq_getElem_cons hi.1, hi.2]; exact List.mem_cons_self
    exact (List.nodup_append.mp d).2.2 z m z h2 rfl
  congr 1
  · refine List.filter_congr fun x hx => ?_
    rw [if_neg (fun q : x = z => hz (q ▸ hx))]
  · simp [List.filter_cons]
theorem ok_some {f : Addr} {fd : FuncData} (F : Fun K "_law_some" "_law_some" sGSome f fd) (N : Nm mg) (Gt : Df P w K mg base 2 "_law_take" ["pool", "many"] spTake) : FnOk P w K mg base CX0 3 f fd ["pool", "persons"] (spGSome K) := by
  obtain ⟨ft, fdt, gT, kT, bT, GT⟩ := Gt.ok
  refine F.ok scGSome (fun vs H Q E h => ?_) (fun cdv A outer s H vs Q E hr h => ?_)
  · obtain ⟨p, c, a, ns, ps, rfl, _⟩ := h
    rfl
  · obtain ⟨p, c, a, ns, ps, rfl, hP, ha, hp, k⟩ := h
    have hr2 : Room 2 _ := hr.mono (by decide)
    refine ⟨_, pss_one (ps_ret (pe_callTy (show CallR _ _ (rTupF K) from call_tupleF) (by rfl) N.tup (by rfl) (pa_cons
      (pe_lc (own := [("one", 2)]) (g := gName 2) (tt := tTest (tOp (rI0 fun i j => .bl (decide (j < i))) _ (tC (.int 0)))) rfl scGSome.nd (pi_tup (pv 1)) (blkOk_by (N := ["pool", "persons", "one"]) (sc := defScope sGSome) (by decide +kernel))
        (fun _ _ _ _ _ => pg_name (i := 2) scGSome.nd rfl (Or.inl rfl))
        (fun _ _ _ _ _ => pts_one (pt_cmpR op_gt (pe_call GT hr2 rfl gT kT bT .nil pass0 (pa_cons (pv 0) (pa_cons pe_int pa_nil))) pe_int (nomark _)))
        (fun _ _ _ _ _ => pv 2)) pa_nil))), ?_⟩
    refine ⟨_, rfl, a, rfl, ⟨_, ha⟩, fun D nD => ?_⟩
    have Dp := hP.off nD
    refine lc_tup (K := K) (a := a) (xs := ps.map V.str) (fun i H2 => ∃ f : Str → Bool, PoolAt H2 p c ns ∧ But p H H2 ∧ H2 D = some (.lst (((ps.take i).filter f).map V.str))) ?_ ?_ ?_ ?_
    · exact ⟨fun _ => true, hP.same (sm_new sm_refl nD), But.same But.refl (sm_new sm_refl nD), upd_same⟩
    · rintro i H2 _ ⟨f, P2, k2, _⟩
      exact sqT_kt (.but hP.notT k2) ha
    · rintro i x H2 hi ⟨f, P2, k2, hD⟩
      rw [List.getElem?_map] at hi
      obtain ⟨z, hz, rfl⟩ := Option.map_eq_some_iff.mp hi
      refine ⟨rfl, _, rfl, p, c, ns, _, rfl, by decide, by decide, P2, fun r H3 r0 r1 P3 k3 => ⟨_, _, rfl, rfl, _, rfl, ?_⟩⟩
      have hD3 := k3 _ _ hD Dp
      have st := fun b => filt_step (b := b) (f := f) (ascK_nodup hp.asc) hz
      by_cases q : 0 < r
      · rw [decide_eq_true q]
        have fe : H D = none := nD
        refine iteT ⟨_, rfl, _, hD3, ?_, fun x => if x = z then true else f x, P3.mine (Ne.symm Dp) (fun e => ?_), but_mine (k2.trans k3) nD, ?_⟩
        · have := List.length_filter_le f (ps.take i)
          have h4 := hp.few
          rw [List.length_map, sizeLine_eq]
          rw [List.length_take] at this
          omega
        · rw [← e, hP.cells] at fe
          exact nomatch fe
        · rw [upd_same, st true, if_pos rfl, List.map_append]; rfl
      · rw [decide_eq_false q]
        refine iteF ⟨fun x => if x = z then false else f x, P3, k2.trans k3, ?_⟩
        rw [hD3, st false, if_neg Bool.false_ne_true, List.append_nil]
    · rintro H2 ⟨f, P2, k2, hD⟩
      rw [List.length_map, List.take_length] at hD
      refine ⟨D, _, rfl, SqL.of hD, fun T o nT ho => ?_⟩
      have s3 : Same H2 (upd H2 T (.frz o (.tup ((ps.filter f).map V.str)))) := sm_new sm_refl nT
      exact k T f _ (k2.same s3) (P2.same s3) (.inl (.inr ⟨_, upd_same⟩))
end
end K8


set_option Elab.async false
set_option linter.all false
set_option maxRecDepth 100000
set_option maxHeartbeats 8000000
namespace K8
open PySem L2 Nd Bk Gd
def spGDVal (K : PySem.W.Frag) : Sp := fun vs H Q _ => ∃ (p c a : Addr) (ns : List Int) (ps : List Str) (is : Bool), vs = [.ref p, .str (me is), .ref a] ∧ PoolAt H p c ns ∧ SqT K H a (ps.map V.str) ∧ PsOk ps ∧
  ∀ (v : V) (f : Str → Bool) (H' : Hp), But p H H' → PoolAt H' p c ns → Dp K H' v (tvD ps is f) → Q v H'
section
variable {P : Program} {w : World} {K : PySem.W.Frag} {mg : Str → Option Value} {base : Heap}
theorem scGDVal : FnScope ["pool", "measure", "persons"] ["pool", "measure", "persons"] (defScope sGDVal) := ⟨rfl, rfl, rfl, by decide +kernel, rfl, by decide +kernel, by decide +kernel⟩
theorem ok_gdval {f : Addr} {fd : FuncData} (F : Fun K "_law_drawn_value" "_law_drawn_value" sGDVal f fd) (Gt : Df P w K mg base 2 "_law_take" ["pool", "many"] spTake) (Gs : Df P w K mg base 3 "_law_some" ["pool", "persons"] (spGSome K)) : FnOk P w K mg base CX0 4 f fd ["pool", "measure", "persons"] (spGDVal K) := by
  obtain ⟨ft, fdt, gT, kT, bT, GT⟩ := Gt.ok
  obtain ⟨fs, fds, gS, kS, bS, GS⟩ := Gs.ok
  refine F.ok scGDVal (fun vs H Q E h => ?_) (fun cdv A outer s H vs Q E hr h => ?_)
  · obtain ⟨p, c, a, ns, ps, is, rfl, _⟩ := h
    rfl
  · obtain ⟨p, c, a, ns, ps, is, rfl, hP, ha, hp, k⟩ := h
    have hr2 : Room 2 _ := hr.mono (by decide)
    have hr3 : Room 3 _ := hr.mono (by decide)
    refine ⟨_, pss_cons (ps_if (pt_cmpR op_eq (pv 1) pe_str (nomark _)) pss_never pss_nil)
      (pss_cons (ps_if (pt_cmpR op_eq (pv 1) pe_str (nomark _)) pss_never pss_nil)
      (pss_cons (ps_if (pt_cmpR op_eq (pv 1) pe_str (nomark _)) pss_never pss_nil)
      (pss_cons (ps_if (pt_cmpR op_eq (pv 1) pe_str (nomark _)) (pss_one (ps_ret (pe_cmpR op_gt (pe_call GT hr2 rfl gT kT bT .nil pass0 (pa_cons (pv 0) (pa_cons pe_int pa_nil))) pe_int (nomark _)))) pss_nil)
      (pss_one (ps_ret (pe_call GS hr3 rfl gS kS bS .nil pass0 (pa_cons (pv 0) (pa_cons (pv 2) pa_nil)))))))), ?_⟩
    refine ⟨_, rfl, rfl, false, dn (by cases is <;> decide +kernel), iteF ⟨_, rfl, rfl, false, dn (by cases is <;> decide +kernel), iteF ⟨_, rfl, rfl, false, dn (by cases is <;> decide +kernel), iteF ?_⟩⟩⟩
    cases is with
    | true =>
      refine ⟨_, rfl, rfl, true, dy, iteT ⟨_, rfl, p, c, ns, _, rfl, by decide, by decide, hP, fun r H1 r0 r1 P1 k1 => ⟨_, _, rfl, rfl, ?_⟩⟩⟩
      exact k _ (fun _ => decide (0 < r)) _ k1 P1 (.bl _)
    | false =>
      refine ⟨_, rfl, rfl, false, dn (by decide +kernel), iteF ⟨_, rfl, _, rfl, p, c, a, ns, ps, rfl, hP, ha, hp, fun T f H1 k1 P1 hT => ?_⟩⟩
      exact k _ f _ k1 P1 (.tup hT (strs_dp _))
theorem scGZero : FnScope ["measure", "persons"] ["measure", "persons"] (defScope sGZero) := ⟨rfl, rfl, rfl, by decide +kernel, rfl, by decide +kernel, by decide +kernel⟩
theorem ok_gzero {f : Addr} {fd : FuncData} (F : Fun K "_law_zero" "_law_zero" sGZero f fd) : FnOk P w K mg base CX0 1 f fd ["measure", "persons"] (fun vs H Q _ => ∃ (is : Bool) (x : V) (ps : List Str), vs = [.str (me is), x] ∧ ∀ v H', Same H H' → Dp K H' v (tvD ps is fun _ => false) → Q v H') := by
  refine F.ok scGZero (fun vs H Q E h => ?_) (fun cdv A outer s H vs Q E hr h => ?_)
  · obtain ⟨is, x, ps, rfl, _⟩ := h
    rfl
  · obtain ⟨is, x, ps, rfl, k⟩ := h
    refine ⟨_, pss_one (ps_ret (pe_dget (u1 hr) (pe_disp (pps_cons pe_str pe_int (pps_cons pe_str pe_non (pps_cons pe_str pe_int (pps_cons pe_str pe_bl (pps_cons pe_str (pe_tup pa_nil) pps_nil))))) rfl rfl (by simp) (by decide)) (pv 0) (fun _ _ => rfl))), ?_⟩
    intro D nD
    refine ⟨(by show 0 ≤ sizeLine; decide), fun T nT => ?_⟩
    have s1 : Same H (upd H D (.dK [])) := sm_new sm_refl nD
    have g1 : upd H D (.dK []) D = some (.dK []) := upd_same
    generalize upd H D (.dK []) = H1 at s1 g1 nT ⊢
    have s2 : Same H1 (upd H1 T (.tup [])) := sm_new sm_refl nT
    have g2 : upd H1 T (.tup []) T = some (.tup []) := upd_same
    generalize upd H1 T (.tup []) = H2 at s2 g2 ⊢
    let kvs : List (Key × V) := [(.inr (Str.ofString "count"), .int 0), (.inr (Str.ofString "cost"), .non), (.inr (Str.ofString "trust"), .int 0), (.inr there_, .bl false), (.inr seen_, .ref T)]
    refine ⟨s2 _ _ g1, kvs, rfl, (by show 5 ≤ 15; decide), ?_⟩
    have nd : (([] ++ kvs : List (Key × V)).map (·.1)).Nodup := by
      show ([.inr (Str.ofString "count"), .inr (Str.ofString "cost"), .inr (Str.ofString "trust"), .inr there_, .inr seen_] : List Key).Nodup
      decide +kernel
    rw [merge_snoc (k := .inr there_) (v := .non) kvs [] nd, List.nil_append]
    have ne : T ≠ D := ne_of_none g1 nT |>.symm
    have s3 : Same H (upd H2 D (.dK kvs)) := sm_new (s1.trans s2) nD
    have g3 : upd H2 D (.dK kvs) D = some (.dK kvs) := upd_same
    have g4 : upd H2 D (.dK kvs) T = some (.tup []) := by rw [upd_ne ne]; exact g2
    generalize upd H2 D (.dK kvs) = H3 at s3 g3 g4 ⊢
    cases is with
    | true =>
      have e : valV kvs (.inr there_) = some (.bl false) := (val_miss (by decide +kernel)).trans ((val_miss (by decide +kernel)).trans ((val_miss (by decide +kernel)).trans rfl))
      exact ⟨_, rfl, D, .bl false, rfl, getK g3 e, k _ _ s3 (.bl false)⟩
    | false =>
      have e : valV kvs (.inr seen_) = some (.ref T) := (val_miss (by decide +kernel)).trans ((val_miss (by decide +kernel)).trans ((val_miss (by decide +kernel)).trans ((val_miss (by decide +kernel)).trans rfl)))
      refine ⟨_, rfl, D, .ref T, rfl, getK g3 e, k _ _ s3 ?_⟩
      have e : tvD ps false (fun _ => false) = .tuple [] := by
        unfold tvD
        rw [if_neg Bool.false_ne_true, List.filter_eq_nil_iff.mpr (fun _ _ => Bool.false_ne_true)]; rfl
      rw [e]
      exact .tup (SqT.of g4) .nil
end
end K8


set_option Elab.async false
set_option linter.all false
set_option maxRecDepth 100000
set_option maxHeartbeats 8000000
/-! the law's own one, sum and product -/
namespace K8
open PySem L2 Nd Bk Gd
def spGOne (K : PySem.W.Frag) : Sp := fun vs H Q _ => ∃ (is : Bool) (a : Addr) (ps : List Str), vs = [.str (me is), .ref a] ∧ SqT K H a (ps.map V.str) ∧ ∀ v H', Same H H' → Dp K H' v (tvD ps is fun _ => true) → Q v H'
def spGSum (K : PySem.W.Frag) : Sp := fun vs H Q _ => ∃ (is : Bool) (a b : V) (ps : List Str) (f g : Str → Bool), vs = [.str (me is), a, b] ∧ PsOk ps ∧ (∀ z ∈ ps, shU z = true) ∧ Dp K H a (tvD ps is f) ∧ Dp K H b (tvD ps is g) ∧ ∀ v H', Same H H' → Dp K H' v (tvD ps is fun x => f x || g x) → Q v H'
def spGBoth (K : PySem.W.Frag) : Sp := fun vs H Q _ => ∃ (is : Bool) (a b : V) (ps : List Str) (f g : Str → Bool), vs = [.str (me is), a, b] ∧ PsOk ps ∧ Dp K H a (tvD ps is f) ∧ Dp K H b (tvD ps is g) ∧ ∀ v H', Same H H' → Dp K H' v (tvD ps is fun x => f x && g x) → Q v H'
theorem dp_tvT {K : PySem.W.Frag} {H : Hp} {v : V} {ps : List Str} {f : Str → Bool} (h : Dp K H v (tvD ps false f)) : ∃ a, v = .ref a ∧ SqT K H a ((ps.filter f).map V.str) := by
  obtain ⟨a, xs, rfl, hs, hx⟩ := dp_tup (ds := (ps.filter f).map .str) h
  cases dp_strs hx
  exact ⟨a, rfl, hs⟩
theorem dp_tvB {K : PySem.W.Frag} {H : Hp} {v : V} {ps : List Str} {f : Str → Bool} (h : Dp K H v (tvD ps true f)) : v = .bl (f eps_) := by
  have h : Dp K H v (.bool (f eps_)) := h
  cases h; rfl
section
variable {P : Program} {w : World} {K : PySem.W.Frag} {mg : Str → Option Value} {base : Heap}
theorem scGOne : FnScope ["measure", "persons"] ["measure", "persons"] (defScope sGOne) := ⟨rfl, rfl, rfl, by decide +kernel, rfl, by decide +kernel, by decide +kernel⟩
theorem ok_gone {f : Addr} {fd : FuncData} (F : Fun K "_law_one" "_law_one" sGOne f fd) : FnOk P w K mg base CX0 1 f fd ["measure", "persons"] (spGOne K) := by
  refine F.ok scGOne (fun vs H Q E h => ?_) (fun cdv A outer s H vs Q E hr h => ?_)
  · obtain ⟨is, x, ps, rfl, _⟩ := h
    rfl
  · obtain ⟨is, T, ps, rfl, hT, k⟩ := h
    refine ⟨_, pss_one (ps_ret (pe_dget (u1 hr) (pe_disp (pps_cons pe_str pe_int (pps_cons pe_str pe_int (pps_cons pe_str pe_int (pps_cons pe_str pe_bl (pps_cons pe_str (pv 1) pps_nil))))) rfl rfl (by simp) (by decide)) (pv 0) (fun _ _ => rfl))), ?_⟩
    intro D nD
    have s1 : Same H (upd H D (.dK [])) := sm_new sm_refl nD
    have g1 : upd H D (.dK []) D = some (.dK []) := upd_same
    generalize upd H D (.dK []) = H1 at s1 g1 ⊢
    let kvs : List (Key × V) := [(.inr (Str.ofString "count"), .int 1), (.inr (Str.ofString "cost"), .int 0), (.inr (Str.ofString "trust"), .int 100), (.inr there_, .bl true), (.inr seen_, .ref T)]
    refine ⟨_, rfl, g1, kvs, rfl, (by show 5 ≤ 15; decide), ?_⟩
    have nd : (([] ++ kvs : List (Key × V)).map (·.1)).Nodup := by
      show ([.inr (Str.ofString "count"), .inr (Str.ofString "cost"), .inr (Str.ofString "trust"), .inr there_, .inr seen_] : List Key).Nodup
      decide +kernel
    rw [merge_snoc (k := .inr there_) (v := .non) kvs [] nd, List.nil_append]
    have s3 : Same H (upd H1 D (.dK kvs)) := sm_new s1 nD
    have g3 : upd H1 D (.dK kvs) D = some (.dK kvs) := upd_same
    generalize upd H1 D (.dK kvs) = H3 at s3 g3 ⊢
    cases is with
    | true =>
      have e : valV kvs (.inr there_) = some (.bl true) := (val_miss (by decide +kernel)).trans ((val_miss (by decide +kernel)).trans ((val_miss (by decide +kernel)).trans rfl))
      exact ⟨_, rfl, D, .bl true, rfl, getK g3 e, k _ _ s3 (.bl true)⟩
    | false =>
      have e : valV kvs (.inr seen_) = some (.ref T) := (val_miss (by decide +kernel)).trans ((val_miss (by decide +kernel)).trans ((val_miss (by decide +kernel)).trans ((val_miss (by decide +kernel)).trans rfl)))
      refine ⟨_, rfl, D, .ref T, rfl, getK g3 e, k _ _ s3 ?_⟩
      have e : tvD ps false (fun _ => true) = .tuple (ps.map .str) := by
        unfold tvD
        rw [if_neg Bool.false_ne_true, List.filter_eq_self.mpr (fun _ _ => rfl)]
      rw [e]
      exact .tup (sqT_same s3 hT) (strs_dp _)
theorem scGSum : FnScope ["measure", "a", "b"] ["measure", "a", "b"] (defScope sGSum) := ⟨rfl, rfl, rfl, by decide +kernel, rfl, by decide +kernel, by decide +kernel⟩
theorem ok_gsum {f : Addr} {fd : FuncData} (F : Fun K "_law_sum" "_law_sum" sGSum f fd) (N : Nm mg) (mLs : mg "list" = none) (Gs : Df P w K mg base 1 "_law_sorted" ["rows"] (spPSort K Str)) : FnOk P w K mg base CX0 2 f fd ["measure", "a", "b"] (spGSum K) := by
  obtain ⟨fs, fds, gS, kS, bS, GS⟩ := Gs.ok
  refine F.ok scGSum (fun vs H Q E h => ?_) (fun cdv A outer s H vs Q E hr h => ?_)
  · obtain ⟨is, a, b, ps, f, g, rfl, _⟩ := h
    rfl
  · obtain ⟨is, a, b, ps, f, g, rfl, hp, hu, ha, hb, k⟩ := h
    have hr1 : Room 1 _ := hr.mono (by decide)
    refine ⟨_, pss_cons (ps_if (pt_cmpR op_eq (pv 0) pe_str (nomark _)) pss_never pss_nil)
      (pss_cons (ps_if (pt_cmpR op_eq (pv 0) pe_str (nomark _)) pss_never pss_nil)
      (pss_cons (ps_if (pt_cmpR op_eq (pv 0) pe_str (nomark _)) pss_never pss_nil)
      (pss_cons (ps_if (pt_cmpR op_eq (pv 0) pe_str (nomark _)) (pss_one (ps_ret (pe_or (pv 1) (pe_one (pv 2))))) pss_nil)
      (pss_one (ps_ret (pe_callTy call_tuple_of (by rfl) N.tup (by rfl) (pa_cons (pe_call GS hr1 rfl gS kS bS .nil pass0 (pa_cons
        (pe_op op_cat (pe_callTy call_list_of (by rfl) mLs (by decide +kernel) (pa_cons (pv 1) pa_nil)) (pe_callTy call_list_of (by rfl) mLs (by decide +kernel) (pa_cons (pv 2) pa_nil))) pa_nil)) pa_nil))))))), ?_⟩
    refine ⟨_, rfl, rfl, false, dn (by cases is <;> decide +kernel), iteF ⟨_, rfl, rfl, false, dn (by cases is <;> decide +kernel), iteF ⟨_, rfl, rfl, false, dn (by cases is <;> decide +kernel), iteF ?_⟩⟩⟩
    cases is with
    | true =>
      cases dp_tvB ha
      cases dp_tvB hb
      refine ⟨_, rfl, rfl, true, dy, iteT ⟨_, rfl, f eps_, rfl, ?_⟩⟩
      cases q : f eps_ with
      | true => exact iteT (k _ _ sm_refl (by have : tvD ps true (fun x => f x || g x) = .bool true := (by show PyData.bool (f eps_ || g eps_) = _; rw [q]; rfl); rw [this]; exact .bl true))
      | false => exact iteF ⟨_, rfl, k _ _ sm_refl (by have : tvD ps true (fun x => f x || g x) = .bool (g eps_) := (by show PyData.bool (f eps_ || g eps_) = _; rw [q]; rfl); rw [this]; exact .bl _)⟩
    | false =>
      obtain ⟨a, rfl, sa⟩ := dp_tvT ha
      obtain ⟨b, rfl, sb⟩ := dp_tvT hb
      have lf : (ps.filter f).length ≤ 4 := Nat.le_trans (List.length_filter_le ..) hp.few
      have lg : (ps.filter g).length ≤ 4 := Nat.le_trans (List.length_filter_le ..) hp.few
      refine ⟨_, rfl, rfl, false, dn (by decide +kernel), iteF ⟨_, rfl, a, _, rfl, .inr sa, fun l1 n1 => ?_⟩⟩
      have s1 : Same H (upd H l1 (.lst ((ps.filter f).map V.str))) := sm_new sm_refl n1
      have g1 : upd H l1 (.lst ((ps.filter f).map V.str)) l1 = some (.lst ((ps.filter f).map V.str)) := upd_same
      generalize upd H l1 (.lst ((ps.filter f).map V.str)) = H1 at s1 g1 ⊢
      refine ⟨_, rfl, b, _, rfl, .inr (sqT_same s1 sb), fun l2 n2 => ?_⟩
      have s2 : Same H1 (upd H1 l2 (.lst ((ps.filter g).map V.str))) := sm_new sm_refl n2
      have g2 : upd H1 l2 (.lst ((ps.filter g).map V.str)) l2 = some (.lst ((ps.filter g).map V.str)) := upd_same
      generalize upd H1 l2 (.lst ((ps.filter g).map V.str)) = H2 at s2 g2 ⊢
      refine ⟨l1, l2, _, _, rfl, rfl, s2 _ _ g1, g2, by rw [List.length_map, List.length_map, sizeLine_eq]; omega, fun l3 n3 => ?_⟩
      rw [← List.map_append]
      have s3 : Same H2 (upd H2 l3 (.lst ((ps.filter f ++ ps.filter g).map V.str))) := sm_new sm_refl n3
      have g3 : upd H2 l3 (.lst ((ps.filter f ++ ps.filter g).map V.str)) l3 = some (.lst ((ps.filter f ++ ps.filter g).map V.str)) := upd_same
      generalize upd H2 l3 (.lst ((ps.filter f ++ ps.filter g).map V.str)) = H3 at s3 g3 ⊢
      refine ⟨l3, _, ps.filter f ++ ps.filter g, rfl, SqL.of g3, strs_dp _, fun z hz => shU_K (hu z ?_), by rw [List.length_append]; omega, fun l4 ys H4 n4 s4 g4 hd4 => ?_⟩
      · rcases List.mem_append.mp hz with h | h <;> exact (List.mem_filter.mp h).1
      have e : sortU (ps.filter f ++ ps.filter g) = ps.filter fun x => f x || g x := by
        refine ascK_ext (sortU_asc _) (List.Pairwise.filter _ hp.asc) fun x => ?_
        rw [sortU_mem, List.mem_append, List.mem_filter, List.mem_filter, List.mem_filter, Bool.or_eq_true]
        exact (and_or_left (a := x ∈ ps) (b := f x = true) (c := g x = true)).symm
      rw [e] at hd4
      have s04 := s1.trans (s2.trans (s3.trans s4))
      exact ⟨l4, ys, rfl, .inl ⟨SqL.of g4, fun T nT => k _ _ (sm_new s04 (s04.free nT)) (.tup (SqT.of upd_same) (dpAll_same (sm_new sm_refl nT) hd4))⟩⟩
theorem scGBoth : FnScope ["measure", "a", "b", "one"] ["measure", "a", "b"] (defScope sGBoth) := ⟨rfl, rfl, rfl, by decide +kernel, rfl, by decide +kernel, by decide +kernel⟩
theorem inV_in (x : Str) (l : List Str) : inV (V.str x) (l.map V.str) = decide (x ∈ l) := by
  have := inV_strs x l
  by_cases h : x ∈ l
  · rw [decide_eq_true h]
    rw [decide_eq_false (by simpa using h)] at this
    simpa using this
  · rw [decide_eq_false h]
    rw [decide_eq_true h] at this
    simpa using this
theorem filt_one {α : Type} {L : List α} {q : α → Bool} {i : Nat} {z : α} (e : L[i]? = some z) : (L.take (i + 1)).filter q = (L.take i).filter q ++ if q z = true then [z] else [] := by
  rw [List.take_succ, e, List.filter_append]
  congr 1
  simp [List.filter_cons]
theorem ok_gboth {f : Addr} {fd : FuncData} (F : Fun K "_law_both" "_law_both" sGBoth f fd) (N : Nm mg) : FnOk P w K mg base CX0 1 f fd ["measure", "a", "b"] (spGBoth K) := by
  refine F.ok scGBoth (fun vs H Q E h => ?_) (fun cdv A outer s H vs Q E hr h => ?_)
  · obtain ⟨is, a, b, ps, f, g, rfl, _⟩ := h
    rfl
  · obtain ⟨is, a, b, ps, f, g, rfl, hp, ha, hb, k⟩ := h
    refine ⟨_, pss_cons (ps_if (pt_cmpR op_eq (pv 0) pe_str (nomark _)) pss_never pss_nil)
      (pss_cons (ps_if (pt_cmpR op_eq (pv 0) pe_str (nomark _)) pss_never pss_nil)
      (pss_cons (ps_if (pt_cmpR op_eq (pv 0) pe_str (nomark _)) pss_never pss_nil)
      (pss_cons (ps_if (pt_cmpR op_eq (pv 0) pe_str (nomark _)) (pss_one (ps_ret (pe_and (pv 1) (pe_one (pv 2))))) pss_nil)
      (pss_one (ps_ret (pe_callTy call_tuple_of (by rfl) N.tup (by rfl) (pa_cons
        (pe_lc (own := [("one", 3)]) (g := gName 3) (tt := tTest (tOp (rIn K false) (tVar 3) (tVar 2))) rfl scGBoth.nd (pi_tup (pv 1)) (blkOk_by (N := ["measure", "a", "b", "one"]) (sc := defScope sGBoth) (by decide +kernel))
          (fun _ _ _ _ _ => pg_name (i := 3) scGBoth.nd rfl (Or.inl rfl))
          (fun _ _ _ _ _ => pts_one (pt_cmpR (show OpR _ _ (rIn K false) from op_in_seq) (pv 3) (pv 2) (by rfl)))
          (fun _ _ _ _ _ => pv 3)) pa_nil))))))), ?_⟩
    refine ⟨_, rfl, rfl, false, dn (by cases is <;> decide +kernel), iteF ⟨_, rfl, rfl, false, dn (by cases is <;> decide +kernel), iteF ⟨_, rfl, rfl, false, dn (by cases is <;> decide +kernel), iteF ?_⟩⟩⟩
    cases is with
    | true =>
      cases dp_tvB ha
      cases dp_tvB hb
      refine ⟨_, rfl, rfl, true, dy, iteT ⟨_, rfl, f eps_, rfl, ?_⟩⟩
      cases q : f eps_ with
      | true => exact iteT ⟨_, rfl, k _ _ sm_refl (by have : tvD ps true (fun x => f x && g x) = .bool (g eps_) := (by show PyData.bool (f eps_ && g eps_) = _; rw [q]; rfl); rw [this]; exact .bl _)⟩
      | false => exact iteF (k _ _ sm_refl (by have : tvD ps true (fun x => f x && g x) = .bool false := (by show PyData.bool (f eps_ && g eps_) = _; rw [q]; rfl); rw [this]; exact .bl _))
    | false =>
      obtain ⟨a, rfl, sa⟩ := dp_tvT ha
      obtain ⟨b, rfl, sb⟩ := dp_tvT hb
      have lf : (ps.filter f).length ≤ 4 := Nat.le_trans (List.length_filter_le ..) hp.few
      refine ⟨_, rfl, rfl, false, dn (by decide +kernel), iteF ⟨_, rfl, a, rfl, ⟨_, sa⟩, fun D nD => ?_⟩⟩
      refine lc_tup (K := K) (a := a) (xs := (ps.filter f).map V.str) (fun i H2 => Same H H2 ∧ H2 D = some (.lst ((((ps.filter f).take i).filter fun x => decide (x ∈ ps.filter g)).map V.str))) ⟨sm_new sm_refl nD, upd_same⟩ (fun i H2 _ ⟨s2, _⟩ => sqT_same s2 sa) ?_ ?_
      · rintro i x H2 hi ⟨s2, hD⟩
        rw [List.getElem?_map] at hi
        obtain ⟨z, hz, rfl⟩ := Option.map_eq_some_iff.mp hi
        refine ⟨rfl, _, rfl, _, rfl, b, _, rfl, .inr (sqT_same s2 sb), rfl, flat_strs' _, _, rfl, ?_⟩
        have st := filt_one (q := fun x => decide (x ∈ ps.filter g)) hz
        show if inV (V.str z) ((ps.filter g).map V.str) = true then _ else _
        rw [inV_in]
        by_cases q : z ∈ ps.filter g
        · rw [decide_eq_true q]
          refine iteT ⟨_, rfl, _, hD, ?_, sm_new s2 nD, ?_⟩
          · have := List.length_filter_le (fun x => decide (x ∈ ps.filter g)) ((ps.filter f).take i)
            rw [List.length_map, sizeLine_eq]
            rw [List.length_take] at this
            omega
          · rw [upd_same, st, if_pos (decide_eq_true q), List.map_append]; rfl
        · rw [decide_eq_false q]
          refine iteF ⟨s2, ?_⟩
          rw [hD, st, if_neg (by simpa using q), List.append_nil]
      · rintro H2 ⟨s2, hD⟩
        rw [List.length_map, List.take_length] at hD
        have e : (ps.filter f).filter (fun x => decide (x ∈ ps.filter g)) = ps.filter fun x => f x && g x := by
          rw [List.filter_filter]
          refine List.filter_congr fun x hx => ?_
          have : decide (x ∈ ps.filter g) = g x := by
            rw [Bool.eq_iff_iff, decide_eq_true_eq, List.mem_filter]
            exact ⟨fun h => h.2, fun h => ⟨hx, h⟩⟩
          rw [this, Bool.and_comm]
        rw [e] at hD
        exact ⟨D, _, rfl, .inl ⟨SqL.of hD, fun T nT => k _ _ (sm_new s2 (s2.free nT)) (.tup (SqT.of upd_same) (strs_dp _))⟩⟩
end
end K8


set_option Elab.async false
set_option linter.all false
set_option maxRecDepth 100000
set_option maxHeartbeats 8000000
/-! the law's own value, term by term -/
namespace K8
open PySem L2 Nd Bk Gd
def spGVal (K : PySem.W.Frag) : Sp := fun vs H Q _ => ∃ (v : V) (D a : Addr) (p : Poly) (is : Bool) (kvs : List (Key × V)) (ps : List Str) (σ : Str → Str → Bool), vs = [v, .str (me is), .ref D, .ref a] ∧ FD K H v (bD p) ∧ (∀ t ∈ p, ∀ x ∈ t.1, 0 < x.2 ∧ x.2 < 1000) ∧ H D = some (.dK kvs) ∧
  PsOk ps ∧ (∀ z ∈ ps, shU z = true) ∧ SqT K H a (ps.map V.str) ∧ (∀ t ∈ p, ∀ x ∈ t.1, ∃ u, valV kvs (.inr x.1) = some u ∧ Dp K H u (tvD ps is (σ x.1))) ∧ ∀ v H', Same H H' → Dp K H' v (tvD ps is (resT σ p)) → Q v H'
section
variable {P : Program} {w : World} {K : PySem.W.Frag} {mg : Str → Option Value} {base : Heap}
abbrev gvN : List Str := ["p", "measure", "values", "persons", "total", "monomial", "number", "part", "token", "power", "k"]
theorem scGVal : FnScope gvN ["p", "measure", "values", "persons"] (defScope sGVal) := ⟨rfl, rfl, rfl, by decide +kernel, rfl, by decide +kernel, by decide +kernel⟩
theorem ok_gval {f : Addr} {fd : FuncData} (F : Fun K "_law_valued" "_law_valued" sGVal f fd) (N : Nm mg) (Gz : Df P w K mg base 1 "_law_zero" ["measure", "persons"] (fun vs H Q _ => ∃ (is : Bool) (x : V) (ps : List Str), vs = [.str (me is), x] ∧ ∀ v H', Same H H' → Dp K H' v (tvD ps is fun _ => false) → Q v H'))
    (Go : Df P w K mg base 1 "_law_one" ["measure", "persons"] (spGOne K)) (Gs : Df P w K mg base 2 "_law_sum" ["measure", "a", "b"] (spGSum K)) (Gb : Df P w K mg base 1 "_law_both" ["measure", "a", "b"] (spGBoth K)) : FnOk P w K mg base CX0 3 f fd ["p", "measure", "values", "persons"] (spGVal K) := by
  obtain ⟨fz, fdz, gZ, kZ, bZ, GZ⟩ := Gz.ok
  obtain ⟨fo, fdo, gO, kO, bO, GO⟩ := Go.ok
  obtain ⟨fs, fds, gS, kS, bS, GS⟩ := Gs.ok
  obtain ⟨fb, fdb, gB, kB, bB, GB⟩ := Gb.ok
  refine F.ok scGVal (fun vs H Q E h => ?_) (fun cdv A outer s H vs Q E hr h => ?_)
  · obtain ⟨v, D, a, p, is, kvs, ps, σ, rfl, _⟩ := h
    rfl
  · obtain ⟨v, D, pa, p, is, kvs, ps, σ, rfl, hd, hpw, hD, hp, hu, hpa, has, k⟩ := h
    have hr1 : Room 1 _ := hr.mono (by decide)
    have hr2 : Room 2 _ := hr.mono (by decide)
    refine ⟨_, pss_cons (ps_set (i := 4) scGVal.nd rfl (Or.inl rfl) (pe_call GZ hr1 rfl gZ kZ bZ .nil pass0 (pa_cons (pv 1) (pa_cons (pv 3) pa_nil))))
      (pss_cons (ps_for PassesOwn.never rfl (pi_seq (pv 0)) (pg_seq rfl (pgs_cons (pg_name (i := 5) scGVal.nd rfl (Or.inl rfl)) (pgs_cons (pg_name (i := 6) scGVal.nd rfl (Or.inl rfl)) pgs_nil)))
        (pss_cons (ps_set (i := 7) scGVal.nd rfl (Or.inl rfl) (pe_call GO hr1 rfl gO kO bO .nil pass0 (pa_cons (pv 1) (pa_cons (pv 3) pa_nil))))
        (pss_cons (ps_for PassesOwn.never rfl (pi_seq (pv 5)) (pg_seq rfl (pgs_cons (pg_name (i := 8) scGVal.nd rfl (Or.inl rfl)) (pgs_cons (pg_name (i := 9) scGVal.nd rfl (Or.inl rfl)) pgs_nil)))
          (pss_one (ps_for PassesOwn.never rfl (pi_range1 rfl N.rng (pa_cons (pv 9) pa_nil)) (pg_name (i := 10) scGVal.nd rfl (Or.inl rfl))
            (pss_one (ps_set (i := 7) scGVal.nd rfl (Or.inl rfl) (pe_call GB hr1 rfl gB kB bB .nil pass0 (pa_cons (pv 1) (pa_cons (pv 7) (pa_cons (pe_dget (u1 hr) (pv 2) (pv 8) (fun _ _ => rfl)) pa_nil)))))))))
        (pss_cons (ps_if (pt_cmpR op_eq (pv 1) pe_str (nomark _)) (pss_one ps_never) pss_nil)
        (pss_one (ps_set (i := 4) scGVal.nd rfl (Or.inl rfl) (pe_call GS hr2 rfl gS kS bS .nil pass0 (pa_cons (pv 1) (pa_cons (pv 4) (pa_cons (pv 7) pa_nil))))))))))
      (pss_one (ps_ret (pv 4)))), ?_⟩
    refine ⟨_, rfl, _, rfl, is, .ref pa, ps, rfl, fun v0 H1 s1 dv0 => ?_⟩
    have hD1 := s1 _ _ hD
    obtain ⟨a, xs, rfl, hs, hl, hget⟩ := fd_bag (hd.same s1)
    refine seq_go rfl hs fun J G walk hG => ?_
    refine for_it walk (fun i τ H3 => ∃ u4 u5 u6 u7 u8 u9 u10, τ = [some (.ref a), some (.str (me is)), some (.ref D), some (.ref pa), some u4, u5, u6, u7, u8, u9, u10] ∧ Same H1 H3 ∧ Dp K H3 u4 (tvD ps is (resT σ (p.take i)))) ⟨v0, _, _, _, _, _, _, rfl, sm_refl, dv0⟩ (fun i τ H3 _ ⟨_, _, _, _, _, _, _, _, s3, _⟩ => hG H3 s3.seq (sqT_same s3)) ?_ ?_
    · rintro i x τ H3 Hx hi ⟨u4, u5, u6, u7, u8, u9, u10, rfl, s3, d4⟩ ⟨rfl, hx⟩
      obtain ⟨t, hti, hxt⟩ := hget i x hx
      have htm := List.mem_of_getElem? hti
      obtain ⟨T2, kk, rfl, hT2, hk⟩ := fd_pair hxt
      refine ⟨T2, _, rfl, sq_same s3 hT2, rfl, _, _, rfl, _, _, rfl, rfl, ?_⟩
      refine ⟨_, rfl, _, rfl, is, pa, ps, rfl, sqT_same (s1.trans s3) hpa, fun w0 H4 s4 dw0 => ?_⟩
      obtain ⟨b, ys, rfl, hb, hbl, hbget⟩ := fd_bag (κ := Str) (hk.same (s3.trans s4))
      refine seq_go rfl hb fun J2 G2 walk2 hG2 => ?_
      refine for_it walk2 (fun j τ H5 => ∃ w7 u8 u9 u10, τ = [some (.ref a), some (.str (me is)), some (.ref D), some (.ref pa), some u4, some (.ref b), some (.int t.2), some w7, u8, u9, u10] ∧ Same H4 H5 ∧ Dp K H5 w7 (tvD ps is (worthT σ (t.1.take j)))) ⟨w0, _, _, _, rfl, sm_refl, dw0⟩ (fun j τ H5 _ ⟨_, _, _, _, _, s5, _⟩ => hG2 H5 s5.seq (sqT_same s5)) ?_ ?_
      · rintro j y τ H5 Hy hj ⟨w7, u8, u9, u10, rfl, s5, d7⟩ ⟨rfl, hy⟩
        obtain ⟨q, hq, hyq⟩ := hbget j y hy
        have hqm := List.mem_of_getElem? hq
        obtain ⟨U, kk2, rfl, hU, hkk⟩ := fd_pair hyq
        cases fd_str (z := q.1) hkk
        obtain ⟨uv, hv, fv⟩ := has t htm q hqm
        obtain ⟨e0, e1⟩ := hpw t htm q hqm
        have s15 := s1.trans (s3.trans (s4.trans s5))
        refine ⟨U, _, rfl, sq_same s5 hU, rfl, _, _, rfl, _, _, rfl, rfl, ?_⟩
        refine ⟨_, rfl, _, rfl, by omega, by omega, ?_⟩
        refine for_range (n := q.2.toNat) (fun l τ H6 => ∃ w7 u10, τ = [some (.ref a), some (.str (me is)), some (.ref D), some (.ref pa), some u4, some (.ref b), some (.int t.2), some w7, some (.str q.1), some (.int q.2), u10] ∧ Same Hy H6 ∧ Dp K H6 w7 (tvD ps is fun x => worthT σ (t.1.take j) x && (decide (l = 0) || σ q.1 x))) ⟨w7, _, rfl, sm_refl, ?_⟩ ?_ ?_
        · have : (fun x => worthT σ (t.1.take j) x && (decide (0 = 0) || σ q.1 x)) = worthT σ (t.1.take j) := by
            funext x; simp
          rw [this]; exact d7
        · rintro l τ H6 hl6 ⟨w7', u10, rfl, s6, d7'⟩
          have hD6 := s6 _ _ (s15 _ _ hD)
          refine ⟨_, rfl, _, rfl, _, rfl, _, rfl, D, _, rfl, hv ▸ DGet.k (k := .inr q.1) hD6, ?_⟩
          refine ⟨is, w7', uv, ps, _, σ q.1, rfl, hp, d7', dp_same (s15.trans s6) fv, fun v6 H7 s7 d6 => ?_⟩
          refine ⟨v6, _, rfl, s6.trans s7, ?_⟩
          have : (fun x => worthT σ (t.1.take j) x && (decide (l = 0) || σ q.1 x) && σ q.1 x) = fun x => worthT σ (t.1.take j) x && (decide (l + 1 = 0) || σ q.1 x) := by
            funext x
            rw [decide_eq_false (Nat.succ_ne_zero l)]
            cases worthT σ (t.1.take j) x <;> cases σ q.1 x <;> cases decide (l = 0) <;> rfl
          rw [← this]; exact d6
        · rintro τ H6 ⟨w7', u10, rfl, s6, d7'⟩
          refine ⟨w7', _, _, _, rfl, s5.trans s6, ?_⟩
          rw [decide_eq_false (show ¬ q.2.toNat = 0 by omega)] at d7'
          rw [worthT_take hq]; exact d7'
      · rintro τ H5 ⟨w7, u8, u9, u10, rfl, s5, d7⟩
        rw [hbl, List.take_length] at d7
        refine ⟨_, rfl, rfl, false, dn (by cases is <;> decide +kernel), iteF ?_⟩
        refine ⟨_, rfl, _, rfl, _, rfl, is, u4, w7, ps, resT σ (p.take i), worthT σ t.1, rfl, hp, hu, dp_same (s4.trans s5) d4, d7, fun v6 H6 s6 d6 => ?_⟩
        refine ⟨v6, _, _, _, _, _, _, rfl, s3.trans (s4.trans (s5.trans s6)), ?_⟩
        rw [resT_take hti]; exact d6
    · rintro τ H3 ⟨u4, u5, u6, u7, u8, u9, u10, rfl, s3, d4⟩
      rw [hl, List.take_length] at d4
      exact ⟨_, rfl, k _ _ (s1.trans s3) d4⟩
end
end K8


set_option Elab.async false
set_option linter.all false
set_option maxRecDepth 100000
set_option maxHeartbeats 8000000
/-! the persons -/
namespace K8
open PySem L2 Nd Bk Gd
def spGPers : Sp := fun vs H Q _ => ∃ (p c : Addr) (ns : List Int) (many : Int), vs = [.ref p, .int many] ∧ 0 ≤ many ∧ many ≤ 4 ∧ PoolAt H p c ns ∧
  ∀ (T : Addr) (ps : List Str) (H' : Hp), But p H H' → PoolAt H' p c ns → H' T = some (.tup (ps.map V.str)) → PsOk ps → (∀ z ∈ ps, shU z = true) → Q (.ref T) H'
theorem join_tl (ys : List Str) : (Txt.join ⟨#[]⟩ ys).cps.toList = ys.flatMap (·.cps.toList) := by
  rw [TL.join_eq]
  show TL.tl _ = _
  rw [TL.tl_join]
  have key : ∀ l : List Str, TL.joinL (TL.tl ⟨#[]⟩) (l.map TL.tl) = l.flatMap (·.cps.toList) := by
    intro l
    induction l with
    | nil => rfl
    | cons x l ih =>
      cases l with
      | nil => rw [List.flatMap_cons, List.flatMap_nil, List.append_nil]; rfl
      | cons z r =>
        rw [List.flatMap_cons, ← ih]
        rfl
  exact key ys
theorem join_word {ys : List Str} (h : ∀ y ∈ ys, One y) (l0 : 0 < ys.length) (l1 : ys.length ≤ 8) : shU (Txt.join ⟨#[]⟩ ys) = true := by
  have e := join_tl ys
  have len : ∀ l : List Str, (∀ y ∈ l, One y) → (l.flatMap (·.cps.toList)).length = l.length := by
    intro l
    induction l with
    | nil => intro _; rfl
    | cons y l ih =>
      intro h
      rw [List.flatMap_cons, List.length_append, List.length_cons, ih fun z hz => h z (List.mem_cons_of_mem _ hz)]
      have : y.cps.toList.length = 1 := (h y List.mem_cons_self).1
      omega
  have ln : (Txt.join ⟨#[]⟩ ys).length = ys.length := by
    have := congrArg List.length e
    rw [len ys h] at this
    exact this
  have all : ∀ c ∈ (Txt.join ⟨#[]⟩ ys).cps.toList, c < 0x110000 := by
    intro c hc
    rw [e] at hc
    obtain ⟨y, hy, hcy⟩ := List.mem_flatMap.mp hc
    exact (h y hy).2 c hcy
  unfold shU
  rw [Bool.and_eq_true]
  refine ⟨shT_mk (by omega) (by omega) fun c h => Nat.lt_trans (all c h) (by decide), ?_⟩
  unfold PyData.strOk
  rw [← Array.all_toList, List.all_eq_true]
  exact fun c h => decide_eq_true (all c h)
section
variable {P : Program} {w : World} {K : PySem.W.Frag} {mg : Str → Option Value} {base : Heap}
abbrev gpN : List Str := ["pool", "many", "letters", "found", "k", "word", "j"]
theorem scGPers : FnScope gpN ["pool", "many"] (defScope sGPers) := ⟨rfl, rfl, rfl, by decide +kernel, rfl, by decide +kernel, by decide +kernel⟩
theorem ok_gpers {f : Addr} {fd : FuncData} (F : Fun K "_law_persons" "_law_persons" sGPers f fd) (N : Nm mg) (Gt : Df P w K mg base 2 "_law_take" ["pool", "many"] spTake) (Gs : Df P w K mg base 1 "_law_sorted" ["rows"] (spPSort K Str)) : FnOk P w K mg base CX0 3 f fd ["pool", "many"] spGPers := by
  obtain ⟨ft, fdt, gT, kT, bT, GT⟩ := Gt.ok
  obtain ⟨fs, fds, gS, kS, bS, GS⟩ := Gs.ok
  refine F.ok scGPers (fun vs H Q E h => ?_) (fun cdv A outer s H vs Q E hr h => ?_)
  · obtain ⟨p, c, ns, many, rfl, _⟩ := h
    rfl
  · obtain ⟨p, c, ns, many, rfl, m0, m1, hP, k⟩ := h
    have hr2 : Room 2 _ := hr.mono (by decide)
    have hr1 : Room 1 _ := hr.mono (by decide)
    refine ⟨_, pss_cons (ps_set (i := 2) scGPers.nd rfl (Or.inr rfl) pe_str)
      (pss_cons (ps_set (i := 3) scGPers.nd rfl (Or.inl rfl) (pe_lst pa_nil))
      (pss_cons (ps_for PassesOwn.never rfl (pi_range1 rfl N.rng (pa_cons (pv 1) pa_nil)) (pg_name (i := 4) scGPers.nd rfl (Or.inl rfl))
        (pss_cons (ps_set (i := 5) scGPers.nd rfl (Or.inl rfl) (pe_join pe_str
          (pe_lc (own := [("j", 6)]) (g := gName 6) (tt := tYes) rfl scGPers.nd (pi_range1 rfl N.rng (pa_cons (pe_op op_add pe_int (pe_call GT hr2 rfl gT kT bT .nil pass0 (pa_cons (pv 0) (pa_cons pe_int pa_nil)))) pa_nil)) (blkOk_by (N := gpN) (sc := defScope sGPers) (by decide +kernel))
            (fun _ _ _ _ _ => pg_name (i := 6) scGPers.nd rfl (Or.inl rfl)) (fun _ _ _ _ _ => pts_nil)
            (fun _ _ _ _ _ => pe_ix ix_str (pv 2) (pe_call GT hr2 rfl gT kT bT .nil pass0 (pa_cons (pv 0) (pa_cons (pe_ix (show IxR _ (rIxL K) from ix_list) (pe_lst (pa_cons pe_int (pa_cons pe_int pa_nil))) (pe_call GT hr2 rfl gT kT bT .nil pass0 (pa_cons (pv 0) (pa_cons pe_int pa_nil))) (fun _ _ => rfl)) pa_nil))) (fun _ _ => rfl)))))
        (pss_one (ps_expr (pe_bm PySem.F.plainAttrs_list PySem.F.slot_list_append PySem.F.type_list_append mt_append (pv 3) (pa_cons (pv 5) pa_nil))))))
      (pss_one (ps_ret (pe_callTy call_tuple_of (by rfl) N.tup (by rfl) (pa_cons (pe_call GS hr1 rfl gS kS bS .nil pass0 (pa_cons (pv 3) pa_nil)) pa_nil)))))), ?_⟩
    have len26 : (Str.cps abc).toList.length = 26 := by decide +kernel
    refine ⟨(by show 0 ≤ sizeLine; decide), fun fo nfo => ?_⟩
    have s2 : Same H (upd H fo (.lst [])) := sm_new sm_refl nfo
    have h2 : upd H fo (.lst []) fo = some (.lst (([] : List Str).map V.str)) := upd_same
    have fp : fo ≠ p := hP.off nfo
    have fc : c ≠ fo := ne_of_none hP.cells nfo
    have P2 := hP.same s2
    have k2 : But p H (upd H fo (.lst [])) := But.same But.refl s2
    generalize upd H fo (.lst []) = H2 at h2 P2 k2 ⊢
    refine ⟨_, rfl, _, rfl, by omega, by omega, ?_⟩
    refine for_range (n := many.toNat) (fun i σ H4 => (∃ u4 u5, σ = [some (.ref p), some (.int many), some (.str abc), some (.ref fo), u4, u5, none]) ∧ PoolAt H4 p c ns ∧ But p H H4 ∧ ∃ fs : List Str, H4 fo = some (.lst (fs.map V.str)) ∧ fs.length = i ∧ ∀ z ∈ fs, shU z = true)
      ⟨⟨_, _, rfl⟩, P2, k2, [], h2, rfl, fun z h => nomatch h⟩ ?_ ?_
    · rintro i σ H4 hi ⟨⟨u4, u5, rfl⟩, P4, k4, fs, hfs, fl, fsh⟩
      refine ⟨⟨_, rfl⟩, _, rfl, p, c, ns, _, rfl, by decide, by decide, P4, fun r H5 a0 a1 P5 k5 => ⟨_, _, rfl, rfl, ?_⟩⟩
      refine ⟨_, rfl, by omega, by omega, fun D nD => ?_⟩
      have Dp := P5.off nD
      have nDf : H fo = none := nfo
      refine lc_range (n := (1 + r).toNat) (fun j H6 => ∃ ys : List Str, H6 D = some (.lst (ys.map V.str)) ∧ ys.length = j ∧ (∀ y ∈ ys, One y) ∧ PoolAt H6 p c ns ∧ But p H5 H6) ?_ ?_ ?_
      · exact ⟨[], upd_same, rfl, (fun y h => nomatch h), P5.same (sm_new sm_refl nD), But.same But.refl (sm_new sm_refl nD)⟩
      · rintro j H6 hj ⟨ys, hD, yl, yo, P6, k6⟩
        refine ⟨rfl, _, rfl, _, rfl, (by show 2 ≤ sizeLine; decide), fun q nq => ?_⟩
        have s7 : Same H6 (upd H6 q (.lst [.int 3, .int 26])) := sm_new sm_refl nq
        have hq : upd H6 q (.lst [.int 3, .int 26]) q = some (.lst (([3, 26] : List Int).map V.int)) := upd_same
        have qp := P6.off nq
        have P7 := P6.same s7
        generalize upd H6 q (.lst [.int 3, .int 26]) = H7 at s7 hq P7 ⊢
        refine ⟨_, rfl, p, c, ns, _, rfl, by decide, by decide, P7, fun r8 H8 b0 b1 P8 k8 => ?_⟩
        obtain ⟨j8, rfl⟩ := Int.eq_ofNat_of_zero_le b0
        obtain ⟨m, hm, hmm⟩ := pick_int (zs := [3, 26]) (j := j8) (by show j8 < 2; omega)
        have mb : 0 < m ∧ m ≤ 26 := by
          simp only [List.mem_cons, List.not_mem_nil, or_false] at hmm
          omega
        refine ⟨q, _, _, _, rfl, rfl, SqL.of (k8 _ _ hq qp), atI_nat hm, p, c, ns, _, rfl, by omega, by omega, P8, fun r9 H9 c0 c1 P9 k9 => ?_⟩
        obtain ⟨j9, rfl⟩ := Int.eq_ofNat_of_zero_le c0
        have hj9 : j9 < (Str.cps abc).toList.length := by omega
        refine ⟨_, _, _, rfl, rfl, by decide +kernel, atI_nat (List.getElem?_eq_getElem hj9), ?_⟩
        have o9 := one_abc hj9
        generalize (⟨#[(Str.cps abc).toList[j9]]⟩ : Str) = l9 at o9 ⊢
        have k69 : But p H6 H9 := (But.same But.refl s7).trans (k8.trans k9)
        have hD9 := k69 _ _ hD Dp
        have nDc : c ≠ D := ne_of_none P5.cells nD
        refine ⟨_, hD9, by rw [List.length_map, sizeLine_eq]; omega, ys ++ [l9], ?_, by rw [List.length_append, yl]; rfl, ?_, P9.mine (Ne.symm Dp) nDc, but_mine (k6.trans k69) nD⟩
        · rw [upd_same, List.map_append]; rfl
        · intro y hy
          rcases List.mem_append.mp hy with h | h
          · exact yo y h
          · rw [List.mem_singleton.mp h]; exact o9
      · rintro H6 ⟨ys, hD, yl, yo, P6, k6⟩
        have e0 : Str.ofString "" = (⟨#[]⟩ : Str) := rfl
        have l0 : (ys.map (·.length)).sum = ys.length := by
          have key : ∀ l : List Str, (∀ y ∈ l, One y) → (l.map (·.length)).sum = l.length := by
            intro l
            induction l with
            | nil => intro _; rfl
            | cons y l ih =>
              intro h
              rw [List.map_cons, List.sum_cons, List.length_cons, ih fun z hz => h z (List.mem_cons_of_mem _ hz), (h y List.mem_cons_self).1]
              omega
          exact key ys yo
        refine ⟨_, D, ys, rfl, rfl, .inl (SqL.of hD), ?_, ?_⟩
        · rw [l0, e0]
          show ys.length + ys.length * 0 ≤ _
          omega
        have sh := join_word yo (by omega) (by omega)
        rw [e0]
        generalize Txt.join ⟨#[]⟩ ys = wd at sh ⊢
        have k46 : But p H4 H6 := k5.trans k6
        have hf6 := k46 _ _ hfs fp
        refine ⟨_, rfl, .inl ⟨rfl, _, SqL.of hf6⟩, _, rfl, fo, _, _, rfl, rfl, hf6, ?_, ⟨_, _, rfl⟩, P6.mine (Ne.symm fp) fc, but_mine (k4.trans k46) nfo, fs ++ [wd], ?_, ?_, ?_⟩
        · rw [List.length_map, sizeLine_eq]; omega
        · rw [upd_same, List.map_append]; rfl
        · rw [List.length_append, fl]; rfl
        · intro y hy
          rcases List.mem_append.mp hy with h | h
          · exact fsh y h
          · rw [List.mem_singleton.mp h]; exact sh
    · rintro σ H4 ⟨⟨u4, u5, rfl⟩, P4, k4, fs, hfs, fl, fsh⟩
      refine ⟨_, rfl, fo, _, fs, rfl, SqL.of hfs, strs_dp _, fun z hz => shU_K (fsh z hz), by omega, fun l ys H5 nl s5 hl5 hd5 => ?_⟩
      cases dp_strs (zs := sortU fs) hd5
      refine ⟨l, _, rfl, .inl ⟨SqL.of hl5, fun T nT => ?_⟩⟩
      have sT : Same H5 (upd H5 T (.tup ((sortU fs).map V.str))) := sm_new sm_refl nT
      refine k T (sortU fs) _ (k4.same (s5.trans sT)) (P4.same (s5.trans sT)) upd_same ⟨sortU_asc _, Nat.le_trans (sortU_len _) (by omega)⟩ fun z hz => fsh z (sortU_mem.mp hz)
end
end K8


set_option Elab.async false
set_option linter.all false
set_option maxRecDepth 100000
set_option maxHeartbeats 8000000
/-! what is handed in: values and pairs -/
namespace K8
open PySem L2 Nd Bk Gd
def wT (ps : List Str) (is : Bool) (σ : Str → Str → Bool) (z : Str) : PyData := if z = eps_ then .tuple (ps.map .str) else tvD ps is (σ z)
def encT (ps : List Str) (is : Bool) (σ : Str → Str → Bool) (z : Str) : PyData := encG (z, wT ps is σ z)
theorem tu_strs (S : List Str) : tupOnly (.tuple (S.map .str)) = true := by
  show tupOnlyAll (S.map PyData.str) = true
  exact tupOnlyAll_of fun e he => by
    obtain ⟨x, _, rfl⟩ := List.mem_map.mp he
    rfl
theorem tu_wT (ps : List Str) (is : Bool) (σ : Str → Str → Bool) (z : Str) : tupOnly (wT ps is σ z) = true := by
  unfold wT
  split
  · exact tu_strs ps
  · exact tv_tup ..
theorem tu_encT (ps : List Str) (is : Bool) (σ : Str → Str → Bool) (z : Str) : tupOnly (encT ps is σ z) = true := by
  show tupOnlyAll [.str z, wT ps is σ z] = true
  simp [tupOnlyAll, tupOnly, tu_wT]
theorem tu_encTs (ps : List Str) (is : Bool) (σ : Str → Str → Bool) (zs : List Str) : tupOnlyAll (zs.map (encT ps is σ)) = true := tupOnlyAll_of fun d hd => by
  obtain ⟨z, _, rfl⟩ := List.mem_map.mp hd
  exact tu_encT ..
/-- the values and the pairs that tell them -/
structure GvAt (K : PySem.W.Frag) (H : Hp) (D : Addr) (fs ps : List Str) (is : Bool) (σ : Str → Str → Bool) (ys : List V) (zs : List Str) (gs : List (Str × V)) : Prop where
  dct : H D = some (.dK (kvG gs))
  keys : gs.map (·.1) = fs
  val : ∀ g ∈ gs, Dp K H g.2 (tvD ps is (σ g.1))
  prs : DpAll K H ys (zs.map (encT ps is σ))
  nd : zs.Nodup
  all : ∀ z ∈ fs, z ∈ zs
  sub : ∀ z ∈ zs, z = eps_ ∨ z ∈ fs
  per : is = false → eps_ ∈ zs
  len : zs.length ≤ fs.length + 1
def spGGiven (K : PySem.W.Frag) : Sp := fun vs H Q _ => ∃ (p c fo pa : Addr) (ns : List Int) (fs ps : List Str) (is : Bool), vs = [.ref p, .str (me is), .ref fo, .ref pa] ∧ PoolAt H p c ns ∧ H fo = some (.lst (fs.map V.str)) ∧ fo ≠ p ∧ fs.Nodup ∧ fs.length ≤ 6 ∧ eps_ ∉ fs ∧ SqT K H pa (ps.map V.str) ∧ PsOk ps ∧
  ∀ (R D T : Addr) (ys : List V) (zs : List Str) (gs : List (Str × V)) (σ : Str → Str → Bool) (H' : Hp), But p H H' → PoolAt H' p c ns → SqT K H' R [.ref D, .ref T] → D ≠ p → H D = none → PlainT H' T → SqT K H' T ys → GvAt K H' D fs ps is σ ys zs gs → Q (.ref R) H'
section
variable {P : Program} {w : World} {K : PySem.W.Frag} {mg : Str → Option Value} {base : Heap}
abbrev ggN : List Str := ["pool", "measure", "tokens", "persons", "values", "pairs", "token"]
theorem scGGiven : FnScope ggN ["pool", "measure", "tokens", "persons"] (defScope sGGiven) := ⟨rfl, rfl, rfl, by decide +kernel, rfl, by decide +kernel, by decide +kernel⟩
theorem ok_ggiven {f : Addr} {fd : FuncData} (F : Fun K "_law_given" "_law_given" sGGiven f fd) (N : Nm mg) (Gt : Df P w K mg base 2 "_law_take" ["pool", "many"] spTake) (Gv : Df P w K mg base 4 "_law_drawn_value" ["pool", "measure", "persons"] (spGDVal K)) : FnOk P w K mg base CX0 5 f fd ["pool", "measure", "tokens", "persons"] (spGGiven K) := by
  obtain ⟨ft, fdt, gT, kT, bT, GT⟩ := Gt.ok
  obtain ⟨fv, fdv, gV, kV, bV, GV⟩ := Gv.ok
  refine F.ok scGGiven (fun vs H Q E h => ?_) (fun cdv A outer s H vs Q E hr h => ?_)
  · obtain ⟨p, c, fo, pa, ns, fs, ps, is, rfl, _⟩ := h
    rfl
  · obtain ⟨p, c, fo, pa, ns, fs, ps, is, rfl, hP, hfo, fop, fnd, fl6, nep, hpa, hp, k⟩ := h
    have hr2 : Room 2 _ := hr.mono (by decide)
    have hr4 : Room 4 _ := hr.mono (by decide)
    --BODY
    refine ⟨_, pss_cons (ps_set (i := 4) scGGiven.nd rfl (Or.inl rfl) pe_dnewK)
      (pss_cons (ps_set (i := 5) scGGiven.nd rfl (Or.inl rfl) (pe_lst pa_nil))
      (pss_cons (ps_for PassesOwn.never rfl (pi_list (pv 2)) (pg_name (i := 6) scGGiven.nd rfl (Or.inl rfl))
      (pss_cons (ps_dput (u1 hr) (pv 4) (pv 6) (pe_call GV hr4 rfl gV kV bV .nil pass0 (pa_cons (pv 0) (pa_cons (pv 1) (pa_cons (pv 3) pa_nil)))) rfl)
      (pss_one (ps_expr (pe_bm PySem.F.plainAttrs_list PySem.F.slot_list_insert PySem.F.type_list_insert mt_insert (pv 5) (pa_cons (pe_call GT hr2 rfl gT kT bT .nil pass0 (pa_cons (pv 0) (pa_cons (pe_op op_add (pe_callB call_len_seq (by rfl) N.len PySem.boot_len (pa_cons (pv 5) pa_nil)) pe_int) pa_nil))) (pa_cons (pe_tup (pa_cons (pv 6) (pa_cons (pe_dget (u1 hr) (pv 4) (pv 6) (fun _ _ => rfl)) pa_nil))) pa_nil)))))))
      (C8.pss_cut (ps_if (PW.pt (pw_or (pt_cmpR op_eq (pv 1) pe_str (nomark _)) (pw_or1 (pt_cmpR op_eq (pe_call GT hr2 rfl gT kT bT .nil pass0 (pa_cons (pv 0) (pa_cons pe_int pa_nil))) pe_int (nomark _))))) (pss_one (ps_expr (pe_bm PySem.F.plainAttrs_list PySem.F.slot_list_insert PySem.F.type_list_insert mt_insert (pv 5) (pa_cons (pe_call GT hr2 rfl gT kT bT .nil pass0 (pa_cons (pv 0) (pa_cons (pe_op op_add (pe_callB call_len_seq (by rfl) N.len PySem.boot_len (pa_cons (pv 5) pa_nil)) pe_int) pa_nil))) (pa_cons (pe_tup (pa_cons pe_str (pa_cons (pv 3) pa_nil))) pa_nil))))) pss_nil)
      (pss_one (ps_ret (pe_tup (pa_cons (pv 4) (pa_cons (pe_callTy (show CallR _ _ (rTupF K) from call_tupleF) (by rfl) N.tup (by rfl) (pa_cons (pv 5) pa_nil)) pa_nil)))))))), ?_⟩
    --END
    intro D nD
    have sD : Same H (upd H D (.dK [])) := sm_new sm_refl nD
    have hD : upd H D (.dK []) D = some (.dK []) := upd_same
    have Dp' := hP.off nD
    have Dc : c ≠ D := ne_of_none hP.cells nD
    have PA := hP.same sD
    generalize upd H D (.dK []) = HA at sD hD PA ⊢
    refine ⟨(by show 0 ≤ sizeLine; decide), fun L nL => ?_⟩
    have sL : Same HA (upd HA L (.lst [])) := sm_new sm_refl nL
    have hL : upd HA L (.lst []) L = some (.lst []) := upd_same
    have Lp := PA.off nL
    have Lc : c ≠ L := ne_of_none PA.cells nL
    have DL : D ≠ L := ne_of_none hD nL
    have nLH : H L = none := sD.free nL
    have PB := PA.same sL
    have hDB := sL _ _ hD
    have sHB := sD.trans sL
    generalize upd HA L (.lst []) = HB at sL hL PB hDB sHB ⊢
    refine ⟨_, rfl, fo, rfl, ⟨_, SqL.of (sHB _ _ hfo)⟩, ?_⟩
    refine for_list (K := K) (a := fo) (xs := fs.map V.str) (fun i τ Hc => (∃ u6, τ = [some (.ref p), some (.str (me is)), some (.ref fo), some (.ref pa), some (.ref D), some (.ref L), u6]) ∧ PoolAt Hc p c ns ∧ But p H Hc ∧ ∃ (zs : List Str) (σ : Str → Str → Bool) (gs : List (Str × V)) (ys : List V), Hc D = some (.dK (kvG gs)) ∧ Hc L = some (.lst ys) ∧ DpAll K Hc ys (zs.map (encT ps is σ)) ∧ zs.Perm (fs.take i) ∧ gs.map (·.1) = fs.take i ∧ ∀ g ∈ gs, Dp K Hc g.2 (tvD ps is (σ g.1)))
      ⟨⟨_, rfl⟩, PB, But.refl.same sHB, [], (fun _ _ => false), [], [], hDB, hL, .nil, List.Perm.refl _, rfl, fun g hg => nomatch hg⟩ (fun i τ Hc _ ⟨_, _, kc, _⟩ => SqL.of (kc _ _ hfo fop)) ?_ ?_
    · rintro j x τ Hc hj ⟨⟨u6, rfl⟩, Pc, kc, zs, σ, gs, ys, hDc, hLc, hys, perm, gk, gdp⟩
      rw [List.getElem?_map] at hj
      obtain ⟨z, hz, rfl⟩ := Option.map_eq_some_iff.mp hj
      have jl := (List.getElem?_eq_some_iff.mp hz).1
      have zfs : z ∈ fs := List.mem_of_getElem? hz
      have zne : z ≠ eps_ := fun e => nep (e ▸ zfs)
      have et : fs.take (j + 1) = fs.take j ++ [z] := by rw [List.take_succ, hz]; rfl
      have zn : z ∉ fs.take j := fun q => by
        have q2 : (fs.take (j + 1)).Nodup := fnd.sublist (List.take_sublist _ _)
        rw [et, List.nodup_append] at q2
        exact q2.2.2 z q z List.mem_cons_self rfl
      have zlen : zs.length = j := by rw [perm.length_eq, List.length_take]; omega
      have ylen : ys.length = j := by rw [dpAll_len hys, List.length_map, zlen]
      have glen : gs.length = j := by
        have := congrArg List.length gk
        rw [List.length_map, List.length_take] at this
        omega
      refine ⟨_, rfl, _, rfl, _, rfl, p, c, pa, ns, ps, is, rfl, Pc, sqT_kt (.but hP.notT kc) hpa, hp, fun vz f Hd kd Pd dz => ?_⟩
      have hDd := kd _ _ hDc Dp'
      have hLd := kd _ _ hLc Lp
      have vn : valV (kvG gs) (.inr z) = none := valG_none (by rw [gk]; exact zn)
      have ep : putK (kvG gs) (.inr z) vz = kvG (gs ++ [(z, vz)]) := by
        rw [putK_new _ vn]
        unfold kvG
        rw [List.map_append]
        rfl
      have bl : (kvG gs).length ≤ 1000 := by
        unfold kvG
        rw [List.length_map]
        omega
      refine ⟨_, rfl, _, rfl, D, _, rfl, putD hDd bl ep, ?_⟩
      have ntD : NotT (Hd D) := by rw [hDd]; exact notT_dK
      have ktD : KeepT Hc (upd Hd D (.dK (kvG (gs ++ [(z, vz)])))) := (KeepT.but Pc.notT kd).trans (KeepT.but ntD But.upd)
      have dze : Dp K (upd Hd D (.dK (kvG (gs ++ [(z, vz)])))) vz (tvD ps is f) := dp_put ntD (tv_tup ..) dz
      have Pe := Pd.mine (o := .dK (kvG (gs ++ [(z, vz)]))) (Ne.symm Dp') Dc
      have ke : But p H (upd Hd D (.dK (kvG (gs ++ [(z, vz)])))) := but_mine (kc.trans kd) nD
      have hDe : upd Hd D (.dK (kvG (gs ++ [(z, vz)]))) D = some (.dK (kvG (gs ++ [(z, vz)]))) := upd_same
      have hLe : upd Hd D (.dK (kvG (gs ++ [(z, vz)]))) L = some (.lst ys) := by rw [upd_ne (Ne.symm DL)]; exact hLd
      generalize upd Hd D (.dK (kvG (gs ++ [(z, vz)]))) = He at ktD dze Pe ke hDe hLe ⊢
      refine ⟨_, rfl, .inl ⟨rfl, _, SqL.of hLe⟩, _, rfl, _, rfl, L, ys, rfl, .inl (SqL.of hLe), _, _, rfl, rfl, p, c, ns, _, rfl, by omega, by omega, Pe, fun r Hf r0 r1 Pf kf => ?_⟩
      have gnd : ((gs ++ [(z, vz)]).map (·.1)).Nodup := by
        rw [List.map_append, gk]
        show (fs.take j ++ [z]).Nodup
        rw [← et]
        exact fnd.sublist (List.take_sublist _ _)
      refine ⟨_, rfl, _, rfl, _, rfl, D, _, rfl, getK (kf _ _ hDe Dp') (valG_mem gnd (List.mem_append_right _ List.mem_cons_self)), (by show 2 ≤ sizeLine; decide), fun W nW => ?_⟩
      have sW : Same Hf (upd Hf W (.tup [.str z, vz])) := sm_new sm_refl nW
      have hW : SqT K (upd Hf W (.tup [.str z, vz])) W [.str z, vz] := SqT.of upd_same
      have Pg := Pf.same sW
      generalize upd Hf W (.tup [.str z, vz]) = Hg at sW hW Pg ⊢
      have keg : But p He Hg := But.trans kf (But.refl.same sW)
      have hLg := keg _ _ hLe Lp
      have hDg := keg _ _ hDe Dp'
      have ktg : KeepT He Hg := KeepT.but Pe.notT keg
      have ntL : NotT (Hg L) := by rw [hLg]; exact notT_lst
      obtain ⟨r', rfl⟩ := Int.eq_ofNat_of_zero_le r0
      refine ⟨L, ys, _, _, rfl, rfl, hLg, small1000 (by omega), r0, by omega, ?_⟩
      have hch : ∀ y, y ≠ z → (fun y => if y = z then f else σ y) y = σ y := fun y hy => if_neg hy
      have hz' : (fun y => if y = z then f else σ y) z = f := if_pos rfl
      generalize (fun y => if y = z then f else σ y) = σ' at hch hz'
      have eC : zs.map (encT ps is σ') = zs.map (encT ps is σ) := List.map_congr_left fun y hy => by
        unfold encT wT
        rw [hch y fun e => zn (e ▸ perm.mem_iff.mp hy)]
      have ew : wT ps is σ' z = tvD ps is f := by unfold wT; rw [if_neg zne, hz']
      have dzg : Dp K Hg vz (tvD ps is f) := dp_kt0 ktg dze (tv_tup ..)
      have ys2 : DpAll K Hg ys (zs.map (encT ps is σ')) := by
        rw [eC]
        exact dpAll_kt0 (ktD.trans ktg) hys (tu_encTs ..)
      refine ⟨⟨_, rfl⟩, Pg.mine (Ne.symm Lp) Lc, but_mine (ke.trans keg) nLH, zs.take r' ++ [z] ++ zs.drop r', σ', gs ++ [(z, vz)], _, by rw [upd_ne DL]; exact hDg, upd_same, ?_, ?_, ?_, ?_⟩
      · have all := dpAll_put (o := .lst (ys.take ((r' : Nat) : Int).toNat ++ [V.ref W] ++ ys.drop ((r' : Nat) : Int).toNat)) ntL (tu_encTs ps is σ' zs) ys2
        have dW := dp_put (d := encT ps is σ' z) (o := .lst (ys.take ((r' : Nat) : Int).toNat ++ [V.ref W] ++ ys.drop ((r' : Nat) : Int).toNat)) ntL (tu_encT ps is σ' z) (.tup hW (.cons (.str _) (.cons (by rw [ew]; exact dzg) .nil)))
        rw [List.map_append, List.map_append, List.map_take, List.map_drop]
        exact dpAll_append (dpAll_append (dpAll_take _ all) (.cons dW .nil)) (dpAll_drop _ all)
      · rw [et]
        have q1 : (zs.take r' ++ [z] ++ zs.drop r').Perm (zs ++ [z]) := by
          rw [List.append_assoc, List.singleton_append]
          refine List.perm_middle.trans ?_
          rw [List.take_append_drop]
          exact (List.perm_append_singleton z zs).symm
        exact q1.trans (perm.append_right [z])
      · rw [List.map_append, gk, et]
        rfl
      · intro g hg
        rcases List.mem_append.mp hg with q | q
        · have gm : g.1 ∈ fs.take j := by rw [← gk]; exact List.mem_map.mpr ⟨g, q, rfl⟩
          rw [hch g.1 fun e => zn (e ▸ gm)]
          exact dp_put ntL (tv_tup ..) (dp_kt0 (ktD.trans ktg) (gdp g q) (tv_tup ..))
        · rw [List.mem_singleton.mp q, hz']
          exact dp_put ntL (tv_tup ..) dzg
    · rintro τ Hc ⟨⟨u6, rfl⟩, Pc, kc, zs, σ, gs, ys, hDc, hLc, hys, perm, gk, gdp⟩
      rw [List.length_map, List.take_length] at perm gk
      refine ⟨fun τ Hd => ∃ (zs : List Str) (ys : List V), τ = [some (.ref p), some (.str (me is)), some (.ref fo), some (.ref pa), some (.ref D), some (.ref L), u6] ∧ PoolAt Hd p c ns ∧ But p H Hd ∧ Hd L = some (.lst ys) ∧ GvAt K Hd D fs ps is σ ys zs gs, ?_, ?_⟩
      · -- the pair of all persons, or none
        have znd : zs.Nodup := perm.nodup_iff.mpr fnd
        have zlen : zs.length ≤ 6 := by rw [perm.length_eq]; exact fl6
        have ylen : ys.length = zs.length := by rw [dpAll_len hys, List.length_map]
        have none : is = true → ∀ He, PoolAt He p c ns → But p Hc He → ∃ (zs : List Str) (ys : List V), [some (V.ref p), some (.str (me is)), some (.ref fo), some (.ref pa), some (.ref D), some (.ref L), u6] = [some (.ref p), some (.str (me is)), some (.ref fo), some (.ref pa), some (.ref D), some (.ref L), u6] ∧ PoolAt He p c ns ∧ But p H He ∧ He L = some (.lst ys) ∧ GvAt K He D fs ps is σ ys zs gs := fun ei He Pe ke => by
          have kt : KeepT Hc He := .but Pc.notT ke
          exact ⟨zs, ys, rfl, Pe, kc.trans ke, ke _ _ hLc Lp, ke _ _ hDc Dp', gk, fun g hg => dp_kt0 kt (gdp g hg) (tv_tup ..), dpAll_kt0 kt hys (tu_encTs ..), znd, fun z hz => perm.mem_iff.mpr hz, fun z hz => .inr (perm.mem_iff.mp hz), (fun e => by rw [ei] at e; exact nomatch e), by rw [perm.length_eq]; exact Nat.le_succ _⟩
        cases is with
        | false =>
          refine ⟨_, rfl, rfl, true, dy, iteT (iteT ?_)⟩
          have keh : But p Hc Hc := But.refl
          have kt1 : KeepT Hc Hc := .but Pc.notT keh
          have hLe := keh _ _ hLc Lp
          have hDe := keh _ _ hDc Dp'
          refine ⟨_, rfl, .inl ⟨rfl, _, SqL.of hLe⟩, _, rfl, _, rfl, L, ys, rfl, .inl (SqL.of hLe), _, _, rfl, rfl, p, c, ns, _, rfl, by omega, by omega, Pc, fun r Hf r0 r1 Pf kf => ?_⟩
          refine ⟨_, rfl, (by show 2 ≤ sizeLine; decide), fun W nW => ?_⟩
          have sW : Same Hf (upd Hf W (.tup [.str eps_, .ref pa])) := sm_new sm_refl nW
          have hW : SqT K (upd Hf W (.tup [.str eps_, .ref pa])) W [.str eps_, .ref pa] := SqT.of upd_same
          have Pg := Pf.same sW
          have nWw : upd Hf W (.tup [.str eps_, .ref pa]) = upd Hf W (.tup [.str (Str.ofString ""), .ref pa]) := rfl
          rw [← nWw]
          generalize upd Hf W (.tup [.str eps_, .ref pa]) = Hg at sW hW Pg ⊢
          have keg : But p Hc Hg := (keh.trans kf).trans (But.refl.same sW)
          have ktg : KeepT Hc Hg := .but Pc.notT keg
          have hLg := keg _ _ hLc Lp
          have hDg := keg _ _ hDc Dp'
          have ntL : NotT (Hg L) := by rw [hLg]; exact notT_lst
          have hpg : SqT K Hg pa (ps.map V.str) := sqT_kt ktg (sqT_kt (.but hP.notT kc) hpa)
          obtain ⟨r', rfl⟩ := Int.eq_ofNat_of_zero_le r0
          refine ⟨L, ys, _, _, rfl, rfl, hLg, small1000 (by omega), r0, by omega, ?_⟩
          refine ⟨zs.take r' ++ [eps_] ++ zs.drop r', _, rfl, Pg.mine (Ne.symm Lp) Lc, but_mine (kc.trans keg) nLH, upd_same, ?_⟩
          have pz : (zs.take r' ++ [eps_] ++ zs.drop r').Perm (zs ++ [eps_]) := by
            rw [List.append_assoc, List.singleton_append]
            refine List.perm_middle.trans ?_
            rw [List.take_append_drop]
            exact (List.perm_append_singleton eps_ zs).symm
          have ez : eps_ ∉ zs := fun h => nep (perm.mem_iff.mp h)
          refine ⟨by rw [upd_ne DL]; exact hDg, gk, fun g hg => dp_put ntL (tv_tup ..) (dp_kt0 ktg (gdp g hg) (tv_tup ..)), ?_, ?_, ?_, ?_, fun _ => pz.mem_iff.mpr (List.mem_append_right _ List.mem_cons_self), by rw [pz.length_eq, List.length_append, perm.length_eq]; exact Nat.le_refl _⟩
          · have all := dpAll_put (o := .lst (ys.take ((r' : Nat) : Int).toNat ++ [V.ref W] ++ ys.drop ((r' : Nat) : Int).toNat)) ntL (tu_encTs ps false σ zs) (dpAll_kt0 ktg hys (tu_encTs ..))
            have ew : wT ps false σ eps_ = .tuple (ps.map .str) := if_pos rfl
            have dW := dp_put (d := encT ps false σ eps_) (o := .lst (ys.take ((r' : Nat) : Int).toNat ++ [V.ref W] ++ ys.drop ((r' : Nat) : Int).toNat)) ntL (tu_encT ps false σ eps_) (.tup hW (.cons (.str _) (.cons (by rw [ew]; exact .tup hpg (strs_dp ps)) .nil)))
            rw [List.map_append, List.map_append, List.map_take, List.map_drop]
            exact dpAll_append (dpAll_append (dpAll_take _ all) (.cons dW .nil)) (dpAll_drop _ all)
          · rw [pz.nodup_iff, List.nodup_append]
            exact ⟨znd, List.nodup_cons.mpr ⟨by simp, List.nodup_nil⟩, fun a ha y hy e => ez (by rw [List.mem_singleton.mp hy] at e; exact e ▸ ha)⟩
          · exact fun z hz => pz.mem_iff.mpr (List.mem_append_left _ (perm.mem_iff.mpr hz))
          · intro z hz
            rcases List.mem_append.mp (pz.mem_iff.mp hz) with h | h
            · exact .inr (perm.mem_iff.mp h)
            · exact .inl (List.mem_singleton.mp h)
        | true =>
          refine ⟨_, rfl, rfl, false, dn (by decide +kernel), iteF ⟨_, rfl, p, c, ns, _, rfl, by decide, by decide, Pc, fun r4 He a0 a1 Pe ke => ⟨rfl, _, rfl, ?_⟩⟩⟩
          by_cases q : r4 = 0
          · rw [decide_eq_true (by rw [q])]
            refine iteT ?_
            have kt1 : KeepT Hc He := .but Pc.notT ke
            have hLe := ke _ _ hLc Lp
            have hDe := ke _ _ hDc Dp'
            refine ⟨_, rfl, .inl ⟨rfl, _, SqL.of hLe⟩, _, rfl, _, rfl, L, ys, rfl, .inl (SqL.of hLe), _, _, rfl, rfl, p, c, ns, _, rfl, by omega, by omega, Pe, fun r Hf r0 r1 Pf kf => ?_⟩
            refine ⟨_, rfl, (by show 2 ≤ sizeLine; decide), fun W nW => ?_⟩
            have sW : Same Hf (upd Hf W (.tup [.str eps_, .ref pa])) := sm_new sm_refl nW
            have hW : SqT K (upd Hf W (.tup [.str eps_, .ref pa])) W [.str eps_, .ref pa] := SqT.of upd_same
            have Pg := Pf.same sW
            have nWw : upd Hf W (.tup [.str eps_, .ref pa]) = upd Hf W (.tup [.str (Str.ofString ""), .ref pa]) := rfl
            rw [← nWw]
            generalize upd Hf W (.tup [.str eps_, .ref pa]) = Hg at sW hW Pg ⊢
            have keg : But p Hc Hg := (ke.trans kf).trans (But.refl.same sW)
            have ktg : KeepT Hc Hg := .but Pc.notT keg
            have hLg := keg _ _ hLc Lp
            have hDg := keg _ _ hDc Dp'
            have ntL : NotT (Hg L) := by rw [hLg]; exact notT_lst
            have hpg : SqT K Hg pa (ps.map V.str) := sqT_kt ktg (sqT_kt (.but hP.notT kc) hpa)
            obtain ⟨r', rfl⟩ := Int.eq_ofNat_of_zero_le r0
            refine ⟨L, ys, _, _, rfl, rfl, hLg, small1000 (by omega), r0, by omega, ?_⟩
            refine ⟨zs.take r' ++ [eps_] ++ zs.drop r', _, rfl, Pg.mine (Ne.symm Lp) Lc, but_mine (kc.trans keg) nLH, upd_same, ?_⟩
            have pz : (zs.take r' ++ [eps_] ++ zs.drop r').Perm (zs ++ [eps_]) := by
              rw [List.append_assoc, List.singleton_append]
              refine List.perm_middle.trans ?_
              rw [List.take_append_drop]
              exact (List.perm_append_singleton eps_ zs).symm
            have ez : eps_ ∉ zs := fun h => nep (perm.mem_iff.mp h)
            refine ⟨by rw [upd_ne DL]; exact hDg, gk, fun g hg => dp_put ntL (tv_tup ..) (dp_kt0 ktg (gdp g hg) (tv_tup ..)), ?_, ?_, ?_, ?_, fun _ => pz.mem_iff.mpr (List.mem_append_right _ List.mem_cons_self), by rw [pz.length_eq, List.length_append, perm.length_eq]; exact Nat.le_refl _⟩
            · have all := dpAll_put (o := .lst (ys.take ((r' : Nat) : Int).toNat ++ [V.ref W] ++ ys.drop ((r' : Nat) : Int).toNat)) ntL (tu_encTs ps true σ zs) (dpAll_kt0 ktg hys (tu_encTs ..))
              have ew : wT ps true σ eps_ = .tuple (ps.map .str) := if_pos rfl
              have dW := dp_put (d := encT ps true σ eps_) (o := .lst (ys.take ((r' : Nat) : Int).toNat ++ [V.ref W] ++ ys.drop ((r' : Nat) : Int).toNat)) ntL (tu_encT ps true σ eps_) (.tup hW (.cons (.str _) (.cons (by rw [ew]; exact .tup hpg (strs_dp ps)) .nil)))
              rw [List.map_append, List.map_append, List.map_take, List.map_drop]
              exact dpAll_append (dpAll_append (dpAll_take _ all) (.cons dW .nil)) (dpAll_drop _ all)
            · rw [pz.nodup_iff, List.nodup_append]
              exact ⟨znd, List.nodup_cons.mpr ⟨by simp, List.nodup_nil⟩, fun a ha y hy e => ez (by rw [List.mem_singleton.mp hy] at e; exact e ▸ ha)⟩
            · exact fun z hz => pz.mem_iff.mpr (List.mem_append_left _ (perm.mem_iff.mpr hz))
            · intro z hz
              rcases List.mem_append.mp (pz.mem_iff.mp hz) with h | h
              · exact .inr (perm.mem_iff.mp h)
              · exact .inl (List.mem_singleton.mp h)
          · rw [decide_eq_false (fun e => q (by injection e))]
            exact iteF (none rfl He Pe ke)
      · rintro τ Hd ⟨zs, ys, rfl, Pd, kd, hLd, G⟩
        refine ⟨_, rfl, _, rfl, L, ys, rfl, SqL.of hLd, fun T oT nT hoT => ?_⟩
        have sT : Same Hd (upd Hd T (.frz oT (.tup ys))) := sm_new sm_refl nT
        have hT : SqT K (upd Hd T (.frz oT (.tup ys))) T ys := .inl (.inr ⟨oT, upd_same⟩)
        have pT : PlainT (upd Hd T (.frz oT (.tup ys))) T := ⟨oT, ys, upd_same, hoT⟩
        generalize upd Hd T (.frz oT (.tup ys)) = He at sT hT pT ⊢
        refine ⟨(by show 2 ≤ sizeLine; decide), fun R nR => ?_⟩
        have sR : Same He (upd He R (.tup [.ref D, .ref T])) := sm_new sm_refl nR
        have hR : SqT K (upd He R (.tup [.ref D, .ref T])) R [.ref D, .ref T] := SqT.of upd_same
        have s2 := sT.trans sR
        refine k R D T ys zs gs σ _ (kd.same s2) (Pd.same s2) hR Dp' nD (pT.same sR) (sqT_same sR hT) ⟨s2 _ _ G.dct, G.keys, fun g hg => dp_same s2 (G.val g hg), dpAll_same s2 G.prs, G.nd, G.all, G.sub, G.per, G.len⟩
end
end K8


set_option Elab.async false
set_option linter.all false
set_option maxRecDepth 100000
set_option maxHeartbeats 8000000
/-! a measure told by its sums and products: the law's own value of a polynomial in any measure -/
namespace K8
open PySem L2 Nd Bk Gd
structure Alg where
  α : Type
  nm : Str
  enc : α → PyData
  tup : ∀ a, tupOnly (enc a) = true
  ze : α
  on : α
  pl : α → α → α
  tm : α → α → α
  /-- a value times a number, in the measure of numbers alone -/
  sc : α → Int → α
  Ok : α → Prop
  OkV : α → Prop
  ok_ze : Ok ze
  ok_on : Ok on
  okv_on : OkV on
  ok_pl : ∀ {a b}, Ok a → Ok b → Ok (pl a b)
  ok_tm : ∀ {a b}, Ok a → OkV b → Ok (tm a b)
  ok_sc : ∀ {a n}, Ok a → Ok (sc a n)
  /-- either no number is asked, or the values are numbers -/
  num : (nm ≠ Str.ofString "count" ∧ ∀ a n, sc a n = a) ∨ (nm = Str.ofString "count" ∧ ∃ e : α → Int, ∀ a, Ok a → enc a = .int (e a) ∧ ∀ n, e (sc a n) = e a * n)
def itA (A : Alg) (y : A.α) : Nat → A.α → A.α
  | 0, a => a
  | n + 1, a => A.tm (itA A y n a) y
def worthA (A : Alg) (σ : Str → A.α) (m : Mono) : A.α := m.foldl (fun a q => itA A (σ q.1) q.2.toNat a) A.on
def resA (A : Alg) (σ : Str → A.α) (p : Poly) : A.α := p.foldl (fun b t => A.pl b (A.sc (worthA A σ t.1) t.2)) A.ze
theorem worthA_take {A : Alg} {σ : Str → A.α} {m : Mono} {j : Nat} {q : Str × Int} (e : m[j]? = some q) : worthA A σ (m.take (j + 1)) = itA A (σ q.1) q.2.toNat (worthA A σ (m.take j)) := by
  unfold worthA
  rw [List.take_succ, e, List.foldl_append]; rfl
theorem resA_take {A : Alg} {σ : Str → A.α} {p : Poly} {i : Nat} {t : Mono × Int} (e : p[i]? = some t) : resA A σ (p.take (i + 1)) = A.pl (resA A σ (p.take i)) (A.sc (worthA A σ t.1) t.2) := by
  unfold resA
  rw [List.take_succ, e, List.foldl_append]; rfl
theorem itA_ok {A : Alg} {y a : A.α} (hy : A.OkV y) (ha : A.Ok a) : ∀ n, A.Ok (itA A y n a)
  | 0 => ha
  | n + 1 => A.ok_tm (itA_ok hy ha n) hy
theorem worthA_ok {A : Alg} {σ : Str → A.α} {m : Mono} (h : ∀ q ∈ m, A.OkV (σ q.1)) : A.Ok (worthA A σ m) := by
  have key : ∀ (m : Mono) (a : A.α), (∀ q ∈ m, A.OkV (σ q.1)) → A.Ok a → A.Ok (m.foldl (fun a q => itA A (σ q.1) q.2.toNat a) a) := by
    intro m
    induction m with
    | nil => exact fun a _ h => h
    | cons q r ih => exact fun a h ha => ih _ (fun y hy => h y (List.mem_cons_of_mem _ hy)) (itA_ok (h q List.mem_cons_self) ha _)
  exact key m _ h A.ok_on
theorem resA_ok {A : Alg} {σ : Str → A.α} {p : Poly} (h : ∀ t ∈ p, ∀ q ∈ t.1, A.OkV (σ q.1)) : A.Ok (resA A σ p) := by
  have key : ∀ (p : Poly) (a : A.α), (∀ t ∈ p, ∀ q ∈ t.1, A.OkV (σ q.1)) → A.Ok a → A.Ok (p.foldl (fun b t => A.pl b (A.sc (worthA A σ t.1) t.2)) a) := by
    intro p
    induction p with
    | nil => exact fun a _ h => h
    | cons t r ih => exact fun a h ha => ih _ (fun y hy => h y (List.mem_cons_of_mem _ hy)) (A.ok_pl ha (A.ok_sc (worthA_ok (h t List.mem_cons_self))))
  exact key p _ h A.ok_ze
def spAZ (K : PySem.W.Frag) (A : Alg) : Sp := fun vs H Q _ => ∃ x : V, vs = [.str A.nm, x] ∧ ∀ v H', Same H H' → Dp K H' v (A.enc A.ze) → Q v H'
def spAO (K : PySem.W.Frag) (A : Alg) (ps : List Str) : Sp := fun vs H Q _ => ∃ a : Addr, vs = [.str A.nm, .ref a] ∧ SqT K H a (ps.map V.str) ∧ ∀ v H', Same H H' → Dp K H' v (A.enc A.on) → Q v H'
def spAS (K : PySem.W.Frag) (A : Alg) : Sp := fun vs H Q _ => ∃ (a b : V) (x y : A.α), vs = [.str A.nm, a, b] ∧ A.Ok x ∧ A.Ok y ∧ Dp K H a (A.enc x) ∧ Dp K H b (A.enc y) ∧ ∀ v H', Same H H' → Dp K H' v (A.enc (A.pl x y)) → Q v H'
def spAB (K : PySem.W.Frag) (A : Alg) : Sp := fun vs H Q _ => ∃ (a b : V) (x y : A.α), vs = [.str A.nm, a, b] ∧ A.Ok x ∧ A.OkV y ∧ Dp K H a (A.enc x) ∧ Dp K H b (A.enc y) ∧ ∀ v H', Same H H' → Dp K H' v (A.enc (A.tm x y)) → Q v H'
def spAVal (K : PySem.W.Frag) (A : Alg) (ps : List Str) : Sp := fun vs H Q _ => ∃ (v : V) (D a : Addr) (p : Poly) (kvs : List (Key × V)) (σ : Str → A.α), vs = [v, .str A.nm, .ref D, .ref a] ∧ FD K H v (bD p) ∧ (∀ t ∈ p, (0 < t.2 ∧ t.2 < 1000) ∧ ∀ x ∈ t.1, 0 < x.2 ∧ x.2 < 1000) ∧ H D = some (.dK kvs) ∧
  SqT K H a (ps.map V.str) ∧ (∀ t ∈ p, ∀ x ∈ t.1, A.OkV (σ x.1) ∧ ∃ u, valV kvs (.inr x.1) = some u ∧ Dp K H u (A.enc (σ x.1))) ∧ ∀ v H', Same H H' → Dp K H' v (A.enc (resA A σ p)) → Q v H'
section
variable {P : Program} {w : World} {K : PySem.W.Frag} {mg : Str → Option Value} {base : Heap}
theorem ok_aval (A' : Alg) (ps : List Str) {f : Addr} {fd : FuncData} (F : Fun K "_law_valued" "_law_valued" sGVal f fd) (N : Nm mg) (Gz : Df P w K mg base 1 "_law_zero" ["measure", "persons"] (spAZ K A')) (Go : Df P w K mg base 1 "_law_one" ["measure", "persons"] (spAO K A' ps))
    (Gs : Df P w K mg base 2 "_law_sum" ["measure", "a", "b"] (spAS K A')) (Gb : Df P w K mg base 1 "_law_both" ["measure", "a", "b"] (spAB K A')) : FnOk P w K mg base CX0 3 f fd ["p", "measure", "values", "persons"] (spAVal K A' ps) := by
  obtain ⟨fz, fdz, gZ, kZ, bZ, GZ⟩ := Gz.ok
  obtain ⟨fo, fdo, gO, kO, bO, GO⟩ := Go.ok
  obtain ⟨fs, fds, gS, kS, bS, GS⟩ := Gs.ok
  obtain ⟨fb, fdb, gB, kB, bB, GB⟩ := Gb.ok
  refine F.ok scGVal (fun vs H Q E h => ?_) (fun cdv A outer s H vs Q E hr h => ?_)
  · obtain ⟨v, D, a, p, kvs, σ, rfl, _⟩ := h
    rfl
  · obtain ⟨v, D, pa, p, kvs, σ, rfl, hd, hpw, hD, hpa, has, k⟩ := h
    have hr1 : Room 1 _ := hr.mono (by decide)
    have hr2 : Room 2 _ := hr.mono (by decide)
    refine ⟨_, pss_cons (ps_set (i := 4) scGVal.nd rfl (Or.inl rfl) (pe_call GZ hr1 rfl gZ kZ bZ .nil pass0 (pa_cons (pv 1) (pa_cons (pv 3) pa_nil))))
      (pss_cons (ps_for PassesOwn.never rfl (pi_seq (pv 0)) (pg_seq rfl (pgs_cons (pg_name (i := 5) scGVal.nd rfl (Or.inl rfl)) (pgs_cons (pg_name (i := 6) scGVal.nd rfl (Or.inl rfl)) pgs_nil)))
        (pss_cons (ps_set (i := 7) scGVal.nd rfl (Or.inl rfl) (pe_call GO hr1 rfl gO kO bO .nil pass0 (pa_cons (pv 1) (pa_cons (pv 3) pa_nil))))
        (pss_cons (ps_for PassesOwn.never rfl (pi_seq (pv 5)) (pg_seq rfl (pgs_cons (pg_name (i := 8) scGVal.nd rfl (Or.inl rfl)) (pgs_cons (pg_name (i := 9) scGVal.nd rfl (Or.inl rfl)) pgs_nil)))
          (pss_one (ps_for PassesOwn.never rfl (pi_range1 rfl N.rng (pa_cons (pv 9) pa_nil)) (pg_name (i := 10) scGVal.nd rfl (Or.inl rfl))
            (pss_one (ps_set (i := 7) scGVal.nd rfl (Or.inl rfl) (pe_call GB hr1 rfl gB kB bB .nil pass0 (pa_cons (pv 1) (pa_cons (pv 7) (pa_cons (pe_dget (u1 hr) (pv 2) (pv 8) (fun _ _ => rfl)) pa_nil)))))))))
        (C8.pss_cut (ps_if (pt_cmpR op_eq (pv 1) pe_str (nomark _)) (pss_one (ps_set (i := 7) scGVal.nd rfl (Or.inl rfl) (pe_op op_mul (pv 7) (pv 6)))) pss_nil)
        (pss_one (ps_set (i := 4) scGVal.nd rfl (Or.inl rfl) (pe_call GS hr2 rfl gS kS bS .nil pass0 (pa_cons (pv 1) (pa_cons (pv 4) (pa_cons (pv 7) pa_nil))))))))))
      (pss_one (ps_ret (pv 4)))), ?_⟩
    refine ⟨_, rfl, _, rfl, .ref pa, rfl, fun v0 H1 s1 dv0 => ?_⟩
    have hD1 := s1 _ _ hD
    obtain ⟨a, xs, rfl, hs, hl, hget⟩ := fd_bag (hd.same s1)
    refine seq_go rfl hs fun J G walk hG => ?_
    refine for_it walk (fun i τ H3 => ∃ u4 u5 u6 u7 u8 u9 u10, τ = [some (.ref a), some (.str A'.nm), some (.ref D), some (.ref pa), some u4, u5, u6, u7, u8, u9, u10] ∧ Same H1 H3 ∧ Dp K H3 u4 (A'.enc (resA A' σ (p.take i)))) ⟨v0, _, _, _, _, _, _, rfl, sm_refl, dv0⟩ (fun i τ H3 _ ⟨_, _, _, _, _, _, _, _, s3, _⟩ => hG H3 s3.seq (sqT_same s3)) ?_ ?_
    · rintro i x τ H3 Hx hi ⟨u4, u5, u6, u7, u8, u9, u10, rfl, s3, d4⟩ ⟨rfl, hx⟩
      obtain ⟨t, hti, hxt⟩ := hget i x hx
      have htm := List.mem_of_getElem? hti
      obtain ⟨T2, kk, rfl, hT2, hk⟩ := fd_pair hxt
      refine ⟨T2, _, rfl, sq_same s3 hT2, rfl, _, _, rfl, _, _, rfl, rfl, ?_⟩
      refine ⟨_, rfl, _, rfl, pa, rfl, sqT_same (s1.trans s3) hpa, fun w0 H4 s4 dw0 => ?_⟩
      obtain ⟨b, ys, rfl, hb, hbl, hbget⟩ := fd_bag (κ := Str) (hk.same (s3.trans s4))
      refine seq_go rfl hb fun J2 G2 walk2 hG2 => ?_
      refine for_it walk2 (fun j τ H5 => ∃ w7 u8 u9 u10, τ = [some (.ref a), some (.str A'.nm), some (.ref D), some (.ref pa), some u4, some (.ref b), some (.int t.2), some w7, u8, u9, u10] ∧ Same H4 H5 ∧ Dp K H5 w7 (A'.enc (worthA A' σ (t.1.take j)))) ⟨w0, _, _, _, rfl, sm_refl, dw0⟩ (fun j τ H5 _ ⟨_, _, _, _, _, s5, _⟩ => hG2 H5 s5.seq (sqT_same s5)) ?_ ?_
      · rintro j y τ H5 Hy hj ⟨w7, u8, u9, u10, rfl, s5, d7⟩ ⟨rfl, hy⟩
        obtain ⟨q, hq, hyq⟩ := hbget j y hy
        have hqm := List.mem_of_getElem? hq
        obtain ⟨U, kk2, rfl, hU, hkk⟩ := fd_pair hyq
        cases fd_str (z := q.1) hkk
        obtain ⟨okv, uv, hv, fv⟩ := has t htm q hqm
        obtain ⟨e0, e1⟩ := (hpw t htm).2 q hqm
        have s15 := s1.trans (s3.trans (s4.trans s5))
        have okw : A'.Ok (worthA A' σ (t.1.take j)) := worthA_ok fun q hq => (has t htm q (List.mem_of_mem_take hq)).1
        refine ⟨U, _, rfl, sq_same s5 hU, rfl, _, _, rfl, _, _, rfl, rfl, ?_⟩
        refine ⟨_, rfl, _, rfl, by omega, by omega, ?_⟩
        refine for_range (n := q.2.toNat) (fun l τ H6 => ∃ w7 u10, τ = [some (.ref a), some (.str A'.nm), some (.ref D), some (.ref pa), some u4, some (.ref b), some (.int t.2), some w7, some (.str q.1), some (.int q.2), u10] ∧ Same Hy H6 ∧ Dp K H6 w7 (A'.enc (itA A' (σ q.1) l (worthA A' σ (t.1.take j))))) ⟨w7, _, rfl, sm_refl, d7⟩ ?_ ?_
        · rintro l τ H6 hl6 ⟨w7', u10, rfl, s6, d7'⟩
          have hD6 := s6 _ _ (s15 _ _ hD)
          refine ⟨_, rfl, _, rfl, _, rfl, _, rfl, D, _, rfl, hv ▸ DGet.k (k := .inr q.1) hD6, ?_⟩
          refine ⟨w7', uv, _, σ q.1, rfl, itA_ok okv okw l, okv, d7', dp_same (s15.trans s6) fv, fun v6 H7 s7 d6 => ?_⟩
          exact ⟨v6, _, rfl, s6.trans s7, d6⟩
        · rintro τ H6 ⟨w7', u10, rfl, s6, d7'⟩
          refine ⟨w7', _, _, _, rfl, s5.trans s6, ?_⟩
          rw [worthA_take hq]; exact d7'
      · rintro τ H5 ⟨w7, u8, u9, u10, rfl, s5, d7⟩
        rw [hbl, List.take_length] at d7
        have okw : A'.Ok (worthA A' σ t.1) := worthA_ok fun q hq => (has t htm q hq).1
        have okr : A'.Ok (resA A' σ (p.take i)) := resA_ok fun t ht q hq => (has t (List.mem_of_mem_take ht) q hq).1
        refine ⟨fun τ H6 => ∃ w7, τ = [some (.ref a), some (.str A'.nm), some (.ref D), some (.ref pa), some u4, some (.ref b), some (.int t.2), some w7, u8, u9, u10] ∧ H6 = H5 ∧ Dp K H5 w7 (A'.enc (A'.sc (worthA A' σ t.1) t.2)), ?_, ?_⟩
        · rcases A'.num with ⟨n1, n2⟩ | ⟨n1, e, n2⟩
          · refine ⟨_, rfl, rfl, false, dn n1, iteF ⟨w7, rfl, rfl, ?_⟩⟩
            rw [n2]; exact d7
          · have d7i : Dp K H5 w7 (.int (e (worthA A' σ t.1))) := by rw [← (n2 _ okw).1]; exact d7
            cases dp_int d7i
            obtain ⟨t0, t1⟩ := (hpw t htm).1
            refine ⟨_, rfl, rfl, true, by rw [n1]; exact dy, iteT ⟨_, rfl, _, rfl, _, _, rfl, rfl, .inr ⟨by omega, by omega⟩, _, rfl, rfl, ?_⟩⟩
            rw [(n2 _ (A'.ok_sc okw)).1, (n2 _ okw).2]
            exact .int _
        · rintro τ H6 ⟨w7', rfl, rfl, d7'⟩
          refine ⟨_, rfl, _, rfl, _, rfl, u4, w7', resA A' σ (p.take i), A'.sc (worthA A' σ t.1) t.2, rfl, okr, A'.ok_sc okw, dp_same (s4.trans s5) d4, d7', fun v6 H6 s6 d6 => ?_⟩
          refine ⟨v6, _, _, _, _, _, _, rfl, s3.trans (s4.trans (s5.trans s6)), ?_⟩
          rw [resA_take hti]; exact d6
    · rintro τ H3 ⟨u4, u5, u6, u7, u8, u9, u10, rfl, s3, d4⟩
      rw [hl, List.take_length] at d4
      exact ⟨_, rfl, k _ _ (s1.trans s3) d4⟩
end
end K8


set_option Elab.async false
set_option linter.all false
set_option maxRecDepth 100000
set_option maxHeartbeats 8000000
/-! what is handed in, in any measure -/
namespace K8
open PySem L2 Nd Bk Gd
def wA (A : Alg) (ps : List Str) (σ : Str → A.α) (z : Str) : PyData := if z = eps_ then .tuple (ps.map .str) else A.enc (σ z)
def encA (A : Alg) (ps : List Str) (σ : Str → A.α) (z : Str) : PyData := encG (z, wA A ps σ z)
theorem tu_wA (A' : Alg) (ps : List Str) (σ : Str → A'.α) (z : Str) : tupOnly (wA A' ps σ z) = true := by
  unfold wA
  split
  · exact tu_strs ps
  · exact A'.tup _
theorem tu_encA (A' : Alg) (ps : List Str) (σ : Str → A'.α) (z : Str) : tupOnly (encA A' ps σ z) = true := by
  show tupOnlyAll [.str z, wA A' ps σ z] = true
  simp [tupOnlyAll, tupOnly, tu_wA]
theorem tu_encAs (A' : Alg) (ps : List Str) (σ : Str → A'.α) (zs : List Str) : tupOnlyAll (zs.map (encA A' ps σ)) = true := tupOnlyAll_of fun d hd => by
  obtain ⟨z, _, rfl⟩ := List.mem_map.mp hd
  exact tu_encA ..
/-- the values and the pairs that tell them -/
structure GaAt (K : PySem.W.Frag) (A : Alg) (H : Hp) (D : Addr) (fs ps : List Str) (σ : Str → A.α) (ys : List V) (zs : List Str) (gs : List (Str × V)) : Prop where
  tot : ∀ z, A.OkV (σ z)
  dct : H D = some (.dK (kvG gs))
  keys : gs.map (·.1) = fs
  val : ∀ g ∈ gs, A.OkV (σ g.1) ∧ Dp K H g.2 (A.enc (σ g.1))
  prs : DpAll K H ys (zs.map (encA A ps σ))
  nd : zs.Nodup
  all : ∀ z ∈ fs, z ∈ zs
  sub : ∀ z ∈ zs, z = eps_ ∨ z ∈ fs
  per : A.nm = seen_ → eps_ ∈ zs
  len : zs.length ≤ fs.length + 1
def spAD (K : PySem.W.Frag) (A : Alg) (ps : List Str) : Sp := fun vs H Q _ => ∃ (p c a : Addr) (ns : List Int), vs = [.ref p, .str A.nm, .ref a] ∧ PoolAt H p c ns ∧ SqT K H a (ps.map V.str) ∧
  ∀ (v : V) (x : A.α) (H' : Hp), But p H H' → PoolAt H' p c ns → A.OkV x → Dp K H' v (A.enc x) → Q v H'
def spAGiven (K : PySem.W.Frag) (A : Alg) (ps : List Str) : Sp := fun vs H Q _ => ∃ (p c fo pa : Addr) (ns : List Int) (fs : List Str), vs = [.ref p, .str A.nm, .ref fo, .ref pa] ∧ PoolAt H p c ns ∧ H fo = some (.lst (fs.map V.str)) ∧ fo ≠ p ∧ fs.Nodup ∧ fs.length ≤ 6 ∧ eps_ ∉ fs ∧ SqT K H pa (ps.map V.str) ∧
  ∀ (R D T : Addr) (ys : List V) (zs : List Str) (gs : List (Str × V)) (σ : Str → A.α) (H' : Hp), But p H H' → PoolAt H' p c ns → SqT K H' R [.ref D, .ref T] → D ≠ p → H D = none → PlainT H' T → SqT K H' T ys → GaAt K A H' D fs ps σ ys zs gs → Q (.ref R) H'
section
variable {P : Program} {w : World} {K : PySem.W.Frag} {mg : Str → Option Value} {base : Heap}
theorem ok_agiven (A' : Alg) (ps : List Str) {f : Addr} {fd : FuncData} (F : Fun K "_law_given" "_law_given" sGGiven f fd) (N : Nm mg) (Gt : Df P w K mg base 2 "_law_take" ["pool", "many"] spTake) (Gv : Df P w K mg base 4 "_law_drawn_value" ["pool", "measure", "persons"] (spAD K A' ps)) : FnOk P w K mg base CX0 5 f fd ["pool", "measure", "tokens", "persons"] (spAGiven K A' ps) := by
  obtain ⟨ft, fdt, gT, kT, bT, GT⟩ := Gt.ok
  obtain ⟨fv, fdv, gV, kV, bV, GV⟩ := Gv.ok
  refine F.ok scGGiven (fun vs H Q E h => ?_) (fun cdv A outer s H vs Q E hr h => ?_)
  · obtain ⟨p, c, fo, pa, ns, fs, rfl, _⟩ := h
    rfl
  · obtain ⟨p, c, fo, pa, ns, fs, rfl, hP, hfo, fop, fnd, fl6, nep, hpa, k⟩ := h
    have hr2 : Room 2 _ := hr.mono (by decide)
    have hr4 : Room 4 _ := hr.mono (by decide)
    --BODY
    refine ⟨_, pss_cons (ps_set (i := 4) scGGiven.nd rfl (Or.inl rfl) pe_dnewK)
      (pss_cons (ps_set (i := 5) scGGiven.nd rfl (Or.inl rfl) (pe_lst pa_nil))
      (pss_cons (ps_for PassesOwn.never rfl (pi_list (pv 2)) (pg_name (i := 6) scGGiven.nd rfl (Or.inl rfl))
      (pss_cons (ps_dput (u1 hr) (pv 4) (pv 6) (pe_call GV hr4 rfl gV kV bV .nil pass0 (pa_cons (pv 0) (pa_cons (pv 1) (pa_cons (pv 3) pa_nil)))) rfl)
      (pss_one (ps_expr (pe_bm PySem.F.plainAttrs_list PySem.F.slot_list_insert PySem.F.type_list_insert mt_insert (pv 5) (pa_cons (pe_call GT hr2 rfl gT kT bT .nil pass0 (pa_cons (pv 0) (pa_cons (pe_op op_add (pe_callB call_len_seq (by rfl) N.len PySem.boot_len (pa_cons (pv 5) pa_nil)) pe_int) pa_nil))) (pa_cons (pe_tup (pa_cons (pv 6) (pa_cons (pe_dget (u1 hr) (pv 4) (pv 6) (fun _ _ => rfl)) pa_nil))) pa_nil)))))))
      (C8.pss_cut (ps_if (PW.pt (pw_or (pt_cmpR op_eq (pv 1) pe_str (nomark _)) (pw_or1 (pt_cmpR op_eq (pe_call GT hr2 rfl gT kT bT .nil pass0 (pa_cons (pv 0) (pa_cons pe_int pa_nil))) pe_int (nomark _))))) (pss_one (ps_expr (pe_bm PySem.F.plainAttrs_list PySem.F.slot_list_insert PySem.F.type_list_insert mt_insert (pv 5) (pa_cons (pe_call GT hr2 rfl gT kT bT .nil pass0 (pa_cons (pv 0) (pa_cons (pe_op op_add (pe_callB call_len_seq (by rfl) N.len PySem.boot_len (pa_cons (pv 5) pa_nil)) pe_int) pa_nil))) (pa_cons (pe_tup (pa_cons pe_str (pa_cons (pv 3) pa_nil))) pa_nil))))) pss_nil)
      (pss_one (ps_ret (pe_tup (pa_cons (pv 4) (pa_cons (pe_callTy (show CallR _ _ (rTupF K) from call_tupleF) (by rfl) N.tup (by rfl) (pa_cons (pv 5) pa_nil)) pa_nil)))))))), ?_⟩
    --END
    intro D nD
    have sD : Same H (upd H D (.dK [])) := sm_new sm_refl nD
    have hD : upd H D (.dK []) D = some (.dK []) := upd_same
    have Dp' := hP.off nD
    have Dc : c ≠ D := ne_of_none hP.cells nD
    have PA := hP.same sD
    generalize upd H D (.dK []) = HA at sD hD PA ⊢
    refine ⟨(by show 0 ≤ sizeLine; decide), fun L nL => ?_⟩
    have sL : Same HA (upd HA L (.lst [])) := sm_new sm_refl nL
    have hL : upd HA L (.lst []) L = some (.lst []) := upd_same
    have Lp := PA.off nL
    have Lc : c ≠ L := ne_of_none PA.cells nL
    have DL : D ≠ L := ne_of_none hD nL
    have nLH : H L = none := sD.free nL
    have PB := PA.same sL
    have hDB := sL _ _ hD
    have sHB := sD.trans sL
    generalize upd HA L (.lst []) = HB at sL hL PB hDB sHB ⊢
    refine ⟨_, rfl, fo, rfl, ⟨_, SqL.of (sHB _ _ hfo)⟩, ?_⟩
    refine for_list (K := K) (a := fo) (xs := fs.map V.str) (fun i τ Hc => (∃ u6, τ = [some (.ref p), some (.str A'.nm), some (.ref fo), some (.ref pa), some (.ref D), some (.ref L), u6]) ∧ PoolAt Hc p c ns ∧ But p H Hc ∧ ∃ (zs : List Str) (σ : Str → A'.α) (gs : List (Str × V)) (ys : List V), Hc D = some (.dK (kvG gs)) ∧ Hc L = some (.lst ys) ∧ DpAll K Hc ys (zs.map (encA A' ps σ)) ∧ zs.Perm (fs.take i) ∧ gs.map (·.1) = fs.take i ∧ (∀ z, A'.OkV (σ z)) ∧ ∀ g ∈ gs, A'.OkV (σ g.1) ∧ Dp K Hc g.2 (A'.enc (σ g.1)))
      ⟨⟨_, rfl⟩, PB, But.refl.same sHB, [], (fun _ => A'.on), [], [], hDB, hL, .nil, List.Perm.refl _, rfl, fun _ => A'.okv_on, fun g hg => nomatch hg⟩ (fun i τ Hc _ ⟨_, _, kc, _⟩ => SqL.of (kc _ _ hfo fop)) ?_ ?_
    · rintro j x τ Hc hj ⟨⟨u6, rfl⟩, Pc, kc, zs, σ, gs, ys, hDc, hLc, hys, perm, gk, tot, gdp⟩
      rw [List.getElem?_map] at hj
      obtain ⟨z, hz, rfl⟩ := Option.map_eq_some_iff.mp hj
      have jl := (List.getElem?_eq_some_iff.mp hz).1
      have zfs : z ∈ fs := List.mem_of_getElem? hz
      have zne : z ≠ eps_ := fun e => nep (e ▸ zfs)
      have et : fs.take (j + 1) = fs.take j ++ [z] := by rw [List.take_succ, hz]; rfl
      have zn : z ∉ fs.take j := fun q => by
        have q2 : (fs.take (j + 1)).Nodup := fnd.sublist (List.take_sublist _ _)
        rw [et, List.nodup_append] at q2
        exact q2.2.2 z q z List.mem_cons_self rfl
      have zlen : zs.length = j := by rw [perm.length_eq, List.length_take]; omega
      have ylen : ys.length = j := by rw [dpAll_len hys, List.length_map, zlen]
      have glen : gs.length = j := by
        have := congrArg List.length gk
        rw [List.length_map, List.length_take] at this
        omega
      refine ⟨_, rfl, _, rfl, _, rfl, p, c, pa, ns, rfl, Pc, sqT_kt (.but hP.notT kc) hpa, fun vz f Hd kd Pd ovz dz => ?_⟩
      have hDd := kd _ _ hDc Dp'
      have hLd := kd _ _ hLc Lp
      have vn : valV (kvG gs) (.inr z) = none := valG_none (by rw [gk]; exact zn)
      have ep : putK (kvG gs) (.inr z) vz = kvG (gs ++ [(z, vz)]) := by
        rw [putK_new _ vn]
        unfold kvG
        rw [List.map_append]
        rfl
      have bl : (kvG gs).length ≤ 1000 := by
        unfold kvG
        rw [List.length_map]
        omega
      refine ⟨_, rfl, _, rfl, D, _, rfl, putD hDd bl ep, ?_⟩
      have ntD : NotT (Hd D) := by rw [hDd]; exact notT_dK
      have ktD : KeepT Hc (upd Hd D (.dK (kvG (gs ++ [(z, vz)])))) := (KeepT.but Pc.notT kd).trans (KeepT.but ntD But.upd)
      have dze : Dp K (upd Hd D (.dK (kvG (gs ++ [(z, vz)])))) vz (A'.enc f) := dp_put ntD (A'.tup _) dz
      have Pe := Pd.mine (o := .dK (kvG (gs ++ [(z, vz)]))) (Ne.symm Dp') Dc
      have ke : But p H (upd Hd D (.dK (kvG (gs ++ [(z, vz)])))) := but_mine (kc.trans kd) nD
      have hDe : upd Hd D (.dK (kvG (gs ++ [(z, vz)]))) D = some (.dK (kvG (gs ++ [(z, vz)]))) := upd_same
      have hLe : upd Hd D (.dK (kvG (gs ++ [(z, vz)]))) L = some (.lst ys) := by rw [upd_ne (Ne.symm DL)]; exact hLd
      generalize upd Hd D (.dK (kvG (gs ++ [(z, vz)]))) = He at ktD dze Pe ke hDe hLe ⊢
      refine ⟨_, rfl, .inl ⟨rfl, _, SqL.of hLe⟩, _, rfl, _, rfl, L, ys, rfl, .inl (SqL.of hLe), _, _, rfl, rfl, p, c, ns, _, rfl, by omega, by omega, Pe, fun r Hf r0 r1 Pf kf => ?_⟩
      have gnd : ((gs ++ [(z, vz)]).map (·.1)).Nodup := by
        rw [List.map_append, gk]
        show (fs.take j ++ [z]).Nodup
        rw [← et]
        exact fnd.sublist (List.take_sublist _ _)
      refine ⟨_, rfl, _, rfl, _, rfl, D, _, rfl, getK (kf _ _ hDe Dp') (valG_mem gnd (List.mem_append_right _ List.mem_cons_self)), (by show 2 ≤ sizeLine; decide), fun W nW => ?_⟩
      have sW : Same Hf (upd Hf W (.tup [.str z, vz])) := sm_new sm_refl nW
      have hW : SqT K (upd Hf W (.tup [.str z, vz])) W [.str z, vz] := SqT.of upd_same
      have Pg := Pf.same sW
      generalize upd Hf W (.tup [.str z, vz]) = Hg at sW hW Pg ⊢
      have keg : But p He Hg := But.trans kf (But.refl.same sW)
      have hLg := keg _ _ hLe Lp
      have hDg := keg _ _ hDe Dp'
      have ktg : KeepT He Hg := KeepT.but Pe.notT keg
      have ntL : NotT (Hg L) := by rw [hLg]; exact notT_lst
      obtain ⟨r', rfl⟩ := Int.eq_ofNat_of_zero_le r0
      refine ⟨L, ys, _, _, rfl, rfl, hLg, small1000 (by omega), r0, by omega, ?_⟩
      have hch : ∀ y, y ≠ z → (fun y => if y = z then f else σ y) y = σ y := fun y hy => if_neg hy
      have hz' : (fun y => if y = z then f else σ y) z = f := if_pos rfl
      generalize (fun y => if y = z then f else σ y) = σ' at hch hz'
      have eC : zs.map (encA A' ps σ') = zs.map (encA A' ps σ) := List.map_congr_left fun y hy => by
        unfold encA wA
        rw [hch y fun e => zn (e ▸ perm.mem_iff.mp hy)]
      have ew : wA A' ps σ' z = A'.enc f := by unfold wA; rw [if_neg zne, hz']
      have dzg : Dp K Hg vz (A'.enc f) := dp_kt0 ktg dze (A'.tup _)
      have ys2 : DpAll K Hg ys (zs.map (encA A' ps σ')) := by
        rw [eC]
        exact dpAll_kt0 (ktD.trans ktg) hys (tu_encAs ..)
      refine ⟨⟨_, rfl⟩, Pg.mine (Ne.symm Lp) Lc, but_mine (ke.trans keg) nLH, zs.take r' ++ [z] ++ zs.drop r', σ', gs ++ [(z, vz)], _, by rw [upd_ne DL]; exact hDg, upd_same, ?_, ?_, ?_, fun y => ?_, ?_⟩
      · have all := dpAll_put (o := .lst (ys.take ((r' : Nat) : Int).toNat ++ [V.ref W] ++ ys.drop ((r' : Nat) : Int).toNat)) ntL (tu_encAs A' ps σ' zs) ys2
        have dW := dp_put (d := encA A' ps σ' z) (o := .lst (ys.take ((r' : Nat) : Int).toNat ++ [V.ref W] ++ ys.drop ((r' : Nat) : Int).toNat)) ntL (tu_encA A' ps σ' z) (.tup hW (.cons (.str _) (.cons (by rw [ew]; exact dzg) .nil)))
        rw [List.map_append, List.map_append, List.map_take, List.map_drop]
        exact dpAll_append (dpAll_append (dpAll_take _ all) (.cons dW .nil)) (dpAll_drop _ all)
      · rw [et]
        have q1 : (zs.take r' ++ [z] ++ zs.drop r').Perm (zs ++ [z]) := by
          rw [List.append_assoc, List.singleton_append]
          refine List.perm_middle.trans ?_
          rw [List.take_append_drop]
          exact (List.perm_append_singleton z zs).symm
        exact q1.trans (perm.append_right [z])
      · rw [List.map_append, gk, et]
        rfl
      · by_cases q : y = z
        · rw [q, hz']; exact ovz
        · rw [hch y q]; exact tot y
      · intro g hg
        rcases List.mem_append.mp hg with q | q
        · have gm : g.1 ∈ fs.take j := by rw [← gk]; exact List.mem_map.mpr ⟨g, q, rfl⟩
          rw [hch g.1 fun e => zn (e ▸ gm)]
          exact ⟨(gdp g q).1, dp_put ntL (A'.tup _) (dp_kt0 (ktD.trans ktg) (gdp g q).2 (A'.tup _))⟩
        · rw [List.mem_singleton.mp q, hz']
          exact ⟨ovz, dp_put ntL (A'.tup _) dzg⟩
    · rintro τ Hc ⟨⟨u6, rfl⟩, Pc, kc, zs, σ, gs, ys, hDc, hLc, hys, perm, gk, tot, gdp⟩
      rw [List.length_map, List.take_length] at perm gk
      refine ⟨fun τ Hd => ∃ (zs : List Str) (ys : List V), τ = [some (.ref p), some (.str A'.nm), some (.ref fo), some (.ref pa), some (.ref D), some (.ref L), u6] ∧ PoolAt Hd p c ns ∧ But p H Hd ∧ Hd L = some (.lst ys) ∧ GaAt K A' Hd D fs ps σ ys zs gs, ?_, ?_⟩
      · -- the pair of all persons, or none
        have znd : zs.Nodup := perm.nodup_iff.mpr fnd
        have zlen : zs.length ≤ 6 := by rw [perm.length_eq]; exact fl6
        have ylen : ys.length = zs.length := by rw [dpAll_len hys, List.length_map]
        have none : A'.nm ≠ seen_ → ∀ He, PoolAt He p c ns → But p Hc He → ∃ (zs : List Str) (ys : List V), [some (V.ref p), some (.str A'.nm), some (.ref fo), some (.ref pa), some (.ref D), some (.ref L), u6] = [some (.ref p), some (.str A'.nm), some (.ref fo), some (.ref pa), some (.ref D), some (.ref L), u6] ∧ PoolAt He p c ns ∧ But p H He ∧ He L = some (.lst ys) ∧ GaAt K A' He D fs ps σ ys zs gs := fun ei He Pe ke => by
          have kt : KeepT Hc He := .but Pc.notT ke
          exact ⟨zs, ys, rfl, Pe, kc.trans ke, ke _ _ hLc Lp, tot, ke _ _ hDc Dp', gk, fun g hg => ⟨(gdp g hg).1, dp_kt0 kt (gdp g hg).2 (A'.tup _)⟩, dpAll_kt0 kt hys (tu_encAs ..), znd, fun z hz => perm.mem_iff.mpr hz, fun z hz => .inr (perm.mem_iff.mp hz), (fun e => absurd e ei), by rw [perm.length_eq]; exact Nat.le_succ _⟩
        by_cases en : A'.nm = seen_
        · refine ⟨_, rfl, rfl, true, by rw [en]; exact dy, iteT (iteT ?_)⟩
          have keh : But p Hc Hc := But.refl
          have kt1 : KeepT Hc Hc := .but Pc.notT keh
          have hLe := keh _ _ hLc Lp
          have hDe := keh _ _ hDc Dp'
          refine ⟨_, rfl, .inl ⟨rfl, _, SqL.of hLe⟩, _, rfl, _, rfl, L, ys, rfl, .inl (SqL.of hLe), _, _, rfl, rfl, p, c, ns, _, rfl, by omega, by omega, Pc, fun r Hf r0 r1 Pf kf => ?_⟩
          refine ⟨_, rfl, (by show 2 ≤ sizeLine; decide), fun W nW => ?_⟩
          have sW : Same Hf (upd Hf W (.tup [.str eps_, .ref pa])) := sm_new sm_refl nW
          have hW : SqT K (upd Hf W (.tup [.str eps_, .ref pa])) W [.str eps_, .ref pa] := SqT.of upd_same
          have Pg := Pf.same sW
          have nWw : upd Hf W (.tup [.str eps_, .ref pa]) = upd Hf W (.tup [.str (Str.ofString ""), .ref pa]) := rfl
          rw [← nWw]
          generalize upd Hf W (.tup [.str eps_, .ref pa]) = Hg at sW hW Pg ⊢
          have keg : But p Hc Hg := (keh.trans kf).trans (But.refl.same sW)
          have ktg : KeepT Hc Hg := .but Pc.notT keg
          have hLg := keg _ _ hLc Lp
          have hDg := keg _ _ hDc Dp'
          have ntL : NotT (Hg L) := by rw [hLg]; exact notT_lst
          have hpg : SqT K Hg pa (ps.map V.str) := sqT_kt ktg (sqT_kt (.but hP.notT kc) hpa)
          obtain ⟨r', rfl⟩ := Int.eq_ofNat_of_zero_le r0
          refine ⟨L, ys, _, _, rfl, rfl, hLg, small1000 (by omega), r0, by omega, ?_⟩
          refine ⟨zs.take r' ++ [eps_] ++ zs.drop r', _, rfl, Pg.mine (Ne.symm Lp) Lc, but_mine (kc.trans keg) nLH, upd_same, ?_⟩
          have pz : (zs.take r' ++ [eps_] ++ zs.drop r').Perm (zs ++ [eps_]) := by
            rw [List.append_assoc, List.singleton_append]
            refine List.perm_middle.trans ?_
            rw [List.take_append_drop]
            exact (List.perm_append_singleton eps_ zs).symm
          have ez : eps_ ∉ zs := fun h => nep (perm.mem_iff.mp h)
          refine ⟨tot, by rw [upd_ne DL]; exact hDg, gk, fun g hg => ⟨(gdp g hg).1, dp_put ntL (A'.tup _) (dp_kt0 ktg (gdp g hg).2 (A'.tup _))⟩, ?_, ?_, ?_, ?_, fun _ => pz.mem_iff.mpr (List.mem_append_right _ List.mem_cons_self), by rw [pz.length_eq, List.length_append, perm.length_eq]; exact Nat.le_refl _⟩
          · have all := dpAll_put (o := .lst (ys.take ((r' : Nat) : Int).toNat ++ [V.ref W] ++ ys.drop ((r' : Nat) : Int).toNat)) ntL (tu_encAs A' ps σ zs) (dpAll_kt0 ktg hys (tu_encAs ..))
            have ew : wA A' ps σ eps_ = .tuple (ps.map .str) := if_pos rfl
            have dW := dp_put (d := encA A' ps σ eps_) (o := .lst (ys.take ((r' : Nat) : Int).toNat ++ [V.ref W] ++ ys.drop ((r' : Nat) : Int).toNat)) ntL (tu_encA A' ps σ eps_) (.tup hW (.cons (.str _) (.cons (by rw [ew]; exact .tup hpg (strs_dp ps)) .nil)))
            rw [List.map_append, List.map_append, List.map_take, List.map_drop]
            exact dpAll_append (dpAll_append (dpAll_take _ all) (.cons dW .nil)) (dpAll_drop _ all)
          · rw [pz.nodup_iff, List.nodup_append]
            exact ⟨znd, List.nodup_cons.mpr ⟨by simp, List.nodup_nil⟩, fun a ha y hy e => ez (by rw [List.mem_singleton.mp hy] at e; exact e ▸ ha)⟩
          · exact fun z hz => pz.mem_iff.mpr (List.mem_append_left _ (perm.mem_iff.mpr hz))
          · intro z hz
            rcases List.mem_append.mp (pz.mem_iff.mp hz) with h | h
            · exact .inr (perm.mem_iff.mp h)
            · exact .inl (List.mem_singleton.mp h)
        · refine ⟨_, rfl, rfl, false, dn en, iteF ⟨_, rfl, p, c, ns, _, rfl, by decide, by decide, Pc, fun r4 He a0 a1 Pe ke => ⟨rfl, _, rfl, ?_⟩⟩⟩
          by_cases q : r4 = 0
          · rw [decide_eq_true (by rw [q])]
            refine iteT ?_
            have kt1 : KeepT Hc He := .but Pc.notT ke
            have hLe := ke _ _ hLc Lp
            have hDe := ke _ _ hDc Dp'
            refine ⟨_, rfl, .inl ⟨rfl, _, SqL.of hLe⟩, _, rfl, _, rfl, L, ys, rfl, .inl (SqL.of hLe), _, _, rfl, rfl, p, c, ns, _, rfl, by omega, by omega, Pe, fun r Hf r0 r1 Pf kf => ?_⟩
            refine ⟨_, rfl, (by show 2 ≤ sizeLine; decide), fun W nW => ?_⟩
            have sW : Same Hf (upd Hf W (.tup [.str eps_, .ref pa])) := sm_new sm_refl nW
            have hW : SqT K (upd Hf W (.tup [.str eps_, .ref pa])) W [.str eps_, .ref pa] := SqT.of upd_same
            have Pg := Pf.same sW
            have nWw : upd Hf W (.tup [.str eps_, .ref pa]) = upd Hf W (.tup [.str (Str.ofString ""), .ref pa]) := rfl
            rw [← nWw]
            generalize upd Hf W (.tup [.str eps_, .ref pa]) = Hg at sW hW Pg ⊢
            have keg : But p Hc Hg := (ke.trans kf).trans (But.refl.same sW)
            have ktg : KeepT Hc Hg := .but Pc.notT keg
            have hLg := keg _ _ hLc Lp
            have hDg := keg _ _ hDc Dp'
            have ntL : NotT (Hg L) := by rw [hLg]; exact notT_lst
            have hpg : SqT K Hg pa (ps.map V.str) := sqT_kt ktg (sqT_kt (.but hP.notT kc) hpa)
            obtain ⟨r', rfl⟩ := Int.eq_ofNat_of_zero_le r0
            refine ⟨L, ys, _, _, rfl, rfl, hLg, small1000 (by omega), r0, by omega, ?_⟩
            refine ⟨zs.take r' ++ [eps_] ++ zs.drop r', _, rfl, Pg.mine (Ne.symm Lp) Lc, but_mine (kc.trans keg) nLH, upd_same, ?_⟩
            have pz : (zs.take r' ++ [eps_] ++ zs.drop r').Perm (zs ++ [eps_]) := by
              rw [List.append_assoc, List.singleton_append]
              refine List.perm_middle.trans ?_
              rw [List.take_append_drop]
              exact (List.perm_append_singleton eps_ zs).symm
            have ez : eps_ ∉ zs := fun h => nep (perm.mem_iff.mp h)
            refine ⟨tot, by rw [upd_ne DL]; exact hDg, gk, fun g hg => ⟨(gdp g hg).1, dp_put ntL (A'.tup _) (dp_kt0 ktg (gdp g hg).2 (A'.tup _))⟩, ?_, ?_, ?_, ?_, fun _ => pz.mem_iff.mpr (List.mem_append_right _ List.mem_cons_self), by rw [pz.length_eq, List.length_append, perm.length_eq]; exact Nat.le_refl _⟩
            · have all := dpAll_put (o := .lst (ys.take ((r' : Nat) : Int).toNat ++ [V.ref W] ++ ys.drop ((r' : Nat) : Int).toNat)) ntL (tu_encAs A' ps σ zs) (dpAll_kt0 ktg hys (tu_encAs ..))
              have ew : wA A' ps σ eps_ = .tuple (ps.map .str) := if_pos rfl
              have dW := dp_put (d := encA A' ps σ eps_) (o := .lst (ys.take ((r' : Nat) : Int).toNat ++ [V.ref W] ++ ys.drop ((r' : Nat) : Int).toNat)) ntL (tu_encA A' ps σ eps_) (.tup hW (.cons (.str _) (.cons (by rw [ew]; exact .tup hpg (strs_dp ps)) .nil)))
              rw [List.map_append, List.map_append, List.map_take, List.map_drop]
              exact dpAll_append (dpAll_append (dpAll_take _ all) (.cons dW .nil)) (dpAll_drop _ all)
            · rw [pz.nodup_iff, List.nodup_append]
              exact ⟨znd, List.nodup_cons.mpr ⟨by simp, List.nodup_nil⟩, fun a ha y hy e => ez (by rw [List.mem_singleton.mp hy] at e; exact e ▸ ha)⟩
            · exact fun z hz => pz.mem_iff.mpr (List.mem_append_left _ (perm.mem_iff.mpr hz))
            · intro z hz
              rcases List.mem_append.mp (pz.mem_iff.mp hz) with h | h
              · exact .inr (perm.mem_iff.mp h)
              · exact .inl (List.mem_singleton.mp h)
          · rw [decide_eq_false (fun e => q (by injection e))]
            exact iteF (none en He Pe ke)
      · rintro τ Hd ⟨zs, ys, rfl, Pd, kd, hLd, G⟩
        refine ⟨_, rfl, _, rfl, L, ys, rfl, SqL.of hLd, fun T oT nT hoT => ?_⟩
        have sT : Same Hd (upd Hd T (.frz oT (.tup ys))) := sm_new sm_refl nT
        have hT : SqT K (upd Hd T (.frz oT (.tup ys))) T ys := .inl (.inr ⟨oT, upd_same⟩)
        have pT : PlainT (upd Hd T (.frz oT (.tup ys))) T := ⟨oT, ys, upd_same, hoT⟩
        generalize upd Hd T (.frz oT (.tup ys)) = He at sT hT pT ⊢
        refine ⟨(by show 2 ≤ sizeLine; decide), fun R nR => ?_⟩
        have sR : Same He (upd He R (.tup [.ref D, .ref T])) := sm_new sm_refl nR
        have hR : SqT K (upd He R (.tup [.ref D, .ref T])) R [.ref D, .ref T] := SqT.of upd_same
        have s2 := sT.trans sR
        refine k R D T ys zs gs σ _ (kd.same s2) (Pd.same s2) hR Dp' nD (pT.same sR) (sqT_same sR hT) ⟨G.tot, s2 _ _ G.dct, G.keys, fun g hg => ⟨(G.val g hg).1, dp_same s2 (G.val g hg).2⟩, dpAll_same s2 G.prs, G.nd, G.all, G.sub, G.per, G.len⟩
end
end K8


set_option Elab.async false
set_option linter.all false
set_option maxRecDepth 100000
set_option maxHeartbeats 8000000
/-! the law's own functions of the measures count, cost and trust -/
namespace K8
open PySem L2 Nd Bk Gd
/-- the measures of numbers -/
inductive Me where
  | count | cost | trust
def nmN : Me → Str
  | .count => Str.ofString "count"
  | .cost => cost_
  | .trust => trust_
def zeN : Me → Option Int
  | .count => some 0
  | .cost => none
  | .trust => some 0
def onN : Me → Option Int
  | .count => some 1
  | .cost => some 0
  | .trust => some 100
def plN : Me → Option Int → Option Int → Option Int
  | .count, some a, some b => some (a + b)
  | .count, _, _ => some 0
  | .cost, a, b => leastO a b
  | .trust, some a, some b => some (if b > a then b else a)
  | .trust, _, _ => some 0
def tmN : Me → Option Int → Option Int → Option Int
  | .count, some a, some b => some (a * b)
  | .count, _, _ => some 0
  | .cost, a, b => addO a b
  | .trust, some a, some b => some (if b < a then b else a)
  | .trust, _, _ => some 0
def scN : Me → Option Int → Int → Option Int
  | .count, a, n => some (a.getD 0 * n)
  | _, a, _ => a
/-- a number where the measure has numbers alone -/
def NuN : Me → Option Int → Prop
  | .cost, _ => True
  | .count, a => a.isSome = true
  | .trust, a => ∃ i, a = some i ∧ 0 ≤ i ∧ i ≤ 100
/-- a drawn value -/
def DvN (m : Me) (o : Option Int) : Prop := NuN m o ∧ ∀ i, o = some i → 0 ≤ i ∧ i ≤ 1000000
section
variable {P : Program} {w : World} {K : PySem.W.Frag} {mg : Str → Option Value} {base : Heap}
def spNZ (K : PySem.W.Frag) (m : Me) : Sp := fun vs H Q _ => ∃ x : V, vs = [.str (nmN m), x] ∧ ∀ H', Same H H' → Q (ov (zeN m)) H'
def spNO (K : PySem.W.Frag) (m : Me) : Sp := fun vs H Q _ => ∃ a : Addr, vs = [.str (nmN m), .ref a] ∧ ∀ H', Same H H' → Q (ov (onN m)) H'
def spNS (m : Me) : Sp := fun vs H Q _ => ∃ a b : Option Int, vs = [.str (nmN m), ov a, ov b] ∧ NuN m a ∧ NuN m b ∧ ∀ H', Same H H' → Q (ov (plN m a b)) H'
def spNB (m : Me) : Sp := fun vs H Q _ => ∃ a b : Option Int, vs = [.str (nmN m), ov a, ov b] ∧ NuN m a ∧ NuN m b ∧ (m = .count → ∀ x y, a = some x → b = some y → CMulW x y) ∧ ∀ H', Same H H' → Q (ov (tmN m a b)) H'
def spNBV (m : Me) : Sp := fun vs H Q _ => ∃ a b : Option Int, vs = [.str (nmN m), ov a, ov b] ∧ NuN m a ∧ DvN m b ∧ ∀ H', Same H H' → Q (ov (tmN m a b)) H'
def spND (m : Me) : Sp := fun vs H Q _ => ∃ (p c a : Addr) (ns : List Int), vs = [.ref p, .str (nmN m), .ref a] ∧ PoolAt H p c ns ∧ ∀ (o : Option Int) (H' : Hp), But p H H' → PoolAt H' p c ns → DvN m o → Q (ov o) H'
theorem ok_nzero (m : Me) {f : Addr} {fd : FuncData} (F : Fun K "_law_zero" "_law_zero" sGZero f fd) : FnOk P w K mg base CX0 1 f fd ["measure", "persons"] (spNZ K m) := by
  refine F.ok scGZero (fun vs H Q E h => ?_) (fun cdv A outer s H vs Q E hr h => ?_)
  · obtain ⟨x, rfl, _⟩ := h
    rfl
  · obtain ⟨x, rfl, k⟩ := h
    refine ⟨_, pss_one (ps_ret (pe_dget (u1 hr) (pe_disp (pps_cons pe_str pe_int (pps_cons pe_str pe_non (pps_cons pe_str pe_int (pps_cons pe_str pe_bl (pps_cons pe_str (pe_tup pa_nil) pps_nil))))) rfl rfl (by simp) (by decide)) (pv 0) (fun _ _ => rfl))), ?_⟩
    intro D nD
    refine ⟨(by show 0 ≤ sizeLine; decide), fun T nT => ?_⟩
    have s1 : Same H (upd H D (.dK [])) := sm_new sm_refl nD
    have g1 : upd H D (.dK []) D = some (.dK []) := upd_same
    generalize upd H D (.dK []) = H1 at s1 g1 nT ⊢
    have s2 : Same H1 (upd H1 T (.tup [])) := sm_new sm_refl nT
    generalize upd H1 T (.tup []) = H2 at s2 ⊢
    have g2 := s2 _ _ g1
    have s12 := s1.trans s2
    let kvs : List (Key × V) := [(.inr (Str.ofString "count"), .int 0), (.inr cost_, .non), (.inr trust_, .int 0), (.inr there_, .bl false), (.inr seen_, .ref T)]
    refine ⟨g2, kvs, rfl, (by show 5 ≤ 15; decide), ?_⟩
    have nd : (([] ++ kvs : List (Key × V)).map (·.1)).Nodup := by
      show ([.inr (Str.ofString "count"), .inr cost_, .inr trust_, .inr there_, .inr seen_] : List Key).Nodup
      decide +kernel
    rw [merge_snoc (k := .inr there_) (v := .non) kvs [] nd, List.nil_append]
    have s3 : Same H (upd H2 D (.dK kvs)) := sm_new s12 nD
    have g3 : upd H2 D (.dK kvs) D = some (.dK kvs) := upd_same
    generalize upd H2 D (.dK kvs) = H3 at s3 g3 ⊢
    cases m with
    | count =>
      have e : valV kvs (.inr (nmN .count)) = some (.int 0) := rfl
      exact ⟨_, rfl, D, _, rfl, getK g3 e, k _ s3⟩
    | cost =>
      have e : valV kvs (.inr (nmN .cost)) = some (.non) := (val_miss (by decide +kernel)).trans (rfl)
      exact ⟨_, rfl, D, _, rfl, getK g3 e, k _ s3⟩
    | trust =>
      have e : valV kvs (.inr (nmN .trust)) = some (.int 0) := (val_miss (by decide +kernel)).trans ((val_miss (by decide +kernel)).trans (rfl))
      exact ⟨_, rfl, D, _, rfl, getK g3 e, k _ s3⟩
theorem ok_none (m : Me) {f : Addr} {fd : FuncData} (F : Fun K "_law_one" "_law_one" sGOne f fd) : FnOk P w K mg base CX0 1 f fd ["measure", "persons"] (spNO K m) := by
  refine F.ok scGOne (fun vs H Q E h => ?_) (fun cdv A outer s H vs Q E hr h => ?_)
  · obtain ⟨x, rfl, _⟩ := h
    rfl
  · obtain ⟨x, rfl, k⟩ := h
    refine ⟨_, pss_one (ps_ret (pe_dget (u1 hr) (pe_disp (pps_cons pe_str pe_int (pps_cons pe_str pe_int (pps_cons pe_str pe_int (pps_cons pe_str pe_bl (pps_cons pe_str (pv 1) pps_nil))))) rfl rfl (by simp) (by decide)) (pv 0) (fun _ _ => rfl))), ?_⟩
    intro D nD
    have s12 : Same H (upd H D (.dK [])) := sm_new sm_refl nD
    have g2 : upd H D (.dK []) D = some (.dK []) := upd_same
    generalize upd H D (.dK []) = H2 at s12 g2 ⊢
    let kvs : List (Key × V) := [(.inr (Str.ofString "count"), .int 1), (.inr cost_, .int 0), (.inr trust_, .int 100), (.inr there_, .bl true), (.inr seen_, .ref x)]
    refine ⟨_, rfl, g2, kvs, rfl, (by show 5 ≤ 15; decide), ?_⟩
    have nd : (([] ++ kvs : List (Key × V)).map (·.1)).Nodup := by
      show ([.inr (Str.ofString "count"), .inr cost_, .inr trust_, .inr there_, .inr seen_] : List Key).Nodup
      decide +kernel
    rw [merge_snoc (k := .inr there_) (v := .non) kvs [] nd, List.nil_append]
    have s3 : Same H (upd H2 D (.dK kvs)) := sm_new s12 nD
    have g3 : upd H2 D (.dK kvs) D = some (.dK kvs) := upd_same
    generalize upd H2 D (.dK kvs) = H3 at s3 g3 ⊢
    cases m with
    | count =>
      have e : valV kvs (.inr (nmN .count)) = some (.int 1) := rfl
      exact ⟨_, rfl, D, _, rfl, getK g3 e, k _ s3⟩
    | cost =>
      have e : valV kvs (.inr (nmN .cost)) = some (.int 0) := (val_miss (by decide +kernel)).trans (rfl)
      exact ⟨_, rfl, D, _, rfl, getK g3 e, k _ s3⟩
    | trust =>
      have e : valV kvs (.inr (nmN .trust)) = some (.int 100) := (val_miss (by decide +kernel)).trans ((val_miss (by decide +kernel)).trans (rfl))
      exact ⟨_, rfl, D, _, rfl, getK g3 e, k _ s3⟩
theorem ok_nsum (m : Me) {f : Addr} {fd : FuncData} (F : Fun K "_law_sum" "_law_sum" sGSum f fd) (N : Nm mg) (mn : mg "min" = none) (mx : mg "max" = none) : FnOk P w K mg base CX0 2 f fd ["measure", "a", "b"] (spNS m) := by
  refine F.ok scGSum (fun vs H Q E h => ?_) (fun cdv A outer s H vs Q E hr h => ?_)
  · obtain ⟨a, b, rfl, _⟩ := h
    rfl
  · obtain ⟨a, b, rfl, na, nb, k⟩ := h
    refine ⟨_, pss_cons (ps_if (pt_cmpR op_eq (pv 0) pe_str (nomark _)) (pss_one (ps_ret (pe_op op_add (pv 1) (pv 2)))) pss_nil)
      (pss_cons (ps_if (pt_cmpR op_eq (pv 0) pe_str (nomark _)) (pss_cons (ps_if (PW.pt (pw_or (pt_cmpR op_isN (pv 1) pe_non (nomark _)) (pw_or1 (pt_cmpR op_isN (pv 2) pe_non (nomark _))))) (pss_one (ps_ret (pe_ix ix_list (pe_lst (pa_cons (pv 1) (pa_cons (pv 2) pa_nil))) (pe_callTy call_int1 (by rfl) N.int (by decide +kernel) (pa_cons (pe_cmpR op_isN (pv 1) pe_non (nomark _)) pa_nil)) (fun _ _ => rfl)))) pss_nil)
        (pss_one (ps_ret (pe_callB (call_min2 rfl) (by rfl) mn (by rfl) (pa_cons (pe_callTy call_int1 (by rfl) N.int (by decide +kernel) (pa_cons (pv 1) pa_nil)) (pa_cons (pe_callTy call_int1 (by rfl) N.int (by decide +kernel) (pa_cons (pv 2) pa_nil)) pa_nil)))))) pss_nil)
      (pss_cons (ps_if (pt_cmpR op_eq (pv 0) pe_str (nomark _)) (pss_one (ps_ret (pe_callB (call_max2 rfl) (by rfl) mx (by rfl) (pa_cons (pe_callTy call_int1 (by rfl) N.int (by decide +kernel) (pa_cons (pv 1) pa_nil)) (pa_cons (pe_callTy call_int1 (by rfl) N.int (by decide +kernel) (pa_cons (pv 2) pa_nil)) pa_nil))))) pss_nil) pss_never)), ?_⟩
    cases m with
    | count =>
      obtain ⟨i, rfl⟩ := Option.isSome_iff_exists.mp na
      obtain ⟨j, rfl⟩ := Option.isSome_iff_exists.mp nb
      exact ⟨_, rfl, rfl, true, dy, iteT ⟨_, rfl, _, rfl, _, _, rfl, rfl, k _ sm_refl⟩⟩
    | cost =>
      refine ⟨_, rfl, rfl, false, dn (by decide +kernel), iteF ⟨_, rfl, rfl, true, dy, iteT ?_⟩⟩
      cases a with
      | none =>
        refine ⟨_, rfl, rfl, _, rfl, iteT (iteT ⟨_, rfl, _, rfl, (by show 2 ≤ sizeLine; decide), fun L nL => ?_⟩)⟩
        have sL : Same H (upd H L (.lst [.non, ov b])) := sm_new sm_refl nL
        have hL : upd H L (.lst [.non, ov b]) L = some (.lst [.non, ov b]) := upd_same
        have fx : upd H L (.lst [ov none, ov b]) = upd H L (.lst [.non, ov b]) := rfl
        rw [fx]
        generalize upd H L (.lst [.non, ov b]) = H1 at sL hL ⊢
        exact ⟨_, rfl, rfl, .inr ⟨_, rfl, L, [.non, ov b], ((1 : Nat) : Int), ov b, rfl, rfl, SqL.of hL, atI_nat rfl, k _ sL⟩⟩
      | some i =>
        refine ⟨_, rfl, rfl, _, rfl, iteF ?_⟩
        cases b with
        | none =>
          refine ⟨_, rfl, rfl, _, rfl, iteT ⟨_, rfl, _, rfl, (by show 2 ≤ sizeLine; decide), fun L nL => ?_⟩⟩
          have sL : Same H (upd H L (.lst [.int i, .non])) := sm_new sm_refl nL
          have hL : upd H L (.lst [.int i, .non]) L = some (.lst [.int i, .non]) := upd_same
          have fx : upd H L (.lst [ov (some i), ov none]) = upd H L (.lst [.int i, .non]) := rfl
          rw [fx]
          generalize upd H L (.lst [.int i, .non]) = H1 at sL hL ⊢
          exact ⟨_, rfl, rfl, .inr ⟨_, rfl, L, [.int i, .non], ((0 : Nat) : Int), .int i, rfl, rfl, SqL.of hL, atI_nat rfl, k _ sL⟩⟩
        | some j =>
          exact ⟨_, rfl, rfl, _, rfl, iteF ⟨_, rfl, .inl ⟨i, rfl, _, rfl, .inl ⟨j, rfl, i, j, rfl, k _ sm_refl⟩⟩⟩⟩
    | trust =>
      obtain ⟨i, rfl, _, _⟩ := na
      obtain ⟨j, rfl, _, _⟩ := nb
      refine ⟨_, rfl, rfl, false, dn (by decide +kernel), iteF ⟨_, rfl, rfl, false, dn (by decide +kernel), iteF ⟨_, rfl, rfl, true, dy, iteT ?_⟩⟩⟩
      exact ⟨_, rfl, .inl ⟨i, rfl, _, rfl, .inl ⟨j, rfl, i, j, rfl, k _ sm_refl⟩⟩⟩
theorem ok_nboth (m : Me) {f : Addr} {fd : FuncData} (F : Fun K "_law_both" "_law_both" sGBoth f fd) (N : Nm mg) (mn : mg "min" = none) : FnOk P w K mg base CX0 1 f fd ["measure", "a", "b"] (spNB m) := by
  refine F.ok scGBoth (fun vs H Q E h => ?_) (fun cdv A outer s H vs Q E hr h => ?_)
  · obtain ⟨a, b, rfl, _⟩ := h
    rfl
  · obtain ⟨a, b, rfl, na, nb, cm, k⟩ := h
    refine ⟨_, pss_cons (ps_if (pt_cmpR op_eq (pv 0) pe_str (nomark _)) (pss_one (ps_ret (pe_op op_mulW (pv 1) (pv 2)))) pss_nil)
      (pss_cons (ps_if (pt_cmpR op_eq (pv 0) pe_str (nomark _)) (pss_cons (ps_if (PW.pt (pw_or (pt_cmpR op_isN (pv 1) pe_non (nomark _)) (pw_or1 (pt_cmpR op_isN (pv 2) pe_non (nomark _))))) (pss_one (ps_ret pe_non)) pss_nil)
        (pss_one (ps_ret (pe_op op_add (pv 1) (pv 2))))) pss_nil)
      (pss_cons (ps_if (pt_cmpR op_eq (pv 0) pe_str (nomark _)) (pss_one (ps_ret (pe_callB (call_min2 rfl) (by rfl) mn (by rfl) (pa_cons (pe_callTy call_int1 (by rfl) N.int (by decide +kernel) (pa_cons (pv 1) pa_nil)) (pa_cons (pe_callTy call_int1 (by rfl) N.int (by decide +kernel) (pa_cons (pv 2) pa_nil)) pa_nil))))) pss_nil) pss_never)), ?_⟩
    cases m with
    | count =>
      obtain ⟨i, rfl⟩ := Option.isSome_iff_exists.mp na
      obtain ⟨j, rfl⟩ := Option.isSome_iff_exists.mp nb
      exact ⟨_, rfl, rfl, true, dy, iteT ⟨_, rfl, _, rfl, _, _, rfl, rfl, cm rfl i j rfl rfl, k _ sm_refl⟩⟩
    | cost =>
      refine ⟨_, rfl, rfl, false, dn (by decide +kernel), iteF ⟨_, rfl, rfl, true, dy, iteT ?_⟩⟩
      cases a with
      | none => exact ⟨_, rfl, rfl, _, rfl, iteT (iteT (k _ sm_refl))⟩
      | some i =>
        refine ⟨_, rfl, rfl, _, rfl, iteF ?_⟩
        cases b with
        | none => exact ⟨_, rfl, rfl, _, rfl, iteT (k _ sm_refl)⟩
        | some j => exact ⟨_, rfl, rfl, _, rfl, iteF ⟨_, rfl, _, rfl, _, _, rfl, rfl, k _ sm_refl⟩⟩
    | trust =>
      obtain ⟨i, rfl, _, _⟩ := na
      obtain ⟨j, rfl, _, _⟩ := nb
      refine ⟨_, rfl, rfl, false, dn (by decide +kernel), iteF ⟨_, rfl, rfl, false, dn (by decide +kernel), iteF ⟨_, rfl, rfl, true, dy, iteT ?_⟩⟩⟩
      exact ⟨_, rfl, .inl ⟨i, rfl, _, rfl, .inl ⟨j, rfl, i, j, rfl, k _ sm_refl⟩⟩⟩
theorem ok_nbothV (m : Me) {f : Addr} {fd : FuncData} (F : Fun K "_law_both" "_law_both" sGBoth f fd) (N : Nm mg) (mn : mg "min" = none) : FnOk P w K mg base CX0 1 f fd ["measure", "a", "b"] (spNBV m) := by
  refine F.ok scGBoth (fun vs H Q E h => ?_) (fun cdv A outer s H vs Q E hr h => ?_)
  · obtain ⟨a, b, rfl, _⟩ := h
    rfl
  · obtain ⟨a, b, rfl, na, ⟨nb, bd⟩, k⟩ := h
    refine ⟨_, pss_cons (ps_if (pt_cmpR op_eq (pv 0) pe_str (nomark _)) (pss_one (ps_ret (pe_op op_mul (pv 1) (pv 2)))) pss_nil)
      (pss_cons (ps_if (pt_cmpR op_eq (pv 0) pe_str (nomark _)) (pss_cons (ps_if (PW.pt (pw_or (pt_cmpR op_isN (pv 1) pe_non (nomark _)) (pw_or1 (pt_cmpR op_isN (pv 2) pe_non (nomark _))))) (pss_one (ps_ret pe_non)) pss_nil)
        (pss_one (ps_ret (pe_op op_add (pv 1) (pv 2))))) pss_nil)
      (pss_cons (ps_if (pt_cmpR op_eq (pv 0) pe_str (nomark _)) (pss_one (ps_ret (pe_callB (call_min2 rfl) (by rfl) mn (by rfl) (pa_cons (pe_callTy call_int1 (by rfl) N.int (by decide +kernel) (pa_cons (pv 1) pa_nil)) (pa_cons (pe_callTy call_int1 (by rfl) N.int (by decide +kernel) (pa_cons (pv 2) pa_nil)) pa_nil))))) pss_nil) pss_never)), ?_⟩
    cases m with
    | count =>
      obtain ⟨i, rfl⟩ := Option.isSome_iff_exists.mp na
      obtain ⟨j, rfl⟩ := Option.isSome_iff_exists.mp nb
      exact ⟨_, rfl, rfl, true, dy, iteT ⟨_, rfl, _, rfl, _, _, rfl, rfl, (by obtain ⟨b0, b1⟩ := bd j rfl; exact .inr ⟨by omega, by omega⟩), k _ sm_refl⟩⟩
    | cost =>
      refine ⟨_, rfl, rfl, false, dn (by decide +kernel), iteF ⟨_, rfl, rfl, true, dy, iteT ?_⟩⟩
      cases a with
      | none => exact ⟨_, rfl, rfl, _, rfl, iteT (iteT (k _ sm_refl))⟩
      | some i =>
        refine ⟨_, rfl, rfl, _, rfl, iteF ?_⟩
        cases b with
        | none => exact ⟨_, rfl, rfl, _, rfl, iteT (k _ sm_refl)⟩
        | some j => exact ⟨_, rfl, rfl, _, rfl, iteF ⟨_, rfl, _, rfl, _, _, rfl, rfl, k _ sm_refl⟩⟩
    | trust =>
      obtain ⟨i, rfl, _, _⟩ := na
      obtain ⟨j, rfl, _, _⟩ := nb
      refine ⟨_, rfl, rfl, false, dn (by decide +kernel), iteF ⟨_, rfl, rfl, false, dn (by decide +kernel), iteF ⟨_, rfl, rfl, true, dy, iteT ?_⟩⟩⟩
      exact ⟨_, rfl, .inl ⟨i, rfl, _, rfl, .inl ⟨j, rfl, i, j, rfl, k _ sm_refl⟩⟩⟩
end
end K8


set_option Elab.async false
set_option linter.all false
set_option maxRecDepth 100000
set_option maxHeartbeats 8000000
/-! drawn values of count, cost and trust -/
namespace K8
open PySem L2 Nd Bk Gd
theorem pick_ov {os : List (Option Int)} {j : Nat} (h : j < os.length) : ∃ o, (os.map ov)[j]? = some (ov o) ∧ o ∈ os := by
  refine ⟨os[j], ?_, List.getElem_mem h⟩
  rw [List.getElem?_map, List.getElem?_eq_getElem h]
  rfl
section
variable {P : Program} {w : World} {K : PySem.W.Frag} {mg : Str → Option Value} {base : Heap}
theorem ok_ndval (m : Me) {f : Addr} {fd : FuncData} (F : Fun K "_law_drawn_value" "_law_drawn_value" sGDVal f fd) (Gt : Df P w K mg base 2 "_law_take" ["pool", "many"] spTake) : FnOk P w K mg base CX0 4 f fd ["pool", "measure", "persons"] (spND m) := by
  obtain ⟨ft, fdt, gT, kT, bT, GT⟩ := Gt.ok
  refine F.ok scGDVal (fun vs H Q E h => ?_) (fun cdv A outer s H vs Q E hr h => ?_)
  · obtain ⟨p, c, a, ns, rfl, _⟩ := h
    rfl
  · obtain ⟨p, c, a, ns, rfl, hP, k⟩ := h
    have hr2 : Room 2 _ := hr.mono (by decide)
    refine ⟨_, pss_cons (ps_if (pt_cmpR op_eq (pv 1) pe_str (nomark _)) (pss_one (ps_ret (pe_ix ix_list (pe_lst (pa_cons pe_int (pa_cons pe_int (pa_cons (pe_call GT hr2 rfl gT kT bT .nil pass0 (pa_cons (pv 0) (pa_cons pe_int pa_nil))) (pa_cons (pe_call GT hr2 rfl gT kT bT .nil pass0 (pa_cons (pv 0) (pa_cons (pe_op op_pow pe_int pe_int) pa_nil))) pa_nil))))) (pe_call GT hr2 rfl gT kT bT .nil pass0 (pa_cons (pv 0) (pa_cons pe_int pa_nil))) (fun _ _ => rfl)))) pss_nil)
      (pss_cons (ps_if (pt_cmpR op_eq (pv 1) pe_str (nomark _)) (pss_one (ps_ret (pe_ix ix_list (pe_lst (pa_cons pe_non (pa_cons pe_int (pa_cons (pe_call GT hr2 rfl gT kT bT .nil pass0 (pa_cons (pv 0) (pa_cons pe_int pa_nil))) (pa_cons (pe_call GT hr2 rfl gT kT bT .nil pass0 (pa_cons (pv 0) (pa_cons (pe_op op_pow pe_int pe_int) pa_nil))) pa_nil))))) (pe_call GT hr2 rfl gT kT bT .nil pass0 (pa_cons (pv 0) (pa_cons pe_int pa_nil))) (fun _ _ => rfl)))) pss_nil)
      (pss_cons (ps_if (pt_cmpR op_eq (pv 1) pe_str (nomark _)) (pss_one (ps_ret (pe_ix ix_list (pe_lst (pa_cons pe_int (pa_cons pe_int (pa_cons (pe_call GT hr2 rfl gT kT bT .nil pass0 (pa_cons (pv 0) (pa_cons pe_int pa_nil))) (pa_cons (pe_call GT hr2 rfl gT kT bT .nil pass0 (pa_cons (pv 0) (pa_cons pe_int pa_nil))) pa_nil))))) (pe_call GT hr2 rfl gT kT bT .nil pass0 (pa_cons (pv 0) (pa_cons pe_int pa_nil))) (fun _ _ => rfl)))) pss_nil) pss_never)), ?_⟩
    cases m with
    | count =>
      refine ⟨_, rfl, rfl, true, dy, iteT ?_⟩
      refine ⟨_, rfl, p, c, ns, _, rfl, by decide, by decide, hP, fun r1 H1 a1 a2 P1 k1 => ?_⟩
      refine ⟨_, rfl, _, _, rfl, rfl, ⟨by decide, by decide, by decide⟩, p, c, ns, _, rfl, by decide, by decide, P1, fun r2 H2 a3 a4 P2 k2 => ?_⟩
      have a4' : r2 < 1000000 := a4
      refine ⟨by show 4 ≤ sizeLine; decide, fun q nq => ?_⟩
      have s4 : Same H2 (upd H2 q (.lst (([some 0, some 1, some r1, some r2] : List (Option Int)).map ov))) := sm_new sm_refl nq
      have qp := P2.off nq
      refine ⟨_, rfl, p, c, ns, _, rfl, by decide, by decide, P2.same s4, fun r4 H4 a7 a8 P4 k4 => ?_⟩
      obtain ⟨j, rfl⟩ := Int.eq_ofNat_of_zero_le a7
      obtain ⟨z, hz, hzm⟩ := pick_ov (os := [some 0, some 1, some r1, some r2]) (j := j) (by show j < 4; omega)
      refine ⟨q, _, _, _, rfl, rfl, SqL.of (k4 _ _ upd_same qp), atI_nat hz, k z H4 (((k1.trans k2).same s4).trans k4) P4 ⟨?_, fun i e => ?_⟩⟩
      · simp only [List.mem_cons, List.not_mem_nil, or_false] at hzm
        rcases hzm with rfl | rfl | rfl | rfl <;> rfl
      · subst e
        simp only [List.mem_cons, List.not_mem_nil, or_false, Option.some.injEq, reduceCtorEq, false_or] at hzm
        omega
    | cost =>
      refine ⟨_, rfl, rfl, false, dn (by decide +kernel), iteF ⟨_, rfl, rfl, true, dy, iteT ?_⟩⟩
      refine ⟨_, rfl, p, c, ns, _, rfl, by decide, by decide, hP, fun r1 H1 a1 a2 P1 k1 => ?_⟩
      refine ⟨_, rfl, _, _, rfl, rfl, ⟨by decide, by decide, by decide⟩, p, c, ns, _, rfl, by decide, by decide, P1, fun r2 H2 a3 a4 P2 k2 => ?_⟩
      have a4' : r2 < 1000000 := a4
      refine ⟨by show 4 ≤ sizeLine; decide, fun q nq => ?_⟩
      have s4 : Same H2 (upd H2 q (.lst (([none, some 0, some r1, some r2] : List (Option Int)).map ov))) := sm_new sm_refl nq
      have qp := P2.off nq
      refine ⟨_, rfl, p, c, ns, _, rfl, by decide, by decide, P2.same s4, fun r4 H4 a7 a8 P4 k4 => ?_⟩
      obtain ⟨j, rfl⟩ := Int.eq_ofNat_of_zero_le a7
      obtain ⟨z, hz, hzm⟩ := pick_ov (os := [none, some 0, some r1, some r2]) (j := j) (by show j < 4; omega)
      refine ⟨q, _, _, _, rfl, rfl, SqL.of (k4 _ _ upd_same qp), atI_nat hz, k z H4 (((k1.trans k2).same s4).trans k4) P4 ⟨?_, fun i e => ?_⟩⟩
      · simp only [List.mem_cons, List.not_mem_nil, or_false] at hzm
        trivial
      · subst e
        simp only [List.mem_cons, List.not_mem_nil, or_false, Option.some.injEq, reduceCtorEq, false_or] at hzm
        omega
    | trust =>
      refine ⟨_, rfl, rfl, false, dn (by decide +kernel), iteF ⟨_, rfl, rfl, false, dn (by decide +kernel), iteF ⟨_, rfl, rfl, true, dy, iteT ?_⟩⟩⟩
      refine ⟨_, rfl, p, c, ns, _, rfl, by decide, by decide, hP, fun r1 H1 a1 a2 P1 k1 => ?_⟩
      refine ⟨_, rfl, p, c, ns, _, rfl, by decide, by decide, P1, fun r2 H2 a3 a4 P2 k2 => ?_⟩
      refine ⟨by show 4 ≤ sizeLine; decide, fun q nq => ?_⟩
      have s4 : Same H2 (upd H2 q (.lst (([some 0, some 100, some r1, some r2] : List (Option Int)).map ov))) := sm_new sm_refl nq
      have qp := P2.off nq
      refine ⟨_, rfl, p, c, ns, _, rfl, by decide, by decide, P2.same s4, fun r4 H4 a7 a8 P4 k4 => ?_⟩
      obtain ⟨j, rfl⟩ := Int.eq_ofNat_of_zero_le a7
      obtain ⟨z, hz, hzm⟩ := pick_ov (os := [some 0, some 100, some r1, some r2]) (j := j) (by show j < 4; omega)
      refine ⟨q, _, _, _, rfl, rfl, SqL.of (k4 _ _ upd_same qp), atI_nat hz, k z H4 (((k1.trans k2).same s4).trans k4) P4 ⟨?_, fun i e => ?_⟩⟩
      · simp only [List.mem_cons, List.not_mem_nil, or_false] at hzm
        rcases hzm with rfl | rfl | rfl | rfl <;> exact ⟨_, rfl, by omega, by omega⟩
      · subst e
        simp only [List.mem_cons, List.not_mem_nil, or_false, Option.some.injEq, reduceCtorEq, false_or] at hzm
        omega
end
end K8


set_option Elab.async false
set_option linter.all false
set_option maxRecDepth 100000
set_option maxHeartbeats 8000000
/-! the five measures as algebras -/
namespace K8
open PySem L2 Nd Bk Gd
theorem nu_plN (m : Me) {a b : Option Int} (ha : NuN m a) (hb : NuN m b) : NuN m (plN m a b) := by
  cases m with
  | count => cases a <;> cases b <;> rfl
  | cost => trivial
  | trust =>
    obtain ⟨i, rfl, _, _⟩ := ha
    obtain ⟨j, rfl, _, _⟩ := hb
    exact ⟨_, rfl, by split <;> omega, by split <;> omega⟩
theorem nu_tmN (m : Me) {a b : Option Int} (ha : NuN m a) (hb : NuN m b) : NuN m (tmN m a b) := by
  cases m with
  | count => cases a <;> cases b <;> rfl
  | cost => trivial
  | trust =>
    obtain ⟨i, rfl, _, _⟩ := ha
    obtain ⟨j, rfl, _, _⟩ := hb
    exact ⟨_, rfl, by split <;> omega, by split <;> omega⟩
theorem nu_zeN (m : Me) : NuN m (zeN m) := by
  cases m with
  | count => rfl
  | cost => trivial
  | trust => exact ⟨0, rfl, by decide, by decide⟩
theorem dv_onN (m : Me) : DvN m (onN m) := by
  cases m with
  | count => exact ⟨rfl, fun i e => by cases e; exact ⟨by decide, by decide⟩⟩
  | cost => exact ⟨trivial, fun i e => by cases e; exact ⟨by decide, by decide⟩⟩
  | trust => exact ⟨⟨100, rfl, by decide, by decide⟩, fun i e => by cases e; exact ⟨by decide, by decide⟩⟩
def algN (m : Me) : Alg where
  α := Option Int
  nm := nmN m
  enc := oD
  tup := fun a => by cases a <;> rfl
  ze := zeN m
  on := onN m
  pl := plN m
  tm := tmN m
  sc := scN m
  Ok := NuN m
  OkV := DvN m
  ok_ze := nu_zeN m
  ok_on := (dv_onN m).1
  okv_on := dv_onN m
  ok_pl := fun ha hb => nu_plN m ha hb
  ok_tm := fun ha hb => nu_tmN m ha hb.1
  ok_sc := fun {a n} ha => by
    cases m with
    | count => rfl
    | cost => trivial
    | trust => exact ha
  num := by
    cases m with
    | count =>
      refine .inr ⟨rfl, fun o => o.getD 0, fun a ha => ?_⟩
      cases a with
      | none => exact nomatch (show false = true from ha)
      | some i => exact ⟨rfl, fun n => rfl⟩
    | cost => exact .inl ⟨by decide +kernel, fun a n => rfl⟩
    | trust => exact .inl ⟨by decide +kernel, fun a n => rfl⟩
def algT (ps : List Str) (is : Bool) : Alg where
  α := Str → Bool
  nm := me is
  enc := tvD ps is
  tup := fun a => tv_tup ps is a
  ze := fun _ => false
  on := fun _ => true
  pl := fun f g x => f x || g x
  tm := fun f g x => f x && g x
  sc := fun a _ => a
  Ok := fun _ => True
  OkV := fun _ => True
  ok_ze := trivial
  ok_on := trivial
  okv_on := trivial
  ok_pl := fun _ _ => trivial
  ok_tm := fun _ _ => trivial
  ok_sc := fun _ => trivial
  num := .inl ⟨by cases is <;> decide +kernel, fun a n => rfl⟩
section
variable {P : Program} {w : World} {K : PySem.W.Frag} {mg : Str → Option Value} {base : Heap} {f : Addr} {fd : FuncData} {k : Nat}
theorem nz_alg {m : Me} {prm : List Str} (h : FnOk P w K mg base CX0 k f fd prm (spNZ K m)) : FnOk P w K mg base CX0 k f fd prm (spAZ K (algN m)) := h.imp fun vs H Q E ⟨x, e, q⟩ => ⟨x, e, fun H' s => q _ H' s (dp_ov _)⟩
theorem no_alg {m : Me} {ps prm : List Str} (h : FnOk P w K mg base CX0 k f fd prm (spNO K m)) : FnOk P w K mg base CX0 k f fd prm (spAO K (algN m) ps) := h.imp fun vs H Q E ⟨a, e, _, q⟩ => ⟨a, e, fun H' s => q _ H' s (dp_ov _)⟩
theorem ns_alg {m : Me} {prm : List Str} (h : FnOk P w K mg base CX0 k f fd prm (spNS m)) : FnOk P w K mg base CX0 k f fd prm (spAS K (algN m)) := h.imp fun vs H Q E ⟨a, b, x, y, e, ox, oy, da, db, q⟩ => by
  cases dp_oD (o := x) da
  cases dp_oD (o := y) db
  exact ⟨x, y, e, ox, oy, fun H' s => q _ H' s (dp_ov _)⟩
theorem nb_alg {m : Me} {prm : List Str} (h : FnOk P w K mg base CX0 k f fd prm (spNBV m)) : FnOk P w K mg base CX0 k f fd prm (spAB K (algN m)) := h.imp fun vs H Q E ⟨a, b, x, y, e, ox, oy, da, db, q⟩ => by
  cases dp_oD (o := x) da
  cases dp_oD (o := y) db
  exact ⟨x, y, e, ox, oy, fun H' s => q _ H' s (dp_ov _)⟩
theorem nd_alg {m : Me} {ps prm : List Str} (h : FnOk P w K mg base CX0 k f fd prm (spND m)) : FnOk P w K mg base CX0 k f fd prm (spAD K (algN m) ps) := h.imp fun vs H Q E ⟨p, c, a, ns, e, hP, _, q⟩ => ⟨p, c, a, ns, e, hP, fun o H' b P' d => q _ o H' b P' d (dp_ov _)⟩
theorem tz_alg {ps : List Str} {is : Bool} {prm : List Str} (h : FnOk P w K mg base CX0 k f fd prm (fun vs H Q _ => ∃ (is : Bool) (x : V) (ps : List Str), vs = [.str (me is), x] ∧ ∀ v H', Same H H' → Dp K H' v (tvD ps is fun _ => false) → Q v H')) : FnOk P w K mg base CX0 k f fd prm (spAZ K (algT ps is)) := h.imp fun vs H Q E ⟨x, e, q⟩ => ⟨is, x, ps, e, q⟩
theorem to_alg {ps : List Str} {is : Bool} {prm : List Str} (h : FnOk P w K mg base CX0 k f fd prm (spGOne K)) : FnOk P w K mg base CX0 k f fd prm (spAO K (algT ps is) ps) := h.imp fun vs H Q E ⟨a, e, s, q⟩ => ⟨is, a, ps, e, s, q⟩
theorem ts_alg {ps : List Str} {is : Bool} {prm : List Str} (hp : PsOk ps) (hu : ∀ z ∈ ps, shU z = true) (h : FnOk P w K mg base CX0 k f fd prm (spGSum K)) : FnOk P w K mg base CX0 k f fd prm (spAS K (algT ps is)) := h.imp fun vs H Q E ⟨a, b, x, y, e, _, _, da, db, q⟩ => ⟨is, a, b, ps, x, y, e, hp, hu, da, db, q⟩
theorem tb_alg {ps : List Str} {is : Bool} {prm : List Str} (hp : PsOk ps) (h : FnOk P w K mg base CX0 k f fd prm (spGBoth K)) : FnOk P w K mg base CX0 k f fd prm (spAB K (algT ps is)) := h.imp fun vs H Q E ⟨a, b, x, y, e, _, _, da, db, q⟩ => ⟨is, a, b, ps, x, y, e, hp, da, db, q⟩
theorem td_alg {ps : List Str} {is : Bool} {prm : List Str} (hp : PsOk ps) (h : FnOk P w K mg base CX0 k f fd prm (spGDVal K)) : FnOk P w K mg base CX0 k f fd prm (spAD K (algT ps is) ps) := h.imp fun vs H Q E ⟨p, c, a, ns, e, hP, s, q⟩ => ⟨p, c, a, ns, ps, is, e, hP, s, hp, fun v g H' b P' d => q v g H' b P' trivial d⟩
end
end K8


set_option Elab.async false
set_option linter.all false
set_option maxRecDepth 100000
set_option maxHeartbeats 8000000
/-! the program's value of a polynomial in any measure but count -/
namespace K8
open PySem L2 Nd Bk Gd PySem.ExE
/-- a measure as the program has it: a value raised at once -/
structure Alp extends Alg where
  ra : α → Int → α
  no_count : nm ≠ Str.ofString "count"
  ok_tm2 : ∀ {a b}, Ok a → Ok b → Ok (tm a b)
  ok_ra : ∀ {a e}, OkV a → Ok (ra a e)
  one_tm : ∀ {a y} (n : Nat), Ok a → OkV y → tm a (ra y ((n : Int) + 1)) = itA toAlg y (n + 1) a
def worthP (A : Alp) (σ : Str → A.α) (m : Mono) : A.α := m.foldl (fun a q => A.tm a (A.ra (σ q.1) q.2)) A.on
def resP (A : Alp) (σ : Str → A.α) (p : Poly) : A.α := p.foldl (fun b t => A.pl b (worthP A σ t.1)) A.ze
theorem worthP_take {A : Alp} {σ : Str → A.α} {m : Mono} {j : Nat} {q : Str × Int} (e : m[j]? = some q) : worthP A σ (m.take (j + 1)) = A.tm (worthP A σ (m.take j)) (A.ra (σ q.1) q.2) := by
  unfold worthP
  rw [List.take_succ, e, List.foldl_append]; rfl
theorem resP_take {A : Alp} {σ : Str → A.α} {p : Poly} {i : Nat} {t : Mono × Int} (e : p[i]? = some t) : resP A σ (p.take (i + 1)) = A.pl (resP A σ (p.take i)) (worthP A σ t.1) := by
  unfold resP
  rw [List.take_succ, e, List.foldl_append]; rfl
theorem worthP_ok {A : Alp} {σ : Str → A.α} {m : Mono} (h : ∀ q ∈ m, A.OkV (σ q.1)) : A.Ok (worthP A σ m) := by
  have key : ∀ (m : Mono) (a : A.α), (∀ q ∈ m, A.OkV (σ q.1)) → A.Ok a → A.Ok (m.foldl (fun a q => A.tm a (A.ra (σ q.1) q.2)) a) := by
    intro m
    induction m with
    | nil => exact fun a _ h => h
    | cons q r ih => exact fun a h ha => ih _ (fun y hy => h y (List.mem_cons_of_mem _ hy)) (A.ok_tm2 ha (A.ok_ra (h q List.mem_cons_self)))
  exact key m _ h A.ok_on
theorem resP_ok {A : Alp} {σ : Str → A.α} {p : Poly} (h : ∀ t ∈ p, ∀ q ∈ t.1, A.OkV (σ q.1)) : A.Ok (resP A σ p) := by
  have key : ∀ (p : Poly) (a : A.α), (∀ t ∈ p, ∀ q ∈ t.1, A.OkV (σ q.1)) → A.Ok a → A.Ok (p.foldl (fun b t => A.pl b (worthP A σ t.1)) a) := by
    intro p
    induction p with
    | nil => exact fun a _ h => h
    | cons t r ih => exact fun a h ha => ih _ (fun y hy => h y (List.mem_cons_of_mem _ hy)) (A.ok_pl ha (worthP_ok (h t List.mem_cons_self)))
  exact key p _ h A.ok_ze
/-- the program's value is the law's -/
theorem worthP_eq {A : Alp} {σ : Str → A.α} {m : Mono} (h : ∀ q ∈ m, A.OkV (σ q.1) ∧ 0 < q.2) : worthP A σ m = worthA A.toAlg σ m := by
  have key : ∀ (m : Mono) (a : A.α), (∀ q ∈ m, A.OkV (σ q.1) ∧ 0 < q.2) → A.Ok a → m.foldl (fun a q => A.tm a (A.ra (σ q.1) q.2)) a = m.foldl (fun a q => itA A.toAlg (σ q.1) q.2.toNat a) a := by
    intro m
    induction m with
    | nil => exact fun a _ _ => rfl
    | cons q r ih =>
      intro a h ha
      obtain ⟨oq, q0⟩ := h q List.mem_cons_self
      obtain ⟨n, hn⟩ : ∃ n : Nat, q.2 = (n : Int) + 1 := ⟨(q.2 - 1).toNat, by omega⟩
      have e : A.tm a (A.ra (σ q.1) q.2) = itA A.toAlg (σ q.1) q.2.toNat a := by
        rw [hn, A.one_tm n ha oq, show ((n : Int) + 1).toNat = n + 1 by omega]
      rw [List.foldl_cons, List.foldl_cons, e]
      exact ih _ (fun y hy => h y (List.mem_cons_of_mem _ hy)) (itA_ok oq ha _)
  exact key m _ h A.ok_on
theorem resP_eq {A : Alp} {σ : Str → A.α} {p : Poly} (h : ∀ t ∈ p, ∀ q ∈ t.1, A.OkV (σ q.1) ∧ 0 < q.2) : resP A σ p = resA A.toAlg σ p := by
  have sc : ∀ a n, A.sc a n = a := by
    rcases A.num with ⟨_, h⟩ | ⟨h, _⟩
    · exact h
    · exact absurd h A.no_count
  have key : ∀ (p : Poly) (a : A.α), (∀ t ∈ p, ∀ q ∈ t.1, A.OkV (σ q.1) ∧ 0 < q.2) → p.foldl (fun b t => A.pl b (worthP A σ t.1)) a = p.foldl (fun b t => A.pl b (A.sc (worthA A.toAlg σ t.1) t.2)) a := by
    intro p
    induction p with
    | nil => exact fun a _ => rfl
    | cons t r ih =>
      intro a h
      rw [List.foldl_cons, List.foldl_cons, sc, worthP_eq (h t List.mem_cons_self)]
      exact ih _ fun y hy => h y (List.mem_cons_of_mem _ hy)
  exact key p _ h
/-- each token of p has a value there; for seen the persons -/
structure HasA (K : PySem.W.Frag) (A : Alg) (H : Hp) (gs : List (Str × V)) (ps : List Str) (σ : Str → A.α) (p : Poly) : Prop where
  tok : ∀ t ∈ p, ∀ x ∈ t.1, A.OkV (σ x.1) ∧ ∃ u, valV (kvG gs) (.inr x.1) = some u ∧ FD K H u (A.enc (σ x.1))
  per : A.nm = seen_ → ∃ u, valV (kvG gs) (.inr eps_) = some u ∧ FD K H u (.tuple (ps.map .str))
def spPV (K : PySem.W.Frag) (A : Alp) (ps : List Str) : Sp := fun vs H Q _ => ∃ (v g : V) (p : Poly) (gs : List (Str × V)) (σ : Str → A.α), vs = [v, .str A.nm, g] ∧ FD K H v (bD p) ∧ POk p ∧ Szd p ∧ (∀ t ∈ p, ∀ x ∈ t.1, x.2 < 1000) ∧ (tokK p).length ≤ 1000 ∧ GivenAt K H g gs ∧
  (gs.map (·.1)).Nodup ∧ HasA K A.toAlg H gs ps σ p ∧ ∀ v H', Same H H' → Dp K H' v (A.enc (resA A.toAlg σ p)) → Q v H'
def spPZ (K : PySem.W.Frag) (A : Alp) : Sp := fun vs H Q _ => ∃ x : V, vs = [.str A.nm, x] ∧ ∀ v H', Same H H' → Dp K H' v (A.enc A.ze) → Q v H'
def spPO (K : PySem.W.Frag) (A : Alp) (ps : List Str) : Sp := fun vs H Q _ => ∃ x : V, vs = [.str A.nm, x] ∧ (A.nm = seen_ → FD K H x (.tuple (ps.map .str))) ∧ ∀ v H', Same H H' → Dp K H' v (A.enc A.on) → Q v H'
def spPS (K : PySem.W.Frag) (A : Alp) : Sp := fun vs H Q _ => ∃ (a b : V) (x y : A.α), vs = [.str A.nm, a, b] ∧ A.Ok x ∧ A.Ok y ∧ FD K H a (A.enc x) ∧ FD K H b (A.enc y) ∧ ∀ v H', Same H H' → Dp K H' v (A.enc (A.pl x y)) → Q v H'
def spPB (K : PySem.W.Frag) (A : Alp) : Sp := fun vs H Q _ => ∃ (a b : V) (x y : A.α), vs = [.str A.nm, a, b] ∧ A.Ok x ∧ A.Ok y ∧ FD K H a (A.enc x) ∧ FD K H b (A.enc y) ∧ ∀ v H', Same H H' → Dp K H' v (A.enc (A.tm x y)) → Q v H'
def spPR (K : PySem.W.Frag) (A : Alp) : Sp := fun vs H Q _ => ∃ (v : V) (y : A.α) (e : Int), vs = [.str A.nm, v, .int e] ∧ A.OkV y ∧ 0 < e ∧ e < 1000 ∧ FD K H v (A.enc y) ∧ ∀ v', FD K H v' (A.enc (A.ra y e)) → Q v' H
section
variable {P : Program} {w : World} {K : PySem.W.Frag} {mg : Str → Option Value} {base : Heap}
theorem ok_pvalued (A' : Alp) (ps : List Str) {f : Addr} {fd : FuncData} (F : Fun K "valued" "valued" sValued f fd) (C : Cn K mg) (Gt : Df P w K mg base 1 "tokens_of" ["p"] (spTks K)) (Gn : Df P w K mg base 1 "need_all" ["tokens", "values"] (spNeed K)) (Gz : Df P w K mg base 1 "measured_zero" ["measure", "persons"] (spPZ K A'))
    (Go : Df P w K mg base 1 "measured_one" ["measure", "persons"] (spPO K A' ps)) (Gm : Df P w K mg base 2 "measured_times" ["measure", "a", "b"] (spPB K A')) (Gp : Df P w K mg base 2 "measured_plus" ["measure", "a", "b"] (spPS K A'))
    (Gr : Df P w K mg base 1 "_raised" ["measure", "value", "exponent"] (spPR K A')) : FnOk P w K mg base CX0 3 f fd ["p", "measure", "given"] (spPV K A' ps) := by
  obtain ⟨ft, fdt, gT, kT, bT, GT⟩ := Gt.ok
  obtain ⟨fn, fdn, gN, kN, bN, GN⟩ := Gn.ok
  obtain ⟨fz, fdz, gZ, kZ, bZ, GZ⟩ := Gz.ok
  obtain ⟨fo, fdo, gO, kO, bO, GO⟩ := Go.ok
  obtain ⟨fm, fdm, gM, kM, bM, GM⟩ := Gm.ok
  obtain ⟨fp, fdp, gP, kP, bP, GP⟩ := Gp.ok
  obtain ⟨fr, fdr, gR, kR, bR, GR⟩ := Gr.ok
  refine F.ok scValued (fun vs H Q E h => ?_) (fun cdv A outer s H vs Q E hr h => ?_)
  · obtain ⟨v, g, p, gs, σ, rfl, _⟩ := h
    rfl
  · obtain ⟨v, g, p, gs, σ, rfl, hd, okp, szp, hex, htl, ⟨ga, gys, rfl, hg, hpg⟩, hnd, has, k⟩ := h
    rw [← resP_eq fun t ht q hq => ⟨(has.tok t ht q hq).1, (okp.2.2 t ht).2 q hq⟩] at k
    have hr1 : Room 1 _ := hr.mono (by decide)
    have hr2 : Room 2 _ := hr.mono (by decide)
    refine ⟨_, pss_cons (ps_set (i := 3) scValued.nd rfl (Or.inl rfl) (pe_callTy (show CallR _ _ (rDictG K) from call_dictG rfl) (by rfl) C.dict (by rfl) (pa_cons (pv 2) pa_nil)))
      (pss_cons (ps_if (PW.pt (pw_and (pt_cmpR op_eq (pv 1) pe_str (nomark _)) (pw_and1 (pt_cmp (pc_dnotin (u1 hr) pe_str (pv 3)))))) (pss_one ps_never) pss_nil)
      (pss_cons (ps_expr (pe_call GN hr1 rfl gN kN bN .nil pass0 (pa_cons (pe_call GT hr1 rfl gT kT bT .nil pass0 (pa_cons (pv 0) pa_nil)) (pa_cons (pv 3) pa_nil))))
      (pss_cons (ps_if (pt_cmpR op_eq (pv 1) pe_str (nomark _)) pss_never pss_nil)
      (pss_cons (ps_set (i := 4) scValued.nd rfl (Or.inl rfl) (pe_dget1 (u1 hr) (pv 3) pe_str ⟨rfl, rfl, rfl, rfl⟩))
      (pss_cons (ps_set (i := 5) scValued.nd rfl (Or.inl rfl) (pe_call GZ hr1 rfl gZ kZ bZ .nil pass0 (pa_cons (pv 1) (pa_cons (pv 4) pa_nil))))
      (pss_cons (ps_for PassesOwn.never rfl (pi_seq (pv 0)) (pg_seq rfl (pgs_cons (pg_name (i := 6) scValued.nd rfl (Or.inl rfl)) (pgs_cons (pg_name (i := 7) scValued.nd rfl (Or.inl rfl)) pgs_nil)))
        (pss_cons (ps_set (i := 8) scValued.nd rfl (Or.inl rfl) (pe_call GO hr1 rfl gO kO bO .nil pass0 (pa_cons (pv 1) (pa_cons (pv 4) pa_nil))))
        (pss_cons (ps_for PassesOwn.never rfl (pi_seq (pv 6)) (pg_seq rfl (pgs_cons (pg_name (i := 9) scValued.nd rfl (Or.inl rfl)) (pgs_cons (pg_name (i := 10) scValued.nd rfl (Or.inl rfl)) pgs_nil)))
          (pss_one (ps_set (i := 8) scValued.nd rfl (Or.inl rfl) (pe_call GM hr2 rfl gM kM bM .nil pass0 (pa_cons (pv 1) (pa_cons (pv 8) (pa_cons (pe_call GR hr1 rfl gR kR bR .nil pass0 (pa_cons (pv 1) (pa_cons (pe_dget (u1 hr) (pv 3) (pv 9) (fun _ _ => rfl)) (pa_cons (pv 10) pa_nil)))) pa_nil)))))))
        (pss_one (ps_set (i := 5) scValued.nd rfl (Or.inl rfl) (pe_call GP hr2 rfl gP kP bP .nil pass0 (pa_cons (pv 1) (pa_cons (pv 5) (pa_cons (pv 8) pa_nil)))))))))
      (pss_one (ps_ret (pv 5))))))))), ?_⟩
    refine ⟨_, rfl, ga, gys, gs, rfl, hg, hpg, hnd, fun D nD => ?_⟩
    have s1 : Same H (upd H D (.dK (kvG gs))) := sm_new sm_refl nD
    have hD : upd H D (.dK (kvG gs)) D = some (.dK (kvG gs)) := upd_same
    generalize upd H D (.dK (kvG gs)) = H1 at s1 hD ⊢
    refine ⟨_, rfl, rfl, decide (A'.nm = seen_), ?_, ite_both (fun e b => ?_) (iteF ?_)⟩
    · by_cases c : A'.nm = seen_
      · rw [decide_eq_true c, c]; exact dy
      · rw [decide_eq_false c]; exact dn c
    · obtain ⟨u, hu, _⟩ := has.per (of_decide_eq_true e)
      refine ⟨_, rfl, D, _, rfl, DGet.k (k := .inr eps_) hD, _, rfl, ?_⟩
      rw [hu]
      exact b
    refine ⟨_, rfl, v, p, rfl, hd.same s1, okp, szp, htl, fun vt H2 s2 ht => ?_⟩
    obtain ⟨T, zs, rfl, hT, hzs⟩ := dp_tup ht
    cases dp_strs hzs
    have hD2 := s2 _ _ hD
    have s02 := s1.trans s2
    refine ⟨_, rfl, T, D, tokK p, kvG gs, rfl, hT, hD2, fun z hz => ?_, ?_⟩
    · obtain ⟨t, ht, x, hx, rfl⟩ := tokK_mem hz
      obtain ⟨_, u, hu, _⟩ := has.tok t ht x hx
      exact ⟨u, hu⟩
    refine ⟨_, rfl, rfl, false, dn A'.no_count, iteF ?_⟩
    refine ⟨_, rfl, D, rfl, .inl ⟨_, .inl hD2⟩, _, DGet.k (k := .inr eps_) hD2, ?_⟩
    have hper : A'.nm = seen_ → FD K H ((valV (kvG gs) (.inr eps_)).getD V.non) (.tuple (ps.map .str)) := fun e => by
      obtain ⟨u, hu, hf⟩ := has.per e
      rw [hu]; exact hf
    generalize (valV (kvG gs) (.inr eps_)).getD V.non = pers at hper ⊢
    refine ⟨_, rfl, _, rfl, pers, rfl, fun v0 H2' s2' dv0 => ?_⟩
    have s02 := s02.trans s2'
    have hD2 := s2' _ _ hD2
    obtain ⟨a, xs, rfl, hs, hl, hget⟩ := fd_bag (hd.same s02)
    skip
    refine seq_go rfl hs fun J G walk hG => ?_
    refine for_it walk (fun i τ H3 => ∃ u5 u6 u7 u8 u9 u10, τ = [some (.ref a), some (.str A'.nm), some (.ref ga), some (.ref D), some pers, some u5, u6, u7, u8, u9, u10] ∧ Same H2' H3 ∧ Dp K H3 u5 (A'.enc (resP A' σ (p.take i)))) ⟨v0, _, _, _, _, _, rfl, sm_refl, dv0⟩ (fun i τ H3 _ ⟨_, _, _, _, _, _, _, s3, _⟩ => hG H3 s3.seq (sqT_same s3)) ?_ ?_
    · rintro i x τ H3 Hx hi ⟨u5, u6, u7, u8, u9, u10, rfl, s3, d5⟩ ⟨rfl, hx⟩
      obtain ⟨t, hti, hxt⟩ := hget i x hx
      have htm := List.mem_of_getElem? hti
      obtain ⟨T2, kk, rfl, hT2, hk⟩ := fd_pair hxt
      refine ⟨T2, _, rfl, sq_same s3 hT2, rfl, _, _, rfl, _, _, rfl, rfl, ?_⟩
      refine ⟨_, rfl, _, rfl, pers, rfl, fun e => (hper e).same (s02.trans s3), fun w0 H4 s4 dw0 => ?_⟩
      obtain ⟨b, ys, rfl, hb, hbl, hbget⟩ := fd_bag (κ := Str) (hk.same (s3.trans s4))
      refine seq_go rfl hb fun J2 G2 walk2 hG2 => ?_
      refine for_it walk2 (fun j τ H5 => ∃ w8 u9 u10, τ = [some (.ref a), some (.str A'.nm), some (.ref ga), some (.ref D), some pers, some u5, some (.ref b), some (.int t.2), some w8, u9, u10] ∧ Same H4 H5 ∧ Dp K H5 w8 (A'.enc (worthP A' σ (t.1.take j)))) ⟨w0, _, _, rfl, sm_refl, dw0⟩ (fun j τ H5 _ ⟨_, _, _, _, s5, _⟩ => hG2 H5 s5.seq (sqT_same s5)) ?_ ?_
      · rintro j y τ H5 _ hj ⟨w8, u9, u10, rfl, s5, d8⟩ ⟨rfl, hy⟩
        obtain ⟨q, hq, hyq⟩ := hbget j y hy
        have hqm := List.mem_of_getElem? hq
        obtain ⟨U, kk2, rfl, hU, hkk⟩ := fd_pair hyq
        cases fd_str (z := q.1) hkk
        obtain ⟨oq, uv, hv, fv⟩ := has.tok t htm q hqm
        have hD5 := s5 _ _ (s4 _ _ (s3 _ _ hD2))
        refine ⟨U, _, rfl, sq_same s5 hU, rfl, _, _, rfl, _, _, rfl, rfl, ?_⟩
        refine ⟨_, rfl, _, rfl, _, rfl, _, rfl, _, rfl, D, _, rfl, hv ▸ DGet.k (k := .inr q.1) hD5, _, rfl, uv, σ q.1, q.2, rfl, oq, (okp.2.2 t htm).2 q hqm, hex t htm q hqm, fv.same (s02.trans (s3.trans (s4.trans s5))), fun ur fr => ?_⟩
        refine ⟨w8, ur, worthP A' σ (t.1.take j), A'.ra (σ q.1) q.2, rfl, worthP_ok fun q hq => (has.tok t htm q (List.mem_of_mem_take hq)).1, A'.ok_ra oq, FD.of d8 (A'.tup _), fr, fun v6 H6 s6 d6 => ?_⟩
        refine ⟨v6, _, _, rfl, s5.trans s6, ?_⟩
        rw [worthP_take hq]
        exact d6
      · rintro τ H5 ⟨w8, u9, u10, rfl, s5, d8⟩
        rw [hbl, List.take_length] at d8
        refine ⟨_, rfl, _, rfl, _, rfl, u5, w8, resP A' σ (p.take i), worthP A' σ t.1, rfl, resP_ok fun t ht q hq => (has.tok t (List.mem_of_mem_take ht) q hq).1, worthP_ok fun q hq => (has.tok t htm q hq).1, FD.of (dp_same (s4.trans s5) d5) (A'.tup _), FD.of d8 (A'.tup _), fun v6 H6 s6 d6 => ?_⟩
        refine ⟨v6, _, _, _, _, _, rfl, s3.trans (s4.trans (s5.trans s6)), ?_⟩
        rw [resP_take hti]
        exact d6
    · rintro τ H3 ⟨u5, u6, u7, u8, u9, u10, rfl, s3, d5⟩
      rw [hl, List.take_length] at d5
      exact ⟨_, rfl, k _ _ (s02.trans s3) d5⟩
end
end K8


set_option Elab.async false
set_option linter.all false
set_option maxRecDepth 100000
set_option maxHeartbeats 8000000
/-! cost, trust, there and seen as the program has them -/
namespace K8
open PySem L2 Nd Bk Gd PySem.ExE
def meN (is : Bool) : Me := if is = true then .cost else .trust
theorem meN_nm (is : Bool) : nmN (meN is) = meas is := by cases is <;> rfl
theorem nu_meN {is : Bool} {o : Option Int} (h : NuN (meN is) o) : Nu is o := by
  cases is with
  | true => exact fun e => nomatch e
  | false =>
    obtain ⟨i, rfl, _, _⟩ := (show NuN .trust o from h)
    exact fun _ => rfl
theorem it_cost {y : Option Int} : ∀ (n : Nat) (a : Option Int), itA (algN .cost) y (n + 1) a = addO a (y.map (· * ((n : Int) + 1)))
  | 0, a => by
    show addO a y = _
    cases a <;> cases y <;> simp [addO]
  | n + 1, a => by
    show addO (itA (algN .cost) y (n + 1) a) y = _
    rw [it_cost n a]
    cases a with
    | none => cases y <;> rfl
    | some i =>
      cases y with
      | none => rfl
      | some j =>
        show some (i + j * ((n : Int) + 1) + j) = some (i + j * (((n + 1 : Nat) : Int) + 1))
        congr 1
        rw [Int.natCast_add, Int.mul_add, Int.mul_add, Int.mul_add]
        omega
theorem it_trust {i j : Int} : ∀ (n : Nat), itA (algN .trust) (some j) (n + 1) (some i) = some (if j < i then j else i)
  | 0 => rfl
  | n + 1 => by
    show tmN .trust (itA (algN .trust) (some j) (n + 1) (some i)) (some j) = _
    rw [it_trust n]
    show some (if j < (if j < i then j else i) then j else if j < i then j else i) = _
    by_cases h : j < i
    · rw [if_pos h, if_neg (Int.lt_irrefl j)]
    · rw [if_neg h, if_neg h]
def alpN (is : Bool) : Alp where
  toAlg := algN (meN is)
  ra := fun o e => raO is e o
  no_count := by cases is <;> decide +kernel
  ok_tm2 := fun ha hb => nu_tmN _ ha hb
  ok_ra := fun {a e} h => by
    cases is with
    | true => trivial
    | false => exact h.1
  one_tm := fun {a y} n ha hy => by
    cases is with
    | true => exact (it_cost n a).symm
    | false =>
      obtain ⟨i, rfl, _, _⟩ := (show NuN .trust a from ha)
      obtain ⟨j, rfl, _, _⟩ := (show NuN .trust y from hy.1)
      exact (it_trust n).symm
theorem it_there {ps : List Str} {is : Bool} {y a : Str → Bool} : ∀ n : Nat, itA (algT ps is) y (n + 1) a = fun x => a x && y x
  | 0 => rfl
  | n + 1 => by
    show (fun x => itA (algT ps is) y (n + 1) a x && y x) = _
    rw [it_there n]
    funext x
    show ((a x && y x) && y x) = (a x && y x)
    cases a x <;> cases y x <;> rfl
theorem me_nc (is : Bool) : me is ≠ Str.ofString "count" := by cases is <;> decide +kernel
def alpT (ps : List Str) (is : Bool) : Alp where
  toAlg := algT ps is
  ra := fun o _ => o
  no_count := me_nc is
  ok_tm2 := fun _ _ => trivial
  ok_ra := fun _ => trivial
  one_tm := fun n _ _ => (it_there n).symm
theorem seen_alpN {is : Bool} : (alpN is).nm ≠ seen_ := by cases is <;> decide +kernel
theorem plO_eq {is : Bool} {a b : Option Int} (ha : NuN (meN is) a) (hb : NuN (meN is) b) : plO is a b = plN (meN is) a b := by
  cases is with
  | true => rfl
  | false =>
    obtain ⟨i, rfl, _, _⟩ := (show NuN .trust a from ha)
    obtain ⟨j, rfl, _, _⟩ := (show NuN .trust b from hb)
    rfl
theorem tmO_eq {is : Bool} {a b : Option Int} (ha : NuN (meN is) a) (hb : NuN (meN is) b) : tmO is a b = tmN (meN is) a b := by
  cases is with
  | true => rfl
  | false =>
    obtain ⟨i, rfl, _, _⟩ := (show NuN .trust a from ha)
    obtain ⟨j, rfl, _, _⟩ := (show NuN .trust b from hb)
    rfl
section
variable {P : Program} {w : World} {K : PySem.W.Frag} {mg : Str → Option Value} {base : Heap} {f : Addr} {fd : FuncData} {k : Nat} {prm : List Str}
theorem pz_N {is : Bool} (h : FnOk P w K mg base CX0 k f fd prm spMZero) : FnOk P w K mg base CX0 k f fd prm (spPZ K (alpN is)) := h.imp fun vs H Q E ⟨x, e, q⟩ => ⟨is, x, by rw [e]; show [V.str (nmN (meN is)), x] = _; rw [meN_nm], by
  have : zeO is = zeN (meN is) := by cases is <;> rfl
  rw [this]
  exact q _ _ sm_refl (dp_ov _)⟩
theorem po_N {is : Bool} {ps : List Str} (h : FnOk P w K mg base CX0 k f fd prm spMOne) : FnOk P w K mg base CX0 k f fd prm (spPO K (alpN is) ps) := h.imp fun vs H Q E ⟨x, e, _, q⟩ => ⟨is, x, by rw [e]; show [V.str (nmN (meN is)), x] = _; rw [meN_nm], by
  have : onO is = onN (meN is) := by cases is <;> rfl
  rw [this]
  exact q _ _ sm_refl (dp_ov _)⟩
theorem ps_N {is : Bool} (h : FnOk P w K mg base CX0 k f fd prm spMPlus) : FnOk P w K mg base CX0 k f fd prm (spPS K (alpN is)) := h.imp fun vs H Q E ⟨a, b, x, y, e, ox, oy, da, db, q⟩ => by
  cases fd_oD (o := x) da
  cases fd_oD (o := y) db
  refine ⟨is, x, y, by rw [e]; show [V.str (nmN (meN is)), ov x, ov y] = _; rw [meN_nm], nu_meN ox, nu_meN oy, ?_⟩
  rw [plO_eq ox oy]
  exact q _ _ sm_refl (dp_ov _)
theorem pb_N {is : Bool} (h : FnOk P w K mg base CX0 k f fd prm spMTimes) : FnOk P w K mg base CX0 k f fd prm (spPB K (alpN is)) := h.imp fun vs H Q E ⟨a, b, x, y, e, ox, oy, da, db, q⟩ => by
  cases fd_oD (o := x) da
  cases fd_oD (o := y) db
  refine ⟨is, x, y, by rw [e]; show [V.str (nmN (meN is)), ov x, ov y] = _; rw [meN_nm], nu_meN ox, nu_meN oy, ?_⟩
  rw [tmO_eq ox oy]
  exact q _ _ sm_refl (dp_ov _)
theorem pr_N {is : Bool} (h : FnOk P w K mg base CX0 k f fd prm spRaised) : FnOk P w K mg base CX0 k f fd prm (spPR K (alpN is)) := h.imp fun vs H Q E ⟨v, y, e, ev, oy, e0, e1, dv, q⟩ => by
  cases fd_oD (o := y) dv
  refine ⟨is, y, e, by rw [ev]; show [V.str (nmN (meN is)), ov y, V.int e] = _; rw [meN_nm], by omega, e1, ?_⟩
  exact q _ (FD.of (dp_ov _) ((alpN is).tup _))
theorem pz_T {ps : List Str} {is : Bool} (h : FnOk P w K mg base CX0 k f fd prm (spTZero K)) : FnOk P w K mg base CX0 k f fd prm (spPZ K (alpT ps is)) := h.imp fun vs H Q E ⟨x, e, q⟩ => ⟨is, x, ps, e, fun v d => q v H sm_refl d⟩
theorem po_T {ps : List Str} {is : Bool} (h : FnOk P w K mg base CX0 k f fd prm (spTOne K)) : FnOk P w K mg base CX0 k f fd prm (spPO K (alpT ps is) ps) := h.imp fun vs H Q E ⟨x, e, p, q⟩ => ⟨is, x, ps, e, fun z => p (by rw [z]; rfl), q⟩
theorem ps_T {ps : List Str} {is : Bool} (hp : PsOk ps) (h : FnOk P w K mg base CX0 k f fd prm (spTPlus K)) : FnOk P w K mg base CX0 k f fd prm (spPS K (alpT ps is)) := h.imp fun vs H Q E ⟨a, b, x, y, e, _, _, da, db, q⟩ => ⟨is, a, b, ps, x, y, e, hp, da, db, q⟩
theorem pb_T {ps : List Str} {is : Bool} (hp : PsOk ps) (h : FnOk P w K mg base CX0 k f fd prm (spTTimes K)) : FnOk P w K mg base CX0 k f fd prm (spPB K (alpT ps is)) := h.imp fun vs H Q E ⟨a, b, x, y, e, _, _, da, db, q⟩ => ⟨is, a, b, ps, x, y, e, hp, da, db, q⟩
theorem pr_T {ps : List Str} {is : Bool} (h : FnOk P w K mg base CX0 k f fd prm spTRaised) : FnOk P w K mg base CX0 k f fd prm (spPR K (alpT ps is)) := h.imp fun vs H Q E ⟨v, y, e, ev, _, _, _, dv, q⟩ => ⟨is, v, e, ev, q v dv⟩
end
end K8


set_option Elab.async false
set_option linter.all false
set_option maxRecDepth 100000
set_option maxHeartbeats 4000000
/-! a bag told in a commutative monoid: only what is told counts, not in which sequence nor in how many parts -/
namespace Cm
open PySem Nd Bk
structure Mon (α : Type) where
  op : α → α → α
  u : α
  Ok : α → Prop
  ok_u : Ok u
  ok_op : ∀ {a b}, Ok a → Ok b → Ok (op a b)
  comm : ∀ {a b}, Ok a → Ok b → op a b = op b a
  assoc : ∀ {a b c}, Ok a → Ok b → Ok c → op (op a b) c = op a (op b c)
  unit : ∀ {a}, Ok a → op u a = a
section
variable {κ α : Type} [DecidableEq κ] [Ky κ] (M : Mon α) (w : κ → Int → α)
def E (l : Bag κ) : α := l.foldr (fun e a => M.op (w e.1 e.2) a) M.u
variable {M w}
theorem E_nil : E M w [] = M.u := rfl
theorem E_cons (e : κ × Int) (l : Bag κ) : E M w (e :: l) = M.op (w e.1 e.2) (E M w l) := rfl
variable (hw : ∀ k n, 0 < n → M.Ok (w k n))
include hw
theorem E_ok : ∀ {l : Bag κ}, Pos l → M.Ok (E M w l)
  | [], _ => M.ok_u
  | e :: l, h => M.ok_op (hw _ _ (h e List.mem_cons_self)) (E_ok fun x hx => h x (List.mem_cons_of_mem _ hx))
theorem E_append : ∀ {l m : Bag κ}, Pos l → Pos m → E M w (l ++ m) = M.op (E M w l) (E M w m)
  | [], m, _, hm => (M.unit (E_ok hw hm)).symm
  | e :: l, m, hl, hm => by
    have h0 := hw e.1 e.2 (hl e List.mem_cons_self)
    have hl' : Pos l := fun x hx => hl x (List.mem_cons_of_mem _ hx)
    rw [List.cons_append, E_cons, E_cons, E_append hl' hm, M.assoc h0 (E_ok hw hl') (E_ok hw hm)]
theorem E_perm {l m : Bag κ} (p : l.Perm m) (h : Pos l) : E M w l = E M w m := by
  induction p with
  | nil => rfl
  | cons e p ih => rw [E_cons, E_cons, ih fun x hx => h x (List.mem_cons_of_mem _ hx)]
  | swap a b l =>
    have ha := hw a.1 a.2 (h a (List.mem_cons_of_mem _ List.mem_cons_self))
    have hb := hw b.1 b.2 (h b List.mem_cons_self)
    have hl := E_ok hw (l := l) fun x hx => h x (List.mem_cons_of_mem _ (List.mem_cons_of_mem _ hx))
    rw [E_cons, E_cons, E_cons, E_cons, ← M.assoc hb ha hl, ← M.assoc ha hb hl, M.comm ha hb]
  | trans p q ih1 ih2 => exact (ih1 h).trans (ih2 fun x hx => h x (p.mem_iff.mpr hx))
variable (hs : ∀ k m n, 0 < m → 0 < n → M.op (w k m) (w k n) = w k (m + n))
include hs
theorem E_map {k : κ} {n : Int} (hn : 0 < n) : ∀ {l : Bag κ} {c : Int}, (l.map (·.1)).Nodup → Pos l → (k, c) ∈ l → E M w (l.map fun e => if e.1 = k then (e.1, c + n) else e) = M.op (E M w l) (w k n)
  | [], _, _, _, m => nomatch m
  | e :: l, c, nd, hp, m => by
    have hp' : Pos l := fun x hx => hp x (List.mem_cons_of_mem _ hx)
    have e0 := hp e List.mem_cons_self
    obtain ⟨n1, n2⟩ := List.nodup_cons.mp nd
    have okl := E_ok hw hp'
    rw [List.map_cons, E_cons, E_cons]
    rcases List.mem_cons.mp m with rfl | m
    · have off : l.map (fun e => if e.1 = k then (e.1, c + n) else e) = l := by
        refine (List.map_congr_left fun x hx => ?_).trans (List.map_id' l)
        exact if_neg fun q => n1 (List.mem_map.mpr ⟨x, hx, q⟩)
      rw [off]
      show M.op (w (if k = k then (k, c + n) else (k, c)).1 (if k = k then (k, c + n) else (k, c)).2) _ = M.op (M.op (w k c) _) (w k n)
      rw [if_pos rfl, ← hs k c n e0 hn, M.assoc (hw k c e0) (hw k n hn) okl, M.comm (hw k n hn) okl, M.assoc (hw k c e0) okl (hw k n hn)]
    · have ne : e.1 ≠ k := fun q => n1 (List.mem_map.mpr ⟨_, m, q.symm⟩)
      rw [if_neg ne, E_map hn n2 hp' m, M.assoc (hw _ _ e0) okl (hw k n hn)]
theorem E_add1 {l : Bag κ} (nd : (l.map (·.1)).Nodup) (hp : Pos l) {p : κ × Int} (hn : 0 < p.2) : E M w (add1 l p) = M.op (E M w l) (w p.1 p.2) := by
  unfold add1 put
  have hl := E_ok hw hp
  cases q : look l p.1 with
  | none =>
    simp only [Option.isSome_none, Bool.false_eq_true, ↓reduceIte, Option.getD_none, Int.zero_add]
    have h1 : Pos [(p.1, p.2)] := fun x hx => by rw [List.mem_singleton.mp hx]; exact hn
    rw [E_append hw hp h1, E_cons, E_nil, M.comm (hw _ _ hn) M.ok_u, M.unit (hw _ _ hn)]
  | some c =>
    simp only [Option.isSome_some, ↓reduceIte, Option.getD_some]
    have m : (p.1, c) ∈ l := by
      unfold look at q
      obtain ⟨x, hx, e⟩ := Option.map_eq_some_iff.mp q
      have h1 := List.find?_some hx
      have h2 := List.mem_of_find?_eq_some hx
      have : x = (p.1, c) := Prod.ext (of_decide_eq_true h1) e
      rw [← this]; exact h2
    exact E_map hw hs hn nd hp m
theorem E_book : ∀ (ts l : Bag κ), (l.map (·.1)).Nodup → Pos l → Pos ts → E M w (ts.foldl add1 l) = M.op (E M w l) (E M w ts)
  | [], l, _, hl, _ => by rw [List.foldl_nil, E_nil, M.comm (E_ok hw hl) M.ok_u, M.unit (E_ok hw hl)]
  | t :: ts, l, nd, hl, ht => by
    have t0 := ht t List.mem_cons_self
    have ht' : Pos ts := fun x hx => ht x (List.mem_cons_of_mem _ hx)
    rw [List.foldl_cons, E_book ts (add1 l t) (nodup_add1 nd t) (pos_add1 hl t0) ht', E_add1 hw hs nd hl t0, E_cons, M.assoc (E_ok hw hl) (hw _ _ t0) (E_ok hw ht')]
/-- the one form tells the same -/
theorem E_nf {ts : Bag κ} (h : Pos ts) : E M w (nf ts) = E M w ts := by
  have b : E M w (book ts) = E M w ts := by
    unfold book
    rw [E_book hw hs ts [] List.nodup_nil (fun x hx => nomatch hx) h, E_nil, M.unit (E_ok hw h)]
  rw [← b]
  exact E_perm hw (srt_perm _) (nf_pos h)
end
end Cm


set_option Elab.async false
set_option linter.all false
set_option maxRecDepth 100000
set_option maxHeartbeats 4000000
/-! valuing goes through sums and products -/
namespace K8
open PySem L2 Nd Bk Gd
/-- the laws of a measure -/
structure Lw (A : Alg) : Prop where
  okm : ∀ {a b}, A.Ok a → A.Ok b → A.Ok (A.tm a b)
  okv : ∀ {a}, A.OkV a → A.Ok a
  plc : ∀ {a b}, A.Ok a → A.Ok b → A.pl a b = A.pl b a
  pla : ∀ {a b c}, A.Ok a → A.Ok b → A.Ok c → A.pl (A.pl a b) c = A.pl a (A.pl b c)
  plz : ∀ {a}, A.Ok a → A.pl A.ze a = a
  tmc : ∀ {a b}, A.Ok a → A.Ok b → A.tm a b = A.tm b a
  tma : ∀ {a b c}, A.Ok a → A.Ok b → A.Ok c → A.tm (A.tm a b) c = A.tm a (A.tm b c)
  tmo : ∀ {a}, A.Ok a → A.tm A.on a = a
  tmz : ∀ {a}, A.Ok a → A.tm A.ze a = A.ze
  dis : ∀ {a b c}, A.Ok a → A.Ok b → A.Ok c → A.tm (A.pl a b) c = A.pl (A.tm a c) (A.tm b c)
  scp : ∀ {a m n}, A.Ok a → 0 < m → 0 < n → A.pl (A.sc a m) (A.sc a n) = A.sc a (m + n)
  sct : ∀ {a b m n}, A.Ok a → A.Ok b → A.tm (A.sc a m) (A.sc b n) = A.sc (A.tm a b) (m * n)
def plM {A : Alg} (L : Lw A) : Cm.Mon A.α := ⟨A.pl, A.ze, A.Ok, A.ok_ze, A.ok_pl, L.plc, L.pla, L.plz⟩
def tmM {A : Alg} (L : Lw A) : Cm.Mon A.α := ⟨A.tm, A.on, A.Ok, A.ok_on, L.okm, L.tmc, L.tma, L.tmo⟩
/-- a value raised -/
def pw (A : Alg) (y : A.α) (n : Int) : A.α := itA A y n.toNat A.on
section
variable {A : Alg} (L : Lw A) {σ : Str → A.α} (hσ : ∀ z, A.OkV (σ z))
include L in
theorem itA_pw {y a : A.α} (hy : A.OkV y) (ha : A.Ok a) : ∀ n : Nat, itA A y n a = A.tm a (itA A y n A.on)
  | 0 => by
    show a = A.tm a A.on
    rw [L.tmc ha A.ok_on, L.tmo ha]
  | n + 1 => by
    show A.tm (itA A y n a) y = A.tm a (A.tm (itA A y n A.on) y)
    rw [itA_pw hy ha n, L.tma ha (itA_ok hy A.ok_on n) (L.okv hy)]
include L in
theorem itA_add {y : A.α} (hy : A.OkV y) (m : Nat) : ∀ n : Nat, A.tm (itA A y m A.on) (itA A y n A.on) = itA A y (m + n) A.on
  | 0 => by
    show A.tm (itA A y m A.on) A.on = _
    rw [L.tmc (itA_ok hy A.ok_on m) A.ok_on, L.tmo (itA_ok hy A.ok_on m)]; rfl
  | n + 1 => by
    show A.tm (itA A y m A.on) (A.tm (itA A y n A.on) y) = A.tm (itA A y (m + n) A.on) y
    rw [← L.tma (itA_ok hy A.ok_on m) (itA_ok hy A.ok_on n) (L.okv hy), itA_add hy m n]
include L hσ
theorem pw_ok (k : Str) (n : Int) (_ : 0 < n) : (tmM L).Ok (pw A (σ k) n) := itA_ok (hσ k) A.ok_on _
theorem pw_add (k : Str) (m n : Int) (hm : 0 < m) (hn : 0 < n) : (tmM L).op (pw A (σ k) m) (pw A (σ k) n) = pw A (σ k) (m + n) := by
  show A.tm (itA A (σ k) m.toNat A.on) (itA A (σ k) n.toNat A.on) = itA A (σ k) (m + n).toNat A.on
  rw [itA_add L (hσ k), Int.toNat_add (Int.le_of_lt hm) (Int.le_of_lt hn)]
theorem worthA_E {m : Mono} (h : Pos m) : worthA A σ m = Cm.E (tmM L) (fun k n => pw A (σ k) n) m := by
  have key : ∀ (m : Mono) (a : A.α), Pos m → A.Ok a → m.foldl (fun a q => itA A (σ q.1) q.2.toNat a) a = A.tm a (Cm.E (tmM L) (fun k n => pw A (σ k) n) m) := by
    intro m
    induction m with
    | nil =>
      intro a _ ha
      show a = A.tm a A.on
      rw [L.tmc ha A.ok_on, L.tmo ha]
    | cons q r ih =>
      intro a hp ha
      have hr : Pos r := fun x hx => hp x (List.mem_cons_of_mem _ hx)
      rw [List.foldl_cons, ih _ hr (itA_ok (hσ q.1) ha _), itA_pw L (hσ q.1) ha]
      exact L.tma ha (itA_ok (hσ q.1) A.ok_on _) (Cm.E_ok (M := tmM L) (pw_ok L hσ) hr)
  unfold worthA
  rw [key m _ h A.ok_on, L.tmo (Cm.E_ok (M := tmM L) (pw_ok L hσ) h)]
theorem worthA_mul {a b : Mono} (ha : Pos a) (hb : Pos b) : worthA A σ (mulM a b) = A.tm (worthA A σ a) (worthA A σ b) := by
  have hab : Pos (a ++ b) := fun x hx => (List.mem_append.mp hx).elim (ha x) (hb x)
  unfold mulM
  rw [worthA_E L hσ (nf_pos hab), worthA_E L hσ ha, worthA_E L hσ hb, Cm.E_nf (pw_ok L hσ) (pw_add L hσ) hab, Cm.E_append (pw_ok L hσ) ha hb]
  rfl
theorem wa_ok (m : Mono) : A.Ok (worthA A σ m) := worthA_ok fun q _ => hσ q.1
theorem sc_ok (m : Mono) (n : Int) (_ : 0 < n) : (plM L).Ok (A.sc (worthA A σ m) n) := A.ok_sc (wa_ok L hσ m)
theorem sc_add (k : Mono) (m n : Int) (hm : 0 < m) (hn : 0 < n) : (plM L).op (A.sc (worthA A σ k) m) (A.sc (worthA A σ k) n) = A.sc (worthA A σ k) (m + n) := L.scp (wa_ok L hσ k) hm hn
theorem resA_E {p : Poly} (h : Pos p) : resA A σ p = Cm.E (plM L) (fun m n => A.sc (worthA A σ m) n) p := by
  have key : ∀ (p : Poly) (a : A.α), Pos p → A.Ok a → p.foldl (fun b t => A.pl b (A.sc (worthA A σ t.1) t.2)) a = A.pl a (Cm.E (plM L) (fun m n => A.sc (worthA A σ m) n) p) := by
    intro p
    induction p with
    | nil =>
      intro a _ ha
      show a = A.pl a A.ze
      rw [L.plc ha A.ok_ze, L.plz ha]
    | cons t r ih =>
      intro a hp ha
      have hr : Pos r := fun x hx => hp x (List.mem_cons_of_mem _ hx)
      have ot := A.ok_sc (n := t.2) (wa_ok L hσ t.1)
      rw [List.foldl_cons, ih _ hr (A.ok_pl ha ot)]
      exact L.pla ha ot (Cm.E_ok (M := plM L) (sc_ok L hσ) hr)
  unfold resA
  rw [key p _ h A.ok_ze, L.plz (Cm.E_ok (M := plM L) (sc_ok L hσ) h)]
/-- the value of a sum -/
theorem resA_plus {p q : Poly} (hp : Pos p) (hq : Pos q) : resA A σ (plusP p q) = A.pl (resA A σ p) (resA A σ q) := by
  have hpq : Pos (p ++ q) := fun x hx => (List.mem_append.mp hx).elim (hp x) (hq x)
  unfold plusP
  rw [resA_E L hσ (nf_pos hpq), resA_E L hσ hp, resA_E L hσ hq, Cm.E_nf (sc_ok L hσ) (sc_add L hσ) hpq, Cm.E_append (sc_ok L hσ) hp hq]
  rfl
theorem mul_row {a : Mono × Int} (ha : Pos a.1) (a0 : 0 < a.2) : ∀ {q : Poly}, Pos q → (∀ t ∈ q, Pos t.1) → Cm.E (plM L) (fun m n => A.sc (worthA A σ m) n) (q.map fun b => (mulM a.1 b.1, a.2 * b.2)) = A.tm (A.sc (worthA A σ a.1) a.2) (Cm.E (plM L) (fun m n => A.sc (worthA A σ m) n) q)
  | [], _, _ => by
    show A.ze = A.tm _ A.ze
    have o := A.ok_sc (n := a.2) (wa_ok L hσ a.1)
    rw [L.tmc o A.ok_ze, L.tmz o]
  | b :: q, hq, hm => by
    have hq' : Pos q := fun x hx => hq x (List.mem_cons_of_mem _ hx)
    have oa := A.ok_sc (n := a.2) (wa_ok L hσ a.1)
    have ob := A.ok_sc (n := b.2) (wa_ok L hσ b.1)
    have oq := Cm.E_ok (M := plM L) (sc_ok L hσ) hq'
    rw [List.map_cons, Cm.E_cons, Cm.E_cons, mul_row ha a0 hq' fun t ht => hm t (List.mem_cons_of_mem _ ht)]
    show A.pl (A.sc (worthA A σ (mulM a.1 b.1)) (a.2 * b.2)) (A.tm _ _) = A.tm _ (A.pl (A.sc (worthA A σ b.1) b.2) _)
    rw [worthA_mul L hσ ha (hm b List.mem_cons_self), ← L.sct (wa_ok L hσ a.1) (wa_ok L hσ b.1), L.tmc oa (A.ok_pl ob oq), L.dis ob oq oa, L.tmc ob oa, L.tmc oq oa]
theorem pos_row {a : Mono × Int} (a0 : 0 < a.2) {q : Poly} (hq : Pos q) : Pos (q.map fun b => (mulM a.1 b.1, a.2 * b.2)) := fun x hx => by
  obtain ⟨b, hb, rfl⟩ := List.mem_map.mp hx
  exact Int.mul_pos a0 (hq b hb)
theorem pos_prods' : ∀ {p q : Poly}, Pos p → Pos q → Pos (prods p q)
  | [], _, _, _ => fun x hx => nomatch hx
  | a :: p, q, hp, hq => fun x hx => by
    have hx : x ∈ (q.map fun b => (mulM a.1 b.1, a.2 * b.2)) ++ prods p q := hx
    rcases List.mem_append.mp hx with h | h
    · exact pos_row L hσ (hp a List.mem_cons_self) hq x h
    · exact pos_prods' (fun y hy => hp y (List.mem_cons_of_mem _ hy)) hq x h
theorem E_prods {q : Poly} (hq : Pos q) (mq : ∀ t ∈ q, Pos t.1) : ∀ {p : Poly}, Pos p → (∀ t ∈ p, Pos t.1) → Cm.E (plM L) (fun m n => A.sc (worthA A σ m) n) (prods p q) = A.tm (Cm.E (plM L) (fun m n => A.sc (worthA A σ m) n) p) (Cm.E (plM L) (fun m n => A.sc (worthA A σ m) n) q)
  | [], _, _ => (L.tmz (Cm.E_ok (M := plM L) (sc_ok L hσ) hq)).symm
  | a :: p, hp, mp => by
    have a0 := hp a List.mem_cons_self
    have hp' : Pos p := fun x hx => hp x (List.mem_cons_of_mem _ hx)
    have e : prods (a :: p) q = (q.map fun b => (mulM a.1 b.1, a.2 * b.2)) ++ prods p q := rfl
    rw [e, Cm.E_append (sc_ok L hσ) (pos_row L hσ a0 hq) (pos_prods' L hσ hp' hq), mul_row L hσ (mp a List.mem_cons_self) a0 hq mq, E_prods hq mq hp' fun t ht => mp t (List.mem_cons_of_mem _ ht), Cm.E_cons]
    exact (L.dis (A.ok_sc (wa_ok L hσ a.1)) (Cm.E_ok (M := plM L) (sc_ok L hσ) hp') (Cm.E_ok (M := plM L) (sc_ok L hσ) hq)).symm
/-- the value of a product -/
theorem resA_times {p q : Poly} (hp : Pos p) (hq : Pos q) (mp : ∀ t ∈ p, Pos t.1) (mq : ∀ t ∈ q, Pos t.1) : resA A σ (timesP p q) = A.tm (resA A σ p) (resA A σ q) := by
  have h := pos_prods' L hσ hp hq
  unfold timesP
  rw [resA_E L hσ (nf_pos h), resA_E L hσ hp, resA_E L hσ hq, Cm.E_nf (sc_ok L hσ) (sc_add L hσ) h, E_prods L hσ hq mq hp mp]
end
end K8


set_option Elab.async false
set_option linter.all false
set_option maxRecDepth 100000
set_option maxHeartbeats 4000000
/-! the laws of the five measures -/
namespace K8
open PySem L2 Nd Bk Gd
theorem lw_cost : Lw (algN .cost) where
  okm := fun _ _ => trivial
  okv := fun h => h.1
  plc := fun {a b} _ _ => by
    show leastO a b = leastO b a
    cases a <;> cases b <;> simp only [leastO] <;> first | rfl | (congr 1; split <;> split <;> omega)
  pla := fun {a b c} _ _ _ => by
    show leastO (leastO a b) c = leastO a (leastO b c)
    cases a <;> cases b <;> cases c <;> simp only [leastO] <;> (congr 1; repeat' split) <;> omega
  plz := fun _ => rfl
  tmc := fun {a b} _ _ => by
    show addO a b = addO b a
    cases a <;> cases b <;> simp only [addO] <;> (congr 1; omega)
  tma := fun {a b c} _ _ _ => by
    show addO (addO a b) c = addO a (addO b c)
    cases a <;> cases b <;> cases c <;> simp only [addO] <;> (congr 1; omega)
  tmo := fun {a} _ => by
    show addO (some 0) a = a
    cases a <;> simp [addO]
  tmz := fun _ => rfl
  dis := fun {a b c} _ _ _ => by
    show addO (leastO a b) c = leastO (addO a c) (addO b c)
    cases a <;> cases b <;> cases c <;> simp only [addO, leastO] <;> (congr 1; split <;> split <;> omega)
  scp := fun {a m n} _ _ _ => by
    show leastO a a = a
    cases a <;> simp [leastO]
  sct := fun _ _ => rfl
theorem lw_count : Lw (algN .count) where
  okm := fun ha hb => nu_tmN .count ha hb
  okv := fun h => h.1
  plc := fun {a b} ha hb => by
    obtain ⟨i, rfl⟩ := Option.isSome_iff_exists.mp (show a.isSome = true from ha)
    obtain ⟨j, rfl⟩ := Option.isSome_iff_exists.mp (show b.isSome = true from hb)
    exact congrArg some (Int.add_comm i j)
  pla := fun {a b c} ha hb hc => by
    obtain ⟨i, rfl⟩ := Option.isSome_iff_exists.mp (show a.isSome = true from ha)
    obtain ⟨j, rfl⟩ := Option.isSome_iff_exists.mp (show b.isSome = true from hb)
    obtain ⟨k, rfl⟩ := Option.isSome_iff_exists.mp (show c.isSome = true from hc)
    exact congrArg some (Int.add_assoc i j k)
  plz := fun {a} ha => by
    obtain ⟨i, rfl⟩ := Option.isSome_iff_exists.mp (show a.isSome = true from ha)
    exact congrArg some (Int.zero_add i)
  tmc := fun {a b} ha hb => by
    obtain ⟨i, rfl⟩ := Option.isSome_iff_exists.mp (show a.isSome = true from ha)
    obtain ⟨j, rfl⟩ := Option.isSome_iff_exists.mp (show b.isSome = true from hb)
    exact congrArg some (Int.mul_comm i j)
  tma := fun {a b c} ha hb hc => by
    obtain ⟨i, rfl⟩ := Option.isSome_iff_exists.mp (show a.isSome = true from ha)
    obtain ⟨j, rfl⟩ := Option.isSome_iff_exists.mp (show b.isSome = true from hb)
    obtain ⟨k, rfl⟩ := Option.isSome_iff_exists.mp (show c.isSome = true from hc)
    exact congrArg some (Int.mul_assoc i j k)
  tmo := fun {a} ha => by
    obtain ⟨i, rfl⟩ := Option.isSome_iff_exists.mp (show a.isSome = true from ha)
    exact congrArg some (Int.one_mul i)
  tmz := fun {a} ha => by
    obtain ⟨i, rfl⟩ := Option.isSome_iff_exists.mp (show a.isSome = true from ha)
    exact congrArg some (Int.zero_mul i)
  dis := fun {a b c} ha hb hc => by
    obtain ⟨i, rfl⟩ := Option.isSome_iff_exists.mp (show a.isSome = true from ha)
    obtain ⟨j, rfl⟩ := Option.isSome_iff_exists.mp (show b.isSome = true from hb)
    obtain ⟨k, rfl⟩ := Option.isSome_iff_exists.mp (show c.isSome = true from hc)
    exact congrArg some (Int.add_mul i j k)
  scp := fun {a m n} ha _ _ => by
    obtain ⟨i, rfl⟩ := Option.isSome_iff_exists.mp (show a.isSome = true from ha)
    exact congrArg some (Int.mul_add i m n).symm
  sct := fun {a b m n} ha hb => by
    obtain ⟨i, rfl⟩ := Option.isSome_iff_exists.mp (show a.isSome = true from ha)
    obtain ⟨j, rfl⟩ := Option.isSome_iff_exists.mp (show b.isSome = true from hb)
    show some (i * m * (j * n)) = some (i * j * (m * n))
    congr 1
    rw [Int.mul_assoc, Int.mul_assoc, Int.mul_left_comm m j n]
theorem lw_trust : Lw (algN .trust) where
  okm := fun ha hb => nu_tmN .trust ha hb
  okv := fun h => h.1
  plc := fun {a b} ha hb => by
    obtain ⟨i, rfl, _, _⟩ := (show NuN .trust a from ha)
    obtain ⟨j, rfl, _, _⟩ := (show NuN .trust b from hb)
    show some (if j > i then j else i) = some (if i > j then i else j)
    congr 1
    split <;> split <;> omega
  pla := fun {a b c} ha hb hc => by
    obtain ⟨i, rfl, _, _⟩ := (show NuN .trust a from ha)
    obtain ⟨j, rfl, _, _⟩ := (show NuN .trust b from hb)
    obtain ⟨k, rfl, _, _⟩ := (show NuN .trust c from hc)
    show some (if k > (if j > i then j else i) then k else (if j > i then j else i)) = some (if (if k > j then k else j) > i then (if k > j then k else j) else i)
    congr 1
    repeat' split
    all_goals omega
  plz := fun {a} ha => by
    obtain ⟨i, rfl, h0, _⟩ := (show NuN .trust a from ha)
    show some (if i > 0 then i else 0) = some i
    congr 1
    split <;> omega
  tmc := fun {a b} ha hb => by
    obtain ⟨i, rfl, _, _⟩ := (show NuN .trust a from ha)
    obtain ⟨j, rfl, _, _⟩ := (show NuN .trust b from hb)
    show some (if j < i then j else i) = some (if i < j then i else j)
    congr 1
    split <;> split <;> omega
  tma := fun {a b c} ha hb hc => by
    obtain ⟨i, rfl, _, _⟩ := (show NuN .trust a from ha)
    obtain ⟨j, rfl, _, _⟩ := (show NuN .trust b from hb)
    obtain ⟨k, rfl, _, _⟩ := (show NuN .trust c from hc)
    show some (if k < (if j < i then j else i) then k else (if j < i then j else i)) = some (if (if k < j then k else j) < i then (if k < j then k else j) else i)
    congr 1
    repeat' split
    all_goals omega
  tmo := fun {a} ha => by
    obtain ⟨i, rfl, _, h1⟩ := (show NuN .trust a from ha)
    show some (if i < 100 then i else 100) = some i
    congr 1
    split <;> omega
  tmz := fun {a} ha => by
    obtain ⟨i, rfl, h0, _⟩ := (show NuN .trust a from ha)
    show some (if i < 0 then i else 0) = some 0
    congr 1
    split <;> omega
  dis := fun {a b c} ha hb hc => by
    obtain ⟨i, rfl, _, _⟩ := (show NuN .trust a from ha)
    obtain ⟨j, rfl, _, _⟩ := (show NuN .trust b from hb)
    obtain ⟨k, rfl, _, _⟩ := (show NuN .trust c from hc)
    show some (if k < (if j > i then j else i) then k else (if j > i then j else i)) = some (if (if k < j then k else j) > (if k < i then k else i) then (if k < j then k else j) else (if k < i then k else i))
    congr 1
    repeat' split
    all_goals omega
  scp := fun {a m n} ha _ _ => by
    obtain ⟨i, rfl, _, _⟩ := (show NuN .trust a from ha)
    show some (if i > i then i else i) = some i
    congr 1
    split <;> rfl
  sct := fun _ _ => rfl
theorem lw_T (ps : List Str) (is : Bool) : Lw (algT ps is) where
  okm := fun _ _ => trivial
  okv := fun _ => trivial
  plc := fun {a b} _ _ => funext fun x => Bool.or_comm (a x) (b x)
  pla := fun {a b c} _ _ _ => funext fun x => Bool.or_assoc (a x) (b x) (c x)
  plz := fun {a} _ => funext fun x => Bool.false_or (a x)
  tmc := fun {a b} _ _ => funext fun x => Bool.and_comm (a x) (b x)
  tma := fun {a b c} _ _ _ => funext fun x => Bool.and_assoc (a x) (b x) (c x)
  tmo := fun {a} _ => funext fun x => Bool.true_and (a x)
  tmz := fun {a} _ => funext fun x => Bool.false_and (a x)
  dis := fun {a b c} _ _ _ => funext fun x => Bool.and_or_distrib_right (a x) (b x) (c x)
  scp := fun {a m n} _ _ _ => funext fun x => Bool.or_self (a x)
  sct := fun _ _ => rfl
theorem lw_N (m : Me) : Lw (algN m) := by
  cases m with
  | count => exact lw_count
  | cost => exact lw_cost
  | trust => exact lw_trust
end K8


set_option Elab.async false
set_option linter.all false
set_option maxRecDepth 100000
set_option maxHeartbeats 8000000
/-! the law's own sums and products of polynomials -/
namespace K8
open PySem L2 Nd Bk Gd
abbrev sQPlus : Stmt := topS 44
abbrev sQTimes : Stmt := topS 45
/-- a polynomial of the pool: its tokens may stand in texts -/
structure Pq (p : Poly) (n : Nat) : Prop where
  ok : POk p
  len : p.length ≤ n
  ml : ∀ t ∈ p, t.1.length ≤ 100
  sh : ∀ t ∈ p, ∀ x ∈ t.1, shU x.1 = true
def spQPlus (K : PySem.W.Frag) : Sp := fun vs H Q _ => ∃ (x y : V) (p q : Poly), vs = [x, y] ∧ Dp K H x (bD p) ∧ Dp K H y (bD q) ∧ Pq p 300 ∧ Pq q 300 ∧ ∀ (v : V) (H' : Hp), Same H H' → Dp K H' v (bD (plusP p q)) → Q v H'
def spQTimes (K : PySem.W.Frag) : Sp := fun vs H Q _ => ∃ (x y : V) (p q : Poly), vs = [x, y] ∧ Dp K H x (bD p) ∧ Dp K H y (bD q) ∧ Pq p 20 ∧ Pq q 20 ∧ (∀ t ∈ p, t.2 < 1000000) ∧ (∀ t ∈ q, t.2 < 1000000) ∧ ∀ (v : V) (H' : Hp), Same H H' → Dp K H' v (bD (timesP p q)) → Q v H'
section
variable {P : Program} {w : World} {K : PySem.W.Frag} {mg : Str → Option Value} {base : Heap}
theorem scQPlus : FnScope ["p", "q"] ["p", "q"] (defScope sQPlus) := ⟨rfl, rfl, rfl, by decide +kernel, rfl, by decide +kernel, by decide +kernel⟩
theorem ok_qplus {f : Addr} {fd : FuncData} (F : Fun K "_law_plus" "_law_plus" sQPlus f fd) (mLs : mg "list" = none) (Gy : Df P w K mg base 2 "_law_poly" ["terms"] (spPPoly K)) : FnOk P w K mg base CX0 3 f fd ["p", "q"] (spQPlus K) := by
  obtain ⟨fy, fdy, gY, kY, bY, GY⟩ := Gy.ok
  refine F.ok scQPlus (fun vs H Q E h => ?_) (fun cdv A outer s H vs Q E hr h => ?_)
  · obtain ⟨x, y, p, q, rfl, _⟩ := h
    rfl
  · obtain ⟨x, y, p, q, rfl, dx, dy, zp, zq, k⟩ := h
    have hr2 : Room 2 _ := hr.mono (by decide)
    refine ⟨_, pss_one (ps_ret (pe_call GY hr2 rfl gY kY bY .nil pass0 (pa_cons (pe_op op_cat (pe_callTy call_list_of (by rfl) mLs (by decide +kernel) (pa_cons (pv 0) pa_nil)) (pe_callTy call_list_of (by rfl) mLs (by decide +kernel) (pa_cons (pv 1) pa_nil))) pa_nil))), ?_⟩
    obtain ⟨a, xs, rfl, sa, la, da⟩ := dp_bag dx
    obtain ⟨b, ys, rfl, sb, lb, db⟩ := dp_bag dy
    have l1 := zp.len
    have l2 := zq.len
    refine ⟨_, rfl, a, xs, rfl, .inr sa, fun L1 n1 => ?_⟩
    have s1 : Same H (upd H L1 (.lst xs)) := sm_new sm_refl n1
    have g1 : upd H L1 (.lst xs) L1 = some (.lst xs) := upd_same
    generalize upd H L1 (.lst xs) = H1 at s1 g1 ⊢
    refine ⟨_, rfl, b, ys, rfl, .inr (sqT_same s1 sb), fun L2 n2 => ?_⟩
    have s2 : Same H1 (upd H1 L2 (.lst ys)) := sm_new sm_refl n2
    have g2 : upd H1 L2 (.lst ys) L2 = some (.lst ys) := upd_same
    generalize upd H1 L2 (.lst ys) = H2 at s2 g2 ⊢
    refine ⟨L1, L2, _, _, rfl, rfl, s2 _ _ g1, g2, by rw [sizeLine_eq]; omega, fun L3 n3 => ?_⟩
    have s3 : Same H2 (upd H2 L3 (.lst (xs ++ ys))) := sm_new sm_refl n3
    have g3 : upd H2 L3 (.lst (xs ++ ys)) L3 = some (.lst (xs ++ ys)) := upd_same
    generalize upd H2 L3 (.lst (xs ++ ys)) = H3 at s3 g3 ⊢
    have s03 := s1.trans (s2.trans s3)
    refine ⟨L3, _, p ++ q, rfl, SqL.of g3, ?_, fun t ht => ?_, by rw [List.length_append]; omega, fun v H' s d => k v H' (s03.trans s) d⟩
    · rw [List.map_append]; exact dpAll_append (dpAll_same s03 da) (dpAll_same s03 db)
    · rcases List.mem_append.mp ht with h | h
      · exact mono_K (zp.sh t h)
      · exact mono_K (zq.sh t h)
abbrev qtN : List Str := ["p", "q", "terms", "one", "number", "other", "more"]
theorem scQTimes : FnScope qtN ["p", "q"] (defScope sQTimes) := ⟨rfl, rfl, rfl, by decide +kernel, rfl, by decide +kernel, by decide +kernel⟩
theorem ok_qtimes {f : Addr} {fd : FuncData} (F : Fun K "_law_times" "_law_times" sQTimes f fd) (Gy : Df P w K mg base 2 "_law_poly" ["terms"] (spPPoly K)) (Gp : Df P w K mg base 2 "_law_product" ["one", "other"] (spPProd K)) : FnOk P w K mg base CX0 3 f fd ["p", "q"] (spQTimes K) := by
  obtain ⟨fy, fdy, gY, kY, bY, GY⟩ := Gy.ok
  obtain ⟨fp, fdp, gP, kP, bP, GP⟩ := Gp.ok
  refine F.ok scQTimes (fun vs H Q E h => ?_) (fun cdv A outer s H vs Q E hr h => ?_)
  · obtain ⟨x, y, p, q, rfl, _⟩ := h
    rfl
  · obtain ⟨x, y, p, q, rfl, dx, dy, zp, zq, cp, cq, k⟩ := h
    have hr2 : Room 2 _ := hr.mono (by decide)
    refine ⟨_, pss_cons (ps_set (i := 2) scQTimes.nd rfl (Or.inl rfl) (pe_lst pa_nil))
      (pss_cons (ps_for PassesOwn.never rfl (pi_seq (pv 0)) (pg_seq rfl (pgs_cons (pg_name (i := 3) scQTimes.nd rfl (Or.inr rfl)) (pgs_cons (pg_name (i := 4) scQTimes.nd rfl (Or.inr rfl)) pgs_nil)))
        (pss_one (ps_set (i := 2) scQTimes.nd rfl (Or.inl rfl) (pe_op op_cat (pv 2)
          (pe_lc (own := [("other", 5), ("more", 6)]) (g := gSeq K 2 (gCons (gName 5) (gCons (gName 6) gNil))) (tt := tYes) rfl scQTimes.nd (pi_tup (pv 1)) (blkOk_by (N := qtN) (sc := defScope sQTimes) (by decide +kernel))
            (fun _ _ _ _ _ => pg_seq rfl (pgs_cons (pg_name (i := 5) scQTimes.nd rfl (Or.inl rfl)) (pgs_cons (pg_name (i := 6) scQTimes.nd rfl (Or.inl rfl)) pgs_nil))) (fun _ _ _ _ _ => pts_nil)
            (fun _ _ _ _ _ => pe_tup (pa_cons (pe_call GP hr2 rfl gP kP bP .nil pass0 (pa_cons (pv 3) (pa_cons (pv 5) pa_nil))) (pa_cons (pe_op op_mul (pv 4) (pv 6)) pa_nil))))))))
      (pss_one (ps_ret (pe_call GY hr2 rfl gY kY bY .nil pass0 (pa_cons (pv 2) pa_nil))))), ?_⟩
    obtain ⟨a, xs, rfl, sa, la, da⟩ := dp_bag dx
    obtain ⟨b, ys, rfl, sb, lb, db⟩ := dp_bag dy
    have l1 := zp.len
    have l2 := zq.len
    refine ⟨(by show 0 ≤ sizeLine; decide), fun L0 n0 => ?_⟩
    have s0 : Same H (upd H L0 (.lst [])) := sm_new sm_refl n0
    have g0 : upd H L0 (.lst []) L0 = some (.lst []) := upd_same
    generalize upd H L0 (.lst []) = H0 at s0 g0 ⊢
    have pl : ∀ i, (prods (p.take i) q).length ≤ 20 * i := by
      intro i
      have key : ∀ l : Poly, (prods l q).length ≤ 20 * l.length := by
        intro l
        induction l with
        | nil => exact Nat.le_refl _
        | cons t l ih =>
          show (((q.map fun b => (mulM t.1 b.1, t.2 * b.2)) ++ prods l q)).length ≤ _
          rw [List.length_append, List.length_map, List.length_cons]
          omega
      refine Nat.le_trans (key _) ?_
      rw [List.length_take]; omega
    refine seq_go rfl (.inr (sqT_same s0 sa)) fun J G walk hG => ?_
    refine for_it walk (fun i τ H2 => ∃ L zs u3 u4, τ = [some (.ref a), some (.ref b), some (.ref L), u3, u4, none, none] ∧ Same H0 H2 ∧ H2 L = some (.lst zs) ∧ DpAll K H2 zs ((prods (p.take i) q).map encP)) ⟨L0, [], _, _, rfl, sm_refl, g0, .nil⟩ (fun i τ H2 _ ⟨_, _, _, _, _, s2, _⟩ => hG H2 s2.seq (sqT_same s2)) ?_ ?_
    · rintro i x τ H2 Hx hi ⟨L, zs, u3, u4, rfl, s2, hL, dz⟩ ⟨rfl, hx⟩
      obtain ⟨t, hti, hxt⟩ := bag_get (dpAll_same (s0.trans s2) da) hx
      have htm := List.mem_of_getElem? hti
      obtain ⟨T, kk, rfl, hT, hk⟩ := dp_pair hxt
      refine ⟨T, _, rfl, .inr hT, rfl, _, _, rfl, _, _, rfl, rfl, ?_⟩
      refine ⟨_, rfl, _, rfl, b, rfl, ⟨_, sqT_same (s0.trans s2) sb⟩, fun D nD => ?_⟩
      have t0 := cp t htm
      have t1 := zp.ok.2.1 t htm
      refine lc_tup (K := K) (a := b) (xs := ys) (fun j H3 => AccI K Hx D ((q.map fun u => (mulM t.1 u.1, t.2 * u.2)).map encP) j H3) (acc_zero nD) (fun j H3 _ aj => sqT_same ((s0.trans s2).trans aj.sm) sb) ?_ ?_
      · rintro j y H3 hj aj
        obtain ⟨u, hu, hyu⟩ := bag_get (dpAll_same ((s0.trans s2).trans aj.sm) db) hj
        have hum := List.mem_of_getElem? hu
        obtain ⟨T2, k2, rfl, hT2, hk2⟩ := dp_pair hyu
        have u0 := cq u hum
        have u1' := zq.ok.2.1 u hum
        have m1 := zp.ml t htm
        have m2 := zq.ml u hum
        refine ⟨T2, _, rfl, .inr hT2, rfl, _, _, rfl, _, _, rfl, rfl, rfl, _, rfl, _, rfl, kk, k2, t.1, u.1, rfl, dp_same aj.sm hk, hk2, zp.ok.2.2 t htm, zq.ok.2.2 u hum, fun x hx => ?_, by omega, fun R HR sR dR => ?_⟩
        · rcases List.mem_append.mp hx with h | h
          · exact shU_K (zp.sh t htm x h)
          · exact shU_K (zq.sh u hum x h)
        refine ⟨_, rfl, _, rfl, _, _, rfl, rfl, .inl ⟨by omega, by omega⟩, (by show 2 ≤ sizeLine; decide), fun W nW => ?_⟩
        have sW : Same HR (upd HR W (.tup [.ref R, .int (t.2 * u.2)])) := sm_new sm_refl nW
        exact acc_step aj nD (by rw [List.length_map, List.length_map]; omega) (tu_encPs _) (sR.trans sW) (by rw [List.getElem?_map, List.getElem?_map, hu]; rfl) (dp_mk (κ := Mono) (x := mulM t.1 u.1) (c := t.2 * u.2) (SqT.of upd_same) (dp_same sW dR))
      · rintro H3 aj
        obtain ⟨sj, zs4, hD, hz4⟩ := acc_end aj (by rw [lb, List.length_map, List.length_map])
        have b1 := pl i
        have b2 := dpAll_len dz
        have b3 := dpAll_len hz4
        rw [List.length_map] at b2 b3
        rw [List.length_map] at b3
        have b5 : i < p.length := (List.getElem?_eq_some_iff.mp hti).1
        refine ⟨L, D, zs, zs4, rfl, rfl, sj _ _ hL, hD, by rw [sizeLine_eq]; omega, fun R nR => ?_⟩
        have sR : Same H3 (upd H3 R (.lst (zs ++ zs4))) := sm_new sm_refl nR
        refine ⟨R, zs ++ zs4, _, _, rfl, (s2.trans sj).trans sR, upd_same, ?_⟩
        have e : prods (p.take (i + 1)) q = prods (p.take i) q ++ q.map fun u => (mulM t.1 u.1, t.2 * u.2) := by
          unfold prods
          rw [List.take_succ, hti, List.flatMap_append]
          show _ ++ [t].flatMap _ = _
          rw [List.flatMap_cons, List.flatMap_nil, List.append_nil]
        rw [e, List.map_append]
        exact dpAll_append (dpAll_same (sj.trans sR) dz) (dpAll_same sR hz4)
    · rintro τ H2 ⟨L, zs, u3, u4, rfl, s2, hL, dz⟩
      rw [la, List.take_length] at dz
      have b1 := pl p.length
      rw [List.take_length] at b1
      refine ⟨_, rfl, L, zs, prods p q, rfl, SqL.of hL, dz, fun t ht => ?_, by omega, fun v H' s d => k v H' ((s0.trans s2).trans s) d⟩
      obtain ⟨x1, hx1, h2⟩ := List.mem_flatMap.mp ht
      obtain ⟨y1, hy1, rfl⟩ := List.mem_map.mp h2
      refine mono_K fun z hz => ?_
      have key : ∀ z ∈ mulM x1.1 y1.1, shU z.1 = true := fun z hz => nf_key (Pk := fun k : Str => shU k = true) (fun w hw => (List.mem_append.mp hw).elim (zp.sh x1 hx1 w) (zq.sh y1 hy1 w)) z hz
      exact key z hz
end
end K8


set_option Elab.async false
set_option linter.all false
set_option maxRecDepth 100000
set_option maxHeartbeats 8000000
/-! valued by count, in the same words -/
namespace K8
open PySem L2 Nd Bk Gd PySem.ExE
def spValN (K : PySem.W.Frag) : Sp := fun vs H Q _ => ∃ (v g : V) (p : Poly) (gs : List (Str × V)) (τ : Str → Nat), vs = [v, .str count_, g] ∧ FD K H v (bD p) ∧ POk p ∧ Szd p ∧ (tokK p).length ≤ 1000 ∧ CntOk p ∧ GivenAt K H g gs ∧ (gs.map (·.1)).Nodup ∧ HasC gs τ p ∧ cntP τ p < B4 ∧
  ∀ H', Same H H' → Q (.int (cntP τ p)) H'
section
variable {P : Program} {w : World} {K : PySem.W.Frag} {mg : Str → Option Value} {base : Heap} {C : Addr}
theorem valN_of {k : Nat} {f : Addr} {fd : FuncData} (F : FnOk P w K mg base (L2.CX P w) k f fd ["p", "measure", "given"] (spValC K C)) : FnOk P w K mg base CX0 k f fd ["p", "measure", "given"] (spValN K) := by
  refine (calm0 F).imp ?_
  rintro vs H Q E ⟨v, g, p, gs, τ, rfl, h1, h2, h3, h4, h5, h6, h7, h8, h9, k⟩
  exact ⟨v, g, p, gs, τ, rfl, h1, h2, h3, h4, h5, h6, h7, h8, ⟨fun h => by omega, fun _ => k⟩⟩
end
theorem it_count {j : Int} (i : Int) : ∀ n : Nat, itA (algN .count) (some j) n (some i) = some (i * j ^ n)
  | 0 => by show some i = _; rw [Int.pow_zero, Int.mul_one]
  | n + 1 => by
    show tmN .count (itA (algN .count) (some j) n (some i)) (some j) = _
    rw [it_count i n]
    show some (i * j ^ n * j) = _
    rw [Int.pow_succ, Int.mul_assoc]
def natOf (σ : Str → Option Int) (z : Str) : Nat := ((σ z).getD 0).toNat
theorem cnt_worth {σ : Str → Option Int} (h : ∀ z, DvN .count (σ z)) (m : Mono) : worthA (algN .count) σ m = some (powC (natOf σ) m) := by
  have key : ∀ (m : Mono) (i : Int), m.foldl (fun a q => itA (algN .count) (σ q.1) q.2.toNat a) (some i) = some (m.foldl (fun a x => a * (natOf σ x.1 : Int) ^ x.2.toNat) i) := by
    intro m
    induction m with
    | nil => exact fun i => rfl
    | cons q r ih =>
      intro i
      obtain ⟨j, hj⟩ := Option.isSome_iff_exists.mp (show (σ q.1).isSome = true from (h q.1).1)
      obtain ⟨j0, _⟩ := (h q.1).2 j hj
      have e : (natOf σ q.1 : Int) = j := by unfold natOf; rw [hj]; exact Int.toNat_of_nonneg j0
      have e2 : itA (algN .count) (σ q.1) q.2.toNat (some i) = some (i * (natOf σ q.1 : Int) ^ q.2.toNat) := by
        rw [e]
        exact (congrArg (fun y : Option Int => itA (algN .count) y q.2.toNat (some i)) hj).trans (it_count i _)
      refine Eq.trans (congrArg (fun z : Option Int => r.foldl (fun (a : Option Int) (q : Str × Int) => itA (algN .count) (σ q.1) q.2.toNat a) z) e2) ?_
      exact ih (i * (natOf σ q.1 : Int) ^ q.2.toNat)
  exact key m 1
theorem cnt_res {σ : Str → Option Int} (h : ∀ z, DvN .count (σ z)) (p : Poly) : resA (algN .count) σ p = some (cntP (natOf σ) p) := by
  have key : ∀ (p : Poly) (i : Int), p.foldl (fun b t => (algN .count).pl b ((algN .count).sc (worthA (algN .count) σ t.1) t.2)) (some i) = some (p.foldl (fun s t => s + t.2 * powC (natOf σ) t.1) i) := by
    intro p
    induction p with
    | nil => exact fun i => rfl
    | cons t r ih =>
      intro i
      have e : (algN .count).pl (some i) ((algN .count).sc (some (powC (natOf σ) t.1)) t.2) = some (i + t.2 * powC (natOf σ) t.1) := by
        show some (i + powC (natOf σ) t.1 * t.2) = _
        rw [Int.mul_comm]
      have e2 : (algN .count).pl (some i) ((algN .count).sc (worthA (algN .count) σ t.1) t.2) = some (i + t.2 * powC (natOf σ) t.1) :=
        (congrArg (fun y : Option Int => (algN .count).pl (some i) ((algN .count).sc y t.2)) (cnt_worth h t.1)).trans e
      refine Eq.trans (congrArg (fun z : Option Int => r.foldl (fun (b : Option Int) (t : Mono × Int) => (algN .count).pl b ((algN .count).sc (worthA (algN .count) σ t.1) t.2)) z) e2) ?_
      exact ih (i + t.2 * powC (natOf σ) t.1)
  exact key p 0
def spCV (K : PySem.W.Frag) (ps : List Str) : Sp := fun vs H Q _ => ∃ (v g : V) (p : Poly) (gs : List (Str × V)) (σ : Str → Option Int), vs = [v, .str count_, g] ∧ FD K H v (bD p) ∧ POk p ∧ Szd p ∧ CntOk p ∧ (tokK p).length ≤ 1000 ∧ GivenAt K H g gs ∧
  (gs.map (·.1)).Nodup ∧ HasA K (algN .count) H gs ps σ p ∧ (∀ z, DvN .count (σ z)) ∧ cntP (natOf σ) p < B4 ∧ ∀ v H', Same H H' → Dp K H' v (oD (resA (algN .count) σ p)) → Q v H'
theorem pv_C {P : Program} {w : World} {K : PySem.W.Frag} {mg : Str → Option Value} {base : Heap} {f : Addr} {fd : FuncData} {k : Nat} {prm ps : List Str} (h : FnOk P w K mg base CX0 k f fd prm (spValN K)) : FnOk P w K mg base CX0 k f fd prm (spCV K ps) := h.imp fun vs H Q E ⟨v, g, p, gs, σ, e, dv, pok, szd, co, tl, ga, nd, has, dv2, bd, q⟩ => by
  refine ⟨v, g, p, gs, natOf σ, e, dv, pok, szd, tl, co, ga, nd, fun t ht x hx => ?_, bd, fun H' s => ?_⟩
  · obtain ⟨⟨ns, nb⟩, u, hu, fu⟩ := has.tok t ht x hx
    obtain ⟨j, hj⟩ := Option.isSome_iff_exists.mp (show (σ x.1).isSome = true from ns)
    obtain ⟨j0, j1⟩ := nb j hj
    have e1 : natOf σ x.1 = j.toNat := by unfold natOf; rw [hj]; rfl
    have e2 := fd_oD (o := σ x.1) fu
    rw [hj] at e2
    refine ⟨?_, ?_⟩
    · rw [hu, e2, e1, Int.toNat_of_nonneg j0]; rfl
    · rw [e1]
      by_cases z : j.toNat = 0
      · rw [z]; decide
      · exact Nat.lt_trans ((Nat.log2_lt z).mpr (show j.toNat < 2 ^ 20 by omega)) (by decide)
  · rw [cnt_res dv2] at q
    exact q _ H' s (.int _)
end K8


set_option Elab.async false
set_option linter.all false
set_option maxRecDepth 100000
set_option maxHeartbeats 8000000
/-! what is handed in tells each token's value, in any measure -/
namespace K8
open PySem L2 Nd Bk Gd PySem.ExE
/-- three keywords, told in their sequence -/
def kw3 {α : Type} (us : List α) (l : List α) : List α := match us, l with
  | [], [a, b, c] => [a, b, c]
  | _, _ => []
theorem kb_kw3 {K : PySem.W.Frag} {st : Stmt} {f : Addr} {fd : FuncData} {x y z u : Str} (F : Fun K x x st f fd)
    (h : ∀ (kV doc pm : Value) (an : Option Addr) (cdv ct : Value) (a b c : Value), bindArgs (PySem.W.fnOf x x (defArgs st) (defBody st) (defScope st) .none kV doc pm an cdv ct) ⟨[], [(y, a), (z, b), (u, c)]⟩ = pure [(y, a), (z, b), (u, c)]) : KBinds K fd [y, z, u] [y, z, u] kw3 kw3 := by
  obtain ⟨oc, od, kV, doc, pm, an, cdv, ct, osl, rfl, lk, hcd⟩ := F.ex
  refine ⟨fun s us ws _ hl => ?_, fun {vs us zs ws} r1 r2 => ?_⟩
  · match us, ws, hl with
    | [], [a, b, c], _ => exact .of_eq (h kV doc pm an cdv ct a b c)
    | [], [], hl => simp [kw3] at hl
    | [], [_], hl => simp [kw3] at hl
    | [], [_, _], hl => simp [kw3] at hl
    | [], _ :: _ :: _ :: _ :: _, hl => simp [kw3] at hl
    | _ :: _, _, hl => simp [kw3] at hl
  · cases r1 with
    | nil =>
      cases r2 with
      | nil => exact .nil
      | cons a b =>
        cases b with
        | nil => exact .nil
        | cons c d =>
          cases d with
          | nil => exact .nil
          | cons e g =>
            cases g with
            | nil => exact .cons a (.cons c (.cons e .nil))
            | cons _ _ => exact .nil
    | cons _ _ => exact .nil
/-- what stands there tells each token's value -/
theorem handedA {A : Alg} {K : PySem.W.Frag} {H : Hp} {ys : List V} {zs ps : List Str} {σ : Str → A.α} {p : Poly} (nd : zs.Nodup) (hl : ys.length = zs.length) (get : ∀ (i : Nat) (x : V), ys[i]? = some x → ∃ g, (zs.map fun z => (z, wA A ps σ z))[i]? = some g ∧ FD K H x (encG g))
    (sub : ∀ t ∈ p, ∀ x ∈ t.1, x.1 ∈ zs ∧ x.1 ≠ eps_) (tot : ∀ z, A.OkV (σ z)) (per : A.nm = seen_ → eps_ ∈ zs) : ∃ gs : List (Str × V), Paired (PairV K H) ys gs ∧ (gs.map (·.1)).Nodup ∧ HasA K A H gs ps σ p := by
  obtain ⟨gs, h1, h2⟩ := pairs_mk (by rw [List.length_map]; exact hl) get
  have hk := paired_keys h2
  have nd2 : (gs.map (·.1)).Nodup := by rw [hk, List.map_map]; show (zs.map fun z => z).Nodup; rw [List.map_id']; exact nd
  have mem : ∀ {xs : List (Str × V)} {ys : List (Str × PyData)}, Paired (fun (g : Str × V) (d : Str × PyData) => g.1 = d.1 ∧ FD K H g.2 d.2) xs ys → ∀ {y}, y ∈ ys → ∃ x ∈ xs, x.1 = y.1 ∧ FD K H x.2 y.2 := by
    intro xs ys hp
    induction hp with
    | nil => intro y m; cases m
    | cons h t ih =>
      intro y m
      rcases List.mem_cons.mp m with rfl | m
      · exact ⟨_, List.mem_cons_self, h⟩
      · obtain ⟨x, hx, r⟩ := ih m
        exact ⟨x, List.mem_cons_of_mem _ hx, r⟩
  have look : ∀ z ∈ zs, ∃ u, valV (kvG gs) (.inr z) = some u ∧ FD K H u (wA A ps σ z) := fun z hz => by
    obtain ⟨g, hg, e1, e2⟩ := mem h2 (List.mem_map.mpr ⟨z, hz, rfl⟩)
    refine ⟨g.2, valG_mem nd2 ?_, e2⟩
    have : g = (z, g.2) := Prod.ext e1 rfl
    rw [← this]; exact hg
  refine ⟨gs, h1, nd2, fun t ht x hx => ?_, fun e => ?_⟩
  · obtain ⟨a, b⟩ := sub t ht x hx
    obtain ⟨u, hu, fu⟩ := look _ a
    unfold wA at fu
    rw [if_neg b] at fu
    exact ⟨tot _, u, hu, fu⟩
  · obtain ⟨u, hu, fu⟩ := look _ (per e)
    unfold wA at fu
    rw [if_pos rfl] at fu
    exact ⟨u, hu, fu⟩
theorem ix_two {K : PySem.W.Frag} {H : Hp} {U : Addr} {x y : V} (h : SqT K H U [x, y]) (Q : VK) : (Q y H → rIx K (.ref U) (.int 1) H Q) ∧ (Q x H → rIx K (.ref U) (.int 0) H Q) :=
  ⟨fun q => .inr (.inl ⟨U, _, _, _, rfl, rfl, h, rfl, q⟩), fun q => .inr (.inl ⟨U, _, _, _, rfl, rfl, h, rfl, q⟩)⟩
theorem GaAt.but {A : Alg} {K : PySem.W.Frag} {H H' : Hp} {p D : Addr} {fs ps : List Str} {σ : Str → A.α} {ys : List V} {zs : List Str} {gs : List (Str × V)} (G : GaAt K A H D fs ps σ ys zs gs) (nt : NotT (H p)) (b : But p H H') (n : D ≠ p) : GaAt K A H' D fs ps σ ys zs gs :=
  have kt : KeepT H H' := .but nt b
  ⟨G.tot, b _ _ G.dct n, G.keys, fun g hg => ⟨(G.val g hg).1, dp_kt0 kt (G.val g hg).2 (A.tup _)⟩, dpAll_kt0 kt G.prs (tu_encAs ..), G.nd, G.all, G.sub, G.per, G.len⟩
theorem GaAt.has {A : Alg} {K : PySem.W.Frag} {H : Hp} {D : Addr} {fs ps : List Str} {σ : Str → A.α} {ys : List V} {zs : List Str} {gs : List (Str × V)} (G : GaAt K A H D fs ps σ ys zs gs) (nd : fs.Nodup) {p : Poly} (sub : ∀ t ∈ p, ∀ x ∈ t.1, x.1 ∈ fs) :
    ∀ t ∈ p, ∀ x ∈ t.1, A.OkV (σ x.1) ∧ ∃ u, valV (kvG gs) (.inr x.1) = some u ∧ Dp K H u (A.enc (σ x.1)) := fun t ht x hx => by
  have m : x.1 ∈ gs.map (·.1) := by rw [G.keys]; exact sub t ht x hx
  obtain ⟨g, hg, e⟩ := List.mem_map.mp m
  refine ⟨G.tot _, g.2, valG_mem (by rw [G.keys]; exact nd) ?_, e ▸ (G.val g hg).2⟩
  have : g = (x.1, g.2) := Prod.ext e rfl
  rw [← this]; exact hg
theorem GaAt.get {A : Alg} {K : PySem.W.Frag} {H : Hp} {D : Addr} {fs ps : List Str} {σ : Str → A.α} {ys : List V} {zs : List Str} {gs : List (Str × V)} (G : GaAt K A H D fs ps σ ys zs gs) :
    ys.length = zs.length ∧ ∀ (i : Nat) (x : V), ys[i]? = some x → ∃ g, (zs.map fun z => (z, wA A ps σ z))[i]? = some g ∧ FD K H x (encG g) :=
  ⟨by rw [dpAll_len G.prs, List.length_map], fun i x hx => by
    obtain ⟨e, h1, h2⟩ := dpAll_get G.prs hx
    rw [List.getElem?_map] at h1
    obtain ⟨y, hy, rfl⟩ := Option.map_eq_some_iff.mp h1
    exact ⟨(y, wA A ps σ y), by rw [List.getElem?_map, hy]; rfl, FD.of h2 (tu_encA ..)⟩⟩
end K8


set_option Elab.async false
set_option linter.all false
set_option maxRecDepth 100000
set_option maxHeartbeats 8000000
/-! valued, one spec for any measure -/
namespace K8
open PySem L2 Nd Bk Gd PySem.ExE
theorem pow_cast {a b : Nat} (h : a ≤ b) (n : Nat) : (a : Int) ^ n ≤ (b : Int) ^ n := by
  rw [← Int.natCast_pow, ← Int.natCast_pow]
  exact Int.ofNat_le.mpr (Nat.pow_le_pow_left h n)
theorem pow_exp {b m n : Nat} (h : m ≤ n) (hb : 0 < b) : (b : Int) ^ m ≤ (b : Int) ^ n := by
  rw [← Int.natCast_pow, ← Int.natCast_pow]
  exact Int.ofNat_le.mpr (Nat.pow_le_pow_right hb h)
theorem pow_cap {m : Mono} {τ : Str → Nat} (h : ∀ x ∈ m, 0 < x.2) (ht : ∀ z, τ z ≤ 1000000) : powC τ m ≤ (1000000 : Int) ^ (S m).toNat := by
  have key : ∀ (m : Mono) (i : Int), (∀ x ∈ m, 0 < x.2) → 0 ≤ i → m.foldl (fun a x => a * (τ x.1 : Int) ^ x.2.toNat) i ≤ i * (1000000 : Int) ^ (S m).toNat := by
    intro m
    induction m with
    | nil =>
      intro i _ _
      have : S ([] : Mono) = 0 := S_nil0
      rw [this]
      show i ≤ i * 1
      omega
    | cons x r ih =>
      intro i hp hi
      have x0 := hp x List.mem_cons_self
      have hr : ∀ y ∈ r, 0 < y.2 := fun y hy => hp y (List.mem_cons_of_mem _ hy)
      have sr : 0 ≤ S r := S_nn fun y hy => Int.le_of_lt (hr y hy)
      have e : S (x :: r) = x.2 + S r := by unfold S; rw [pr_cons]; omega
      have p0 : (0 : Int) ≤ (τ x.1 : Int) ^ x.2.toNat := Int.pow_nonneg (Int.natCast_nonneg _)
      have p1 : (τ x.1 : Int) ^ x.2.toNat ≤ (1000000 : Int) ^ x.2.toNat := pow_cast (ht x.1) x.2.toNat
      rw [List.foldl_cons]
      refine Int.le_trans (ih _ hr (Int.mul_nonneg hi p0)) ?_
      rw [e, Int.toNat_add (Int.le_of_lt x0) sr, Int.pow_add, ← Int.mul_assoc]
      exact Int.mul_le_mul_of_nonneg_right (Int.mul_le_mul_of_nonneg_left p1 hi) (Int.pow_nonneg (by decide))
  have := key m 1 h (by decide)
  rw [Int.one_mul] at this
  exact this
/-- a polynomial whose count has few figures -/
structure Few (p : Poly) : Prop where
  len : p.length ≤ 300
  co : ∀ t ∈ p, 0 < t.2 ∧ t.2 < 1000000
  dg : ∀ t ∈ p, S t.1 ≤ 100
theorem cnt_few {p : Poly} {τ : Str → Nat} (pok : POk p) (h : Few p) (ht : ∀ z, τ z ≤ 1000000) : cntP τ p < B4 := by
  have cap : ∀ t ∈ p, powC τ t.1 ≤ (1000000 : Int) ^ 100 := fun t htm => by
    refine Int.le_trans (pow_cap (fun x hx => (pok.2.2 t htm).2 x hx) ht) ?_
    have : (S t.1).toNat ≤ 100 := by have := h.dg t htm; omega
    exact pow_exp (b := 1000000) this (by decide)
  have key : ∀ (p : Poly) (i : Int), (∀ t ∈ p, powC τ t.1 ≤ (1000000 : Int) ^ 100 ∧ 0 < t.2 ∧ t.2 < 1000000) → p.foldl (fun s t => s + t.2 * powC τ t.1) i ≤ i + p.length * (1000000 * (1000000 : Int) ^ 100) := by
    intro p
    induction p with
    | nil => intro i _; simp
    | cons t r ih =>
      intro i hp
      obtain ⟨c1, c2, c3⟩ := hp t List.mem_cons_self
      have c4 : t.2 * powC τ t.1 ≤ 1000000 * (1000000 : Int) ^ 100 := Int.le_trans (Int.mul_le_mul_of_nonneg_left c1 (Int.le_of_lt c2)) (Int.mul_le_mul_of_nonneg_right (Int.le_of_lt c3) (Int.pow_nonneg (by decide)))
      rw [List.foldl_cons, List.length_cons]
      refine Int.le_trans (ih _ fun u hu => hp u (List.mem_cons_of_mem _ hu)) ?_
      have e : (((r.length + 1 : Nat) : Int)) * (1000000 * (1000000 : Int) ^ 100) = r.length * (1000000 * (1000000 : Int) ^ 100) + 1000000 * (1000000 : Int) ^ 100 := by
        rw [Int.natCast_add, Int.add_mul]; simp
      rw [e]
      generalize (1000000 * (1000000 : Int) ^ 100) = Z at c4 ⊢
      generalize (r.length : Int) * Z = Y
      omega
  have k1 := key p 0 fun t ht => ⟨cap t ht, h.co t ht⟩
  rw [Int.zero_add] at k1
  refine Int.lt_of_le_of_lt k1 ?_
  have l := h.len
  have : (p.length : Int) * (1000000 * (1000000 : Int) ^ 100) ≤ 300 * (1000000 * (1000000 : Int) ^ 100) := Int.mul_le_mul_of_nonneg_right (by omega) (by decide +kernel)
  exact Int.lt_of_le_of_lt this (by decide +kernel)
def spVA (K : PySem.W.Frag) (A : Alg) (ps : List Str) : Sp := fun vs H Q _ => ∃ (v g : V) (p : Poly) (gs : List (Str × V)) (σ : Str → A.α), vs = [v, .str A.nm, g] ∧ FD K H v (bD p) ∧ POk p ∧ Szd p ∧ Few p ∧ (tokK p).length ≤ 1000 ∧ GivenAt K H g gs ∧
  (gs.map (·.1)).Nodup ∧ HasA K A H gs ps σ p ∧ (∀ z, A.OkV (σ z)) ∧ ∀ v H', Same H H' → Dp K H' v (A.enc (resA A σ p)) → Q v H'
section
variable {P : Program} {w : World} {K : PySem.W.Frag} {mg : Str → Option Value} {base : Heap} {f : Addr} {fd : FuncData} {k : Nat} {prm ps : List Str}
theorem ex_few {p : Poly} (pok : POk p) (h : Few p) : ∀ t ∈ p, ∀ x ∈ t.1, 1 ≤ x.2 ∧ x.2 ≤ 100 := fun t ht x hx => by
  have a := (pok.2.2 t ht).2 x hx
  have b := S_mem (pok.2.2 t ht).2 x hx
  have c := h.dg t ht
  omega
theorem va_P {A : Alp} (h : FnOk P w K mg base CX0 k f fd prm (spPV K A ps)) : FnOk P w K mg base CX0 k f fd prm (spVA K A.toAlg ps) := h.imp fun vs H Q E ⟨v, g, p, gs, σ, e, dv, pok, szd, few, tl, ga, nd, has, tot, q⟩ =>
  ⟨v, g, p, gs, σ, e, dv, pok, szd, fun t ht x hx => by have := ex_few pok few t ht x hx; omega, tl, ga, nd, has, q⟩
theorem va_C (h : FnOk P w K mg base CX0 k f fd prm (spValN K)) : FnOk P w K mg base CX0 k f fd prm (spVA K (algN .count) ps) := (pv_C (ps := ps) h).imp fun vs H Q E ⟨v, g, p, gs, σ, e, dv, pok, szd, few, tl, ga, nd, has, tot, q⟩ => by
  refine ⟨v, g, p, gs, σ, e, dv, pok, szd, ⟨fun t ht => ?_, fun t ht x hx => ?_⟩, tl, ga, nd, has, tot, cnt_few pok few fun z => ?_, q⟩
  · have := few.co t ht
    have b : (1000000 : Int) < BEY := by decide +kernel
    exact ⟨by omega, by omega⟩
  · have := ex_few pok few t ht x hx
    exact ⟨this.1, by omega⟩
  · unfold natOf
    cases hz : σ z with
    | none => exact Nat.zero_le _
    | some i =>
      have := (tot z).2 i hz
      show i.toNat ≤ 1000000
      omega
end
end K8


set_option Elab.async false
set_option linter.all false
set_option maxRecDepth 100000
set_option maxHeartbeats 8000000
/-! the program's sums, products and ends, one spec for any measure; the law's product of two parts -/
namespace K8
open PySem L2 Nd Bk Gd PySem.ExE
def spMS (K : PySem.W.Frag) (A : Alg) : Sp := fun vs H Q _ => ∃ (a b : V) (x y : A.α), vs = [.str A.nm, a, b] ∧ A.Ok x ∧ A.Ok y ∧ FD K H a (A.enc x) ∧ FD K H b (A.enc y) ∧ ∀ v H', Same H H' → Dp K H' v (A.enc (A.pl x y)) → Q v H'
/-- a product of two values: numbers of not too many figures -/
def spMT (K : PySem.W.Frag) (A : Alg) : Sp := fun vs H Q _ => ∃ (a b : V) (x y : A.α), vs = [.str A.nm, a, b] ∧ A.Ok x ∧ A.Ok y ∧ (A.nm = count_ → ∀ i j, A.enc x = .int i → A.enc y = .int j → CMulW i j) ∧ FD K H a (A.enc x) ∧ FD K H b (A.enc y) ∧ ∀ v H', Same H H' → Dp K H' v (A.enc (A.tm x y)) → Q v H'
def spMZ (K : PySem.W.Frag) (A : Alg) : Sp := fun vs H Q _ => ∃ x : V, vs = [.str A.nm, x] ∧ ∀ v H', Same H H' → Dp K H' v (A.enc A.ze) → Q v H'
def spMO (K : PySem.W.Frag) (A : Alg) (ps : List Str) : Sp := fun vs H Q _ => ∃ x : V, vs = [.str A.nm, x] ∧ (A.nm = seen_ → FD K H x (.tuple (ps.map .str))) ∧ ∀ v H', Same H H' → Dp K H' v (A.enc A.on) → Q v H'
section
variable {P : Program} {w : World} {K : PySem.W.Frag} {mg : Str → Option Value} {base : Heap} {f : Addr} {fd : FuncData} {k : Nat} {prm ps : List Str}
theorem ms_P {A : Alp} (h : FnOk P w K mg base CX0 k f fd prm (spPS K A)) : FnOk P w K mg base CX0 k f fd prm (spMS K A.toAlg) := h.imp fun vs H Q E q => q
theorem mt_P {A : Alp} (h : FnOk P w K mg base CX0 k f fd prm (spPB K A)) : FnOk P w K mg base CX0 k f fd prm (spMT K A.toAlg) := h.imp fun vs H Q E ⟨a, b, x, y, e, ox, oy, _, da, db, q⟩ => ⟨a, b, x, y, e, ox, oy, da, db, q⟩
theorem mz_P {A : Alp} (h : FnOk P w K mg base CX0 k f fd prm (spPZ K A)) : FnOk P w K mg base CX0 k f fd prm (spMZ K A.toAlg) := h.imp fun vs H Q E q => q
theorem mo_P {A : Alp} (h : FnOk P w K mg base CX0 k f fd prm (spPO K A ps)) : FnOk P w K mg base CX0 k f fd prm (spMO K A.toAlg ps) := h.imp fun vs H Q E q => q
theorem ms_C (h : FnOk P w K mg base CX0 k f fd prm spPlC) : FnOk P w K mg base CX0 k f fd prm (spMS K (algN .count)) := h.imp fun vs H Q E ⟨a, b, x, y, e, ox, oy, da, db, q⟩ => by
  obtain ⟨i, rfl⟩ := Option.isSome_iff_exists.mp (show x.isSome = true from ox)
  obtain ⟨j, rfl⟩ := Option.isSome_iff_exists.mp (show y.isSome = true from oy)
  cases fd_oD (o := some i) da
  cases fd_oD (o := some j) db
  exact ⟨i, j, e, q _ _ sm_refl (.int _)⟩
theorem mz_C (h : FnOk P w K mg base CX0 k f fd prm spZeC) : FnOk P w K mg base CX0 k f fd prm (spMZ K (algN .count)) := h.imp fun vs H Q E ⟨x, e, q⟩ => ⟨x, e, q _ _ sm_refl (.int _)⟩
theorem mo_C (h : FnOk P w K mg base CX0 k f fd prm spOnC) : FnOk P w K mg base CX0 k f fd prm (spMO K (algN .count) ps) := h.imp fun vs H Q E ⟨x, e, _, q⟩ => ⟨x, e, q _ _ sm_refl (.int _)⟩
/-- the product by count, of numbers of not too many figures -/
theorem mt_C (F : Fun K "measured_times" "measured_times" sMTimes f fd) : FnOk P w K mg base CX0 1 f fd ["measure", "a", "b"] (spMT K (algN .count)) := by
  refine F.ok scMTimes (fun vs H Q E h => ?_) (fun cdv A outer s H vs Q E hr h => ?_)
  · obtain ⟨a, b, x, y, rfl, _⟩ := h
    rfl
  · obtain ⟨a, b, x, y, rfl, ox, oy, cm, da, db, q⟩ := h
    obtain ⟨i, rfl⟩ := Option.isSome_iff_exists.mp (show x.isSome = true from ox)
    obtain ⟨j, rfl⟩ := Option.isSome_iff_exists.mp (show y.isSome = true from oy)
    cases fd_oD (o := some i) da
    cases fd_oD (o := some j) db
    refine ⟨_, pss_cons (ps_if (pt_cmpR op_eq (pv 0) pe_str (nomark _)) (pss_one (ps_ret (pe_op op_mulW (pv 1) (pv 2)))) pss_nil) pss_never, ?_⟩
    exact ⟨_, rfl, rfl, true, dy, iteT ⟨_, rfl, _, rfl, _, _, rfl, rfl, cm rfl i j rfl rfl, q _ _ sm_refl (.int _)⟩⟩
/-- the law's own product of two values -/
theorem lt_N {m : Me} (h : FnOk P w K mg base CX0 k f fd prm (spNB m)) : FnOk P w K mg base CX0 k f fd prm (spMT K (algN m)) := h.imp fun vs H Q E ⟨a, b, x, y, e, ox, oy, cm, da, db, q⟩ => by
  cases fd_oD (o := x) da
  cases fd_oD (o := y) db
  refine ⟨x, y, e, ox, oy, fun hm i j hx hy => ?_, fun H' s => q _ H' s (dp_ov _)⟩
  subst hm; subst hx; subst hy
  exact cm rfl i j rfl rfl
theorem lt_T {is : Bool} (hp : PsOk ps) (h : FnOk P w K mg base CX0 k f fd prm (spGBoth K)) {Ok : V → Prop} : FnOk P w K mg base CX0 k f fd prm (fun vs H Q _ => ∃ (a b : V) (x y : Str → Bool), vs = [.str (me is), a, b] ∧ Dp K H a (tvD ps is x) ∧ Dp K H b (tvD ps is y) ∧ ∀ v H', Same H H' → Dp K H' v (tvD ps is fun z => x z && y z) → Q v H') := h.imp fun vs H Q E ⟨a, b, x, y, e, da, db, q⟩ => ⟨is, a, b, ps, x, y, e, hp, da, db, q⟩
end
end K8


set_option Elab.async false
set_option linter.all false
set_option maxRecDepth 100000
set_option maxHeartbeats 8000000
/-! polynomials over few tokens, so many terms, numbers and exponents that stay below; what _law_met is handed -/
namespace K8
open PySem L2 Nd Bk Gd PySem.ExE
structure Pf (fs : List Str) (p : Poly) (l : Nat) (s d : Int) : Prop where
  pz : PZ p l s d
  sub : ∀ t ∈ p, ∀ x ∈ t.1, x.1 ∈ fs
section
variable {fs : List Str} {p q : Poly} {l l' : Nat} {s s' d d' : Int}
theorem Pf.weak (h : Pf fs p l s d) (h1 : l ≤ l') (h2 : s ≤ s') (h3 : d ≤ d') : Pf fs p l' s' d' :=
  ⟨⟨h.pz.ok, Nat.le_trans h.pz.len h1, Int.le_trans h.pz.sz h2, fun t ht => Int.le_trans (h.pz.dg t ht) h3⟩, h.sub⟩
theorem Pf.plus (hp : Pf fs p l s d) (hq : Pf fs q l' s' d) : Pf fs (plusP p q) (l + l') (s + s') d := by
  refine ⟨⟨plusP_ok hp.pz.ok hq.pz.ok, ?_, ?_, ?_⟩, ?_⟩
  · refine Nat.le_trans (nf_len _) ?_
    rw [List.length_append]
    exact Nat.add_le_add hp.pz.len hq.pz.len
  · rw [S_plus]
    exact Int.add_le_add hp.pz.sz hq.pz.sz
  · exact nf_key (Pk := fun m => S m ≤ d) fun t ht => (List.mem_append.mp ht).elim (hp.pz.dg t) (hq.pz.dg t)
  · exact nf_key (Pk := fun m : Mono => ∀ x ∈ m, x.1 ∈ fs) fun t ht => (List.mem_append.mp ht).elim (hp.sub t) (hq.sub t)
theorem Pf.times (hp : Pf fs p l s d) (hq : Pf fs q l' s' d') : Pf fs (timesP p q) (l * l') (s * s') (d + d') := by
  refine ⟨⟨timesP_ok hp.pz.ok hq.pz.ok, ?_, ?_, ?_⟩, ?_⟩
  · refine Nat.le_trans (nf_len _) ?_
    rw [len_prods]
    exact Nat.mul_le_mul hp.pz.len hq.pz.len
  · rw [S_times]
    exact Int.mul_le_mul hp.pz.sz hq.pz.sz hq.pz.sz0 (Int.le_trans hp.pz.sz0 hp.pz.sz)
  · refine nf_key (Pk := fun m => S m ≤ d + d') fun t ht => ?_
    obtain ⟨a, ha, b, hb, rfl⟩ := mem_prods ht
    show S (mulM a.1 b.1) ≤ _
    rw [S_mulM]
    exact Int.add_le_add (hp.pz.dg a ha) (hq.pz.dg b hb)
  · refine nf_key (Pk := fun m : Mono => ∀ x ∈ m, x.1 ∈ fs) fun t ht => ?_
    obtain ⟨a, ha, b, hb, rfl⟩ := mem_prods ht
    have key : ∀ z ∈ mulM a.1 b.1, z.1 ∈ fs := fun z hz => nf_key (Pk := fun k : Str => k ∈ fs) (fun w hw => (List.mem_append.mp hw).elim (hp.sub a ha w) (hq.sub b hb w)) z hz
    exact key
theorem Pf.few (h : Pf fs p l s d) (h1 : l ≤ 300) (h2 : s < 1000000) (h3 : d ≤ 100) : Few p := by
  refine ⟨Nat.le_trans h.pz.len h1, fun t ht => ?_, fun t ht => Int.le_trans (h.pz.dg t ht) h3⟩
  have a := h.pz.ok.2.1 t ht
  have b := le_S h.pz.ok.2.1 ht
  have c := h.pz.sz
  omega
theorem Pf.szd (h : Pf fs p l s d) (h1 : l ≤ 300) (h3 : d ≤ 100) : Szd p := by
  refine ⟨Nat.le_trans (Nat.le_trans h.pz.len h1) (by decide), fun t ht => ?_⟩
  have a := len_le_S (h.pz.ok.2.2 t ht).2
  have b := h.pz.dg t ht
  omega
theorem Pf.tks (h : Pf fs p l s d) (hf : fs.length ≤ 1000) : (tokK p).length ≤ 1000 := by
  refine Nat.le_trans (nd_le (tokK_nodup _) fun z hz => ?_) hf
  obtain ⟨t, ht, x, hx, rfl⟩ := tokK_mem hz
  exact h.sub t ht x hx
theorem Pf.small (h : Pf fs p l s d) (h2 : s < 1000) (h3 : d < 1000) : ∀ t ∈ p, (0 < t.2 ∧ t.2 < 1000) ∧ ∀ x ∈ t.1, 0 < x.2 ∧ x.2 < 1000 := fun t ht => by
  have a := h.pz.ok.2.1 t ht
  have b := le_S h.pz.ok.2.1 ht
  have c := h.pz.sz
  refine ⟨by omega, fun x hx => ?_⟩
  have a1 := (h.pz.ok.2.2 t ht).2 x hx
  have b1 := le_S (h.pz.ok.2.2 t ht).2 hx
  have c1 := h.pz.dg t ht
  omega
end
/-- what _law_met is handed -/
structure MetC (K : PySem.W.Frag) (A : Alg) (p c PL D T TP : Addr) (ms : List Int) (fs ps : List Str) (σ : Str → A.α) (ys : List V) (zs : List Str) (gs : List (Str × V)) (x0 x1 x2 : V) (P0 P1 P2 : Poly) (H : Hp) : Prop where
  pool : PoolAt H p c ms
  pls : H PL = some (.lst [x0, x1, x2])
  plp : PL ≠ p
  d0 : Dp K H x0 (bD P0)
  d1 : Dp K H x1 (bD P1)
  d2 : Dp K H x2 (bD P2)
  G : GaAt K A H D fs ps σ ys zs gs
  hT : SqT K H T ys
  pT : PlainT H T
  hTP : SqT K H TP (ps.map V.str)
  dp : D ≠ p
section
variable {K : PySem.W.Frag} {A : Alg} {p c PL D T TP : Addr} {ms : List Int} {fs ps : List Str} {σ : Str → A.α} {ys : List V} {zs : List Str} {gs : List (Str × V)} {x0 x1 x2 : V} {P0 P1 P2 : Poly} {H H' : Hp}
theorem MetC.but (M : MetC K A p c PL D T TP ms fs ps σ ys zs gs x0 x1 x2 P0 P1 P2 H) (b : But p H H') (P' : PoolAt H' p c ms) : MetC K A p c PL D T TP ms fs ps σ ys zs gs x0 x1 x2 P0 P1 P2 H' :=
  have nt := M.pool.notT
  have kt : KeepT H H' := .but nt b
  ⟨P', b _ _ M.pls M.plp, M.plp, dp_kt0 kt M.d0 (tu_bD _), dp_kt0 kt M.d1 (tu_bD _), dp_kt0 kt M.d2 (tu_bD _), M.G.but nt b M.dp, sqT_kt kt M.hT, M.pT.kt kt, sqT_kt kt M.hTP, M.dp⟩
theorem MetC.same (M : MetC K A p c PL D T TP ms fs ps σ ys zs gs x0 x1 x2 P0 P1 P2 H) (s : Same H H') : MetC K A p c PL D T TP ms fs ps σ ys zs gs x0 x1 x2 P0 P1 P2 H' := M.but (But.refl.same s) (M.pool.same s)
/-- valued, of a polynomial and the pairs as they stand -/
theorem go_va {v : V} {P : Poly} {l : Nat} {s d : Int} {Q : VK} (G : GaAt K A H D fs ps σ ys zs gs) (hT : SqT K H T ys) (pT : PlainT H T) (nep : eps_ ∉ fs) (fl : fs.length ≤ 6) (hv : FD K H v (bD P)) (z : Pf fs P l s d) (h1 : l ≤ 300) (h2 : s < 1000000) (h3 : d ≤ 100)
    (k : ∀ v' H', Same H H' → Dp K H' v' (A.enc (resA A σ P)) → Q v' H') : spVA K A ps [v, .str A.nm, .ref T] H Q E0 := by
  obtain ⟨gs9, pg9, nd9, has9⟩ := handedA (K := K) (H := H) (p := P) G.nd G.get.1 G.get.2 (fun t ht x hx => ⟨G.all _ (z.sub t ht x hx), fun e => nep (e ▸ z.sub t ht x hx)⟩) G.tot G.per
  exact ⟨v, .ref T, P, gs9, σ, rfl, hv, z.pz.ok, z.szd h1 h3, z.few h1 h2 h3, z.tks (by omega), ⟨T, ys, rfl, .inr ⟨pT, hT⟩, pg9⟩, nd9, has9, G.tot, k⟩
theorem go_val {v : V} {P : Poly} {l : Nat} {s d : Int} {Q : VK} (G : GaAt K A H D fs ps σ ys zs gs) (hTP : SqT K H TP (ps.map V.str)) (fnd : fs.Nodup) (hv : Dp K H v (bD P)) (z : Pf fs P l s d) (h2 : s < 1000) (h3 : d < 1000)
    (k : ∀ v' H', Same H H' → Dp K H' v' (A.enc (resA A σ P)) → Q v' H') : spAVal K A ps [v, .str A.nm, .ref D, .ref TP] H Q E0 :=
  ⟨v, D, TP, P, kvG gs, σ, rfl, FD.of hv (tu_bD _), z.small h2 h3, G.dct, hTP, G.has fnd z.sub, k⟩
end
/-- numbers that may be multiplied -/
theorem cmul_small {i j : Int} (i0 : 0 ≤ i) (i1 : i < B4) (j0 : 0 ≤ j) (j1 : j < B4) : CMulW i j := by
  have a := log_le i0 (Int.le_of_lt i1)
  have b := log_le j0 (Int.le_of_lt j1)
  unfold CMulW
  omega
/-- each value of a measure of numbers is of few figures -/
def SmA (A : Alg) : Prop := A.nm = Str.ofString "count" → ∀ (σ : Str → A.α) (p : Poly), (∀ z, A.OkV (σ z)) → POk p → Few p → ∀ i, A.enc (resA A σ p) = .int i → 0 ≤ i ∧ i < B4
end K8


set_option Elab.async false
set_option linter.all false
set_option maxRecDepth 100000
set_option maxHeartbeats 8000000
/-! _law_met (begun: the term of its body) -/
namespace K8
open PySem L2 Nd Bk Gd PySem.ExE
abbrev sMet : Stmt := topS 60
section
variable {P : Program} {w : World} {K : PySem.W.Frag} {mg : Str → Option Value} {base : Heap}
abbrev metN : List Str := ["pool", "measure", "polys", "values", "pairs", "persons", "p", "q", "r", "parts", "k", "both", "product", "due", "one"]
theorem scMet : FnScope metN ["pool", "measure", "polys", "values", "pairs", "persons"] (defScope sMet) := ⟨rfl, rfl, rfl, by decide +kernel, rfl, by decide +kernel, by decide +kernel⟩
theorem ix_l {K : PySem.W.Frag} {H : Hp} {L : Addr} {xs : List V} {j : Nat} {x : V} {Q : VK} (h : SqL K H L xs) (e : xs[j]? = some x) (q : Q x H) : rIx K (.ref L) (.int ((j : Nat) : Int)) H Q := .inl ⟨L, xs, _, x, rfl, rfl, h, atI_nat e, q⟩
theorem okd_prsA {A : Alg} (okA : ∀ x, Okd 2 (A.enc x)) (ps : List Str) (h : ps.length ≤ 4) (σ : Str → A.α) (zs : List Str) (hz : zs.length ≤ 1000) : Okd 4 (.tuple (zs.map (encA A ps σ))) := by
  refine .inr (.inr ⟨_, rfl, by rw [List.length_map]; exact hz, fun e he => ?_⟩)
  obtain ⟨z, _, rfl⟩ := List.mem_map.mp he
  refine .inr (.inr ⟨_, rfl, by show 2 ≤ 1000; decide, fun e he => ?_⟩)
  simp only [List.mem_cons, List.not_mem_nil, or_false] at he
  rcases he with rfl | rfl
  · exact .inr (.inl ⟨_, rfl⟩)
  · unfold wA
    split
    · refine .inr (.inr ⟨_, rfl, by rw [List.length_map]; omega, fun e he => ?_⟩)
      obtain ⟨x, _, rfl⟩ := List.mem_map.mp he
      exact .inr (.inl ⟨_, rfl⟩)
    · exact okA _
/-- the law's own product of two values -/
def spLT (K : PySem.W.Frag) (A : Alg) : Sp := fun vs H Q _ => ∃ (a b : V) (x y : A.α), vs = [.str A.nm, a, b] ∧ A.Ok x ∧ A.Ok y ∧ (A.nm = count_ → ∀ i j, A.enc x = .int i → A.enc y = .int j → CMulW i j) ∧ Dp K H a (A.enc x) ∧ Dp K H b (A.enc y) ∧ ∀ v H', Same H H' → Dp K H' v (A.enc (A.tm x y)) → Q v H'
def spMet (K : PySem.W.Frag) (A : Alg) (ps : List Str) : Sp := fun vs H Q _ => ∃ (p c PL D T TP : Addr) (ms : List Int) (fs : List Str) (σ : Str → A.α) (ys : List V) (zs : List Str) (gs : List (Str × V)) (x0 x1 x2 : V) (P0 P1 P2 : Poly), vs = [.ref p, .str A.nm, .ref PL, .ref D, .ref T, .ref TP] ∧
  MetC K A p c PL D T TP ms fs ps σ ys zs gs x0 x1 x2 P0 P1 P2 H ∧ ps.length ≤ 4 ∧ fs.Nodup ∧ fs.length ≤ 6 ∧ eps_ ∉ fs ∧ Pf fs P0 7 28 9 ∧ Pf fs P1 7 28 9 ∧ Pf fs P2 7 28 9 ∧ ∀ H', But p H H' → PoolAt H' p c ms → Q (.bl true) H'
theorem ok_met (A' : Alg) (L : Lw A') (sm : SmA A') (okA : ∀ x, Okd 2 (A'.enc x)) (ps : List Str) {f : Addr} {fd : FuncData} (F : Fun K "_law_met" "_law_met" sMet f fd) (N : Nm mg) (Ge : Df P w K mg base 3 "_law_valued" ["p", "measure", "values", "persons"] (spAVal K A' ps)) (Gs : Df P w K mg base 6 "_law_listed" ["pool", "value"] (spPListed K 4)) (Gm : Df P w K mg base 4 "_law_same" ["actual", "due"] (spSm K 3))
    (Gv : Df P w K mg base 3 "valued" ["p", "measure", "given"] (spVA K A' ps)) (Gu : Df P w K mg base 2 "_law_sum" ["measure", "a", "b"] (spAS K A')) (Gb : Df P w K mg base 1 "_law_both" ["measure", "a", "b"] (spLT K A')) (Gp : Df P w K mg base 2 "measured_plus" ["measure", "a", "b"] (spMS K A'))
    (Gt : Dk P w K mg base 2 "measured_times" ["measure", "a", "b"] ["measure", "a", "b"] kw3 kw3 (spMT K A')) (Gq : Df P w K mg base 4 "plus" ["p", "q"] (spPlusF K)) (Gr : Df P w K mg base 4 "times" ["p", "q"] (spTimesF K)) : FnG P w K mg base 7 f fd ["pool", "measure", "polys", "values", "pairs", "persons"] (spMet K A' ps) := by
  obtain ⟨fe, fde, gE, kE, bE, GE⟩ := Ge.ok
  obtain ⟨fs, fds, gS, kS, bS, GS⟩ := Gs.ok
  obtain ⟨fm, fdm, gM, kM, bM, GM⟩ := Gm.ok
  obtain ⟨fv, fdv, gV, kV, bV, GV⟩ := Gv.ok
  obtain ⟨fu, fdu, gU, kU, bU, GU⟩ := Gu.ok
  obtain ⟨fb, fdb, gB, kB, bB, GB⟩ := Gb.ok
  obtain ⟨fp, fdp, gP, kP, bP, GP⟩ := Gp.ok
  obtain ⟨ft, fdt, gT, kT, bT, bTk, GT⟩ := Gt.ok
  obtain ⟨fq, fdq, gQ, kQ, bQ, GQ⟩ := Gq.ok
  obtain ⟨fr, fdr, gR, kR, bR, GR⟩ := Gr.ok
  refine ok_still F scMet (fun vs H Q h => ?_) (fun cdv A outer s H vs Q still hr h => ?_)
  · obtain ⟨p, c, PL, D, T, TP, ms, fs, σ, ys, zs, gs, x0, x1, x2, P0, P1, P2, rfl, _⟩ := h
    rfl
  · obtain ⟨p, c, PL, D, T, TP, ms, fs, σ, ys, zs, gs, x0, x1, x2, P0, P1, P2, rfl, M, psl, fnd, fl6, nep, z0, z1, z2, k⟩ := h
    have hr1 : Room 1 _ := hr.mono (by decide)
    have hr2 : Room 2 _ := hr.mono (by decide)
    have hr3 : Room 3 _ := hr.mono (by decide)
    have hr4 : Room 4 _ := hr.mono (by decide)
    have hr6 : Room 6 _ := hr
    have st : Still (cxOf CX0 P w K mg base metN "_law_met" (defScope sMet) f cdv A outer s H E0).nox.A := still
    --BODY
    refine ⟨_, pss_cons (ps_asg (pv 2) (pg_seq rfl (pgs_cons (pg_name (i := 6) scMet.nd rfl (Or.inl rfl)) (pgs_cons (pg_name (i := 7) scMet.nd rfl (Or.inl rfl)) (pgs_cons (pg_name (i := 8) scMet.nd rfl (Or.inl rfl)) pgs_nil)))))
      (pss_cons (ps_setLc (i := 9) (own := [("one", 14)]) (g := gName 14) (tt := tYes) (by rfl) scMet.nd rfl rfl (sw_true rfl rfl rfl (by decide +kernel)) (pi_list (pv 2)) (blkOk_by (N := metN) (sc := defScope sMet) (by decide +kernel)) (fun _ _ _ _ _ => pg_name (i := 14) scMet.nd rfl (Or.inl rfl)) (fun _ _ _ _ _ => pts_nil) (fun _ _ _ _ _ => (pe_call GE hr3 rfl gE kE bE .nil pass0 (pa_cons (pv 14) (pa_cons (pv 1) (pa_cons (pv 3) (pa_cons (pv 5) pa_nil)))))))
      (pss_cons (ps_for PassesOwn.never rfl (pi_range1 rfl N.rng (pa_cons pe_int pa_nil)) (pg_name (i := 10) scMet.nd rfl (Or.inl rfl))
      (pss_one (ps_if (pt_not (pt_val (pe_call GM hr4 rfl gM kM bM .nil pass0 (pa_cons (pe_call GV hr3 rfl gV kV bV .nil pass0 (pa_cons (pe_call GS hr6 rfl gS kS bS .nil pass0 (pa_cons (pv 0) (pa_cons (pe_ix (show IxR _ (rIx K) from ix_seq) (pv 2) (pv 10) (fun _ _ => rfl)) pa_nil))) (pa_cons (pv 1) (pa_cons (pe_call GS hr6 rfl gS kS bS .nil pass0 (pa_cons (pv 0) (pa_cons (pv 4) pa_nil))) pa_nil)))) (pa_cons (pe_ix (show IxR _ (rIx K) from ix_seq) (pv 9) (pv 10) (fun _ _ => rfl)) pa_nil))))) (pss_one (ps_ret pe_bl)) pss_nil)))
      (pss_cons (ps_set (i := 11) scMet.nd rfl (Or.inl rfl) (pe_call GU hr2 rfl gU kU bU .nil pass0 (pa_cons (pv 1) (pa_cons (pe_ix (show IxR _ (rIx K) from ix_seq) (pv 9) pe_int (fun _ _ => rfl)) (pa_cons (pe_ix (show IxR _ (rIx K) from ix_seq) (pv 9) pe_int (fun _ _ => rfl)) pa_nil)))))
      (pss_cons (ps_if (pt_not (pt_val (pe_call GM hr4 rfl gM kM bM .nil pass0 (pa_cons (pe_call GP hr2 rfl gP kP bP .nil pass0 (pa_cons (pv 1) (pa_cons (pe_ix (show IxR _ (rIx K) from ix_seq) (pv 9) pe_int (fun _ _ => rfl)) (pa_cons (pe_ix (show IxR _ (rIx K) from ix_seq) (pv 9) pe_int (fun _ _ => rfl)) pa_nil)))) (pa_cons (pv 11) pa_nil))))) (pss_one (ps_ret pe_bl)) pss_nil)
      (pss_cons (ps_if (pt_not (pt_val (pe_call GM hr4 rfl gM kM bM .nil pass0 (pa_cons (pe_call GV hr3 rfl gV kV bV .nil pass0 (pa_cons (pe_call GQ hr4 rfl gQ kQ bQ .nil pass0 (pa_cons (pv 6) (pa_cons (pv 7) pa_nil))) (pa_cons (pv 1) (pa_cons (pv 4) pa_nil)))) (pa_cons (pv 11) pa_nil))))) (pss_one (ps_ret pe_bl)) pss_nil)
      (pss_cons (ps_set (i := 12) scMet.nd rfl (Or.inl rfl) (pe_call GB hr1 rfl gB kB bB .nil pass0 (pa_cons (pv 1) (pa_cons (pe_ix (show IxR _ (rIx K) from ix_seq) (pv 9) pe_int (fun _ _ => rfl)) (pa_cons (pe_ix (show IxR _ (rIx K) from ix_seq) (pv 9) pe_int (fun _ _ => rfl)) pa_nil)))))
      (pss_cons (ps_if (pt_not (pt_val (pe_call GM hr4 rfl gM kM bM .nil pass0 (pa_cons (pe_kws (FnG.of GT) st hr2 rfl gT kT bTk (pk_cons (pv 1) (pk_cons (pe_ix (show IxR _ (rIx K) from ix_seq) (pv 9) pe_int (fun _ _ => rfl)) (pk_cons (pe_ix (show IxR _ (rIx K) from ix_seq) (pv 9) pe_int (fun _ _ => rfl)) pk_nil)))) (pa_cons (pv 12) pa_nil))))) (pss_one (ps_ret pe_bl)) pss_nil)
      (pss_cons (ps_if (pt_not (pt_val (pe_call GM hr4 rfl gM kM bM .nil pass0 (pa_cons (pe_call GV hr3 rfl gV kV bV .nil pass0 (pa_cons (pe_call GR hr4 rfl gR kR bR .nil pass0 (pa_cons (pv 6) (pa_cons (pv 7) pa_nil))) (pa_cons (pv 1) (pa_cons (pv 4) pa_nil)))) (pa_cons (pv 12) pa_nil))))) (pss_one (ps_ret pe_bl)) pss_nil)
      (pss_cons (ps_set (i := 13) scMet.nd rfl (Or.inl rfl) (pe_call GB hr1 rfl gB kB bB .nil pass0 (pa_cons (pv 1) (pa_cons (pv 11) (pa_cons (pe_ix (show IxR _ (rIx K) from ix_seq) (pv 9) pe_int (fun _ _ => rfl)) pa_nil)))))
      (pss_cons (ps_if (pt_not (pt_val (pe_call GM hr4 rfl gM kM bM .nil pass0 (pa_cons (pe_call GV hr3 rfl gV kV bV .nil pass0 (pa_cons (pe_call GR hr4 rfl gR kR bR .nil pass0 (pa_cons (pe_call GQ hr4 rfl gQ kQ bQ .nil pass0 (pa_cons (pv 6) (pa_cons (pv 7) pa_nil))) (pa_cons (pv 8) pa_nil))) (pa_cons (pv 1) (pa_cons (pv 4) pa_nil)))) (pa_cons (pv 13) pa_nil))))) (pss_one (ps_ret pe_bl)) pss_nil)
      (pss_one (ps_ret (pe_call GM hr4 rfl gM kM bM .nil pass0 (pa_cons (pe_call GV hr3 rfl gV kV bV .nil pass0 (pa_cons (pe_call GQ hr4 rfl gQ kQ bQ .nil pass0 (pa_cons (pe_call GR hr4 rfl gR kR bR .nil pass0 (pa_cons (pv 6) (pa_cons (pv 8) pa_nil))) (pa_cons (pe_call GR hr4 rfl gR kR bR .nil pass0 (pa_cons (pv 7) (pa_cons (pv 8) pa_nil))) pa_nil))) (pa_cons (pv 1) (pa_cons (pv 4) pa_nil)))) (pa_cons (pv 13) pa_nil))))))))))))))), ?_⟩
    --END
    have okr : ∀ P, A'.Ok (resA A' σ P) := fun P => resA_ok fun t _ q _ => M.G.tot q.1
    have ok3 : ∀ x, Okd 3 (A'.enc x) := fun x => okd_more (okA x)
    have cm : ∀ {P R : Poly}, Pf fs P 300 999999 100 → Pf fs R 300 999999 100 → A'.nm = count_ → ∀ i j, A'.enc (resA A' σ P) = .int i → A'.enc (resA A' σ R) = .int j → CMulW i j := fun {P R} zP zR e i j ei ej => by
      obtain ⟨i0, i1⟩ := sm e σ P M.G.tot zP.pz.ok (zP.few (by decide) (by decide) (by decide)) i ei
      obtain ⟨j0, j1⟩ := sm e σ R M.G.tot zR.pz.ok (zR.few (by decide) (by decide) (by decide)) j ej
      exact cmul_small i0 i1 j0 j1
    refine ⟨_, rfl, PL, _, rfl, .inl (SqL.of M.pls), rfl, _, _, rfl, _, _, rfl, _, _, rfl, rfl, ?_⟩
    refine ⟨_, rfl, PL, rfl, ⟨_, SqL.of M.pls⟩, fun L0 nL => ?_⟩
    refine lc_list (K := K) (a := PL) (xs := [x0, x1, x2]) (fun i H2 => AccI K H L0 [A'.enc (resA A' σ P0), A'.enc (resA A' σ P1), A'.enc (resA A' σ P2)] i H2) (acc_zero nL) (fun i H2 _ ai => SqL.of (ai.sm _ _ M.pls)) ?_ ?_
    · rintro i x H2 hi ai
      have M2 := M.same ai.sm
      obtain ⟨P, hP, dP, zP⟩ : ∃ P, [A'.enc (resA A' σ P0), A'.enc (resA A' σ P1), A'.enc (resA A' σ P2)][i]? = some (A'.enc (resA A' σ P)) ∧ Dp K H2 x (bD P) ∧ Pf fs P 7 28 9 := match i, hi with
        | 0, hi => ⟨P0, rfl, (Option.some.inj hi) ▸ M2.d0, z0⟩
        | 1, hi => ⟨P1, rfl, (Option.some.inj hi) ▸ M2.d1, z1⟩
        | 2, hi => ⟨P2, rfl, (Option.some.inj hi) ▸ M2.d2, z2⟩
      refine ⟨rfl, _, rfl, _, rfl, _, rfl, _, rfl, go_val M2.G M2.hTP fnd dP zP (by decide) (by decide) fun v' H3 s3 d3 => ?_⟩
      exact acc_step ai nL (by show 3 ≤ 1000000; decide) (fun d hd => by
        simp only [List.mem_cons, List.not_mem_nil, or_false] at hd
        rcases hd with rfl | rfl | rfl <;> exact A'.tup _) s3 hP d3
    · rintro H2 ai
      obtain ⟨s2, vs, hL, dvs⟩ := acc_end ai rfl
      obtain ⟨v0, v1, v2, rfl, e0, e1, e2⟩ : ∃ v0 v1 v2, vs = [v0, v1, v2] ∧ Dp K H2 v0 (A'.enc (resA A' σ P0)) ∧ Dp K H2 v1 (A'.enc (resA A' σ P1)) ∧ Dp K H2 v2 (A'.enc (resA A' σ P2)) := match vs, dvs with
        | [v0, v1, v2], .cons a (.cons b (.cons c .nil)) => ⟨v0, v1, v2, rfl, a, b, c⟩
      have M2 := M.same s2
      have Lp := M.pool.off nL
      have k2 : But p H H2 := But.refl.same s2
      refine ⟨_, rfl, by decide, by decide, ?_⟩
      refine for_range (n := 3) (fun i τ H3 => (∃ u10 u11 u12 u13 u14, τ = [some (.ref p), some (.str A'.nm), some (.ref PL), some (.ref D), some (.ref T), some (.ref TP), some x0, some x1, some x2, some (.ref L0), u10, u11, u12, u13, u14]) ∧ PoolAt H3 p c ms ∧ But p H2 H3) ⟨⟨_, _, _, _, _, rfl⟩, M2.pool, But.refl⟩ ?_ ?_
      · rintro i τ H3 hi ⟨⟨u10, u11, u12, u13, u14, rfl⟩, P3, k3⟩
        have M3 := M2.but k3 P3
        have hL3 := k3 _ _ hL Lp
        have nt2 := M2.pool.notT
        obtain ⟨P, x, v, hx, hv, dP, dv, zP⟩ : ∃ P x v, [x0, x1, x2][i]? = some x ∧ [v0, v1, v2][i]? = some v ∧ Dp K H3 x (bD P) ∧ Dp K H2 v (A'.enc (resA A' σ P)) ∧ Pf fs P 7 28 9 := match i, hi with
          | 0, _ => ⟨P0, x0, v0, rfl, rfl, M3.d0, e0, z0⟩
          | 1, _ => ⟨P1, x1, v1, rfl, rfl, M3.d1, e1, z1⟩
          | 2, _ => ⟨P2, x2, v2, rfl, rfl, M3.d2, e2, z2⟩
        have nonp : ∀ {H' : Hp}, PoolAt H' p c ms → ∀ z ∈ [p], H' z ≠ none := fun {H'} B z hz => by
          rw [List.mem_singleton.mp hz]
          obtain ⟨_, _, _, _, _, _, _, hb⟩ := B.dct
          rw [hb]
          exact fun q => nomatch q
        have m1 : p ∈ [p] := List.mem_singleton.mpr rfl
        refine ⟨_, rfl, _, rfl, _, rfl, ix_l (SqL.of M3.pls) (show [x0, x1, x2][0 + i]? = _ by rw [Nat.zero_add]; exact hx) ⟨p, c, ms, [p], x, bD P, false, rfl, P3, dP, okd_poly (zP.szd (by decide) (by decide)), m1, nonp P3, (fun q => nomatch q), fun v11 d11 HG f11 PG kG h11 _ => ?_⟩⟩
        have MG := M3.but kG PG
        have zl7 : zs.length ≤ 7 := by have := MG.G.len; omega
        refine ⟨_, rfl, _, rfl, _, rfl, p, c, ms, [p], .ref T, .tuple (zs.map (encA A' ps σ)), true, rfl, PG, .tup MG.hT MG.G.prs, okd_prsA okA ps psl σ zs (by omega), m1, nonp PG, fun _ _ _ => ⟨T, rfl, MG.pT⟩, fun v12 d12 HH f12 PH kH h12 top12 => ?_⟩
        have top12 := top12 rfl
        have MH := MG.but kH PH
        have h11H := h11.but m1 PG.notT kH
        obtain ⟨a12, rfl⟩ : ∃ a12, v12 = .ref a12 := by
          cases h12 with
          | lst h1 h2 h3 => exact ⟨_, rfl⟩
          | tup h1 h2 => exact ⟨_, rfl⟩
          | non => simp [flat] at f12
          | bl => simp [flat] at f12
          | int => simp [flat] at f12
          | str => simp [flat] at f12
        have f12' : flat d12 = .tuple ((zs.map fun z => (z, wA A' ps σ z)).map encG) := by rw [f12, List.map_map]; rfl
        obtain ⟨zs6, gat6, zl6, zget6⟩ := fp_pairs h12 f12' top12
        rw [List.length_map] at zl6
        have psz : ∀ t ∈ P, ∀ x ∈ t.1, x.1 ∈ zs ∧ x.1 ≠ eps_ := fun t ht x hx => ⟨M.G.all _ (zP.sub t ht x hx), fun e => nep (e ▸ zP.sub t ht x hx)⟩
        obtain ⟨gs6, pg6, nd6, has6⟩ := handedA (p := P) M.G.nd zl6 zget6 psz M.G.tot M.G.per
        refine ⟨v11, .ref a12, P, gs6, σ, rfl, h11H.fd f11, zP.pz.ok, zP.szd (by decide) (by decide), zP.few (by decide) (by decide) (by decide), zP.tks (by omega), ⟨a12, zs6, rfl, gat6, pg6⟩, nd6, has6, M.G.tot, fun vr HJ sJ dr => ?_⟩
        have kH2 : But p H2 HJ := ((k3.trans kG).trans kH).same sJ
        refine ⟨_, rfl, _, rfl, ix_l (SqL.of (kH2 _ _ hL Lp)) (show [v0, v1, v2][0 + i]? = _ by rw [Nat.zero_add]; exact hv) ⟨vr, v, _, rfl, dr, dp_kt0 (.but nt2 kH2) dv (A'.tup _), ok3 _, fun HK sK => ⟨_, rfl, iteF ?_⟩⟩⟩
        exact ⟨⟨_, _, _, _, _, rfl⟩, (PH.same sJ).same sK, kH2.same sK⟩
      · rintro τ H3 ⟨⟨u10, u11, u12, u13, u14, rfl⟩, P3, k3⟩
        have M3 := M2.but k3 P3
        have hL3 := k3 _ _ hL Lp
        have kt3 : KeepT H2 H3 := .but M2.pool.notT k3
        have e0 := dp_kt0 kt3 e0 (A'.tup _)
        have e1 := dp_kt0 kt3 e1 (A'.tup _)
        have e2 := dp_kt0 kt3 e2 (A'.tup _)
        have k03 := k2.trans k3
        have sLq : ∀ {H'}, Same H3 H' → SqL K H' L0 [v0, v1, v2] := fun s => SqL.of (s _ _ hL3)
        have dpe : ∀ {H'} {v : V} {x}, Same H3 H' → Dp K H3 v (A'.enc x) → Dp K H' v (A'.enc x) := fun s d => dp_same s d
        have po : ∀ {P : Poly} {l s d}, Pf fs P l s d → Pos P := fun z => z.pz.ok.2.1
        have pm : ∀ {P : Poly} {l s d}, Pf fs P l s d → ∀ t ∈ P, Pos t.1 := fun z t ht => (z.pz.ok.2.2 t ht).2
        have w0 : Pf fs P0 300 999999 100 := z0.weak (by decide) (by decide) (by decide)
        have w1 : Pf fs P1 300 999999 100 := z1.weak (by decide) (by decide) (by decide)
        have w2 : Pf fs P2 300 999999 100 := z2.weak (by decide) (by decide) (by decide)
        have z01 := z0.plus z1
        have y01 := z0.times z1
        have y02 := z0.times z2
        have y12 := z1.times z2
        have w01 : Pf fs (plusP P0 P1) 300 999999 100 := z01.weak (by decide) (by decide) (by decide)
        have y012 := z01.times z2
        have x012 := y02.plus y12
        have eB : resA A' σ (plusP P0 P1) = A'.pl (resA A' σ P0) (resA A' σ P1) := resA_plus L M.G.tot (po z0) (po z1)
        have eT : resA A' σ (timesP P0 P1) = A'.tm (resA A' σ P0) (resA A' σ P1) := resA_times L M.G.tot (po z0) (po z1) (pm z0) (pm z1)
        have eU : resA A' σ (timesP (plusP P0 P1) P2) = A'.tm (resA A' σ (plusP P0 P1)) (resA A' σ P2) := resA_times L M.G.tot (po z01) (po z2) (pm z01) (pm z2)
        have eV : resA A' σ (plusP (timesP P0 P2) (timesP P1 P2)) = A'.tm (resA A' σ (plusP P0 P1)) (resA A' σ P2) := by
          rw [resA_plus L M.G.tot (po y02) (po y12), resA_times L M.G.tot (po z0) (po z2) (pm z0) (pm z2), resA_times L M.G.tot (po z1) (po z2) (pm z1) (pm z2), eB]
          exact (L.dis (okr P0) (okr P1) (okr P2)).symm
        have fd : ∀ {H'} {v : V} {x}, Dp K H' v (A'.enc x) → FD K H' v (A'.enc x) := fun d => FD.of d (A'.tup _)
        have fb : ∀ {H'} {v : V} {P : Poly}, Dp K H' v (bD P) → FD K H' v (bD P) := fun d => FD.of d (tu_bD _)
        -- both
        refine ⟨_, rfl, _, rfl, ix_l (j := 0) (sLq sm_refl) rfl ⟨_, rfl, ix_l (j := 1) (sLq sm_refl) rfl ⟨v0, v1, resA A' σ P0, resA A' σ P1, rfl, okr P0, okr P1, e0, e1, fun vB HA sA dB => ?_⟩⟩⟩
        rw [← eB] at dB
        -- measured_plus
        refine ⟨_, rfl, _, rfl, ix_l (j := 0) (sLq sA) rfl ⟨_, rfl, ix_l (j := 1) (sLq sA) rfl ⟨v0, v1, resA A' σ P0, resA A' σ P1, rfl, okr P0, okr P1, fd (dpe sA e0), fd (dpe sA e1), fun va Hb sb da => ?_⟩⟩⟩
        rw [← eB] at da
        refine ⟨_, rfl, va, vB, _, rfl, da, dp_same sb dB, ok3 _, fun HB sB => ⟨_, rfl, iteF ?_⟩⟩
        have sAB := sb.trans sB
        have s3B := sA.trans sAB
        have MB := M3.same s3B
        -- valued of plus
        refine ⟨_, rfl, _, rfl, go_plusF (fb MB.d0) (fb MB.d1) z0.pz z1.pz (by decide) (by decide +kernel) (by decide) (by decide) (by decide) (by decide) fun vc Hc sc dc => ?_⟩
        have Mc := MB.same sc
        refine ⟨_, rfl, _, rfl, go_va Mc.G Mc.hT Mc.pT nep fl6 (fb dc) z01 (by decide) (by decide) (by decide) fun vd Hd sd dd => ?_⟩
        refine ⟨_, rfl, vd, vB, _, rfl, dd, dp_same (sAB.trans (sc.trans sd)) dB, ok3 _, fun HC sC => ⟨_, rfl, iteF ?_⟩⟩
        have sAC := sAB.trans (sc.trans (sd.trans sC))
        have s3C := sA.trans sAC
        have MC := M3.same s3C
        -- product
        refine ⟨_, rfl, _, rfl, ix_l (j := 0) (sLq s3C) rfl ⟨_, rfl, ix_l (j := 1) (sLq s3C) rfl ⟨v0, v1, resA A' σ P0, resA A' σ P1, rfl, okr P0, okr P1, cm w0 w1, dpe s3C e0, dpe s3C e1, fun vP HD sD dP => ?_⟩⟩⟩
        rw [← eT] at dP
        have s3D := s3C.trans sD
        -- measured_times
        refine ⟨_, rfl, _, rfl, ix_l (j := 0) (sLq s3D) rfl ⟨_, rfl, ix_l (j := 1) (sLq s3D) rfl ⟨v0, v1, resA A' σ P0, resA A' σ P1, rfl, okr P0, okr P1, cm w0 w1, fd (dpe s3D e0), fd (dpe s3D e1), fun ve He se de => ?_⟩⟩⟩
        rw [← eT] at de
        refine ⟨_, rfl, ve, vP, _, rfl, de, dp_same se dP, ok3 _, fun HE sE => ⟨_, rfl, iteF ?_⟩⟩
        have sDE := se.trans sE
        have s3E := s3D.trans sDE
        have ME := M3.same s3E
        -- valued of times
        refine ⟨_, rfl, _, rfl, go_timesF (fb ME.d0) (fb ME.d1) z0.pz z1.pz (by decide) (by decide +kernel) (by decide) (by decide) (by decide) (by decide) (by decide +kernel) (by decide +kernel) fun vf Hf sf df => ?_⟩
        have Mf := ME.same sf
        refine ⟨_, rfl, _, rfl, go_va Mf.G Mf.hT Mf.pT nep fl6 (fb df) y01 (by decide) (by decide) (by decide) fun vg Hg sg dg => ?_⟩
        refine ⟨_, rfl, vg, vP, _, rfl, dg, dp_same (sDE.trans (sf.trans sg)) dP, ok3 _, fun HF sF => ⟨_, rfl, iteF ?_⟩⟩
        have sEF := sf.trans (sg.trans sF)
        have s3F := s3E.trans sEF
        have MF := M3.same s3F
        have dBF := dp_same (sAC.trans (sD.trans (sDE.trans sEF))) dB
        -- due
        refine ⟨_, rfl, _, rfl, _, rfl, ix_l (j := 2) (sLq s3F) rfl ⟨vB, v2, resA A' σ (plusP P0 P1), resA A' σ P2, rfl, okr _, okr P2, cm w01 w2, dBF, dpe s3F e2, fun vQ HG sG dQ => ?_⟩⟩
        have s3G := s3F.trans sG
        have MG := M3.same s3G
        -- times of plus
        refine ⟨_, rfl, _, rfl, go_plusF (fb MG.d0) (fb MG.d1) z0.pz z1.pz (by decide) (by decide +kernel) (by decide) (by decide) (by decide) (by decide) fun vh Hh sh dh => ?_⟩
        have Mh := MG.same sh
        refine ⟨_, rfl, go_timesF (fb dh) (fb Mh.d2) z01.pz z2.pz (by decide) (by decide +kernel) (by decide) (by decide) (by decide) (by decide) (by decide +kernel) (by decide +kernel) fun vi Hi si di => ?_⟩
        have Mi := Mh.same si
        refine ⟨_, rfl, _, rfl, go_va Mi.G Mi.hT Mi.pT nep fl6 (fb di) y012 (by decide) (by decide) (by decide) fun vj Hj sj dj => ?_⟩
        rw [eU] at dj
        have sGj := sh.trans (si.trans sj)
        refine ⟨_, rfl, vj, vQ, _, rfl, dj, dp_same sGj dQ, ok3 _, fun HI sI => ⟨_, rfl, iteF ?_⟩⟩
        have sGI := sGj.trans sI
        have MI := M3.same (s3G.trans sGI)
        -- plus of times
        refine ⟨_, rfl, _, rfl, go_timesF (fb MI.d0) (fb MI.d2) z0.pz z2.pz (by decide) (by decide +kernel) (by decide) (by decide) (by decide) (by decide) (by decide +kernel) (by decide +kernel) fun vk Hk sk dk => ?_⟩
        have Mk := MI.same sk
        refine ⟨_, rfl, _, rfl, go_timesF (fb Mk.d1) (fb Mk.d2) z1.pz z2.pz (by decide) (by decide +kernel) (by decide) (by decide) (by decide) (by decide) (by decide +kernel) (by decide +kernel) fun vl Hl sl dl => ?_⟩
        refine go_plusF (fb (dp_same sl dk)) (fb dl) y02.pz y12.pz (by decide) (by decide +kernel) (by decide) (by decide) (by decide) (by decide) fun vm Hm sm' dm => ?_
        have Mm := (Mk.same sl).same sm'
        refine ⟨_, rfl, _, rfl, go_va Mm.G Mm.hT Mm.pT nep fl6 (fb dm) x012 (by decide) (by decide) (by decide) fun vn Hn sn dn' => ?_⟩
        rw [eV] at dn'
        have sGn := sGI.trans (sk.trans (sl.trans (sm'.trans sn)))
        refine ⟨_, rfl, vn, vQ, _, rfl, dn', dp_same sGn dQ, ok3 _, fun HN sN => ?_⟩
        have s3N := s3G.trans (sGn.trans sN)
        exact k HN (k03.same s3N) (P3.same s3N)
end
end K8


set_option Elab.async false
set_option linter.all false
set_option maxRecDepth 100000
set_option maxHeartbeats 8000000
/-! law -/
namespace K8
open PySem L2 Nd Bk Gd PySem.ExE
inductive Five where
  | count | cost | trust | there | seen
def algQ (ps : List Str) : Five → Alg
  | .count => algN .count
  | .cost => algN .cost
  | .trust => algN .trust
  | .there => algT ps true
  | .seen => algT ps false
/-- persons and a measure -/
structure Mi where
  ps : List Str
  hp : PsOk ps
  hu : ∀ z ∈ ps, shU z = true
  q : Five
def algM (j : Mi) : Alg := algQ j.ps j.q
theorem lw_M (j : Mi) : Lw (algM j) := by
  obtain ⟨ps, hp, hu, q⟩ := j
  cases q with
  | count => exact lw_N .count
  | cost => exact lw_N .cost
  | trust => exact lw_N .trust
  | there => exact lw_T ps true
  | seen => exact lw_T ps false
theorem okd_tvn (n : Nat) (ps : List Str) (h : ps.length ≤ 4) (is : Bool) (f : Str → Bool) : Okd (n + 2) (tvD ps is f) := by
  unfold tvD
  split
  · exact .inl (.bl _)
  · refine .inr (.inr ⟨_, rfl, ?_, fun e he => ?_⟩)
    · have := List.length_filter_le f ps
      rw [List.length_map]; omega
    · obtain ⟨x, _, rfl⟩ := List.mem_map.mp he
      exact .inr (.inl ⟨_, rfl⟩)
theorem okA_M (j : Mi) : ∀ x, Okd 2 ((algM j).enc x) := by
  obtain ⟨ps, hp, hu, q⟩ := j
  have num : ∀ o : Option Int, Okd 2 (oD o) := fun o => by
    cases o with
    | none => exact .inl .non
    | some i => exact .inl (.int i)
  cases q with
  | count => exact num
  | cost => exact num
  | trust => exact num
  | there => exact fun x => okd_tvn 0 ps hp.few true x
  | seen => exact fun x => okd_tvn 0 ps hp.few false x
theorem sm_M (j : Mi) : SmA (algM j) := by
  obtain ⟨ps, hp, hu, q⟩ := j
  cases q with
  | count =>
    intro _ σ p tot pok few i e
    have e1 : oD (resA (algN .count) σ p) = .int i := e
    rw [cnt_res (σ := σ) (fun z => tot z)] at e1
    have e2 : PyData.int (cntP (natOf σ) p) = .int i := e1
    have e3 : cntP (natOf σ) p = i := by injection e2
    rw [← e3]
    refine ⟨?_, cnt_few pok few fun z => ?_⟩
    · exact cntP_mono (τ := natOf σ) (p := p) (fun t ht => Int.le_of_lt (pok.2.1 t ht)) 0
    · unfold natOf
      cases hz : σ z with
      | none => exact Nat.zero_le _
      | some i =>
        have := (tot z).2 i hz
        show i.toNat ≤ 1000000
        omega
  | cost => exact fun e => absurd (show nmN .cost = Str.ofString "count" from e) (by decide +kernel)
  | trust => exact fun e => absurd (show nmN .trust = Str.ofString "count" from e) (by decide +kernel)
  | there => exact fun e => absurd e (me_nc true)
  | seen => exact fun e => absurd e (me_nc false)
theorem one_res (j : Mi) (σ : Str → (algM j).α) : resA (algM j) σ oneP = (algM j).on := by
  obtain ⟨ps, hp, hu, q⟩ := j
  cases q <;> rfl
/-- one of many specs -/
def U {ι : Type} (sp : ι → Sp) : Sp := fun vs H Q E => ∃ j, sp j vs H Q E
theorem FnOk.any {ι : Type} {P : Program} {w : World} {K : PySem.W.Frag} {mg : Str → Option Value} {base : Heap} {CX : CXT} {k : Nat} {f : Addr} {fd : FuncData} {ps : List Str} {sp : ι → Sp} (F : ∀ j, FnOk P w K mg base CX k f fd ps (sp j)) : FnOk P w K mg base CX k f fd ps (U sp) :=
  ⟨fun vs H Q E ⟨j, q⟩ => (F j).len vs H Q E q, fun A outer s H args us vs Q E hr he hb hv ⟨j, hs⟩ => (F j).run A outer s H args us vs Q E hr he hb hv hs⟩
theorem FnG.any {ι : Type} {P : Program} {w : World} {K : PySem.W.Frag} {mg : Str → Option Value} {base : Heap} {k : Nat} {f : Addr} {fd : FuncData} {ps : List Str} {sp : ι → Sp} (F : ∀ j, FnG P w K mg base k f fd ps (sp j)) : FnG P w K mg base k f fd ps (U sp) :=
  ⟨fun vs H Q ⟨j, q⟩ => (F j).len vs H Q q, fun still room e0 ⟨j, want⟩ rel bind => (F j).go still room e0 want rel bind⟩
section
variable {P : Program} {w : World} {K : PySem.W.Frag} {mg : Str → Option Value} {base : Heap} {f : Addr} {fd : FuncData} {k : Nat} {prm ps : List Str}
theorem ll_N {m : Me} (h : FnOk P w K mg base CX0 k f fd prm (spNB m)) : FnOk P w K mg base CX0 k f fd prm (spLT K (algN m)) := (lt_N (K := K) h).imp fun vs H Q E ⟨a, b, x, y, e, ox, oy, cm, da, db, q⟩ => ⟨a, b, x, y, e, ox, oy, cm, FD.of da ((algN m).tup _), FD.of db ((algN m).tup _), q⟩
theorem ll_T {is : Bool} (hp : PsOk ps) (h : FnOk P w K mg base CX0 k f fd prm (spGBoth K)) : FnOk P w K mg base CX0 k f fd prm (spLT K (algT ps is)) := h.imp fun vs H Q E ⟨a, b, x, y, e, _, _, _, da, db, q⟩ => ⟨is, a, b, ps, x, y, e, hp, da, db, q⟩
end
/-- two keywords, told in their sequence -/
def kw2 {α : Type} (us : List α) (l : List α) : List α := match us, l with
  | [], [a, b] => [a, b]
  | _, _ => []
theorem kb_kw2 {K : PySem.W.Frag} {st : Stmt} {f : Addr} {fd : FuncData} {x y z : Str} (F : Fun K x x st f fd)
    (h : ∀ (kV doc pm : Value) (an : Option Addr) (cdv ct : Value) (a b : Value), bindArgs (PySem.W.fnOf x x (defArgs st) (defBody st) (defScope st) .none kV doc pm an cdv ct) ⟨[], [(y, a), (z, b)]⟩ = pure [(y, a), (z, b)]) : KBinds K fd [y, z] [y, z] kw2 kw2 := by
  obtain ⟨oc, od, kV, doc, pm, an, cdv, ct, osl, rfl, lk, hcd⟩ := F.ex
  refine ⟨fun s us ws _ hl => ?_, fun {vs us zs ws} r1 r2 => ?_⟩
  · match us, ws, hl with
    | [], [a, b], _ => exact .of_eq (h kV doc pm an cdv ct a b)
    | [], [], hl => simp [kw2] at hl
    | [], [_], hl => simp [kw2] at hl
    | [], _ :: _ :: _ :: _, hl => simp [kw2] at hl
    | _ :: _, _, hl => simp [kw2] at hl
  · cases r1 with
    | nil =>
      cases r2 with
      | nil => exact .nil
      | cons a b =>
        cases b with
        | nil => exact .nil
        | cons c d =>
          cases d with
          | nil => exact .cons a (.cons c .nil)
          | cons e g => exact .nil
    | cons _ _ => exact .nil
theorem emp_made {K : PySem.W.Frag} {κ : Type} [DecidableEq κ] [Ky κ] {H : Hp} {A : Addr} (n : H A = none) : Same H (upd H A (.tup [])) ∧ Dp K (upd H A (.tup [])) (.ref A) (bD ([] : Bag κ)) := ⟨sm_new sm_refl n, .tup (SqT.of upd_same) .nil⟩
theorem lit_made {K : PySem.W.Frag} {H : Hp} {A B C : Addr} (n1 : H A = none) (n2 : upd H A (.tup []) B = none) (n3 : upd (upd H A (.tup [])) B (.tup [.ref A, .int 1]) C = none) :
    Same H (upd (upd (upd H A (.tup [])) B (.tup [.ref A, .int 1])) C (.tup [.ref B])) ∧ Dp K (upd (upd (upd H A (.tup [])) B (.tup [.ref A, .int 1])) C (.tup [.ref B])) (.ref C) (bD oneP) := by
  obtain ⟨s1, d1⟩ := emp_made (K := K) (κ := Str) n1
  generalize upd H A (.tup []) = H1 at s1 d1 n2 n3 ⊢
  have s2 : Same H1 (upd H1 B (.tup [.ref A, .int 1])) := sm_new sm_refl n2
  have d2 : Dp K (upd H1 B (.tup [.ref A, .int 1])) (.ref B) (encP (([] : Mono), (1 : Int))) := dp_mk (κ := Mono) (SqT.of upd_same) (dp_same s2 d1)
  generalize upd H1 B (.tup [.ref A, .int 1]) = H2 at s2 d2 n3 ⊢
  have s3 : Same H2 (upd H2 C (.tup [.ref B])) := sm_new sm_refl n3
  exact ⟨(s1.trans s2).trans s3, .tup (SqT.of upd_same) (.cons (dp_same s3 d2) .nil)⟩
theorem okd_zo : Okd 4 (.tuple [bD ([] : Poly), bD oneP]) := by
  have h1 : Okd 3 (bD ([] : Poly)) := .inr (.inr ⟨_, rfl, by show 0 ≤ 1000; decide, fun e he => nomatch he⟩)
  have h2 : Okd 3 (bD oneP) := .inr (.inr ⟨_, rfl, by show 1 ≤ 1000; decide, fun e he => by
    rw [List.mem_singleton.mp he]
    refine .inr (.inr ⟨_, rfl, by show 2 ≤ 1000; decide, fun e he => ?_⟩)
    simp only [List.mem_cons, List.not_mem_nil, or_false] at he
    rcases he with rfl | rfl
    · exact .inr (.inr ⟨_, rfl, by show 0 ≤ 1000; decide, fun e he => nomatch he⟩)
    · exact .inl (.int _)⟩)
  refine .inr (.inr ⟨_, rfl, by show 2 ≤ 1000; decide, fun e he => ?_⟩)
  simp only [List.mem_cons, List.not_mem_nil, or_false] at he
  rcases he with rfl | rfl
  · exact h1
  · exact h2
theorem okd_ps {ps : List Str} (h : ps.length ≤ 4) : Okd 4 (.tuple (ps.map .str)) := by
  refine .inr (.inr ⟨_, rfl, by rw [List.length_map]; omega, fun e he => ?_⟩)
  obtain ⟨x, _, rfl⟩ := List.mem_map.mp he
  exact .inr (.inl ⟨_, rfl⟩)
theorem pf_zero (fs : List Str) : Pf fs [] 7 28 9 := ⟨⟨pok_zero, Nat.zero_le _, by decide, fun t h => nomatch h⟩, fun t h => nomatch h⟩
theorem pf_one (fs : List Str) : Pf fs oneP 7 28 9 := ⟨⟨pok_one, by decide, by decide, fun t h => by rw [List.mem_singleton.mp h]; decide⟩, fun t h x hx => by rw [List.mem_singleton.mp h] at hx; exact nomatch hx⟩
def spGLaw (K : PySem.W.Frag) : Sp := fun vs H Q _ => ∃ (a : Addr) (ns : List Int), vs = [.ref a] ∧ SqL K H a (ns.map V.int) ∧ ns.length ≤ 63 ∧ ∀ H', Q (.bl true) H'
section
variable {P : Program} {w : World} {K : PySem.W.Frag} {mg : Str → Option Value} {base : Heap}
abbrev glN : List Str := ["script", "pool", "tokens", "persons", "polys", "measure", "values", "pairs", "zero", "one", "k"]
theorem scGLaw : FnScope glN ["script"] (defScope sPLaw) := ⟨rfl, rfl, rfl, by decide +kernel, rfl, by decide +kernel, by decide +kernel⟩
theorem ok_glaw {f : Addr} {fd : FuncData} (F : Fun K "law" "law" sPLaw f fd) (C : Cn K mg) (Gl : Df P w K mg base 1 "_law_pool" ["script"] (spPool K)) (Gt : Df P w K mg base 2 "_law_take" ["pool", "many"] spTake) (Gk : Df P w K mg base 3 "_law_tokens" ["pool", "many"] spPTok)
    (Gn : Df P w K mg base 3 "_law_persons" ["pool", "many"] spGPers) (Gp : Df P w K mg base 3 "_law_drawn_poly" ["pool", "tokens", "most"] (spPDrawn K)) (Gm : Df P w K mg base 5 "_law_same" ["actual", "due"] (spSm K 4)) (Gs : Df P w K mg base 6 "_law_listed" ["pool", "value"] (spPListed K 4))
    (Gq : Dk P w K mg base 4 "plus" ["p", "q"] ["p", "q"] kw2 kw2 (spPlusF K)) (Gr : Dk P w K mg base 4 "times" ["p", "q"] ["p", "q"] kw2 kw2 (spTimesF K)) (Ga : Df P w K mg base 3 "_law_plus" ["p", "q"] (spQPlus K)) (Gb : Df P w K mg base 3 "_law_times" ["p", "q"] (spQTimes K))
    (Gg : Df P w K mg base 5 "_law_given" ["pool", "measure", "tokens", "persons"] (U fun j => spAGiven K (algM j) j.ps)) (Gz : Df P w K mg base 1 "measured_zero" ["measure", "persons"] (U fun j => spMZ K (algM j))) (Go : Dk P w K mg base 2 "measured_one" ["measure", "persons"] ["measure", "persons"] kw2 kw2 (U fun j => spMO K (algM j) j.ps))
    (Gx : Df P w K mg base 1 "_law_zero" ["measure", "persons"] (U fun j => spAZ K (algM j))) (Gy : Df P w K mg base 1 "_law_one" ["measure", "persons"] (U fun j => spAO K (algM j) j.ps)) (Gv : Df P w K mg base 3 "valued" ["p", "measure", "given"] (U fun j => spVA K (algM j) j.ps))
    {fw : Addr} {fdw : FuncData} (gW : mg "_law_met" = some (.ref fw)) (kW : PySem.W.keepIn K (.ref fw) = true) (bW : Binds K fdw ["pool", "measure", "polys", "values", "pairs", "persons"] []) (GW : FnG P w K mg base 7 fw fdw ["pool", "measure", "polys", "values", "pairs", "persons"] (U fun j => spMet K (algM j) j.ps)) :
    FnG P w K mg base 8 f fd ["script"] (spGLaw K) := by
  obtain ⟨fl, fdl, gL, kL, bL, GL⟩ := Gl.ok
  obtain ⟨ft, fdt, gT, kT, bT, GT⟩ := Gt.ok
  obtain ⟨fk, fdk, gK, kK, bK, GK⟩ := Gk.ok
  obtain ⟨fn, fdn, gN, kN, bN, GN⟩ := Gn.ok
  obtain ⟨fp, fdp, gP, kP, bP, GP⟩ := Gp.ok
  obtain ⟨fm, fdm, gM, kM, bM, GM⟩ := Gm.ok
  obtain ⟨fs, fds, gS, kS, bS, GS⟩ := Gs.ok
  obtain ⟨fq, fdq, gQ, kQ, bQ, bQk, GQ⟩ := Gq.ok
  obtain ⟨fr, fdr, gR, kR, bR, bRk, GR⟩ := Gr.ok
  obtain ⟨fa, fda, gA, kA, bA, GA⟩ := Ga.ok
  obtain ⟨fb, fdb, gB, kB, bB, GB⟩ := Gb.ok
  obtain ⟨fg, fdg, gG, kG, bG, GG⟩ := Gg.ok
  obtain ⟨fz, fdz, gZ, kZ, bZ, GZ⟩ := Gz.ok
  obtain ⟨fo, fdo, gO, kO, bO, bOk, GO⟩ := Go.ok
  obtain ⟨fx, fdx, gX, kX, bX, GX⟩ := Gx.ok
  obtain ⟨fy, fdy, gY, kY, bY, GY⟩ := Gy.ok
  obtain ⟨fv, fdv, gV, kV, bV, GV⟩ := Gv.ok
  obtain ⟨zr, hzr, hzd⟩ := C.zero
  obtain ⟨on, hon, hod⟩ := C.one
  have N := C.N
  refine ok_still F scGLaw (fun vs H Q h => ?_) (fun cdv A outer s H vs Q still hr h => ?_)
  · obtain ⟨a, ns, rfl, _⟩ := h
    rfl
  · obtain ⟨a, ns, rfl, hS, hl, k⟩ := h
    have hr1 : Room 1 _ := hr.mono (by decide)
    have hr2 : Room 2 _ := hr.mono (by decide)
    have hr3 : Room 3 _ := hr.mono (by decide)
    have hr4 : Room 4 _ := hr.mono (by decide)
    have hr5 : Room 5 _ := hr.mono (by decide)
    have hr6 : Room 6 _ := hr.mono (by decide)
    have hr7 : Room 7 _ := hr
    have st : Still (cxOf CX0 P w K mg base glN "law" (defScope sPLaw) f cdv A outer s H E0).nox.A := still
    --BODY
    refine ⟨_, pss_cons (ps_set (i := 1) scGLaw.nd rfl (Or.inr rfl) (pe_call GL hr1 rfl gL kL bL .nil pass0 (pa_cons (pv 0) pa_nil)))
      (pss_cons (ps_set (i := 2) scGLaw.nd rfl (Or.inr rfl) (pe_call GK hr3 rfl gK kK bK .nil pass0 (pa_cons (pv 1) (pa_cons (pe_call GT hr2 rfl gT kT bT .nil pass0 (pa_cons (pv 1) (pa_cons pe_int pa_nil))) pa_nil))))
      (pss_cons (ps_set (i := 3) scGLaw.nd rfl (Or.inl rfl) (pe_call GN hr3 rfl gN kN bN .nil pass0 (pa_cons (pv 1) (pa_cons (pe_call GT hr2 rfl gT kT bT .nil pass0 (pa_cons (pv 1) (pa_cons pe_int pa_nil))) pa_nil))))
      (pss_cons (ps_setLc (i := 4) (own := [("k", 10)]) (g := gName 10) (tt := tYes) (by rfl) scGLaw.nd rfl rfl (sw_true rfl rfl rfl (by decide +kernel)) (pi_range1 rfl N.rng (pa_cons pe_int pa_nil)) (blkOk_by (N := glN) (sc := defScope sPLaw) (by decide +kernel)) (fun _ _ _ _ _ => pg_name (i := 10) scGLaw.nd rfl (Or.inl rfl)) (fun _ _ _ _ _ => pts_nil) (fun _ _ _ _ _ => (pe_call GP hr3 rfl gP kP bP .nil pass0 (pa_cons (pv 1) (pa_cons (pv 2) (pa_cons pe_int pa_nil))))))
      (pss_cons (ps_if (pt_not (pt_val (pe_call GM hr5 rfl gM kM bM .nil pass0 (pa_cons (pe_tup (pa_cons (pe_glob (v := .ref zr) (by rfl) hzr rfl) (pa_cons (pe_glob (v := .ref on) (by rfl) hon rfl) pa_nil))) (pa_cons (pe_tup (pa_cons (pe_tup pa_nil) (pa_cons (pe_tup (pa_cons (pe_tup (pa_cons (pe_tup pa_nil) (pa_cons pe_int pa_nil))) pa_nil)) pa_nil))) pa_nil))))) (pss_one (ps_ret pe_bl)) pss_nil)
      (pss_cons (ps_if (pt_not (pt_val (pe_call GM hr5 rfl gM kM bM .nil pass0 (pa_cons (pe_kws (FnG.of GQ) st hr4 rfl gQ kQ bQk (pk_cons (pe_ix (show IxR _ (rIx K) from ix_seq) (pv 4) pe_int (fun _ _ => rfl)) (pk_cons (pe_call GS hr6 rfl gS kS bS .nil pass0 (pa_cons (pv 1) (pa_cons (pe_ix (show IxR _ (rIx K) from ix_seq) (pv 4) pe_int (fun _ _ => rfl)) pa_nil))) pk_nil))) (pa_cons (pe_call GA hr3 rfl gA kA bA .nil pass0 (pa_cons (pe_ix (show IxR _ (rIx K) from ix_seq) (pv 4) pe_int (fun _ _ => rfl)) (pa_cons (pe_ix (show IxR _ (rIx K) from ix_seq) (pv 4) pe_int (fun _ _ => rfl)) pa_nil))) pa_nil))))) (pss_one (ps_ret pe_bl)) pss_nil)
      (pss_cons (ps_if (pt_not (pt_val (pe_call GM hr5 rfl gM kM bM .nil pass0 (pa_cons (pe_kws (FnG.of GR) st hr4 rfl gR kR bRk (pk_cons (pe_call GS hr6 rfl gS kS bS .nil pass0 (pa_cons (pv 1) (pa_cons (pe_ix (show IxR _ (rIx K) from ix_seq) (pv 4) pe_int (fun _ _ => rfl)) pa_nil))) (pk_cons (pe_ix (show IxR _ (rIx K) from ix_seq) (pv 4) pe_int (fun _ _ => rfl)) pk_nil))) (pa_cons (pe_call GB hr3 rfl gB kB bB .nil pass0 (pa_cons (pe_ix (show IxR _ (rIx K) from ix_seq) (pv 4) pe_int (fun _ _ => rfl)) (pa_cons (pe_ix (show IxR _ (rIx K) from ix_seq) (pv 4) pe_int (fun _ _ => rfl)) pa_nil))) pa_nil))))) (pss_one (ps_ret pe_bl)) pss_nil)
      (pss_cons (ps_for PassesOwn.never rfl (pi_list (pe_lst (pa_cons pe_str (pa_cons pe_str (pa_cons pe_str (pa_cons pe_str (pa_cons pe_str pa_nil))))))) (pg_name (i := 5) scGLaw.nd rfl (Or.inl rfl))
      (pss_cons (ps_asg (pe_call GG hr5 rfl gG kG bG .nil pass0 (pa_cons (pv 1) (pa_cons (pv 5) (pa_cons (pv 2) (pa_cons (pv 3) pa_nil))))) (pg_seq rfl (pgs_cons (pg_name (i := 6) scGLaw.nd rfl (Or.inl rfl)) (pgs_cons (pg_name (i := 7) scGLaw.nd rfl (Or.inl rfl)) pgs_nil))))
      (pss_cons (ps_if (pt_not (pt_val (pe_still GW st hr7 rfl gW kW bW (pa_cons (pv 1) (pa_cons (pv 5) (pa_cons (pv 4) (pa_cons (pv 6) (pa_cons (pv 7) (pa_cons (pv 3) pa_nil))))))))) (pss_one (ps_ret pe_bl)) pss_nil)
      (pss_cons (ps_set (i := 8) scGLaw.nd rfl (Or.inl rfl) (pe_call GZ hr1 rfl gZ kZ bZ .nil pass0 (pa_cons (pv 5) (pa_cons (pe_call GS hr6 rfl gS kS bS .nil pass0 (pa_cons (pv 1) (pa_cons (pv 3) pa_nil))) pa_nil))))
      (pss_cons (ps_set (i := 9) scGLaw.nd rfl (Or.inl rfl) (pe_kws (FnG.of GO) st hr2 rfl gO kO bOk (pk_cons (pv 5) (pk_cons (pv 3) pk_nil))))
      (pss_cons (ps_if (PW.pt (pw_or (pt_not (pt_val (pe_call GM hr5 rfl gM kM bM .nil pass0 (pa_cons (pv 8) (pa_cons (pe_call GX hr1 rfl gX kX bX .nil pass0 (pa_cons (pv 5) (pa_cons (pv 3) pa_nil))) pa_nil))))) (pw_or1 (pt_not (pt_val (pe_call GM hr5 rfl gM kM bM .nil pass0 (pa_cons (pv 9) (pa_cons (pe_call GY hr1 rfl gY kY bY .nil pass0 (pa_cons (pv 5) (pa_cons (pv 3) pa_nil))) pa_nil)))))))) (pss_one (ps_ret pe_bl)) pss_nil)
      (pss_one (ps_if (PW.pt (pw_or (pt_not (pt_val (pe_call GM hr5 rfl gM kM bM .nil pass0 (pa_cons (pe_call GV hr3 rfl gV kV bV .nil pass0 (pa_cons (pe_glob (v := .ref zr) (by rfl) hzr rfl) (pa_cons (pv 5) (pa_cons (pv 7) pa_nil)))) (pa_cons (pv 8) pa_nil))))) (pw_or1 (pt_not (pt_val (pe_call GM hr5 rfl gM kM bM .nil pass0 (pa_cons (pe_call GV hr3 rfl gV kV bV .nil pass0 (pa_cons (pe_glob (v := .ref on) (by rfl) hon rfl) (pa_cons (pv 5) (pa_cons (pv 7) pa_nil)))) (pa_cons (pv 9) pa_nil)))))))) (pss_one (ps_ret pe_bl)) pss_nil))))))))
      (pss_one (ps_ret pe_bl))))))))), ?_⟩
    --END
    refine ⟨_, rfl, a, ns, rfl, .inl hS, by omega, fun p c H1 ms np nc s1 P1 => ?_⟩
    refine ⟨_, rfl, _, rfl, p, c, ms, _, rfl, by decide, by decide, P1, fun r1 H2 a0 a1 P2 k2 => ⟨p, c, ms, r1, rfl, a0, by omega, P2, fun fo fs H3 nfo k3 P3 hfo fnd flen fsh => ?_⟩⟩
    have fop : fo ≠ p := P2.off nfo
    have fl6 : fs.length ≤ 6 := by omega
    have fshT : ∀ z ∈ fs, shT z = true := fun z hz => shU_T (fsh z hz)
    have nep : eps_ ∉ fs := fun h => absurd (fshT _ h) (by decide +kernel)
    refine ⟨_, rfl, _, rfl, p, c, ms, _, rfl, by decide, by decide, P3, fun r3 H4 b0 b1 P4 k4 => ⟨p, c, ms, r3, rfl, b0, by omega, P4, fun TP ps H5 k5 P5 hTP hp hu => ?_⟩⟩
    have hfo5 : H5 fo = some (.lst (fs.map V.str)) := k5 _ _ (k4 _ _ hfo fop) fop
    have hTP5 : SqT K H5 TP (ps.map V.str) := SqT.of hTP
    have nonp : ∀ {H' : Hp}, PoolAt H' p c ms → ∀ z ∈ [p], H' z ≠ none := fun {H'} B z hz => by
      rw [List.mem_singleton.mp hz]
      obtain ⟨_, _, _, _, _, _, _, hb⟩ := B.dct
      rw [hb]
      exact fun q => nomatch q
    have m1 : p ∈ [p] := List.mem_singleton.mpr rfl
    -- the polynomials
    refine ⟨_, rfl, by decide, by decide, fun L nL => ?_⟩
    have Lp := P5.off nL
    have Lc : c ≠ L := ne_of_none P5.cells nL
    refine lc_range (n := 3) (fun i H6 => PoolAt H6 p c ms ∧ But p H5 H6 ∧ ∃ (xs : List V) (Ps : List Poly), H6 L = some (.lst xs) ∧ DpAll K H6 xs (Ps.map bD) ∧ Ps.length = i ∧ ∀ P ∈ Ps, Pf fs P 7 28 9) ⟨P5.mine (Ne.symm Lp) Lc, but_mine But.refl nL, [], [], upd_same, .nil, rfl, fun P hP => nomatch hP⟩ ?_ ?_
    · rintro i H6 hi ⟨P6, k6, xs, Ps, hL, dxs, pl, zs⟩
      refine ⟨rfl, _, rfl, _, rfl, p, c, ms, fo, fs, 5, rfl, P6, k6 _ _ hfo5 fop, fop, fsh, by omega, by decide, by decide, fun v ts H7 k7 P7 hv tl hts => ?_⟩
      have pts : Pos ts := fun t ht => (hts t ht).1.1
      have pmd : ∀ t ∈ nf ts, PMd fs 3 t.1 := fun t ht => nf_key (Pk := fun m => PMd fs 3 m) (fun u hu => (hts u hu).2) t ht
      have pok : POk (nf ts) := ⟨nf_asc _, nf_pos pts, fun t ht => (pmd t ht).ok⟩
      have zt : Pf fs (nf ts) 7 28 9 := ⟨⟨pok, Nat.le_trans (nf_len _) (by omega), by
        rw [S_nf]
        exact S_le (n := 7) (c := 4) (by decide) (by omega) fun u hu => (hts u hu).1.2, fun t ht => (pmd t ht).sz⟩, fun t ht x hx => (pmd t ht).keys x hx⟩
      have hL7 := k7 _ _ hL Lp
      have xl : xs.length = i := by rw [dpAll_len dxs, List.length_map, pl]
      have nt : NotT (H7 L) := by rw [hL7]; exact notT_lst
      have tu : ∀ d ∈ Ps.map bD, tupOnly d = true := fun d hd => by obtain ⟨P, _, rfl⟩ := List.mem_map.mp hd; exact tu_bD _
      refine ⟨xs, hL7, small1000 (by omega), P7.mine (Ne.symm Lp) Lc, but_mine (k6.trans k7) nL, xs ++ [v], Ps ++ [nf ts], upd_same, ?_, by rw [List.length_append, pl]; rfl, fun P hP => (List.mem_append.mp hP).elim (zs P) fun h => by rw [List.mem_singleton.mp h]; exact zt⟩
      rw [List.map_append]
      exact dpAll_append (dpAll_put nt (tupOnlyAll_of tu) (dpAll_kt0 (.but P6.notT k7) dxs (tupOnlyAll_of tu))) (.cons (dp_put nt (tu_bD _) hv) .nil)
    · rintro H6 ⟨P6, k6, xs, Ps, hL, dxs, pl, zs⟩
      obtain ⟨Q0, Q1, Q2, rfl⟩ : ∃ Q0 Q1 Q2, Ps = [Q0, Q1, Q2] := match Ps, pl with
        | [Q0, Q1, Q2], _ => ⟨Q0, Q1, Q2, rfl⟩
      obtain ⟨x0, x1, x2, rfl, d0, d1, d2⟩ : ∃ x0 x1 x2, xs = [x0, x1, x2] ∧ Dp K H6 x0 (bD Q0) ∧ Dp K H6 x1 (bD Q1) ∧ Dp K H6 x2 (bD Q2) := match xs, dxs with
        | [x0, x1, x2], .cons a (.cons b (.cons c .nil)) => ⟨x0, x1, x2, rfl, a, b, c⟩
      have z0 := zs Q0 (by simp)
      have z1 := zs Q1 (by simp)
      have z2 := zs Q2 (by simp)
      have pq : ∀ {P : Poly} {n : Nat}, 7 ≤ n → Pf fs P 7 28 9 → Pq P n := fun {P n} hn z => ⟨z.pz.ok, Nat.le_trans z.pz.len hn, fun t ht => by
        have a := len_le_S (z.pz.ok.2.2 t ht).2
        have b := z.pz.dg t ht
        omega, fun t ht x hx => fsh _ (z.sub t ht x hx)⟩
      have cq : ∀ {P : Poly}, Pf fs P 7 28 9 → ∀ t ∈ P, t.2 < 1000000 := fun z t ht => (((z.few (by decide) (by decide) (by decide)).co t ht)).2
      -- ZERO, ONE
      refine ⟨(by show 2 ≤ sizeLine; decide), fun W nW => ?_⟩
      have sW : Same H6 (upd H6 W (.tup [.ref zr, .ref on])) := sm_new sm_refl nW
      have dW : Dp K (upd H6 W (.tup [.ref zr, .ref on])) (.ref W) (.tuple [bD ([] : Poly), bD oneP]) := .tup (SqT.of upd_same) (.cons (hzd _) (.cons (hod _) .nil))
      generalize upd H6 W (.tup [.ref zr, .ref on]) = H7 at sW dW ⊢
      refine ⟨(by show 0 ≤ sizeLine; decide), fun E1 nE1 => ?_⟩
      obtain ⟨s8, e8⟩ := emp_made (K := K) (κ := Mono) nE1
      generalize upd H7 E1 (.tup []) = H8 at s8 e8 ⊢
      refine ⟨(by show 0 ≤ sizeLine; decide), fun A1 nA1 => ⟨(by show 2 ≤ sizeLine; decide), fun A2 nA2 => ⟨(by show 1 ≤ sizeLine; decide), fun A3 nA3 => ?_⟩⟩⟩
      obtain ⟨s9, e9⟩ := lit_made (K := K) nA1 nA2 nA3
      generalize upd (upd (upd H8 A1 (.tup [])) A2 (.tup [.ref A1, .int 1])) A3 (.tup [.ref A2]) = H9 at s9 e9 ⊢
      refine ⟨(by show 2 ≤ sizeLine; decide), fun X nX => ?_⟩
      have sX : Same H9 (upd H9 X (.tup [.ref E1, .ref A3])) := sm_new sm_refl nX
      have dX : Dp K (upd H9 X (.tup [.ref E1, .ref A3])) (.ref X) (.tuple [bD ([] : Poly), bD oneP]) := .tup (SqT.of upd_same) (.cons (dp_same (s9.trans sX) e8) (.cons (dp_same sX e9) .nil))
      generalize upd H9 X (.tup [.ref E1, .ref A3]) = HA at sX dX ⊢
      have s7A := s8.trans (s9.trans sX)
      refine ⟨.ref W, .ref X, _, rfl, dp_same s7A dW, dX, okd_zo, fun HB sB => ⟨_, rfl, iteF ?_⟩⟩
      have s6B := sW.trans (s7A.trans sB)
      have PB := P6.same s6B
      have k5B := k6.same s6B
      have hLB := s6B _ _ hL
      have okp : ∀ {P : Poly} {l : Nat} {s d : Int}, Pf fs P l s d → l ≤ 300 → d ≤ 100 → Okd 4 (bD P) := fun z h1 h2 => okd_poly (z.szd h1 h2)
      have fb : ∀ {H'} {v : V} {P : Poly}, Dp K H' v (bD P) → FD K H' v (bD P) := fun d => FD.of d (tu_bD _)
      have d0B := dp_same s6B d0
      have d1B := dp_same s6B d1
      -- plus
      refine ⟨_, rfl, ix_l (j := 0) (SqL.of hLB) rfl ⟨_, rfl, _, rfl, ix_l (j := 1) (SqL.of hLB) rfl ⟨p, c, ms, [p], x1, bD Q1, false, rfl, PB, d1B, okp z1 (by decide) (by decide), m1, nonp PB, (fun q => nomatch q), fun v2 e2 HC f2 PC kC g2 _ => ?_⟩⟩⟩
      have ktC : KeepT HB HC := .but PB.notT kC
      have d0C := dp_kt0 ktC d0B (tu_bD _)
      have d1C := dp_kt0 ktC d1B (tu_bD _)
      have hLC := kC _ _ hLB Lp
      refine go_plusF (fb d0C) (g2.fd f2) z0.pz z1.pz (by decide) (by decide +kernel) (by decide) (by decide) (by decide) (by decide) fun vp HD sD dp => ?_
      have hLD := sD _ _ hLC
      refine ⟨_, rfl, ix_l (j := 0) (SqL.of hLD) rfl ⟨_, rfl, ix_l (j := 1) (SqL.of hLD) rfl ⟨x0, x1, Q0, Q1, rfl, dp_same sD d0C, dp_same sD d1C, pq (by decide) z0, pq (by decide) z1, fun vq HE sE dq => ?_⟩⟩⟩
      refine ⟨vp, vq, _, rfl, dp_same sE dp, dq, okp (z0.plus z1) (by decide) (by decide), fun HF sF => ⟨_, rfl, iteF ?_⟩⟩
      have sCF := sD.trans (sE.trans sF)
      have PF := PC.same sCF
      have hLF := sCF _ _ hLC
      have d0F := dp_same sCF d0C
      have d1F := dp_same sCF d1C
      -- times
      refine ⟨_, rfl, _, rfl, ix_l (j := 0) (SqL.of hLF) rfl ⟨p, c, ms, [p], x0, bD Q0, false, rfl, PF, d0F, okp z0 (by decide) (by decide), m1, nonp PF, (fun q => nomatch q), fun v3 e3 HG f3 PG kG g3 _ => ?_⟩⟩
      have ktG : KeepT HF HG := .but PF.notT kG
      have d0G := dp_kt0 ktG d0F (tu_bD _)
      have d1G := dp_kt0 ktG d1F (tu_bD _)
      have hLG := kG _ _ hLF Lp
      refine ⟨_, rfl, ix_l (j := 1) (SqL.of hLG) rfl (go_timesF (g3.fd f3) (fb d1G) z0.pz z1.pz (by decide) (by decide +kernel) (by decide) (by decide) (by decide) (by decide) (by decide +kernel) (by decide +kernel) fun vt HH sH dt => ?_)⟩
      have hLH := sH _ _ hLG
      refine ⟨_, rfl, ix_l (j := 0) (SqL.of hLH) rfl ⟨_, rfl, ix_l (j := 1) (SqL.of hLH) rfl ⟨x0, x1, Q0, Q1, rfl, dp_same sH d0G, dp_same sH d1G, pq (by decide) z0, pq (by decide) z1, cq z0, cq z1, fun vu HI sI du => ?_⟩⟩⟩
      refine ⟨vt, vu, _, rfl, dp_same sI dt, du, okp (z0.times z1) (by decide) (by decide), fun HJ sJ => ⟨_, rfl, iteF ?_⟩⟩
      have sGJ := sH.trans (sI.trans sJ)
      have PJ := PG.same sGJ
      have k5J : But p H5 HJ := ((((k5B.trans kC).same sCF).trans kG).same sGJ)
      have k6J : But p H6 HJ := (((But.refl.same s6B).trans kC).same sCF |>.trans kG).same sGJ
      have kt6 : KeepT H6 HJ := .but P6.notT k6J
      -- the measures
      refine ⟨(by show 5 ≤ sizeLine; decide), fun M nM => ⟨M, rfl, ⟨_, SqL.of upd_same⟩, ?_⟩⟩
      have sM : Same HJ (upd HJ M (.lst [.str (Str.ofString "count"), .str (Str.ofString "cost"), .str (Str.ofString "trust"), .str (Str.ofString "there"), .str (Str.ofString "seen")])) := sm_new sm_refl nM
      have hM : upd HJ M (.lst [.str (Str.ofString "count"), .str (Str.ofString "cost"), .str (Str.ofString "trust"), .str (Str.ofString "there"), .str (Str.ofString "seen")]) M = some (.lst [.str (Str.ofString "count"), .str (Str.ofString "cost"), .str (Str.ofString "trust"), .str (Str.ofString "there"), .str (Str.ofString "seen")]) := upd_same
      have Mp := PJ.off nM
      have PK := PJ.same sM
      have k6K := k6J.same sM
      have k5K := k5J.same sM
      have d0K := dp_same sM (dp_kt0 kt6 d0 (tu_bD _))
      have d1K := dp_same sM (dp_kt0 kt6 d1 (tu_bD _))
      have d2K := dp_same sM (dp_kt0 kt6 d2 (tu_bD _))
      have hLK := k6K _ _ hL Lp
      have hfoK := k5K _ _ hfo5 fop
      have hTPK := sqT_kt (.but P5.notT k5K) hTP5
      generalize upd HJ M (.lst [.str (Str.ofString "count"), .str (Str.ofString "cost"), .str (Str.ofString "trust"), .str (Str.ofString "there"), .str (Str.ofString "seen")]) = HK at sM hM PK d0K d1K d2K hLK hfoK hTPK ⊢
      refine for_list (K := K) (a := M) (xs := [.str (Str.ofString "count"), .str (Str.ofString "cost"), .str (Str.ofString "trust"), .str (Str.ofString "there"), .str (Str.ofString "seen")]) (fun j τ HB => (∃ u5 u6 u7 u8 u9 u10, τ = [some (.ref a), some (.ref p), some (.ref fo), some (.ref TP), some (.ref L), u5, u6, u7, u8, u9, u10]) ∧ PoolAt HB p c ms ∧ But p HK HB) ⟨⟨_, _, _, _, _, _, rfl⟩, PK, But.refl⟩ (fun j τ HB _ ⟨_, _, kB⟩ => SqL.of (kB _ _ hM Mp)) ?_ ?_
      · rintro j x τ HL hj ⟨⟨u5, u6, u7, u8, u9, u10, rfl⟩, PL, kL'⟩
        obtain ⟨q, rfl⟩ : ∃ q : Five, x = .str (algM ⟨ps, hp, hu, q⟩).nm := by
          match j, hj with
          | 0, hj => exact ⟨.count, (Option.some.inj hj).symm⟩
          | 1, hj => exact ⟨.cost, (Option.some.inj hj).symm⟩
          | 2, hj => exact ⟨.trust, (Option.some.inj hj).symm⟩
          | 3, hj => exact ⟨.there, (Option.some.inj hj).symm⟩
          | 4, hj => exact ⟨.seen, (Option.some.inj hj).symm⟩
        have ok4 : ∀ x, Okd 4 ((algM ⟨ps, hp, hu, q⟩).enc x) := fun x => okd_more (okd_more (okA_M _ x))
        have tup : ∀ x, tupOnly ((algM ⟨ps, hp, hu, q⟩).enc x) = true := fun x => (algM ⟨ps, hp, hu, q⟩).tup x
        have ktL : KeepT HK HL := .but PK.notT kL'
        have hTPL := sqT_kt ktL hTPK
        refine ⟨_, rfl, _, rfl, _, rfl, _, rfl, ⟨ps, hp, hu, q⟩, p, c, fo, TP, ms, fs, rfl, PL, kL' _ _ hfoK fop, fop, fnd, fl6, nep, hTPL, fun R D T ys zs gs σ HM kM PM hR Dp' nD pT hT G => ?_⟩
        refine ⟨R, _, rfl, .inr hR, rfl, _, _, rfl, _, _, rfl, rfl, ?_⟩
        have kKM := kL'.trans kM
        have ktM : KeepT HK HM := .but PK.notT kKM
        have MM : MetC K (algM ⟨ps, hp, hu, q⟩) p c L D T TP ms fs ps σ ys zs gs x0 x1 x2 Q0 Q1 Q2 HM := ⟨PM, kKM _ _ hLK Lp, Lp, dp_kt0 ktM d0K (tu_bD _), dp_kt0 ktM d1K (tu_bD _), dp_kt0 ktM d2K (tu_bD _), G, hT, pT, sqT_kt ktM hTPK, Dp'⟩
        refine ⟨_, rfl, _, rfl, _, rfl, _, rfl, _, rfl, _, rfl, ⟨ps, hp, hu, q⟩, p, c, L, D, T, TP, ms, fs, σ, ys, zs, gs, x0, x1, x2, Q0, Q1, Q2, rfl, MM, hp.few, fnd, fl6, nep, z0, z1, z2, fun HN kN PN => ⟨_, rfl, iteF ?_⟩⟩
        have MN := MM.but kN PN
        have kKN := kKM.trans kN
        -- zero, one
        refine ⟨_, rfl, _, rfl, _, rfl, p, c, ms, [p], .ref TP, .tuple (ps.map .str), false, rfl, PN, .tup MN.hTP (strs_dp ps), okd_ps hp.few, m1, nonp PN, (fun q => nomatch q), fun v4 e4 HO f4 PO kO' g4 _ => ?_⟩
        have MO := MN.but kO' PO
        have kKO := kKN.trans kO'
        refine ⟨⟨ps, hp, hu, q⟩, v4, rfl, fun vz HP sP dz => ?_⟩
        have MP := MO.same sP
        refine ⟨_, rfl, _, rfl, ⟨ps, hp, hu, q⟩, .ref TP, rfl, fun _ => FD.of (.tup MP.hTP (strs_dp ps)) (tu_strs ps), fun vo HQ sQ do' => ?_⟩
        have MQ := MP.same sQ
        refine ⟨_, rfl, _, rfl, _, rfl, ⟨ps, hp, hu, q⟩, .ref TP, rfl, fun va HR sR da => ?_⟩
        refine ⟨vz, va, _, rfl, dp_same (sQ.trans sR) dz, da, ok4 _, fun HS sS => ⟨_, rfl, iteF ?_⟩⟩
        have sQS := sR.trans sS
        have MS := MQ.same sQS
        refine ⟨_, rfl, _, rfl, _, rfl, ⟨ps, hp, hu, q⟩, TP, rfl, MS.hTP, fun vb HT sT db => ?_⟩
        refine ⟨vo, vb, _, rfl, dp_same (sQS.trans sT) do', db, ok4 _, fun HU sU => ⟨_, rfl, iteF ?_⟩⟩
        have sQU := sQS.trans (sT.trans sU)
        have MU := MQ.same sQU
        -- of ZERO, of ONE
        refine ⟨_, rfl, _, rfl, ⟨ps, hp, hu, q⟩, go_va MU.G MU.hT MU.pT nep fl6 (fb (hzd HU)) (pf_zero fs) (by decide) (by decide) (by decide) fun vc HV sV dc => ?_⟩
        refine ⟨_, rfl, vc, vz, _, rfl, dc, dp_same (sQ.trans (sQU.trans sV)) dz, ok4 _, fun HW sW' => ⟨_, rfl, iteF ?_⟩⟩
        have sUW := sV.trans sW'
        have MW := MU.same sUW
        refine ⟨_, rfl, _, rfl, ⟨ps, hp, hu, q⟩, go_va MW.G MW.hT MW.pT nep fl6 (fb (hod HW)) (pf_one fs) (by decide) (by decide) (by decide) fun vd HX sX' dd => ?_⟩
        rw [one_res] at dd
        refine ⟨_, rfl, vd, vo, _, rfl, dd, dp_same (sQU.trans (sUW.trans sX')) do', ok4 _, fun HY sY => ⟨_, rfl, iteF ?_⟩⟩
        have sOY := sP.trans (sQ.trans (sQU.trans (sUW.trans (sX'.trans sY))))
        exact ⟨⟨_, _, _, _, _, _, rfl⟩, PO.same sOY, kKO.same sOY⟩
      · rintro τ HL ⟨⟨u5, u6, u7, u8, u9, u10, rfl⟩, PL, kL'⟩
        exact k HL
end
end K8


set_option Elab.async false
set_option linter.all false
set_option maxRecDepth 100000
set_option maxHeartbeats 4000000
namespace K8
open PySem L2 Nd Bk Gd PySem.ExE
theorem sq_k {K : PySem.W.Frag} {a : Addr} {its : List Value} {n : Nat} {dd : Option Addr} {sl : Array (Option Value)} {xs : List V} (h : K.lookup a = some ⟨.type "tuple", dd, .seq its.toArray n, sl⟩) (hz : its.length ≤ 10) (r : Vals xs its) (H : Hp) : SqT K H a xs :=
  .inr ⟨_, its.toArray, n, h, rfl, rfl, by rw [sizeLine_eq, List.size_toArray]; omega, r⟩
theorem all_mk {l : PySem.W.OpenLaw} {w : World} {K : PySem.W.Frag} {h : Heap} {mg : Str → Option Value} {fa : Addr} (X : K.In h) (G : h.Ns mainGlobals mg) (hfa : mg "law" = some (.ref fa))
    {zA oA oB oC yA uA sA TE : Addr} {zn on1 on2 on3 yn un sn : Nat} {zd od1 od2 od3 sd : Option Addr} {zs os1 os2 os3 ss : Array (Option Value)} {tb tm t1 t2 t3 t4 t5 t6 : Tok} {yes ues : Array DictEntry}
    {cx0 ex0 Nx0 : Addr} {bsx0 subx0 : List Value} {nmx0 qnx0 : Str} {snx0 : List Str} {abx0 : Bool} {colx0 : Option Bool} {ddx0 odx0 anx0 : Option Addr} {rx00 rx01 rx02 rx03 rx05 : Option Value} {slx0 : Array (Option Value)} {ocx0 dcx0 pmx0 cdx0 ctx0 : Value}
    {f0 : Addr} {fod0 fan0 : Option Addr} {fsl0 : Array (Option Value)} {foc0 fkV0 fdc0 fpm0 fcd0 fct0 : Value}
    {f1 : Addr} {fod1 fan1 : Option Addr} {fsl1 : Array (Option Value)} {foc1 fkV1 fdc1 fpm1 fcd1 fct1 : Value}
    {f2 : Addr} {fod2 fan2 : Option Addr} {fsl2 : Array (Option Value)} {foc2 fkV2 fdc2 fpm2 fcd2 fct2 : Value}
    {f3 : Addr} {fod3 fan3 : Option Addr} {fsl3 : Array (Option Value)} {foc3 fkV3 fdc3 fpm3 fcd3 fct3 : Value}
    {f4 : Addr} {fod4 fan4 : Option Addr} {fsl4 : Array (Option Value)} {foc4 fkV4 fdc4 fpm4 fcd4 fct4 : Value}
    {f5 : Addr} {fod5 fan5 : Option Addr} {fsl5 : Array (Option Value)} {foc5 fkV5 fdc5 fpm5 fcd5 fct5 : Value}
    {f6 : Addr} {fod6 fan6 : Option Addr} {fsl6 : Array (Option Value)} {foc6 fkV6 fdc6 fpm6 fcd6 fct6 : Value}
    {f7 : Addr} {fod7 fan7 : Option Addr} {fsl7 : Array (Option Value)} {foc7 fkV7 fdc7 fpm7 fcd7 fct7 : Value}
    {f8 : Addr} {fod8 fan8 : Option Addr} {fsl8 : Array (Option Value)} {foc8 fkV8 fdc8 fpm8 fcd8 fct8 : Value}
    {f9 : Addr} {fod9 fan9 : Option Addr} {fsl9 : Array (Option Value)} {foc9 fkV9 fdc9 fpm9 fcd9 fct9 : Value}
    {f10 : Addr} {fod10 fan10 : Option Addr} {fsl10 : Array (Option Value)} {foc10 fkV10 fdc10 fpm10 fcd10 fct10 : Value}
    {f11 : Addr} {fod11 fan11 : Option Addr} {fsl11 : Array (Option Value)} {foc11 fkV11 fdc11 fpm11 fcd11 fct11 : Value}
    {f12 : Addr} {fod12 fan12 : Option Addr} {fsl12 : Array (Option Value)} {foc12 fkV12 fdc12 fpm12 fcd12 fct12 : Value}
    {f13 : Addr} {fod13 fan13 : Option Addr} {fsl13 : Array (Option Value)} {foc13 fkV13 fdc13 fpm13 fcd13 fct13 : Value}
    {f14 : Addr} {fod14 fan14 : Option Addr} {fsl14 : Array (Option Value)} {foc14 fkV14 fdc14 fpm14 fcd14 fct14 : Value}
    {f15 : Addr} {fod15 fan15 : Option Addr} {fsl15 : Array (Option Value)} {foc15 fkV15 fdc15 fpm15 fcd15 fct15 : Value}
    {f16 : Addr} {fod16 fan16 : Option Addr} {fsl16 : Array (Option Value)} {foc16 fkV16 fdc16 fpm16 fcd16 fct16 : Value}
    {f17 : Addr} {fod17 fan17 : Option Addr} {fsl17 : Array (Option Value)} {foc17 fkV17 fdc17 fpm17 fcd17 fct17 : Value}
    {f18 : Addr} {fod18 fan18 : Option Addr} {fsl18 : Array (Option Value)} {foc18 fkV18 fdc18 fpm18 fcd18 fct18 : Value}
    {f19 : Addr} {fod19 fan19 : Option Addr} {fsl19 : Array (Option Value)} {foc19 fkV19 fdc19 fpm19 fcd19 fct19 : Value}
    {f20 : Addr} {fod20 fan20 : Option Addr} {fsl20 : Array (Option Value)} {foc20 fkV20 fdc20 fpm20 fcd20 fct20 : Value}
    {f21 : Addr} {fod21 fan21 : Option Addr} {fsl21 : Array (Option Value)} {foc21 fkV21 fdc21 fpm21 fcd21 fct21 : Value}
    {f22 : Addr} {fod22 fan22 : Option Addr} {fsl22 : Array (Option Value)} {foc22 fkV22 fdc22 fpm22 fcd22 fct22 : Value}
    {f23 : Addr} {fod23 fan23 : Option Addr} {fsl23 : Array (Option Value)} {foc23 fkV23 fdc23 fpm23 fcd23 fct23 : Value}
    {f24 : Addr} {fod24 fan24 : Option Addr} {fsl24 : Array (Option Value)} {foc24 fkV24 fdc24 fpm24 fcd24 fct24 : Value}
    {f25 : Addr} {fod25 fan25 : Option Addr} {fsl25 : Array (Option Value)} {foc25 fkV25 fdc25 fpm25 fcd25 fct25 : Value}
    {f26 : Addr} {fod26 fan26 : Option Addr} {fsl26 : Array (Option Value)} {foc26 fkV26 fdc26 fpm26 fcd26 fct26 : Value}
    {f27 : Addr} {fod27 fan27 : Option Addr} {fsl27 : Array (Option Value)} {foc27 fkV27 fdc27 fpm27 fcd27 fct27 : Value}
    {f28 : Addr} {fod28 fan28 : Option Addr} {fsl28 : Array (Option Value)} {foc28 fkV28 fdc28 fpm28 fcd28 fct28 : Value}
    {f29 : Addr} {fod29 fan29 : Option Addr} {fsl29 : Array (Option Value)} {foc29 fkV29 fdc29 fpm29 fcd29 fct29 : Value}
    {f30 : Addr} {fod30 fan30 : Option Addr} {fsl30 : Array (Option Value)} {foc30 fkV30 fdc30 fpm30 fcd30 fct30 : Value}
    {f31 : Addr} {fod31 fan31 : Option Addr} {fsl31 : Array (Option Value)} {foc31 fkV31 fdc31 fpm31 fcd31 fct31 : Value}
    {f32 : Addr} {fod32 fan32 : Option Addr} {fsl32 : Array (Option Value)} {foc32 fkV32 fdc32 fpm32 fcd32 fct32 : Value}
    {f33 : Addr} {fod33 fan33 : Option Addr} {fsl33 : Array (Option Value)} {foc33 fkV33 fdc33 fpm33 fcd33 fct33 : Value}
    {f34 : Addr} {fod34 fan34 : Option Addr} {fsl34 : Array (Option Value)} {foc34 fkV34 fdc34 fpm34 fcd34 fct34 : Value}
    {f35 : Addr} {fod35 fan35 : Option Addr} {fsl35 : Array (Option Value)} {foc35 fkV35 fdc35 fpm35 fcd35 fct35 : Value}
    {f36 : Addr} {fod36 fan36 : Option Addr} {fsl36 : Array (Option Value)} {foc36 fkV36 fdc36 fpm36 fcd36 fct36 : Value}
    {f37 : Addr} {fod37 fan37 : Option Addr} {fsl37 : Array (Option Value)} {foc37 fkV37 fdc37 fpm37 fcd37 fct37 : Value}
    {f38 : Addr} {fod38 fan38 : Option Addr} {fsl38 : Array (Option Value)} {foc38 fkV38 fdc38 fpm38 fcd38 fct38 : Value}
    {f39 : Addr} {fod39 fan39 : Option Addr} {fsl39 : Array (Option Value)} {foc39 fkV39 fdc39 fpm39 fcd39 fct39 : Value}
    {f40 : Addr} {fod40 fan40 : Option Addr} {fsl40 : Array (Option Value)} {foc40 fkV40 fdc40 fpm40 fcd40 fct40 : Value}
    {f41 : Addr} {fod41 fan41 : Option Addr} {fsl41 : Array (Option Value)} {foc41 fkV41 fdc41 fpm41 fcd41 fct41 : Value}
    {f42 : Addr} {fod42 fan42 : Option Addr} {fsl42 : Array (Option Value)} {foc42 fkV42 fdc42 fpm42 fcd42 fct42 : Value}
    {f43 : Addr} {fod43 fan43 : Option Addr} {fsl43 : Array (Option Value)} {foc43 fkV43 fdc43 fpm43 fcd43 fct43 : Value}
    {f44 : Addr} {fod44 fan44 : Option Addr} {fsl44 : Array (Option Value)} {foc44 fkV44 fdc44 fpm44 fcd44 fct44 : Value}
    {f45 : Addr} {fod45 fan45 : Option Addr} {fsl45 : Array (Option Value)} {foc45 fkV45 fdc45 fpm45 fcd45 fct45 : Value}
    (bey : PySem.W.nsIn K mainGlobals "BEYOND_FIGURES" = some (some (.int BEY tb)))
    (most : PySem.W.nsIn K mainGlobals "MOST_TERMS" = some (some (.int 400 tm)))
    (zer : PySem.W.nsIn K mainGlobals "ZERO" = some (some (.ref zA)))
    (zl : K.lookup zA = some ⟨.type "tuple", zd, .seq #[] zn, zs⟩)
    (one : PySem.W.nsIn K mainGlobals "ONE" = some (some (.ref oA)))
    (o1 : K.lookup oA = some ⟨.type "tuple", od1, .seq #[.ref oB] on1, os1⟩)
    (o2 : K.lookup oB = some ⟨.type "tuple", od2, .seq #[.ref oC, .int 1 t1] on2, os2⟩)
    (o3 : K.lookup oC = some ⟨.type "tuple", od3, .seq #[] on3, os3⟩)
    (yg : PySem.W.nsIn K mainGlobals "_ZEROS" = some (some (.ref yA)))
    (yl : K.lookup yA = some ⟨.type "dict", none, .dict yes yn, #[]⟩)
    (yk : PySem.W.KeysLit w.params yes.toList)
    (ug : PySem.W.nsIn K mainGlobals "_ONES" = some (some (.ref uA)))
    (ul : K.lookup uA = some ⟨.type "dict", none, .dict ues un, #[]⟩)
    (uk : PySem.W.KeysLit w.params ues.toList)
    (y1 : PySem.W.nsIn K yA "count" = some (some (.int 0 t2)))
    (y2 : PySem.W.nsIn K yA "cost" = some (some .none))
    (y3 : PySem.W.nsIn K yA "trust" = some (some (.int 0 t3)))
    (y4 : PySem.W.nsIn K yA "there" = some (some (.bool false)))
    (y5 : PySem.W.nsIn K yA "seen" = some (some (.ref sA)))
    (u1 : PySem.W.nsIn K uA "count" = some (some (.int 1 t4)))
    (u2 : PySem.W.nsIn K uA "cost" = some (some (.int 0 t5)))
    (u3 : PySem.W.nsIn K uA "trust" = some (some (.int 100 t6)))
    (u4 : PySem.W.nsIn K uA "there" = some (some (.bool true)))
    (sl : K.lookup sA = some ⟨.type "tuple", sd, .seq #[] sn, ss⟩)
    (ax0 : PySem.W.nsIn K mainGlobals "TooMany" = some (some (.ref cx0)))
    (xx0 : K.lookup cx0 = some (excClassObj nmx0 qnx0 cx0 Nx0 bsx0 [.ref TE, .type "Exception", .type "BaseException", .type "object"] true snx0 subx0 abx0 colx0 ddx0 rx00 rx01 rx02 rx03 rx05 "Exception.__new__"))
    (sax0 : PySem.W.findIn K (.ref cx0) "__setattr__" = some (some (.builtin "object.__setattr__")))
    (gax0 : PySem.W.findIn K (.ref cx0) "__getattribute__" = some (some (.builtin "BaseException.__getattribute__")))
    (ggx0 : PySem.W.findIn K (.ref cx0) "__getattr__" = some none)
    (cax0 : PySem.W.findIn K (.ref cx0) "__class__" = some (some (.builtin "object.__class__")))
    (nox0 : PySem.W.findIn K (.ref cx0) "word" = some none)
    (iix0 : PySem.W.findIn K (.ref cx0) "__init__" = some (some (.ref ex0)))
    (tix0 : PySem.W.typeIn K (.ref ex0) = some (.type "function"))
    (lix0 : K.lookup ex0 = some ⟨ocx0, odx0, .func (PySem.W.fnOf "__init__" "TooMany.__init__" (defArgs (inClass (topS 3) 0)) (defBody (inClass (topS 3) 0)) (defScope (inClass (topS 3) 0)) .none .none dcx0 pmx0 anx0 cdx0 ctx0), slx0⟩)
    (cix0 : PySem.W.codeIn K cdx0 "TooMany.__init__" = true)
    (kcx0 : PySem.W.keepIn K (.ref cx0) = true)
    (tyx0 : PySem.W.typeIn K (.ref cx0) = some (.type "type"))
    (fa0 : PySem.W.nsIn K mainGlobals "capped_power" = some (some (.ref f0)))
    (fl0 : K.lookup f0 = some ⟨foc0, fod0, .func (PySem.W.fnOf "capped_power" "capped_power" (defArgs sCapped) (defBody sCapped) (defScope sCapped) .none fkV0 fdc0 fpm0 fan0 fcd0 fct0), fsl0⟩)
    (fc0 : PySem.W.codeIn K fcd0 "capped_power" = true)
    (fk0 : PySem.W.keepIn K (.ref f0) = true)
    (fa1 : PySem.W.nsIn K mainGlobals "need_all" = some (some (.ref f1)))
    (fl1 : K.lookup f1 = some ⟨foc1, fod1, .func (PySem.W.fnOf "need_all" "need_all" (defArgs sNeed) (defBody sNeed) (defScope sNeed) .none fkV1 fdc1 fpm1 fan1 fcd1 fct1), fsl1⟩)
    (fc1 : PySem.W.codeIn K fcd1 "need_all" = true)
    (fk1 : PySem.W.keepIn K (.ref f1) = true)
    (fa2 : PySem.W.nsIn K mainGlobals "frozen" = some (some (.ref f2)))
    (fl2 : K.lookup f2 = some ⟨foc2, fod2, .func (PySem.W.fnOf "frozen" "frozen" (defArgs sFrozen) (defBody sFrozen) (defScope sFrozen) .none fkV2 fdc2 fpm2 fan2 fcd2 fct2), fsl2⟩)
    (fc2 : PySem.W.codeIn K fcd2 "frozen" = true)
    (fk2 : PySem.W.keepIn K (.ref f2) = true)
    (fa3 : PySem.W.nsIn K mainGlobals "put" = some (some (.ref f3)))
    (fl3 : K.lookup f3 = some ⟨foc3, fod3, .func (PySem.W.fnOf "put" "put" (defArgs sPut) (defBody sPut) (defScope sPut) .none fkV3 fdc3 fpm3 fan3 fcd3 fct3), fsl3⟩)
    (fc3 : PySem.W.codeIn K fcd3 "put" = true)
    (fk3 : PySem.W.keepIn K (.ref f3) = true)
    (fa4 : PySem.W.nsIn K mainGlobals "product_terms" = some (some (.ref f4)))
    (fl4 : K.lookup f4 = some ⟨foc4, fod4, .func (PySem.W.fnOf "product_terms" "product_terms" (defArgs sProd) (defBody sProd) (defScope sProd) .none fkV4 fdc4 fpm4 fan4 fcd4 fct4), fsl4⟩)
    (fc4 : PySem.W.codeIn K fcd4 "product_terms" = true)
    (fk4 : PySem.W.keepIn K (.ref f4) = true)
    (fa5 : PySem.W.nsIn K mainGlobals "_joined" = some (some (.ref f5)))
    (fl5 : K.lookup f5 = some ⟨foc5, fod5, .func (PySem.W.fnOf "_joined" "_joined" (defArgs sJoin) (defBody sJoin) (defScope sJoin) .none fkV5 fdc5 fpm5 fan5 fcd5 fct5), fsl5⟩)
    (fc5 : PySem.W.codeIn K fcd5 "_joined" = true)
    (fk5 : PySem.W.keepIn K (.ref f5) = true)
    (fa6 : PySem.W.nsIn K mainGlobals "check_terms" = some (some (.ref f6)))
    (fl6 : K.lookup f6 = some ⟨foc6, fod6, .func (PySem.W.fnOf "check_terms" "check_terms" (defArgs sChk) (defBody sChk) (defScope sChk) .none fkV6 fdc6 fpm6 fan6 fcd6 fct6), fsl6⟩)
    (fc6 : PySem.W.codeIn K fcd6 "check_terms" = true)
    (fk6 : PySem.W.keepIn K (.ref f6) = true)
    (fa7 : PySem.W.nsIn K mainGlobals "check_figures" = some (some (.ref f7)))
    (fl7 : K.lookup f7 = some ⟨foc7, fod7, .func (PySem.W.fnOf "check_figures" "check_figures" (defArgs sCkF) (defBody sCkF) (defScope sCkF) .none fkV7 fdc7 fpm7 fan7 fcd7 fct7), fsl7⟩)
    (fc7 : PySem.W.codeIn K fcd7 "check_figures" = true)
    (fk7 : PySem.W.keepIn K (.ref f7) = true)
    (fa8 : PySem.W.nsIn K mainGlobals "as_terms" = some (some (.ref f8)))
    (fl8 : K.lookup f8 = some ⟨foc8, fod8, .func (PySem.W.fnOf "as_terms" "as_terms" (defArgs sAs) (defBody sAs) (defScope sAs) .none fkV8 fdc8 fpm8 fan8 fcd8 fct8), fsl8⟩)
    (fc8 : PySem.W.codeIn K fcd8 "as_terms" = true)
    (fk8 : PySem.W.keepIn K (.ref f8) = true)
    (fa9 : PySem.W.nsIn K mainGlobals "poly_of" = some (some (.ref f9)))
    (fl9 : K.lookup f9 = some ⟨foc9, fod9, .func (PySem.W.fnOf "poly_of" "poly_of" (defArgs sPoly) (defBody sPoly) (defScope sPoly) .none fkV9 fdc9 fpm9 fan9 fcd9 fct9), fsl9⟩)
    (fc9 : PySem.W.codeIn K fcd9 "poly_of" = true)
    (fk9 : PySem.W.keepIn K (.ref f9) = true)
    (fa10 : PySem.W.nsIn K mainGlobals "plus" = some (some (.ref f10)))
    (fl10 : K.lookup f10 = some ⟨foc10, fod10, .func (PySem.W.fnOf "plus" "plus" (defArgs sPlus) (defBody sPlus) (defScope sPlus) .none fkV10 fdc10 fpm10 fan10 fcd10 fct10), fsl10⟩)
    (fc10 : PySem.W.codeIn K fcd10 "plus" = true)
    (fk10 : PySem.W.keepIn K (.ref f10) = true)
    (fa11 : PySem.W.nsIn K mainGlobals "times" = some (some (.ref f11)))
    (fl11 : K.lookup f11 = some ⟨foc11, fod11, .func (PySem.W.fnOf "times" "times" (defArgs sTimes) (defBody sTimes) (defScope sTimes) .none fkV11 fdc11 fpm11 fan11 fcd11 fct11), fsl11⟩)
    (fc11 : PySem.W.codeIn K fcd11 "times" = true)
    (fk11 : PySem.W.keepIn K (.ref f11) = true)
    (fa12 : PySem.W.nsIn K mainGlobals "tokens_of" = some (some (.ref f12)))
    (fl12 : K.lookup f12 = some ⟨foc12, fod12, .func (PySem.W.fnOf "tokens_of" "tokens_of" (defArgs sTokens) (defBody sTokens) (defScope sTokens) .none fkV12 fdc12 fpm12 fan12 fcd12 fct12), fsl12⟩)
    (fc12 : PySem.W.codeIn K fcd12 "tokens_of" = true)
    (fk12 : PySem.W.keepIn K (.ref f12) = true)
    (fa13 : PySem.W.nsIn K mainGlobals "valued" = some (some (.ref f13)))
    (fl13 : K.lookup f13 = some ⟨foc13, fod13, .func (PySem.W.fnOf "valued" "valued" (defArgs sValued) (defBody sValued) (defScope sValued) .none fkV13 fdc13 fpm13 fan13 fcd13 fct13), fsl13⟩)
    (fc13 : PySem.W.codeIn K fcd13 "valued" = true)
    (fk13 : PySem.W.keepIn K (.ref f13) = true)
    (fa14 : PySem.W.nsIn K mainGlobals "measured_plus" = some (some (.ref f14)))
    (fl14 : K.lookup f14 = some ⟨foc14, fod14, .func (PySem.W.fnOf "measured_plus" "measured_plus" (defArgs sMPlus) (defBody sMPlus) (defScope sMPlus) .none fkV14 fdc14 fpm14 fan14 fcd14 fct14), fsl14⟩)
    (fc14 : PySem.W.codeIn K fcd14 "measured_plus" = true)
    (fk14 : PySem.W.keepIn K (.ref f14) = true)
    (fa15 : PySem.W.nsIn K mainGlobals "measured_times" = some (some (.ref f15)))
    (fl15 : K.lookup f15 = some ⟨foc15, fod15, .func (PySem.W.fnOf "measured_times" "measured_times" (defArgs sMTimes) (defBody sMTimes) (defScope sMTimes) .none fkV15 fdc15 fpm15 fan15 fcd15 fct15), fsl15⟩)
    (fc15 : PySem.W.codeIn K fcd15 "measured_times" = true)
    (fk15 : PySem.W.keepIn K (.ref f15) = true)
    (fa16 : PySem.W.nsIn K mainGlobals "measured_zero" = some (some (.ref f16)))
    (fl16 : K.lookup f16 = some ⟨foc16, fod16, .func (PySem.W.fnOf "measured_zero" "measured_zero" (defArgs sMZero) (defBody sMZero) (defScope sMZero) .none fkV16 fdc16 fpm16 fan16 fcd16 fct16), fsl16⟩)
    (fc16 : PySem.W.codeIn K fcd16 "measured_zero" = true)
    (fk16 : PySem.W.keepIn K (.ref f16) = true)
    (fa17 : PySem.W.nsIn K mainGlobals "measured_one" = some (some (.ref f17)))
    (fl17 : K.lookup f17 = some ⟨foc17, fod17, .func (PySem.W.fnOf "measured_one" "measured_one" (defArgs sMOne) (defBody sMOne) (defScope sMOne) .none fkV17 fdc17 fpm17 fan17 fcd17 fct17), fsl17⟩)
    (fc17 : PySem.W.codeIn K fcd17 "measured_one" = true)
    (fk17 : PySem.W.keepIn K (.ref f17) = true)
    (fa18 : PySem.W.nsIn K mainGlobals "_counted" = some (some (.ref f18)))
    (fl18 : K.lookup f18 = some ⟨foc18, fod18, .func (PySem.W.fnOf "_counted" "_counted" (defArgs sCounted) (defBody sCounted) (defScope sCounted) .none fkV18 fdc18 fpm18 fan18 fcd18 fct18), fsl18⟩)
    (fc18 : PySem.W.codeIn K fcd18 "_counted" = true)
    (fk18 : PySem.W.keepIn K (.ref f18) = true)
    (fa19 : PySem.W.nsIn K mainGlobals "_raised" = some (some (.ref f19)))
    (fl19 : K.lookup f19 = some ⟨foc19, fod19, .func (PySem.W.fnOf "_raised" "_raised" (defArgs sRaised) (defBody sRaised) (defScope sRaised) .none fkV19 fdc19 fpm19 fan19 fcd19 fct19), fsl19⟩)
    (fc19 : PySem.W.codeIn K fcd19 "_raised" = true)
    (fk19 : PySem.W.keepIn K (.ref f19) = true)
    (fa20 : PySem.W.nsIn K mainGlobals "_lesser_cost" = some (some (.ref f20)))
    (fl20 : K.lookup f20 = some ⟨foc20, fod20, .func (PySem.W.fnOf "_lesser_cost" "_lesser_cost" (defArgs sLesser) (defBody sLesser) (defScope sLesser) .none fkV20 fdc20 fpm20 fan20 fcd20 fct20), fsl20⟩)
    (fc20 : PySem.W.codeIn K fcd20 "_lesser_cost" = true)
    (fk20 : PySem.W.keepIn K (.ref f20) = true)
    (fa21 : PySem.W.nsIn K mainGlobals "_added_cost" = some (some (.ref f21)))
    (fl21 : K.lookup f21 = some ⟨foc21, fod21, .func (PySem.W.fnOf "_added_cost" "_added_cost" (defArgs sAdded) (defBody sAdded) (defScope sAdded) .none fkV21 fdc21 fpm21 fan21 fcd21 fct21), fsl21⟩)
    (fc21 : PySem.W.codeIn K fcd21 "_added_cost" = true)
    (fk21 : PySem.W.keepIn K (.ref f21) = true)
    (fa22 : PySem.W.nsIn K mainGlobals "_law_mixed" = some (some (.ref f22)))
    (fl22 : K.lookup f22 = some ⟨foc22, fod22, .func (PySem.W.fnOf "_law_mixed" "_law_mixed" (defArgs sMixd) (defBody sMixd) (defScope sMixd) .none fkV22 fdc22 fpm22 fan22 fcd22 fct22), fsl22⟩)
    (fc22 : PySem.W.codeIn K fcd22 "_law_mixed" = true)
    (fk22 : PySem.W.keepIn K (.ref f22) = true)
    (fa23 : PySem.W.nsIn K mainGlobals "_law_pool" = some (some (.ref f23)))
    (fl23 : K.lookup f23 = some ⟨foc23, fod23, .func (PySem.W.fnOf "_law_pool" "_law_pool" (defArgs sPool) (defBody sPool) (defScope sPool) .none fkV23 fdc23 fpm23 fan23 fcd23 fct23), fsl23⟩)
    (fc23 : PySem.W.codeIn K fcd23 "_law_pool" = true)
    (fk23 : PySem.W.keepIn K (.ref f23) = true)
    (fa24 : PySem.W.nsIn K mainGlobals "_law_take" = some (some (.ref f24)))
    (fl24 : K.lookup f24 = some ⟨foc24, fod24, .func (PySem.W.fnOf "_law_take" "_law_take" (defArgs sTake) (defBody sTake) (defScope sTake) .none fkV24 fdc24 fpm24 fan24 fcd24 fct24), fsl24⟩)
    (fc24 : PySem.W.codeIn K fcd24 "_law_take" = true)
    (fk24 : PySem.W.keepIn K (.ref f24) = true)
    (fa25 : PySem.W.nsIn K mainGlobals "_law_tokens" = some (some (.ref f25)))
    (fl25 : K.lookup f25 = some ⟨foc25, fod25, .func (PySem.W.fnOf "_law_tokens" "_law_tokens" (defArgs sPTok) (defBody sPTok) (defScope sPTok) .none fkV25 fdc25 fpm25 fan25 fcd25 fct25), fsl25⟩)
    (fc25 : PySem.W.codeIn K fcd25 "_law_tokens" = true)
    (fk25 : PySem.W.keepIn K (.ref f25) = true)
    (fa26 : PySem.W.nsIn K mainGlobals "_law_sorted" = some (some (.ref f26)))
    (fl26 : K.lookup f26 = some ⟨foc26, fod26, .func (PySem.W.fnOf "_law_sorted" "_law_sorted" (defArgs sPSort) (defBody sPSort) (defScope sPSort) .none fkV26 fdc26 fpm26 fan26 fcd26 fct26), fsl26⟩)
    (fc26 : PySem.W.codeIn K fcd26 "_law_sorted" = true)
    (fk26 : PySem.W.keepIn K (.ref f26) = true)
    (fa27 : PySem.W.nsIn K mainGlobals "_law_poly" = some (some (.ref f27)))
    (fl27 : K.lookup f27 = some ⟨foc27, fod27, .func (PySem.W.fnOf "_law_poly" "_law_poly" (defArgs sPPoly) (defBody sPPoly) (defScope sPPoly) .none fkV27 fdc27 fpm27 fan27 fcd27 fct27), fsl27⟩)
    (fc27 : PySem.W.codeIn K fcd27 "_law_poly" = true)
    (fk27 : PySem.W.keepIn K (.ref f27) = true)
    (fa28 : PySem.W.nsIn K mainGlobals "_law_product" = some (some (.ref f28)))
    (fl28 : K.lookup f28 = some ⟨foc28, fod28, .func (PySem.W.fnOf "_law_product" "_law_product" (defArgs sPProd) (defBody sPProd) (defScope sPProd) .none fkV28 fdc28 fpm28 fan28 fcd28 fct28), fsl28⟩)
    (fc28 : PySem.W.codeIn K fcd28 "_law_product" = true)
    (fk28 : PySem.W.keepIn K (.ref f28) = true)
    (fa29 : PySem.W.nsIn K mainGlobals "_law_plus" = some (some (.ref f29)))
    (fl29 : K.lookup f29 = some ⟨foc29, fod29, .func (PySem.W.fnOf "_law_plus" "_law_plus" (defArgs sQPlus) (defBody sQPlus) (defScope sQPlus) .none fkV29 fdc29 fpm29 fan29 fcd29 fct29), fsl29⟩)
    (fc29 : PySem.W.codeIn K fcd29 "_law_plus" = true)
    (fk29 : PySem.W.keepIn K (.ref f29) = true)
    (fa30 : PySem.W.nsIn K mainGlobals "_law_times" = some (some (.ref f30)))
    (fl30 : K.lookup f30 = some ⟨foc30, fod30, .func (PySem.W.fnOf "_law_times" "_law_times" (defArgs sQTimes) (defBody sQTimes) (defScope sQTimes) .none fkV30 fdc30 fpm30 fan30 fcd30 fct30), fsl30⟩)
    (fc30 : PySem.W.codeIn K fcd30 "_law_times" = true)
    (fk30 : PySem.W.keepIn K (.ref f30) = true)
    (fa31 : PySem.W.nsIn K mainGlobals "_law_drawn_poly" = some (some (.ref f31)))
    (fl31 : K.lookup f31 = some ⟨foc31, fod31, .func (PySem.W.fnOf "_law_drawn_poly" "_law_drawn_poly" (defArgs sPDrawn) (defBody sPDrawn) (defScope sPDrawn) .none fkV31 fdc31 fpm31 fan31 fcd31 fct31), fsl31⟩)
    (fc31 : PySem.W.codeIn K fcd31 "_law_drawn_poly" = true)
    (fk31 : PySem.W.keepIn K (.ref f31) = true)
    (fa32 : PySem.W.nsIn K mainGlobals "_law_listed" = some (some (.ref f32)))
    (fl32 : K.lookup f32 = some ⟨foc32, fod32, .func (PySem.W.fnOf "_law_listed" "_law_listed" (defArgs sPListed) (defBody sPListed) (defScope sPListed) .none fkV32 fdc32 fpm32 fan32 fcd32 fct32), fsl32⟩)
    (fc32 : PySem.W.codeIn K fcd32 "_law_listed" = true)
    (fk32 : PySem.W.keepIn K (.ref f32) = true)
    (fa33 : PySem.W.nsIn K mainGlobals "_law_lists" = some (some (.ref f33)))
    (fl33 : K.lookup f33 = some ⟨foc33, fod33, .func (PySem.W.fnOf "_law_lists" "_law_lists" (defArgs sPLists) (defBody sPLists) (defScope sPLists) .none fkV33 fdc33 fpm33 fan33 fcd33 fct33), fsl33⟩)
    (fc33 : PySem.W.codeIn K fcd33 "_law_lists" = true)
    (fk33 : PySem.W.keepIn K (.ref f33) = true)
    (fa34 : PySem.W.nsIn K mainGlobals "_law_same" = some (some (.ref f34)))
    (fl34 : K.lookup f34 = some ⟨foc34, fod34, .func (PySem.W.fnOf "_law_same" "_law_same" (defArgs sPSame) (defBody sPSame) (defScope sPSame) .none fkV34 fdc34 fpm34 fan34 fcd34 fct34), fsl34⟩)
    (fc34 : PySem.W.codeIn K fcd34 "_law_same" = true)
    (fk34 : PySem.W.keepIn K (.ref f34) = true)
    (fa35 : PySem.W.nsIn K mainGlobals "_law_persons" = some (some (.ref f35)))
    (fl35 : K.lookup f35 = some ⟨foc35, fod35, .func (PySem.W.fnOf "_law_persons" "_law_persons" (defArgs sGPers) (defBody sGPers) (defScope sGPers) .none fkV35 fdc35 fpm35 fan35 fcd35 fct35), fsl35⟩)
    (fc35 : PySem.W.codeIn K fcd35 "_law_persons" = true)
    (fk35 : PySem.W.keepIn K (.ref f35) = true)
    (fa36 : PySem.W.nsIn K mainGlobals "_law_some" = some (some (.ref f36)))
    (fl36 : K.lookup f36 = some ⟨foc36, fod36, .func (PySem.W.fnOf "_law_some" "_law_some" (defArgs sGSome) (defBody sGSome) (defScope sGSome) .none fkV36 fdc36 fpm36 fan36 fcd36 fct36), fsl36⟩)
    (fc36 : PySem.W.codeIn K fcd36 "_law_some" = true)
    (fk36 : PySem.W.keepIn K (.ref f36) = true)
    (fa37 : PySem.W.nsIn K mainGlobals "_law_drawn_value" = some (some (.ref f37)))
    (fl37 : K.lookup f37 = some ⟨foc37, fod37, .func (PySem.W.fnOf "_law_drawn_value" "_law_drawn_value" (defArgs sGDVal) (defBody sGDVal) (defScope sGDVal) .none fkV37 fdc37 fpm37 fan37 fcd37 fct37), fsl37⟩)
    (fc37 : PySem.W.codeIn K fcd37 "_law_drawn_value" = true)
    (fk37 : PySem.W.keepIn K (.ref f37) = true)
    (fa38 : PySem.W.nsIn K mainGlobals "_law_zero" = some (some (.ref f38)))
    (fl38 : K.lookup f38 = some ⟨foc38, fod38, .func (PySem.W.fnOf "_law_zero" "_law_zero" (defArgs sGZero) (defBody sGZero) (defScope sGZero) .none fkV38 fdc38 fpm38 fan38 fcd38 fct38), fsl38⟩)
    (fc38 : PySem.W.codeIn K fcd38 "_law_zero" = true)
    (fk38 : PySem.W.keepIn K (.ref f38) = true)
    (fa39 : PySem.W.nsIn K mainGlobals "_law_one" = some (some (.ref f39)))
    (fl39 : K.lookup f39 = some ⟨foc39, fod39, .func (PySem.W.fnOf "_law_one" "_law_one" (defArgs sGOne) (defBody sGOne) (defScope sGOne) .none fkV39 fdc39 fpm39 fan39 fcd39 fct39), fsl39⟩)
    (fc39 : PySem.W.codeIn K fcd39 "_law_one" = true)
    (fk39 : PySem.W.keepIn K (.ref f39) = true)
    (fa40 : PySem.W.nsIn K mainGlobals "_law_sum" = some (some (.ref f40)))
    (fl40 : K.lookup f40 = some ⟨foc40, fod40, .func (PySem.W.fnOf "_law_sum" "_law_sum" (defArgs sGSum) (defBody sGSum) (defScope sGSum) .none fkV40 fdc40 fpm40 fan40 fcd40 fct40), fsl40⟩)
    (fc40 : PySem.W.codeIn K fcd40 "_law_sum" = true)
    (fk40 : PySem.W.keepIn K (.ref f40) = true)
    (fa41 : PySem.W.nsIn K mainGlobals "_law_both" = some (some (.ref f41)))
    (fl41 : K.lookup f41 = some ⟨foc41, fod41, .func (PySem.W.fnOf "_law_both" "_law_both" (defArgs sGBoth) (defBody sGBoth) (defScope sGBoth) .none fkV41 fdc41 fpm41 fan41 fcd41 fct41), fsl41⟩)
    (fc41 : PySem.W.codeIn K fcd41 "_law_both" = true)
    (fk41 : PySem.W.keepIn K (.ref f41) = true)
    (fa42 : PySem.W.nsIn K mainGlobals "_law_valued" = some (some (.ref f42)))
    (fl42 : K.lookup f42 = some ⟨foc42, fod42, .func (PySem.W.fnOf "_law_valued" "_law_valued" (defArgs sGVal) (defBody sGVal) (defScope sGVal) .none fkV42 fdc42 fpm42 fan42 fcd42 fct42), fsl42⟩)
    (fc42 : PySem.W.codeIn K fcd42 "_law_valued" = true)
    (fk42 : PySem.W.keepIn K (.ref f42) = true)
    (fa43 : PySem.W.nsIn K mainGlobals "_law_given" = some (some (.ref f43)))
    (fl43 : K.lookup f43 = some ⟨foc43, fod43, .func (PySem.W.fnOf "_law_given" "_law_given" (defArgs sGGiven) (defBody sGGiven) (defScope sGGiven) .none fkV43 fdc43 fpm43 fan43 fcd43 fct43), fsl43⟩)
    (fc43 : PySem.W.codeIn K fcd43 "_law_given" = true)
    (fk43 : PySem.W.keepIn K (.ref f43) = true)
    (fa44 : PySem.W.nsIn K mainGlobals "_law_met" = some (some (.ref f44)))
    (fl44 : K.lookup f44 = some ⟨foc44, fod44, .func (PySem.W.fnOf "_law_met" "_law_met" (defArgs sMet) (defBody sMet) (defScope sMet) .none fkV44 fdc44 fpm44 fan44 fcd44 fct44), fsl44⟩)
    (fc44 : PySem.W.codeIn K fcd44 "_law_met" = true)
    (fk44 : PySem.W.keepIn K (.ref f44) = true)
    (fa45 : PySem.W.nsIn K mainGlobals "law" = some (some (.ref f45)))
    (fl45 : K.lookup f45 = some ⟨foc45, fod45, .func (PySem.W.fnOf "law" "law" (defArgs sPLaw) (defBody sPLaw) (defScope sPLaw) .none fkV45 fdc45 fpm45 fan45 fcd45 fct45), fsl45⟩)
    (fc45 : PySem.W.codeIn K fcd45 "law" = true)
    (fk45 : PySem.W.keepIn K (.ref f45) = true)
    (z_isinstance : PySem.W.nsIn K mainGlobals "isinstance" = some none)
    (z_tuple : PySem.W.nsIn K mainGlobals "tuple" = some none)
    (z_list : PySem.W.nsIn K mainGlobals "list" = some none)
    (z_len : PySem.W.nsIn K mainGlobals "len" = some none)
    (z_range : PySem.W.nsIn K mainGlobals "range" = some none)
    (z_bool : PySem.W.nsIn K mainGlobals "bool" = some none)
    (z_str : PySem.W.nsIn K mainGlobals "str" = some none)
    (z_int : PySem.W.nsIn K mainGlobals "int" = some none)
    (z_min : PySem.W.nsIn K mainGlobals "min" = some none)
    (z_any : PySem.W.nsIn K mainGlobals "any" = some none)
    (z_dict : PySem.W.nsIn K mainGlobals "dict" = some none)
    (z_sorted : PySem.W.nsIn K mainGlobals "sorted" = some none)
    (z_max : PySem.W.nsIn K mainGlobals "max" = some none)
    (z_sum : PySem.W.nsIn K mainGlobals "sum" = some none)
    (z_reversed : PySem.W.nsIn K mainGlobals "reversed" = some none)
    (z_set : PySem.W.nsIn K mainGlobals "set" = some none)
    : ∃ fd : FuncData, (∀ (s : Shared) (v : Value), BindsTo s fd ⟨[v], []⟩ [("script", v)]) ∧ ∀ base : Heap, K.In base → base.Ns mainGlobals mg → FnG l.prog w K mg base 8 fa fd ["script"] (spGLaw K) := by
  have e := hfa.symm.trans (PySem.W.mg_of X G fa45)
  cases e
  have F0 := fun_mk (st := sCapped) fl0 fc0 fk0
  have b0 := F0.binds (ps := ["base", "exponent", "cap"]) fun _ _ _ _ _ _ us hl => match us, hl with | [_, _, _], _ => rfl
  have F1 := fun_mk (st := sNeed) fl1 fc1 fk1
  have b1 := F1.binds (ps := ["tokens", "values"]) fun _ _ _ _ _ _ us hl => match us, hl with | [_, _], _ => rfl
  have F2 := fun_mk (st := sFrozen) fl2 fc2 fk2
  have b2 := F2.binds (ps := ["p"]) fun _ _ _ _ _ _ us hl => match us, hl with | [_], _ => rfl
  have F3 := fun_mk (st := sPut) fl3 fc3 fk3
  have b3 := F3.binds (ps := ["found", "monomial", "coefficient"]) fun _ _ _ _ _ _ us hl => match us, hl with | [_, _, _], _ => rfl
  have F4 := fun_mk (st := sProd) fl4 fc4 fk4
  have b4 := F4.binds (ps := ["terms", "others"]) fun _ _ _ _ _ _ us hl => match us, hl with | [_, _], _ => rfl
  have F5 := fun_mk (st := sJoin) fl5 fc5 fk5
  have b5 := F5.binds (ps := ["monomial", "another"]) fun _ _ _ _ _ _ us hl => match us, hl with | [_, _], _ => rfl
  have F6 := fun_mk (st := sChk) fl6 fc6 fk6
  have b6 := F6.binds (ps := ["terms"]) fun _ _ _ _ _ _ us hl => match us, hl with | [_], _ => rfl
  have F7 := fun_mk (st := sCkF) fl7 fc7 fk7
  have b7 := F7.binds (ps := ["terms"]) fun _ _ _ _ _ _ us hl => match us, hl with | [_], _ => rfl
  have F8 := fun_mk (st := sAs) fl8 fc8 fk8
  have b8 := F8.binds (ps := ["found"]) fun _ _ _ _ _ _ us hl => match us, hl with | [_], _ => rfl
  have F9 := fun_mk (st := sPoly) fl9 fc9 fk9
  have b9 := F9.binds (ps := ["found"]) fun _ _ _ _ _ _ us hl => match us, hl with | [_], _ => rfl
  have F10 := fun_mk (st := sPlus) fl10 fc10 fk10
  have b10 := F10.binds (ps := ["p", "q"]) fun _ _ _ _ _ _ us hl => match us, hl with | [_, _], _ => rfl
  have F11 := fun_mk (st := sTimes) fl11 fc11 fk11
  have b11 := F11.binds (ps := ["p", "q"]) fun _ _ _ _ _ _ us hl => match us, hl with | [_, _], _ => rfl
  have F12 := fun_mk (st := sTokens) fl12 fc12 fk12
  have b12 := F12.binds (ps := ["p"]) fun _ _ _ _ _ _ us hl => match us, hl with | [_], _ => rfl
  have F13 := fun_mk (st := sValued) fl13 fc13 fk13
  have b13 := F13.binds (ps := ["p", "measure", "given"]) fun _ _ _ _ _ _ us hl => match us, hl with | [_, _, _], _ => rfl
  have F14 := fun_mk (st := sMPlus) fl14 fc14 fk14
  have b14 := F14.binds (ps := ["measure", "a", "b"]) fun _ _ _ _ _ _ us hl => match us, hl with | [_, _, _], _ => rfl
  have F15 := fun_mk (st := sMTimes) fl15 fc15 fk15
  have b15 := F15.binds (ps := ["measure", "a", "b"]) fun _ _ _ _ _ _ us hl => match us, hl with | [_, _, _], _ => rfl
  have F16 := fun_mk (st := sMZero) fl16 fc16 fk16
  have b16 := F16.binds (ps := ["measure", "persons"]) fun _ _ _ _ _ _ us hl => match us, hl with | [_, _], _ => rfl
  have F17 := fun_mk (st := sMOne) fl17 fc17 fk17
  have b17 := F17.binds (ps := ["measure", "persons"]) fun _ _ _ _ _ _ us hl => match us, hl with | [_, _], _ => rfl
  have F18 := fun_mk (st := sCounted) fl18 fc18 fk18
  have b18 := F18.binds (ps := ["p", "values"]) fun _ _ _ _ _ _ us hl => match us, hl with | [_, _], _ => rfl
  have F19 := fun_mk (st := sRaised) fl19 fc19 fk19
  have b19 := F19.binds (ps := ["measure", "value", "exponent"]) fun _ _ _ _ _ _ us hl => match us, hl with | [_, _, _], _ => rfl
  have F20 := fun_mk (st := sLesser) fl20 fc20 fk20
  have b20 := F20.binds (ps := ["a", "b"]) fun _ _ _ _ _ _ us hl => match us, hl with | [_, _], _ => rfl
  have F21 := fun_mk (st := sAdded) fl21 fc21 fk21
  have b21 := F21.binds (ps := ["a", "b"]) fun _ _ _ _ _ _ us hl => match us, hl with | [_, _], _ => rfl
  have F22 := fun_mk (st := sMixd) fl22 fc22 fk22
  have b22 := F22.binds (ps := ["number", "turn", "many"]) fun _ _ _ _ _ _ us hl => match us, hl with | [_, _, _], _ => rfl
  have F23 := fun_mk (st := sPool) fl23 fc23 fk23
  have b23 := F23.binds (ps := ["script"]) fun _ _ _ _ _ _ us hl => match us, hl with | [_], _ => rfl
  have F24 := fun_mk (st := sTake) fl24 fc24 fk24
  have b24 := F24.binds (ps := ["pool", "many"]) fun _ _ _ _ _ _ us hl => match us, hl with | [_, _], _ => rfl
  have F25 := fun_mk (st := sPTok) fl25 fc25 fk25
  have b25 := F25.binds (ps := ["pool", "many"]) fun _ _ _ _ _ _ us hl => match us, hl with | [_, _], _ => rfl
  have F26 := fun_mk (st := sPSort) fl26 fc26 fk26
  have b26 := F26.binds (ps := ["rows"]) fun _ _ _ _ _ _ us hl => match us, hl with | [_], _ => rfl
  have F27 := fun_mk (st := sPPoly) fl27 fc27 fk27
  have b27 := F27.binds (ps := ["terms"]) fun _ _ _ _ _ _ us hl => match us, hl with | [_], _ => rfl
  have F28 := fun_mk (st := sPProd) fl28 fc28 fk28
  have b28 := F28.binds (ps := ["one", "other"]) fun _ _ _ _ _ _ us hl => match us, hl with | [_, _], _ => rfl
  have F29 := fun_mk (st := sQPlus) fl29 fc29 fk29
  have b29 := F29.binds (ps := ["p", "q"]) fun _ _ _ _ _ _ us hl => match us, hl with | [_, _], _ => rfl
  have F30 := fun_mk (st := sQTimes) fl30 fc30 fk30
  have b30 := F30.binds (ps := ["p", "q"]) fun _ _ _ _ _ _ us hl => match us, hl with | [_, _], _ => rfl
  have F31 := fun_mk (st := sPDrawn) fl31 fc31 fk31
  have b31 := F31.binds (ps := ["pool", "tokens", "most"]) fun _ _ _ _ _ _ us hl => match us, hl with | [_, _, _], _ => rfl
  have F32 := fun_mk (st := sPListed) fl32 fc32 fk32
  have b32 := F32.binds (ps := ["pool", "value"]) fun _ _ _ _ _ _ us hl => match us, hl with | [_, _], _ => rfl
  have F33 := fun_mk (st := sPLists) fl33 fc33 fk33
  have b33 := F33.binds (ps := ["value"]) fun _ _ _ _ _ _ us hl => match us, hl with | [_], _ => rfl
  have F34 := fun_mk (st := sPSame) fl34 fc34 fk34
  have b34 := F34.binds (ps := ["actual", "due"]) fun _ _ _ _ _ _ us hl => match us, hl with | [_, _], _ => rfl
  have F35 := fun_mk (st := sGPers) fl35 fc35 fk35
  have b35 := F35.binds (ps := ["pool", "many"]) fun _ _ _ _ _ _ us hl => match us, hl with | [_, _], _ => rfl
  have F36 := fun_mk (st := sGSome) fl36 fc36 fk36
  have b36 := F36.binds (ps := ["pool", "persons"]) fun _ _ _ _ _ _ us hl => match us, hl with | [_, _], _ => rfl
  have F37 := fun_mk (st := sGDVal) fl37 fc37 fk37
  have b37 := F37.binds (ps := ["pool", "measure", "persons"]) fun _ _ _ _ _ _ us hl => match us, hl with | [_, _, _], _ => rfl
  have F38 := fun_mk (st := sGZero) fl38 fc38 fk38
  have b38 := F38.binds (ps := ["measure", "persons"]) fun _ _ _ _ _ _ us hl => match us, hl with | [_, _], _ => rfl
  have F39 := fun_mk (st := sGOne) fl39 fc39 fk39
  have b39 := F39.binds (ps := ["measure", "persons"]) fun _ _ _ _ _ _ us hl => match us, hl with | [_, _], _ => rfl
  have F40 := fun_mk (st := sGSum) fl40 fc40 fk40
  have b40 := F40.binds (ps := ["measure", "a", "b"]) fun _ _ _ _ _ _ us hl => match us, hl with | [_, _, _], _ => rfl
  have F41 := fun_mk (st := sGBoth) fl41 fc41 fk41
  have b41 := F41.binds (ps := ["measure", "a", "b"]) fun _ _ _ _ _ _ us hl => match us, hl with | [_, _, _], _ => rfl
  have F42 := fun_mk (st := sGVal) fl42 fc42 fk42
  have b42 := F42.binds (ps := ["p", "measure", "values", "persons"]) fun _ _ _ _ _ _ us hl => match us, hl with | [_, _, _, _], _ => rfl
  have F43 := fun_mk (st := sGGiven) fl43 fc43 fk43
  have b43 := F43.binds (ps := ["pool", "measure", "tokens", "persons"]) fun _ _ _ _ _ _ us hl => match us, hl with | [_, _, _, _], _ => rfl
  have F44 := fun_mk (st := sMet) fl44 fc44 fk44
  have b44 := F44.binds (ps := ["pool", "measure", "polys", "values", "pairs", "persons"]) fun _ _ _ _ _ _ us hl => match us, hl with | [_, _, _, _, _, _], _ => rfl
  have F45 := fun_mk (st := sPLaw) fl45 fc45 fk45
  have C : Cn K mg := { N := ⟨PySem.W.mg_none_of X G z_isinstance, PySem.W.mg_none_of X G z_tuple, PySem.W.mg_none_of X G z_list, PySem.W.mg_none_of X G z_len, PySem.W.mg_none_of X G z_range, PySem.W.mg_none_of X G z_bool, PySem.W.mg_none_of X G z_str, PySem.W.mg_none_of X G z_int⟩, min := PySem.W.mg_none_of X G z_min, any := PySem.W.mg_none_of X G z_any, dict := PySem.W.mg_none_of X G z_dict, srt := PySem.W.mg_none_of X G z_sorted, bey := ⟨_, PySem.W.mg_of X G bey⟩, most := ⟨_, PySem.W.mg_of X G most⟩,zero := ⟨zA, PySem.W.mg_of X G zer, fun H => .tup (sq_k (its := []) (xs := []) zl (by decide) .nil H) .nil⟩, one := ⟨oA, PySem.W.mg_of X G one, fun H => .tup (sq_k (its := [.ref oB]) (xs := [.ref oB]) o1 (by show 1 ≤ 10; decide) (.cons (show RelV (.ref oB) _ from rfl) .nil) H) (.cons (.tup (sq_k (its := [.ref oC, .int 1 t1]) (xs := [.ref oC, .int 1]) o2 (by show 2 ≤ 10; decide) (.cons (show RelV (.ref oC) _ from rfl) (.cons (show RelV (.int 1) _ from ⟨_, rfl⟩) .nil)) H) (.cons (.tup (sq_k (its := []) (xs := []) o3 (by decide) .nil H) .nil) (.cons (.int 1) .nil))) .nil)⟩ }
  have N := C.N
  have Ex0 : EC K cx0 TE "word" ex0 := ⟨⟨_, _, _, _, _, _, _, _, _, _, _, _, _, _, xx0⟩, sax0, gax0, ggx0, cax0, nox0, iix0, tix0, kcx0, tyx0⟩
  have Mx0 : Makes K cx0 "word" := Iword.makes Ex0 (qn := "TooMany.__init__") ⟨_, _, _, _, _, _, _, _, _, _, _, _, _, _, lix0, cix0⟩
  have X0 : Tm K mg TE cx0 ex0 := ⟨Ex0, Mx0, PySem.W.mg_of X G ax0⟩
  have mn := PySem.W.mg_none_of X G z_min
  have mx := PySem.W.mg_none_of X G z_max
  have rv := PySem.W.mg_none_of X G z_reversed
  have Vc : Cw K w mg := { sum := PySem.W.mg_none_of X G z_sum, zeros := ⟨yA, PySem.W.mg_of X G yg, ⟨yes, yn, _, yl, yk, y1, ⟨_, rfl⟩⟩⟩, ones := ⟨uA, PySem.W.mg_of X G ug, ⟨ues, un, _, ul, uk, u1, ⟨_, rfl⟩⟩⟩ }
  have Vn : Cv K w mg := { max := mx, zeros := ⟨yA, PySem.W.mg_of X G yg, ⟨yes, yn, _, yl, yk, y2, rfl⟩, ⟨yes, yn, _, yl, yk, y3, ⟨_, rfl⟩⟩⟩, ones := ⟨uA, PySem.W.mg_of X G ug, ⟨ues, un, _, ul, uk, u2, ⟨_, rfl⟩⟩, ⟨ues, un, _, ul, uk, u3, ⟨_, rfl⟩⟩⟩ }
  have Vt : Ct K w mg := { set := PySem.W.mg_none_of X G z_set, zeros := ⟨yA, PySem.W.mg_of X G yg, ⟨yes, yn, _, yl, yk, y4, rfl⟩, sA, ⟨yes, yn, _, yl, yk, y5, rfl⟩, fun H => .tup (sq_k (its := []) (xs := []) sl (by decide) .nil H) .nil⟩, ones := ⟨uA, PySem.W.mg_of X G ug, ⟨ues, un, _, ul, uk, u4, rfl⟩⟩ }
  refine ⟨PySem.W.fnOf "law" "law" (defArgs sPLaw) (defBody sPLaw) (defScope sPLaw) .none fkV45 fdc45 fpm45 fan45 fcd45 fct45, fun s v => .of_eq rfl, fun base _ _ => ?_⟩
  have D0 : Df l.prog w K mg base 1 "capped_power" ["base", "exponent", "cap"] spCap := ⟨f0, _, PySem.W.mg_of X G fa0, fk0, b0, ok_capped F0 C rv⟩
  have D1 : Df l.prog w K mg base 1 "need_all" ["tokens", "values"] (spNeed K) := ⟨f1, _, PySem.W.mg_of X G fa1, fk1, b1, ok_need F1⟩
  have D3 : Df l.prog w K mg base 1 "put" ["found", "monomial", "coefficient"] (spPut2 K l.prog w) := ⟨f3, _, PySem.W.mg_of X G fa3, fk3, b3, ok_put2 F3 C⟩
  have D2 : Df l.prog w K mg base 1 "frozen" ["p"] (spFroz2 K) := ⟨f2, _, PySem.W.mg_of X G fa2, fk2, b2, ok_froz2 F2 C⟩
  have D5 : Df l.prog w K mg base 1 "_joined" ["monomial", "another"] (spJoin K) := ⟨f5, _, PySem.W.mg_of X G fa5, fk5, b5, ok_join F5 C⟩
  have D8 : Df l.prog w K mg base 1 "as_terms" ["found"] (spAs K l.prog w) := ⟨f8, _, PySem.W.mg_of X G fa8, fk8, b8, ok_as F8 C⟩
  have GC := ok_chk2 (P := l.prog) (w := w) (base := base) F6 C X0
  have GF := ok_ckF2 (P := l.prog) (w := w) (base := base) F7 C X0
  have GY := ok_polyR (P := l.prog) (w := w) (base := base) F9 C X0 D8 (PySem.W.mg_of X G fa6) fk6 b6 GC (PySem.W.mg_of X G fa7) fk7 b7 GF
  have GX := ok_prod2 (P := l.prog) (w := w) (base := base) F4 D5 D3 (PySem.W.mg_of X G fa6) fk6 b6 GC
  have GP := ok_plus2 (P := l.prog) (w := w) (base := base) F10 C D2 D3 (PySem.W.mg_of X G fa9) fk9 b9 GY
  have GT := ok_times2 (P := l.prog) (w := w) (base := base) F11 D2 (PySem.W.mg_of X G fa4) fk4 b4 GX (PySem.W.mg_of X G fa9) fk9 b9 GY
  have D10 : Df l.prog w K mg base 4 "plus" ["p", "q"] (spPlusF K) := ⟨f10, _, PySem.W.mg_of X G fa10, fk10, b10, plusF_of GP⟩
  have D11 : Df l.prog w K mg base 4 "times" ["p", "q"] (spTimesF K) := ⟨f11, _, PySem.W.mg_of X G fa11, fk11, b11, timesF_of GT⟩
  have Kq : Dk l.prog w K mg base 4 "plus" ["p", "q"] ["p", "q"] kw2 kw2 (spPlusF K) := ⟨f10, _, PySem.W.mg_of X G fa10, fk10, b10, kb_kw2 F10 fun _ _ _ _ _ _ _ _ => rfl, plusF_of GP⟩
  have Kr : Dk l.prog w K mg base 4 "times" ["p", "q"] ["p", "q"] kw2 kw2 (spTimesF K) := ⟨f11, _, PySem.W.mg_of X G fa11, fk11, b11, kb_kw2 F11 fun _ _ _ _ _ _ _ _ => rfl, timesF_of GT⟩
  have D12 : Df l.prog w K mg base 1 "tokens_of" ["p"] (spTks K) := ⟨f12, _, PySem.W.mg_of X G fa12, fk12, b12, ok_tks F12 C⟩
  have GU := ok_counted (P := l.prog) (w := w) (base := base) F18 C X0 D0
  have GV := ok_valuedC (P := l.prog) (w := w) (base := base) F13 C D12 D1 (PySem.W.mg_of X G fa18) fk18 b18 GU
  have D20 : Df l.prog w K mg base 1 "_lesser_cost" ["a", "b"] spLesser := ⟨f20, _, PySem.W.mg_of X G fa20, fk20, b20, ok_lesser F20 C⟩
  have D21 : Df l.prog w K mg base 1 "_added_cost" ["a", "b"] spAdded := ⟨f21, _, PySem.W.mg_of X G fa21, fk21, b21, ok_added F21⟩
  have Pz : ∀ j : Mi, FnOk l.prog w K mg base CX0 1 f16 (PySem.W.fnOf "measured_zero" "measured_zero" (defArgs sMZero) (defBody sMZero) (defScope sMZero) .none fkV16 fdc16 fpm16 fan16 fcd16 fct16) ["measure", "persons"] (spMZ K (algM j)) := fun j => by
    obtain ⟨ps, hp, hu, q⟩ := j
    cases q with
    | count => exact mz_C (ok_zeC F16 Vc)
    | cost => exact mz_P (A := alpN true) (pz_N (is := true) (ok_mzero F16 Vn))
    | trust => exact mz_P (A := alpN false) (pz_N (is := false) (ok_mzero F16 Vn))
    | there => exact mz_P (A := alpT ps true) (pz_T (ps := ps) (is := true) (ok_tzero F16 Vt))
    | seen => exact mz_P (A := alpT ps false) (pz_T (ps := ps) (is := false) (ok_tzero F16 Vt))
  have Po : ∀ j : Mi, FnOk l.prog w K mg base CX0 1 f17 (PySem.W.fnOf "measured_one" "measured_one" (defArgs sMOne) (defBody sMOne) (defScope sMOne) .none fkV17 fdc17 fpm17 fan17 fcd17 fct17) ["measure", "persons"] (spMO K (algM j) j.ps) := fun j => by
    obtain ⟨ps, hp, hu, q⟩ := j
    cases q with
    | count => exact mo_C (ok_onC F17 Vc)
    | cost => exact mo_P (A := alpN true) (po_N (is := true) (ps := ps) (ok_mone F17 Vn))
    | trust => exact mo_P (A := alpN false) (po_N (is := false) (ps := ps) (ok_mone F17 Vn))
    | there => exact mo_P (A := alpT ps true) (po_T (ps := ps) (is := true) (ok_tone F17 C Vt))
    | seen => exact mo_P (A := alpT ps false) (po_T (ps := ps) (is := false) (ok_tone F17 C Vt))
  have Pp : ∀ j : Mi, FnOk l.prog w K mg base CX0 2 f14 (PySem.W.fnOf "measured_plus" "measured_plus" (defArgs sMPlus) (defBody sMPlus) (defScope sMPlus) .none fkV14 fdc14 fpm14 fan14 fcd14 fct14) ["measure", "a", "b"] (spMS K (algM j)) := fun j => by
    obtain ⟨ps, hp, hu, q⟩ := j
    cases q with
    | count => exact FnOk.mono (ms_C (ok_plC F14)) (show 1 ≤ 2 by decide)
    | cost => exact ms_P (A := alpN true) (ps_N (is := true) (ok_mplus F14 Vn D20))
    | trust => exact ms_P (A := alpN false) (ps_N (is := false) (ok_mplus F14 Vn D20))
    | there => exact ms_P (A := alpT ps true) (ps_T (is := true) hp (ok_tplus F14 C Vt))
    | seen => exact ms_P (A := alpT ps false) (ps_T (is := false) hp (ok_tplus F14 C Vt))
  have Pt : ∀ j : Mi, FnOk l.prog w K mg base CX0 2 f15 (PySem.W.fnOf "measured_times" "measured_times" (defArgs sMTimes) (defBody sMTimes) (defScope sMTimes) .none fkV15 fdc15 fpm15 fan15 fcd15 fct15) ["measure", "a", "b"] (spMT K (algM j)) := fun j => by
    obtain ⟨ps, hp, hu, q⟩ := j
    cases q with
    | count => exact FnOk.mono (mt_C F15) (show 1 ≤ 2 by decide)
    | cost => exact mt_P (A := alpN true) (pb_N (is := true) (ok_mtimes F15 C D21))
    | trust => exact mt_P (A := alpN false) (pb_N (is := false) (ok_mtimes F15 C D21))
    | there => exact mt_P (A := alpT ps true) (pb_T (is := true) hp (ok_ttimes F15 C Vt))
    | seen => exact mt_P (A := alpT ps false) (pb_T (is := false) hp (ok_ttimes F15 C Vt))
  have Pv : ∀ j : Mi, FnOk l.prog w K mg base CX0 3 f13 (PySem.W.fnOf "valued" "valued" (defArgs sValued) (defBody sValued) (defScope sValued) .none fkV13 fdc13 fpm13 fan13 fcd13 fct13) ["p", "measure", "given"] (spVA K (algM j) j.ps) := fun j => by
    obtain ⟨ps, hp, hu, q⟩ := j
    cases q with
    | count => exact va_C (valN_of GV)
    | cost => exact va_P (A := alpN true) (ok_pvalued (alpN true) ps F13 C D12 D1 ⟨f16, _, PySem.W.mg_of X G fa16, fk16, b16, (pz_N (is := true) (ok_mzero F16 Vn))⟩ ⟨f17, _, PySem.W.mg_of X G fa17, fk17, b17, (po_N (is := true) (ps := ps) (ok_mone F17 Vn))⟩ ⟨f15, _, PySem.W.mg_of X G fa15, fk15, b15, (pb_N (is := true) (ok_mtimes F15 C D21))⟩ ⟨f14, _, PySem.W.mg_of X G fa14, fk14, b14, (ps_N (is := true) (ok_mplus F14 Vn D20))⟩ ⟨f19, _, PySem.W.mg_of X G fa19, fk19, b19, (pr_N (is := true) (ok_raised F19))⟩)
    | trust => exact va_P (A := alpN false) (ok_pvalued (alpN false) ps F13 C D12 D1 ⟨f16, _, PySem.W.mg_of X G fa16, fk16, b16, (pz_N (is := false) (ok_mzero F16 Vn))⟩ ⟨f17, _, PySem.W.mg_of X G fa17, fk17, b17, (po_N (is := false) (ps := ps) (ok_mone F17 Vn))⟩ ⟨f15, _, PySem.W.mg_of X G fa15, fk15, b15, (pb_N (is := false) (ok_mtimes F15 C D21))⟩ ⟨f14, _, PySem.W.mg_of X G fa14, fk14, b14, (ps_N (is := false) (ok_mplus F14 Vn D20))⟩ ⟨f19, _, PySem.W.mg_of X G fa19, fk19, b19, (pr_N (is := false) (ok_raised F19))⟩)
    | there => exact va_P (A := alpT ps true) (ok_pvalued (alpT ps true) ps F13 C D12 D1 ⟨f16, _, PySem.W.mg_of X G fa16, fk16, b16, (pz_T (ps := ps) (is := true) (ok_tzero F16 Vt))⟩ ⟨f17, _, PySem.W.mg_of X G fa17, fk17, b17, (po_T (ps := ps) (is := true) (ok_tone F17 C Vt))⟩ ⟨f15, _, PySem.W.mg_of X G fa15, fk15, b15, (pb_T (is := true) hp (ok_ttimes F15 C Vt))⟩ ⟨f14, _, PySem.W.mg_of X G fa14, fk14, b14, (ps_T (is := true) hp (ok_tplus F14 C Vt))⟩ ⟨f19, _, PySem.W.mg_of X G fa19, fk19, b19, (pr_T (ps := ps) (is := true) (ok_traised F19))⟩)
    | seen => exact va_P (A := alpT ps false) (ok_pvalued (alpT ps false) ps F13 C D12 D1 ⟨f16, _, PySem.W.mg_of X G fa16, fk16, b16, (pz_T (ps := ps) (is := false) (ok_tzero F16 Vt))⟩ ⟨f17, _, PySem.W.mg_of X G fa17, fk17, b17, (po_T (ps := ps) (is := false) (ok_tone F17 C Vt))⟩ ⟨f15, _, PySem.W.mg_of X G fa15, fk15, b15, (pb_T (is := false) hp (ok_ttimes F15 C Vt))⟩ ⟨f14, _, PySem.W.mg_of X G fa14, fk14, b14, (ps_T (is := false) hp (ok_tplus F14 C Vt))⟩ ⟨f19, _, PySem.W.mg_of X G fa19, fk19, b19, (pr_T (ps := ps) (is := false) (ok_traised F19))⟩)
  have D22 : Df l.prog w K mg base 1 "_law_mixed" ["number", "turn", "many"] spMixd := ⟨f22, _, PySem.W.mg_of X G fa22, fk22, b22, ok_mixd F22 N.int⟩
  have D24 : Df l.prog w K mg base 2 "_law_take" ["pool", "many"] spTake := ⟨f24, _, PySem.W.mg_of X G fa24, fk24, b24, ok_take F24 N.int N.len D22⟩
  have D23 : Df l.prog w K mg base 1 "_law_pool" ["script"] (spPool K) := ⟨f23, _, PySem.W.mg_of X G fa23, fk23, b23, ok_pool F23 N.int N.len N.lst⟩
  have D25 : Df l.prog w K mg base 3 "_law_tokens" ["pool", "many"] spPTok := ⟨f25, _, PySem.W.mg_of X G fa25, fk25, b25, ok_ptok F25 N D24⟩
  have D26m : Df l.prog w K mg base 1 "_law_sorted" ["rows"] (spPSort K Mono) := ⟨f26, _, PySem.W.mg_of X G fa26, fk26, b26, ok_psort Mono F26 N⟩
  have D26s : Df l.prog w K mg base 1 "_law_sorted" ["rows"] (spPSort K Str) := ⟨f26, _, PySem.W.mg_of X G fa26, fk26, b26, ok_psort Str F26 N⟩
  have D28 : Df l.prog w K mg base 2 "_law_product" ["one", "other"] (spPProd K) := ⟨f28, _, PySem.W.mg_of X G fa28, fk28, b28, ok_pprod F28 N D26s⟩
  have D27 : Df l.prog w K mg base 2 "_law_poly" ["terms"] (spPPoly K) := ⟨f27, _, PySem.W.mg_of X G fa27, fk27, b27, ok_ppoly F27 N D26m⟩
  have D29 : Df l.prog w K mg base 3 "_law_plus" ["p", "q"] (spQPlus K) := ⟨f29, _, PySem.W.mg_of X G fa29, fk29, b29, ok_qplus F29 N.lst D27⟩
  have D30 : Df l.prog w K mg base 3 "_law_times" ["p", "q"] (spQTimes K) := ⟨f30, _, PySem.W.mg_of X G fa30, fk30, b30, ok_qtimes F30 D27 D28⟩
  have D31 : Df l.prog w K mg base 3 "_law_drawn_poly" ["pool", "tokens", "most"] (spPDrawn K) := ⟨f31, _, PySem.W.mg_of X G fa31, fk31, b31, ok_pdrawn F31 N D24 D28 D27⟩
  have D33 : Df l.prog w K mg base 5 "_law_lists" ["value"] (spPLs K 4) := ⟨f33, _, PySem.W.mg_of X G fa33, fk33, b33, ok_plists F33 b33 (PySem.W.mg_of X G fa33) fk33 N 5⟩
  have D32 : Df l.prog w K mg base 6 "_law_listed" ["pool", "value"] (spPListed K 4) := ⟨f32, _, PySem.W.mg_of X G fa32, fk32, b32, ok_plisted (n := 3) F32 D24 D33⟩
  have D34 : Df l.prog w K mg base 4 "_law_same" ["actual", "due"] (spSm K 3) := ⟨f34, _, PySem.W.mg_of X G fa34, fk34, b34, ok_psame F34 b34 (PySem.W.mg_of X G fa34) fk34 N 4⟩
  have D34w : Df l.prog w K mg base 5 "_law_same" ["actual", "due"] (spSm K 4) := ⟨f34, _, PySem.W.mg_of X G fa34, fk34, b34, ok_psame F34 b34 (PySem.W.mg_of X G fa34) fk34 N 5⟩
  have D35 : Df l.prog w K mg base 3 "_law_persons" ["pool", "many"] spGPers := ⟨f35, _, PySem.W.mg_of X G fa35, fk35, b35, ok_gpers F35 N D24 D26s⟩
  have D36 : Df l.prog w K mg base 3 "_law_some" ["pool", "persons"] (spGSome K) := ⟨f36, _, PySem.W.mg_of X G fa36, fk36, b36, ok_some F36 N D24⟩
  have Lz : ∀ j : Mi, FnOk l.prog w K mg base CX0 1 f38 (PySem.W.fnOf "_law_zero" "_law_zero" (defArgs sGZero) (defBody sGZero) (defScope sGZero) .none fkV38 fdc38 fpm38 fan38 fcd38 fct38) ["measure", "persons"] (spAZ K (algM j)) := fun j => by
    obtain ⟨ps, hp, hu, q⟩ := j
    cases q with
    | count => exact nz_alg (ok_nzero .count F38)
    | cost => exact nz_alg (ok_nzero .cost F38)
    | trust => exact nz_alg (ok_nzero .trust F38)
    | there => exact tz_alg (ps := ps) (is := true) (ok_gzero F38)
    | seen => exact tz_alg (ps := ps) (is := false) (ok_gzero F38)
  have Lo : ∀ j : Mi, FnOk l.prog w K mg base CX0 1 f39 (PySem.W.fnOf "_law_one" "_law_one" (defArgs sGOne) (defBody sGOne) (defScope sGOne) .none fkV39 fdc39 fpm39 fan39 fcd39 fct39) ["measure", "persons"] (spAO K (algM j) j.ps) := fun j => by
    obtain ⟨ps, hp, hu, q⟩ := j
    cases q with
    | count => exact no_alg (ps := ps) (ok_none .count F39)
    | cost => exact no_alg (ps := ps) (ok_none .cost F39)
    | trust => exact no_alg (ps := ps) (ok_none .trust F39)
    | there => exact to_alg (ps := ps) (is := true) (ok_gone F39)
    | seen => exact to_alg (ps := ps) (is := false) (ok_gone F39)
  have Ls : ∀ j : Mi, FnOk l.prog w K mg base CX0 2 f40 (PySem.W.fnOf "_law_sum" "_law_sum" (defArgs sGSum) (defBody sGSum) (defScope sGSum) .none fkV40 fdc40 fpm40 fan40 fcd40 fct40) ["measure", "a", "b"] (spAS K (algM j)) := fun j => by
    obtain ⟨ps, hp, hu, q⟩ := j
    cases q with
    | count => exact ns_alg (ok_nsum .count F40 N mn mx)
    | cost => exact ns_alg (ok_nsum .cost F40 N mn mx)
    | trust => exact ns_alg (ok_nsum .trust F40 N mn mx)
    | there => exact ts_alg (is := true) hp hu (ok_gsum F40 N N.lst D26s)
    | seen => exact ts_alg (is := false) hp hu (ok_gsum F40 N N.lst D26s)
  have Lb : ∀ j : Mi, FnOk l.prog w K mg base CX0 1 f41 (PySem.W.fnOf "_law_both" "_law_both" (defArgs sGBoth) (defBody sGBoth) (defScope sGBoth) .none fkV41 fdc41 fpm41 fan41 fcd41 fct41) ["measure", "a", "b"] (spAB K (algM j)) := fun j => by
    obtain ⟨ps, hp, hu, q⟩ := j
    cases q with
    | count => exact nb_alg (ok_nbothV .count F41 N mn)
    | cost => exact nb_alg (ok_nbothV .cost F41 N mn)
    | trust => exact nb_alg (ok_nbothV .trust F41 N mn)
    | there => exact tb_alg (is := true) hp (ok_gboth F41 N)
    | seen => exact tb_alg (is := false) hp (ok_gboth F41 N)
  have Lt : ∀ j : Mi, FnOk l.prog w K mg base CX0 1 f41 (PySem.W.fnOf "_law_both" "_law_both" (defArgs sGBoth) (defBody sGBoth) (defScope sGBoth) .none fkV41 fdc41 fpm41 fan41 fcd41 fct41) ["measure", "a", "b"] (spLT K (algM j)) := fun j => by
    obtain ⟨ps, hp, hu, q⟩ := j
    cases q with
    | count => exact ll_N (ok_nboth .count F41 N mn)
    | cost => exact ll_N (ok_nboth .cost F41 N mn)
    | trust => exact ll_N (ok_nboth .trust F41 N mn)
    | there => exact ll_T (is := true) hp (ok_gboth F41 N)
    | seen => exact ll_T (is := false) hp (ok_gboth F41 N)
  have Ld : ∀ j : Mi, FnOk l.prog w K mg base CX0 4 f37 (PySem.W.fnOf "_law_drawn_value" "_law_drawn_value" (defArgs sGDVal) (defBody sGDVal) (defScope sGDVal) .none fkV37 fdc37 fpm37 fan37 fcd37 fct37) ["pool", "measure", "persons"] (spAD K (algM j) j.ps) := fun j => by
    obtain ⟨ps, hp, hu, q⟩ := j
    cases q with
    | count => exact nd_alg (ps := ps) (ok_ndval .count F37 D24)
    | cost => exact nd_alg (ps := ps) (ok_ndval .cost F37 D24)
    | trust => exact nd_alg (ps := ps) (ok_ndval .trust F37 D24)
    | there => exact td_alg (is := true) hp (ok_gdval F37 D24 D36)
    | seen => exact td_alg (is := false) hp (ok_gdval F37 D24 D36)
  have Zz : ∀ j : Mi, Df l.prog w K mg base 1 "_law_zero" ["measure", "persons"] (spAZ K (algM j)) := fun j => ⟨f38, _, PySem.W.mg_of X G fa38, fk38, b38, Lz j⟩
  have Zo : ∀ j : Mi, Df l.prog w K mg base 1 "_law_one" ["measure", "persons"] (spAO K (algM j) j.ps) := fun j => ⟨f39, _, PySem.W.mg_of X G fa39, fk39, b39, Lo j⟩
  have Zs : ∀ j : Mi, Df l.prog w K mg base 2 "_law_sum" ["measure", "a", "b"] (spAS K (algM j)) := fun j => ⟨f40, _, PySem.W.mg_of X G fa40, fk40, b40, Ls j⟩
  have Zb : ∀ j : Mi, Df l.prog w K mg base 1 "_law_both" ["measure", "a", "b"] (spAB K (algM j)) := fun j => ⟨f41, _, PySem.W.mg_of X G fa41, fk41, b41, Lb j⟩
  have Zt : ∀ j : Mi, Df l.prog w K mg base 1 "_law_both" ["measure", "a", "b"] (spLT K (algM j)) := fun j => ⟨f41, _, PySem.W.mg_of X G fa41, fk41, b41, Lt j⟩
  have Zd : ∀ j : Mi, Df l.prog w K mg base 4 "_law_drawn_value" ["pool", "measure", "persons"] (spAD K (algM j) j.ps) := fun j => ⟨f37, _, PySem.W.mg_of X G fa37, fk37, b37, Ld j⟩
  have Zv : ∀ j : Mi, Df l.prog w K mg base 3 "_law_valued" ["p", "measure", "values", "persons"] (spAVal K (algM j) j.ps) := fun j => ⟨f42, _, PySem.W.mg_of X G fa42, fk42, b42, ok_aval (algM j) j.ps F42 N (Zz j) (Zo j) (Zs j) (Zb j)⟩
  have Xv : ∀ j : Mi, Df l.prog w K mg base 3 "valued" ["p", "measure", "given"] (spVA K (algM j) j.ps) := fun j => ⟨f13, _, PySem.W.mg_of X G fa13, fk13, b13, Pv j⟩
  have Xp : ∀ j : Mi, Df l.prog w K mg base 2 "measured_plus" ["measure", "a", "b"] (spMS K (algM j)) := fun j => ⟨f14, _, PySem.W.mg_of X G fa14, fk14, b14, Pp j⟩
  have Xt : ∀ j : Mi, Dk l.prog w K mg base 2 "measured_times" ["measure", "a", "b"] ["measure", "a", "b"] kw3 kw3 (spMT K (algM j)) := fun j => ⟨f15, _, PySem.W.mg_of X G fa15, fk15, b15, kb_kw3 F15 fun _ _ _ _ _ _ _ _ _ => rfl, Pt j⟩
  have GM : ∀ j : Mi, FnG l.prog w K mg base 7 f44 (PySem.W.fnOf "_law_met" "_law_met" (defArgs sMet) (defBody sMet) (defScope sMet) .none fkV44 fdc44 fpm44 fan44 fcd44 fct44) ["pool", "measure", "polys", "values", "pairs", "persons"] (spMet K (algM j) j.ps) := fun j => ok_met (algM j) (lw_M j) (sm_M j) (okA_M j) j.ps F44 N (Zv j) D32 D34 (Xv j) (Zs j) (Zt j) (Xp j) (Xt j) D10 D11
  have Ug : Df l.prog w K mg base 5 "_law_given" ["pool", "measure", "tokens", "persons"] (U fun j : Mi => spAGiven K (algM j) j.ps) := ⟨f43, _, PySem.W.mg_of X G fa43, fk43, b43, FnOk.any fun j : Mi => ok_agiven (algM j) j.ps F43 N D24 (Zd j)⟩
  have Uz : Df l.prog w K mg base 1 "measured_zero" ["measure", "persons"] (U fun j : Mi => spMZ K (algM j)) := ⟨f16, _, PySem.W.mg_of X G fa16, fk16, b16, FnOk.any Pz⟩
  have Ux : Df l.prog w K mg base 1 "_law_zero" ["measure", "persons"] (U fun j : Mi => spAZ K (algM j)) := ⟨f38, _, PySem.W.mg_of X G fa38, fk38, b38, FnOk.any Lz⟩
  have Uy : Df l.prog w K mg base 1 "_law_one" ["measure", "persons"] (U fun j : Mi => spAO K (algM j) j.ps) := ⟨f39, _, PySem.W.mg_of X G fa39, fk39, b39, FnOk.any Lo⟩
  have Uv : Df l.prog w K mg base 3 "valued" ["p", "measure", "given"] (U fun j : Mi => spVA K (algM j) j.ps) := ⟨f13, _, PySem.W.mg_of X G fa13, fk13, b13, FnOk.any Pv⟩
  have Uo : Dk l.prog w K mg base 2 "measured_one" ["measure", "persons"] ["measure", "persons"] kw2 kw2 (U fun j : Mi => spMO K (algM j) j.ps) := ⟨f17, _, PySem.W.mg_of X G fa17, fk17, b17, kb_kw2 F17 fun _ _ _ _ _ _ _ _ => rfl, FnOk.mono (FnOk.any Po) (show 1 ≤ 2 by decide)⟩
  exact ok_glaw F45 C D23 D24 D25 D35 D31 D34w D32 Kq Kr D29 D30 Ug Uz Uo Ux Uy Uv (PySem.W.mg_of X G fa44) fk44 b44 (FnG.any GM)
theorem walk {l : PySem.W.OpenLaw} {q : Program} {loose : List Str} {XP : (Str → Option Value) → Heap → Prop} {YP : World → Heap → Prop} {d : DefRec} {K : Params → PySem.W.Frag} (hn : l.most = some 63) (hdf : d.params.defaults = [])
    (hY : ∀ (w : World) (h : Heap), YP w h → (K w.params).In h)
    (F : ∀ (w : World) (mg : Str → Option Value) (fa : Addr) (h : Heap), (K w.params).In h → h.Ns mainGlobals mg → mg d.name = some (.ref fa) →
      ∃ fd : FuncData, (∀ (s : Shared) (u : Value), BindsTo s fd ⟨[u], []⟩ [("script", u)]) ∧ ∀ base : Heap, (K w.params).In base → base.Ns mainGlobals mg → FnG l.prog w (K w.params) mg base 8 fa fd ["script"] (spGLaw (K w.params))) :
    PySem.W.WalkO q loose XP YP l.row.toRowW d [] (fun f vs => PySem.call f vs) :=
  walk_still (n := 63) (k := 8) (x := "script") (sp := spGLaw) hn (by decide) hdf ⟨rfl, by decide, by decide⟩ hY F (fun _ _ a ns hl hS => ⟨a, ns, rfl, hS, hl, fun _ => rfl⟩)
end K8


set_option Elab.async false
open PySem PySem.W PyProof.Rows
set_option maxRecDepth 100000 in
set_option maxHeartbeats 0 in
theorem PySem.Challenge.cw_ledgertrace_k08_whole_valuing_is_a_homom_holds : PySem.Challenge.rw_ledgertrace_k08_whole_valuing_is_a_homom.Holds := by
  w_on; o_law; k_head; (case hw => w_witness2)
  k_fill
  refine K8.walk (l := PySem.Challenge.rw_ledgertrace_k08_whole_valuing_is_a_homom) rfl rfl (fun w h Y => PySem.W.kIn_of Y) ?F
  case F =>
    intro w mg fa h KX G hmg
    refine' K8.all_mk KX G hmg ?bey ?most ?zer ?zl ?one ?o1 ?o2 ?o3 ?yg ?yl ?yk ?ug ?ul ?uk ?y1 ?y2 ?y3 ?y4 ?y5 ?u1 ?u2 ?u3 ?u4 ?sl ?ax0 ?xx0 ?sax0 ?gax0 ?ggx0 ?cax0 ?nox0 ?iix0 ?tix0 ?lix0 ?cix0 ?kcx0 ?tyx0 ?fa0 ?fl0 ?fc0 ?fk0 ?fa1 ?fl1 ?fc1 ?fk1 ?fa2 ?fl2 ?fc2 ?fk2 ?fa3 ?fl3 ?fc3 ?fk3 ?fa4 ?fl4 ?fc4 ?fk4 ?fa5 ?fl5 ?fc5 ?fk5 ?fa6 ?fl6 ?fc6 ?fk6 ?fa7 ?fl7 ?fc7 ?fk7 ?fa8 ?fl8 ?fc8 ?fk8 ?fa9 ?fl9 ?fc9 ?fk9 ?fa10 ?fl10 ?fc10 ?fk10 ?fa11 ?fl11 ?fc11 ?fk11 ?fa12 ?fl12 ?fc12 ?fk12 ?fa13 ?fl13 ?fc13 ?fk13 ?fa14 ?fl14 ?fc14 ?fk14 ?fa15 ?fl15 ?fc15 ?fk15 ?fa16 ?fl16 ?fc16 ?fk16 ?fa17 ?fl17 ?fc17 ?fk17 ?fa18 ?fl18 ?fc18 ?fk18 ?fa19 ?fl19 ?fc19 ?fk19 ?fa20 ?fl20 ?fc20 ?fk20 ?fa21 ?fl21 ?fc21 ?fk21 ?fa22 ?fl22 ?fc22 ?fk22 ?fa23 ?fl23 ?fc23 ?fk23 ?fa24 ?fl24 ?fc24 ?fk24 ?fa25 ?fl25 ?fc25 ?fk25 ?fa26 ?fl26 ?fc26 ?fk26 ?fa27 ?fl27 ?fc27 ?fk27 ?fa28 ?fl28 ?fc28 ?fk28 ?fa29 ?fl29 ?fc29 ?fk29 ?fa30 ?fl30 ?fc30 ?fk30 ?fa31 ?fl31 ?fc31 ?fk31 ?fa32 ?fl32 ?fc32 ?fk32 ?fa33 ?fl33 ?fc33 ?fk33 ?fa34 ?fl34 ?fc34 ?fk34 ?fa35 ?fl35 ?fc35 ?fk35 ?fa36 ?fl36 ?fc36 ?fk36 ?fa37 ?fl37 ?fc37 ?fk37 ?fa38 ?fl38 ?fc38 ?fk38 ?fa39 ?fl39 ?fc39 ?fk39 ?fa40 ?fl40 ?fc40 ?fk40 ?fa41 ?fl41 ?fc41 ?fk41 ?fa42 ?fl42 ?fc42 ?fk42 ?fa43 ?fl43 ?fc43 ?fk43 ?fa44 ?fl44 ?fc44 ?fk44 ?fa45 ?fl45 ?fc45 ?fk45 ?z_isinstance ?z_tuple ?z_list ?z_len ?z_range ?z_bool ?z_str ?z_int ?z_min ?z_any ?z_dict ?z_sorted ?z_max ?z_sum ?z_reversed ?z_set
    (case bey => k_is)
    (case most => k_is)
    (case zer => k_is)
    (case zl => k_is)
    (case one => k_is)
    (case o1 => k_is)
    (case o2 => k_is)
    (case o3 => k_is)
    (case yg => k_is)
    (case yl => k_is)
    (case yk => (repeat (refine ⟨⟨_, _, rfl, rfl⟩, ?_⟩)); trivial)
    (case ug => k_is)
    (case ul => k_is)
    (case uk => (repeat (refine ⟨⟨_, _, rfl, rfl⟩, ?_⟩)); trivial)
    (case y1 => k_is)
    (case y2 => k_is)
    (case y3 => k_is)
    (case y4 => k_is)
    (case y5 => k_is)
    (case u1 => k_is)
    (case u2 => k_is)
    (case u3 => k_is)
    (case u4 => k_is)
    (case sl => k_is)
    (case ax0 => k_is)
    (case xx0 => k_is)
    (case sax0 => k_is)
    (case gax0 => k_is)
    (case ggx0 => k_is)
    (case cax0 => k_is)
    (case nox0 => k_is)
    (case iix0 => k_is)
    (case tix0 => k_is)
    (case lix0 => k_is)
    (case cix0 => k_is)
    (case kcx0 => k_is)
    (case tyx0 => k_is)
    (case fa0 => k_is)
    (case fl0 => k_is)
    (case fc0 => k_is)
    (case fk0 => k_is)
    (case fa1 => k_is)
    (case fl1 => k_is)
    (case fc1 => k_is)
    (case fk1 => k_is)
    (case fa2 => k_is)
    (case fl2 => k_is)
    (case fc2 => k_is)
    (case fk2 => k_is)
    (case fa3 => k_is)
    (case fl3 => k_is)
    (case fc3 => k_is)
    (case fk3 => k_is)
    (case fa4 => k_is)
    (case fl4 => k_is)
    (case fc4 => k_is)
    (case fk4 => k_is)
    (case fa5 => k_is)
    (case fl5 => k_is)
    (case fc5 => k_is)
    (case fk5 => k_is)
    (case fa6 => k_is)
    (case fl6 => k_is)
    (case fc6 => k_is)
    (case fk6 => k_is)
    (case fa7 => k_is)
    (case fl7 => k_is)
    (case fc7 => k_is)
    (case fk7 => k_is)
    (case fa8 => k_is)
    (case fl8 => k_is)
    (case fc8 => k_is)
    (case fk8 => k_is)
    (case fa9 => k_is)
    (case fl9 => k_is)
    (case fc9 => k_is)
    (case fk9 => k_is)
    (case fa10 => k_is)
    (case fl10 => k_is)
    (case fc10 => k_is)
    (case fk10 => k_is)
    (case fa11 => k_is)
    (case fl11 => k_is)
    (case fc11 => k_is)
    (case fk11 => k_is)
    (case fa12 => k_is)
    (case fl12 => k_is)
    (case fc12 => k_is)
    (case fk12 => k_is)
    (case fa13 => k_is)
    (case fl13 => k_is)
    (case fc13 => k_is)
    (case fk13 => k_is)
    (case fa14 => k_is)
    (case fl14 => k_is)
    (case fc14 => k_is)
    (case fk14 => k_is)
    (case fa15 => k_is)
    (case fl15 => k_is)
    (case fc15 => k_is)
    (case fk15 => k_is)
    (case fa16 => k_is)
    (case fl16 => k_is)
    (case fc16 => k_is)
    (case fk16 => k_is)
    (case fa17 => k_is)
    (case fl17 => k_is)
    (case fc17 => k_is)
    (case fk17 => k_is)
    (case fa18 => k_is)
    (case fl18 => k_is)
    (case fc18 => k_is)
    (case fk18 => k_is)
    (case fa19 => k_is)
    (case fl19 => k_is)
    (case fc19 => k_is)
    (case fk19 => k_is)
    (case fa20 => k_is)
    (case fl20 => k_is)
    (case fc20 => k_is)
    (case fk20 => k_is)
    (case fa21 => k_is)
    (case fl21 => k_is)
    (case fc21 => k_is)
    (case fk21 => k_is)
    (case fa22 => k_is)
    (case fl22 => k_is)
    (case fc22 => k_is)
    (case fk22 => k_is)
    (case fa23 => k_is)
    (case fl23 => k_is)
    (case fc23 => k_is)
    (case fk23 => k_is)
    (case fa24 => k_is)
    (case fl24 => k_is)
    (case fc24 => k_is)
    (case fk24 => k_is)
    (case fa25 => k_is)
    (case fl25 => k_is)
    (case fc25 => k_is)
    (case fk25 => k_is)
    (case fa26 => k_is)
    (case fl26 => k_is)
    (case fc26 => k_is)
    (case fk26 => k_is)
    (case fa27 => k_is)
    (case fl27 => k_is)
    (case fc27 => k_is)
    (case fk27 => k_is)
    (case fa28 => k_is)
    (case fl28 => k_is)
    (case fc28 => k_is)
    (case fk28 => k_is)
    (case fa29 => k_is)
    (case fl29 => k_is)
    (case fc29 => k_is)
    (case fk29 => k_is)
    (case fa30 => k_is)
    (case fl30 => k_is)
    (case fc30 => k_is)
    (case fk30 => k_is)
    (case fa31 => k_is)
    (case fl31 => k_is)
    (case fc31 => k_is)
    (case fk31 => k_is)
    (case fa32 => k_is)
    (case fl32 => k_is)
    (case fc32 => k_is)
    (case fk32 => k_is)
    (case fa33 => k_is)
    (case fl33 => k_is)
    (case fc33 => k_is)
    (case fk33 => k_is)
    (case fa34 => k_is)
    (case fl34 => k_is)
    (case fc34 => k_is)
    (case fk34 => k_is)
    (case fa35 => k_is)
    (case fl35 => k_is)
    (case fc35 => k_is)
    (case fk35 => k_is)
    (case fa36 => k_is)
    (case fl36 => k_is)
    (case fc36 => k_is)
    (case fk36 => k_is)
    (case fa37 => k_is)
    (case fl37 => k_is)
    (case fc37 => k_is)
    (case fk37 => k_is)
    (case fa38 => k_is)
    (case fl38 => k_is)
    (case fc38 => k_is)
    (case fk38 => k_is)
    (case fa39 => k_is)
    (case fl39 => k_is)
    (case fc39 => k_is)
    (case fk39 => k_is)
    (case fa40 => k_is)
    (case fl40 => k_is)
    (case fc40 => k_is)
    (case fk40 => k_is)
    (case fa41 => k_is)
    (case fl41 => k_is)
    (case fc41 => k_is)
    (case fk41 => k_is)
    (case fa42 => k_is)
    (case fl42 => k_is)
    (case fc42 => k_is)
    (case fk42 => k_is)
    (case fa43 => k_is)
    (case fl43 => k_is)
    (case fc43 => k_is)
    (case fk43 => k_is)
    (case fa44 => k_is)
    (case fl44 => k_is)
    (case fc44 => k_is)
    (case fk44 => k_is)
    (case fa45 => k_is)
    (case fl45 => k_is)
    (case fc45 => k_is)
    (case fk45 => k_is)
    (case z_isinstance => k_is)
    (case z_tuple => k_is)
    (case z_list => k_is)
    (case z_len => k_is)
    (case z_range => k_is)
    (case z_bool => k_is)
    (case z_str => k_is)
    (case z_int => k_is)
    (case z_min => k_is)
    (case z_any => k_is)
    (case z_dict => k_is)
    (case z_sorted => k_is)
    (case z_max => k_is)
    (case z_sum => k_is)
    (case z_reversed => k_is)
    (case z_set => k_is)

