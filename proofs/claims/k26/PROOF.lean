import PyProof.Rows.All
import Wide.All
import OpenK.AllK
import Wide.FinOn
import KE.KDictKeyed
import KE.SortData
import KE.DataCmp
import HandS.ForMost
import HandS.Conv
import HandS.DictTup
import HandS.TupAny
import HandS.Walk
import HandS.ForExc
import HandS.Comp
import HandS.Text
import HandS.Codes
import HandS.IsInst
import HandS.More
import HandS.Wide
import HandS.ForDict
import KE.KDictPairs
import PyProof.ReprRoads
import PyProof.Rows.ReprR
import HandS.Ends
import PyProof.StrLawsRepr
import KE.KExcInit
import KE.KExcIs
import HandS.Exc
import HandS.ExcInit
import HandS.ExcValue
import HandS.ExcField
import HandS.TryOnly
import HandS.ExcIs
import HandS.DeepEq
import HandS.List
import HandS.SortKw
import PyProof.MinMaxWalk
import PyProof.WalkInts
import HandS.SetBool
import HandS.Set
import KE.KIntText
import HandS.Deep
import HandS.Iter
import KE.GoesEnum
import KE.GoesMore
import HandS.DictComp
import HandS.WideBits
import KE.SortKeyHeap
import KE.DataMinKey
import PySem.Challenge.RW_ledgertrace_k26_blames
set_option Elab.async false
set_option linter.all false
set_option maxRecDepth 100000
set_option maxHeartbeats 2000000
/-! dicts whose keys are tuples of pairs (text, int), their values ints -/
namespace Nd
open PySem PySem.Spec PyProof.Rows L2
abbrev Mono := List (Str × Int)
def mD (m : Mono) : PyData := .tuple (m.map fun p => .tuple [.str p.1, .int p.2])
def mK (m : Mono) : NestedKey := .tup (m.map fun p => .tup [.text p.1, .num p.2])
theorem mK_inj {m n : Mono} (h : mK m = mK n) : m = n := by
  have h' := NestedKey.tup.inj h
  revert n
  induction m with
  | nil =>
    intro n _ h'
    cases n with
    | nil => rfl
    | cons y r => simp at h'
  | cons x r ih =>
    intro n h h'
    cases n with
    | nil => simp at h'
    | cons y r' =>
      simp only [List.map_cons, List.cons.injEq, NestedKey.tup.injEq, NestedKey.text.injEq, NestedKey.num.injEq] at h'
      obtain ⟨⟨h1, h2, _⟩, h3⟩ := h'
      have := ih (n := r') (by show NestedKey.tup _ = NestedKey.tup _; rw [h3]) h3
      rw [this]
      obtain ⟨x1, x2⟩ := x
      obtain ⟨y1, y2⟩ := y
      simp only at h1 h2
      rw [h1, h2]
theorem mK_depth (m : Mono) : (mK m).depth ≤ 8 := by
  have h : ∀ m : Mono, NestedKey.depthAll (m.map fun p => .tup [.text p.1, .num p.2]) ≤ 1 := by
    intro m
    induction m with
    | nil => simp [NestedKey.depthAll]
    | cons x r ih => simp only [List.map_cons, NestedKey.depthAll, NestedKey.depth]; omega
  have := h m
  simp only [mK, NestedKey.depth]
  omega
section
variable {X : Cx} {pins : List (Addr × Obj)} {σ : L2.St} {H : Hp} {s : Shared}
theorem pair_is (I : Inv X pins σ H s) {v : V} {u : Value} {x : Str} {i : Int} (h : Dp X.K H v (.tuple [.str x, .int i])) (r : RelV v u) : NestedIs s.heap (.tup [.text x, .num i]) u := by
  cases h with
  | tup hs ha =>
    cases r
    obtain ⟨its, rv, ⟨o, ho, hc, n, hd⟩, _⟩ := I.tuple hs
    cases ha with
    | cons h1 ha =>
      cases ha with
      | cons h2 ha =>
        cases ha
        cases h1
        cases h2
        cases rv with
        | cons r1 rv =>
          cases rv with
          | cons r2 rv =>
            cases rv
            obtain ⟨t1, rfl⟩ := r1
            obtain ⟨t2, rfl⟩ := r2
            exact .tup ho hc hd (.cons (.text _ _) (.cons (.int _ _) .nil))
theorem pairs_are (I : Inv X pins σ H s) : ∀ {m : Mono} {vs : List V} {us : List Value}, DpAll X.K H vs (m.map fun p => .tuple [.str p.1, .int p.2]) → Vals vs us → NestedAll s.heap (m.map fun p => .tup [.text p.1, .num p.2]) us
  | [], _, _, h, r => by
    cases h
    cases r
    exact .nil
  | p :: m, _, _, h, r => by
    cases h with
    | cons h1 h2 =>
      cases r with
      | cons r1 r2 => exact .cons (pair_is I h1 r1) (pairs_are I h2 r2)
/-- a tuple that is a monomial is a key -/
theorem key_is (I : Inv X pins σ H s) {a : Addr} {m : Mono} (h : Dp X.K H (.ref a) (mD m)) : (nestedKind X.prog X.w).is s.heap (mK m) a := by
  cases h with
  | tup hs ha =>
    obtain ⟨its, rv, ⟨o, ho, hc, n, hd⟩, _⟩ := I.tuple hs
    exact ⟨.tup ho hc hd (by simpa using pairs_are I ha rv), mK_depth m⟩
end
/-- an entry: the key, its tuple, the value -/
abbrev Ent := Mono × Addr × Int
def EntR : List Ent → List (NestedKey × Addr × Value) → Prop := Paired fun p q => mK p.1 = q.1 ∧ p.2.1 = q.2.1 ∧ RelV (.int p.2.2) q.2.2
def ndO (P : Program) (w : World) (d : Addr) (es : List Ent) : HO := .ext fun h => es.length ≤ sizeLine ∧ (d == sysModules) = false ∧ ∃ xs, EntR es xs ∧
  ∃ o ds ep, h.get? d = some o ∧ o.ExactDict ∧ o.data = .dict ds ep ∧ ds.toList = xs.map (entryOfKey (nestedKind P w)) ∧ (xs.map (·.1)).Nodup
theorem ndO_ok {P : Program} {w : World} {H : Hp} {h : Heap} {d : Addr} {es : List Ent} {xs : List (NestedKey × Addr × Value)} (z : es.length ≤ sizeLine) (hd : (d == sysModules) = false) (r : EntR es xs)
    (k : ∃ o ds ep, h.get? d = some o ∧ o.ExactDict ∧ o.data = .dict ds ep ∧ ds.toList = xs.map (entryOfKey (nestedKind P w)) ∧ (xs.map (·.1)).Nodup) : ObjOk P w H h d (ndO P w d es) := by
  obtain ⟨o, ds, ep, ho, k⟩ := k
  refine ⟨⟨z, hd, xs, r, o, ds, ep, ho, k⟩, ⟨o, ho⟩, fun h1 h2 q kk => ?_⟩
  obtain ⟨z', hd', xs', r', o', ds', ep', ho', k'⟩ := q
  exact ⟨z', hd', xs', r', o', ds', ep', kk _ ho', k'⟩
/-- at d: such a dict -/
structure NdAt (K : PySem.W.Frag) (P : Program) (w : World) (H : Hp) (d : Addr) (es : List Ent) : Prop where
  at_ : H d = some (ndO P w d es)
  keys : ∀ e ∈ es, Dp K H (.ref e.2.1) (mD e.1)
/-- what the dict holds -/
def getN (es : List Ent) (m : Mono) : Option Int := (es.find? fun e => decide (e.1 = m)).map (·.2.2)
def putN (es : List Ent) (m : Mono) (a : Addr) (c : Int) : List Ent := if (getN es m).isSome then es.map fun e => if e.1 = m then (e.1, e.2.1, c) else e else es ++ [(m, a, c)]
theorem putN_len (es : List Ent) (m : Mono) (a : Addr) (c : Int) : (putN es m a c).length ≤ es.length + 1 := by
  unfold putN
  split
  · rw [List.length_map]; omega
  · rw [List.length_append]; exact Nat.le_refl _
theorem dec_mK (m n : Mono) : decide (mK m = mK n) = decide (m = n) := by
  by_cases h : m = n
  · rw [h, decide_eq_true rfl, decide_eq_true rfl]
  · rw [decide_eq_false h, decide_eq_false fun q => h (mK_inj q)]
theorem EntR.get : ∀ {es : List Ent} {xs : List (NestedKey × Addr × Value)} (m : Mono), EntR es xs → RelO ((getN es m).map V.int) ((atKey xs (mK m)).map (·.2))
  | [], _, m, r => by
    cases r
    exact True.intro
  | e :: es, _, m, r => by
    cases r with
    | @cons p q ps qs h t =>
      obtain ⟨h1, h2, h3⟩ := h
      have ih := EntR.get (es := es) m t
      have eq : decide (q.1 = mK m) = decide (e.1 = m) := by rw [← h1, dec_mK]
      unfold getN atKey at ih ⊢
      rw [List.find?_cons, List.find?_cons, eq]
      cases hb : decide (e.1 = m) with
      | true => exact h3
      | false => exact ih
theorem EntR.put {es : List Ent} {xs : List (NestedKey × Addr × Value)} (m : Mono) {a : Addr} {c : Int} {u : Value} (r : EntR es xs) (ru : RelV (.int c) u) : EntR (putN es m a c) (storedH xs (mK m) a u) := by
  have e : (getN es m).isSome = (atKey xs (mK m)).isSome := by
    have q := (r.get m).isSome_eq
    rw [Option.isSome_map, Option.isSome_map] at q
    exact q
  unfold putN storedH
  rw [e]
  by_cases q : (atKey xs (mK m)).isSome = true
  · rw [if_pos q, if_pos q]
    clear e q
    induction r with
    | nil => exact .nil
    | @cons p x ps xs' h t ih =>
      refine .cons ?_ ih
      obtain ⟨h1, h2, h3⟩ := h
      unfold putAt
      dsimp only
      by_cases z : p.1 = m
      · rw [if_pos z, if_pos (by rw [← h1, z])]
        exact ⟨h1, h2, ru⟩
      · rw [if_neg z, if_neg (fun y => z (mK_inj (by rw [h1, y])))]
        exact ⟨h1, h2, h3⟩
  · rw [if_neg q, if_neg q]
    exact Paired.snoc r ⟨rfl, rfl, ru⟩
theorem EntR.len {es : List Ent} {xs : List (NestedKey × Addr × Value)} (r : EntR es xs) : es.length = xs.length := Paired.length r
section
variable {X : Cx} {pins : List (Addr × Obj)} {σ : L2.St} {H : Hp} {s : Shared} {d : Addr} {es : List Ent} {A : Around} {E : Value → Shared → Prop}
theorem EntR.all {es : List Ent} {xs : List (NestedKey × Addr × Value)} {h : Heap} {P : Program} {w : World} (r : EntR es xs) (k : ∀ e ∈ es, (nestedKind P w).is h (mK e.1) e.2.1) : ∀ x ∈ xs, (nestedKind P w).is h x.1 x.2.1 := by
  induction r with
  | nil => intro x hx; exact nomatch hx
  | @cons p q ps qs hq t ih =>
    intro x hx
    rcases List.mem_cons.mp hx with e | hx
    · subst e
      have z := k p List.mem_cons_self
      rw [hq.1, hq.2.1] at z
      exact z
    · exact ih (fun e he => k e (List.mem_cons_of_mem _ he)) x hx
theorem NdAt.open (I : Inv X pins σ H s) (n : NdAt X.K X.prog X.w H d es) : es.length ≤ sizeLine ∧ (d == sysModules) = false ∧ ∃ xs, EntR es xs ∧ s.heap.DictOfH (nestedKind X.prog X.w) d xs := by
  obtain ⟨⟨z, hd, xs, r, o, ds, ep, ho, h2, h3, h4, h5⟩, _⟩ : ObjOk X.prog X.w H s.heap d (ndO X.prog X.w d es) := I.hok d _ n.at_
  exact ⟨z, hd, xs, r, o, ds, ep, ho, h2, h3, h4, r.all fun e he => key_is I (n.keys e he), h5⟩
theorem room_in1 (hu : A.units + 9 < cLine) : (nestedKind X.prog X.w).room A.in1 := by
  show A.units + 1 + 8 < cLine
  omega
theorem nd_typeIs (I : Inv X pins σ H s) (n : NdAt X.K X.prog X.w H d es) : s.TypeIs (.ref d) "dict" := by
  obtain ⟨_, _, xs, _, dd⟩ := n.open I
  exact dd.typeIs
theorem nd_noDict (I : Inv X pins σ H s) (n : NdAt X.K X.prog X.w H d es) : ∀ b, Value.ref d = .ref b → ∃ ob, s.heap.get? b = some ob ∧ ob.dict = none := fun b q => by
  cases q
  obtain ⟨_, _, xs, _, ob, _, _, h1, h2, _⟩ := n.open I
  exact ⟨ob, h1, h2.2.1⟩
/-! ### {} -/
def tNdNew (P : Program) (w : World) : TE := fun _ H Q => ∀ p, H p = none → Q (.ref p) (upd H p (ndO P w p []))
theorem pe_ndNew {pos : Pos} : PE X (.Dict [] [] pos) (tNdNew X.prog X.w) := ⟨fun pins s σ H Q I h =>
  wpAny_Dict_empty ⟨.ref s.heap.objs.size, _, I.laid (a := s.heap.objs.size) (o := ndO X.prog X.w s.heap.objs.size []) (t' := s.toks) (fun _ _ q => Heap.get?_push_of_some _ q) (Nat.le_refl _)
    (ndO_ok (Nat.zero_le _) (beq_eq_false_iff_ne.mpr (Ne.symm (Nat.ne_of_lt I.big))) .nil ⟨_, #[], 0, Heap.get?_push_size _ rfl, ⟨rfl, rfl, rfl⟩, rfl, rfl, List.nodup_nil⟩), rfl, h _ (I.hok.fresh (Nat.le_refl _))⟩⟩
/-! ### d[m] -/
def tNdGet (K : PySem.W.Frag) (P : Program) (w : World) (td ty : TE) : TE := fun σ H Q => td σ H fun x H1 => ty σ H1 fun y H2 => ∃ (d a : Addr) (es : List Ent) (m : Mono) (c : Int), x = .ref d ∧ y = .ref a ∧ NdAt K P w H2 d es ∧ Dp K H2 (.ref a) (mD m) ∧ getN es m = some c ∧ Q (.int c) H2
theorem pe_ndGet {o i : Expr} {td ty : TE} {pos : Pos} (hu : X.A.units + 9 < cLine) (ho : PE X o td) (hi : PE X i ty) (hs : NoSl i) : PE X (.Subscript o i pos) (tNdGet X.K X.prog X.w td ty) := by
  refine ⟨fun pins s σ H Q I h => ?_⟩
  refine subD_of PySem.F.slot_dict_getitem.lookup hs (thn (ho.run pins s σ H _ I h) fun u s1 ⟨x, H1, I1, rx, q1⟩ => thn (hi.run pins s1 σ H1 _ I1 q1) fun iv s2 ⟨y, H2, I2, ry, d, a, es, m, c, ex, ey, n, hm, hg, q2⟩ => ?_)
  subst ex ey
  obtain rfl : u = Value.ref d := rx
  obtain rfl : iv = Value.ref a := ry
  obtain ⟨z, hd, xs, rel, dd⟩ := n.open I2
  obtain ⟨w', hw, rw'⟩ := RelO.some_of (v := V.int c) (o := (atKey xs (mK m)).map (·.2)) (by have q := rel.get m; rw [hg] at q; exact q)
  obtain ⟨p, hp, hp2⟩ := Option.map_eq_some_iff.mp hw
  refine ⟨dd.typeIs, wpAny_getItem_heap (room_in1 hu) (key_is I2 hm) dd hp ?_⟩
  rw [hp2]
  exact ⟨.int c, H2, I2.tok _, rw', q2⟩
/-! ### d.get(m, 0) -/
def tNdGetOr (K : PySem.W.Frag) (P : Program) (w : World) (td ty tx : TE) : TE := fun σ H Q => td σ H fun x H1 => ∃ (d : Addr) (es : List Ent), x = .ref d ∧ NdAt K P w H1 d es ∧ ty σ H1 fun y H2 => tx σ H2 fun z H3 => ∃ (a : Addr) (m : Mono) (i : Int), y = .ref a ∧ z = .int i ∧
  NdAt K P w H3 d es ∧ Dp K H3 (.ref a) (mD m) ∧ Q (.int ((getN es m).getD i)) H3
theorem pe_ndGetOr {o e f : Expr} {apos cpos : Pos} {td ty tx : TE} (hu : X.A.units + 9 < cLine) (ho : PE X o td) (he : PE X e ty) (hf : PE X f tx) (m : M2 X o "get" apos e f cpos) : PE X (.Call (.Attribute o "get" apos) [e, f] [] cpos) (tNdGetOr X.K X.prog X.w td ty tx) := by
  refine ⟨fun pins s σ H Q I h => ?_⟩
  refine wpAny_Call_method m.base m.few m.line PySem.F.plainAttrs_dict PySem.F.slot_dict_get PySem.F.type_dict_get (thn (ho.run pins s σ H _ I h) fun u s1 ⟨x, H1, I1, rx, d, es, ex, n, q1⟩ => ?_)
  subst ex
  obtain rfl : u = Value.ref d := rx
  refine ⟨nd_typeIs I1 n, nd_noDict I1 n, ?_⟩
  rw [m.trees]
  refine Calls.callWith_builtin rfl (Calls.evalArgs_plain (Calls.spliced_cons (thn (he.run pins s1 σ H1 _ I1 q1) fun iv s2 ⟨y, H2, I2, ry, q2⟩ =>
    Calls.spliced_cons (thn (hf.run pins s2 σ H2 _ I2 q2) fun fv s3 ⟨z, H3, I3, rz, a, mm, i, ey, ez, n3, hm, q3⟩ => Calls.spliced_nil ?_))))
  subst ey ez
  obtain rfl : iv = Value.ref a := ry
  obtain ⟨z, hd, xs, rel, dd⟩ := n3.open I3
  refine call_meetsIn PySem.F.slot_dict_get dd.typeIs PySem.F.entry_dict_get (PySem.F.args_dict_get_3 _ _ _) (meetsH_dict_get_default (nestedKind X.prog X.w) d a hd fv) ⟨room_in1 hu, mK mm, xs, key_is I3 hm, dd, ?_⟩
  refine ⟨.int ((getN es mm).getD i), H3, I3.tok _, ?_, q3⟩
  have q := (rel.get mm).getD (show RelV (.int i) fv from rz)
  have e : ((getN es mm).map V.int).getD (V.int i) = V.int ((getN es mm).getD i) := by cases getN es mm <;> rfl
  rw [e] at q
  exact q
/-! ### d[m] = c -/
theorem NdAt.put (n : NdAt X.K X.prog X.w H d es) {m : Mono} {a : Addr} {c : Int} (hm : Dp X.K H (.ref a) (mD m)) (dp : ∀ v e, Dp X.K H v e → Dp X.K (upd H d (ndO X.prog X.w d (putN es m a c))) v e) :
    NdAt X.K X.prog X.w (upd H d (ndO X.prog X.w d (putN es m a c))) d (putN es m a c) := by
  refine ⟨upd_same, fun e he => dp _ _ ?_⟩
  unfold putN at he
  split at he
  · obtain ⟨e0, h0, rfl⟩ := List.mem_map.mp he
    split
    · exact n.keys e0 h0
    · exact n.keys e0 h0
  · rcases List.mem_append.mp he with h | h
    · exact n.keys e h
    · rw [List.mem_singleton.mp h]
      exact hm
def rNdSet (K : PySem.W.Frag) (P : Program) (w : World) : TSet := fun o i v H Q => ∃ (d a : Addr) (es : List Ent) (m : Mono) (c : Int), o = .ref d ∧ i = .ref a ∧ v = .int c ∧ NdAt K P w H d es ∧ Dp K H (.ref a) (mD m) ∧ es.length < sizeLine ∧ Q (upd H d (ndO P w d (putN es m a c)))
theorem set_nd (hu : X.A.units + 9 < cLine) : PSet X (rNdSet X.K X.prog X.w) := by
  intro pins s σ H o i v ov iv u Q I ro ri rv h
  obtain ⟨d, a, es, m, c, rfl, rfl, rfl, n, hm, hl, q⟩ := h
  obtain rfl : ov = Value.ref d := ro
  obtain rfl : iv = Value.ref a := ri
  obtain ⟨z, hd, xs, rel, dd⟩ := n.open I
  have hz : xs.length ≤ sizeLine := by rw [← rel.len]; exact z
  refine wpAny_setItem_heap (hsz := hz) (room_in1 hu) (key_is I hm) dd fun h' dd' hs => ?_
  obtain ⟨ob, ds, ep, hq, h2, h3, h4, _, h5⟩ := dd'
  refine ⟨_, d_write I (by rw [n.at_]; exact True.intro) hs ⟨ob, hq⟩ (ndO_ok ?_ hd (rel.put m rv) ⟨ob, ds, ep, hq, h2, h3, h4, h5⟩), q⟩
  have := putN_len es m a c
  omega
/-! ### len(d) -/
theorem len_body {P : Program} {w : World} {A : Around} {E : Value → Shared → Prop} {s : Shared} {d : Addr} {ds : Array DictEntry} {ep : Nat} {Q : Value → Shared → Prop} (hd : (d == sysModules) = false) (hm : s.heap.DictRaw d ds ep) (hfit : (ds.size : Int) < 2 ^ 63)
    (h : Q (.int ds.size (s.toks + 1)) { s with toks := s.toks + 1 + 1 }) : wpAny (model P w) A (Builtin.«len» ⟨[.ref d], []⟩) (fun fin s' => ∃ r, fin = .done (.ret r) ∧ Q r s') E s := by
  unfold Builtin.«len»
  refine wpAny_bind (m := oneArg "len" _) (wpAny_pure ?_)
  refine wpAny_bind (m := callSpecial? (.ref d) (Str.ofString "__len__")) ?_
  refine wpAny_callSpecial?_slot (name := Str.ofString "__len__") hm.typeIs PySem.F.slot_dict_len ?_
  refine call_meetsIn PySem.F.slot_dict_len hm.typeIs PySem.F.entry_dict_len (PySem.F.args_dict_len_1 _) (PySem.meets_dict_len_raw d hd) ⟨ds, ep, hm, ?_⟩
  show wpAny _ _ _ _ _ { s with toks := s.toks + 1 }
  refine wpAny_bind (wpAny_holding (wpAny_pure ?_))
  refine wpAny_bind (wpAny_letGo ?_)
  show wpAny _ _ (if ((ds.size : Nat) : Int) < 0 then _ else _) _ _ _
  rw [if_neg (by omega)]
  show wpAny _ _ (if ((ds.size : Nat) : Int) ≥ 2 ^ 63 then _ else _) _ _ _
  rw [if_neg (by omega)]
  exact wpAny_bind (wpAny_mkInt (wpAny_pure ⟨_, rfl, h⟩))
theorem call_lenNd : CallR X (.builtin "len") (fun xs H Q => ∃ (d : Addr) (es : List Ent), xs = [V.ref d] ∧ NdAt X.K X.prog X.w H d es ∧ Q (.int es.length) H) := by
  intro pins s σ H xs us Q I r h
  obtain ⟨d, es, rfl, n, q⟩ := h
  obtain ⟨u, rfl, ru⟩ := vals1 r
  cases ru
  obtain ⟨z, hd, xs, rel, o, ds, ep, ho, hx, hdt, he, _, _⟩ := n.open I
  have e1 : ds.size = es.length := by rw [size_of_entries he, rel.len]
  refine Calls.call_function_entry kind_len plain_len entry_len (args_len1 _) (len_body (ds := ds) (ep := ep) hd ⟨o, ho, hx, hdt⟩ (by rw [e1]; rw [sizeLine_eq] at z; omega) ?_)
  rw [e1]
  exact ⟨.int es.length, H, I.tok _, ⟨_, rfl⟩, q⟩
end
end Nd


set_option Elab.async false
set_option linter.all false
set_option maxRecDepth 100000
set_option maxHeartbeats 2000000
namespace Nd
open PySem PySem.Spec PyProof.Rows L2
/-! ### < of data -/
section
variable {X : Cx}
def rLtD (K : PySem.W.Frag) : R2 := fun x y H Q => ∃ d e, Dp K H x d ∧ Dp K H y e ∧ PySem.W.alike d e = true ∧ d ≠ .none ∧ d.depth ≤ 20 ∧ Q (.bl (PySem.W.dataLt d e)) H
theorem op_ltD (hu : X.A.units + 64 < cLine) : OpR X (compareOp .Lt) (rLtD X.K) := by
  intro pins s σ H x y v u Q I rx ry h
  obtain ⟨d, e, hd, he, ha, hn, hp, q⟩ := h
  obtain ⟨as, r1⟩ := Dp.reads I d x v hd rx
  obtain ⟨bs, r2⟩ := Dp.reads I e y u he ry
  exact PySem.W.lt_data r1 r2 ha hn (by omega) ⟨.bl _, H, I, rfl, q⟩
end
mutual
theorem dp_same {K : PySem.W.Frag} {H H' : Hp} (s : Same H H') : ∀ {v : V} {d : PyData}, Dp K H v d → Dp K H' v d
  | _, _, .non => .non
  | _, _, .bl b => .bl b
  | _, _, .int i => .int i
  | _, _, .str x => .str x
  | _, _, .lst h a => .lst (s.seq h) (dpAll_same s a)
  | _, _, .tup h a => .tup (by
      rcases h with (h | ⟨o, h⟩) | h
      · exact .inl (.inl (s _ _ h))
      · exact .inl (.inr ⟨o, s _ _ h⟩)
      · exact .inr h) (dpAll_same s a)
theorem dpAll_same {K : PySem.W.Frag} {H H' : Hp} (s : Same H H') : ∀ {v : List V} {d : List PyData}, DpAll K H v d → DpAll K H' v d
  | _, _, .nil => .nil
  | _, _, .cons h t => .cons (dp_same s h) (dpAll_same s t)
end
mutual
theorem reads_lt {h : Heap} : ∀ {v : Value} {d : PyData} {as : List Addr}, Reads h v d as → ∀ a ∈ as, a < h.objs.size
  | _, _, _, .none => fun a ha => nomatch ha
  | _, _, _, .bool _ => fun a ha => nomatch ha
  | _, _, _, .int _ _ => fun a ha => nomatch ha
  | _, _, _, .str _ _ => fun a ha => nomatch ha
  | _, _, _, .list ho _ _ hr => fun a ha => by
    rcases List.mem_cons.mp ha with e | ha
    · rw [e]
      exact Heap.lt_size ho
    · exact readsAll_lt hr a ha
  | _, _, _, .tuple _ _ _ hr => readsAll_lt hr
  | _, _, _, .dict ho _ _ h1 h2 => fun a ha => by
    rcases List.mem_append.mp ha with ha | ha
    · rcases List.mem_cons.mp ha with e | ha
      · rw [e]
        exact Heap.lt_size ho
      · exact readsAll_lt h1 a ha
    · exact readsAll_lt h2 a ha
theorem readsAll_lt {h : Heap} : ∀ {v : List Value} {d : List PyData} {as : List Addr}, ReadsAll h v d as → ∀ a ∈ as, a < h.objs.size
  | _, _, _, .nil => fun a ha => nomatch ha
  | _, _, _, .cons h1 h2 => fun a ha => by
    rcases List.mem_append.mp ha with ha | ha
    · exact reads_lt h1 a ha
    · exact readsAll_lt h2 a ha
end
/-! ### the entries of a dict, of either kind -/
def DEnt (K : PySem.W.Frag) (P : Program) (w : World) (H : Hp) (d : Addr) (prs : List (V × V)) : Prop :=
  (∃ kvs : List (Key × V), H d = some (.dK kvs) ∧ prs = kvs.map fun kv => (kV kv.1, kv.2)) ∨ ∃ es : List Ent, NdAt K P w H d es ∧ prs = es.map fun e => (V.ref e.2.1, V.int e.2.2)
theorem DEnt.k {K : PySem.W.Frag} {P : Program} {w : World} {H : Hp} {d : Addr} {kvs : List (Key × V)} (h : H d = some (.dK kvs)) : DEnt K P w H d (kvs.map fun kv => (kV kv.1, kv.2)) := .inl ⟨kvs, h, rfl⟩
theorem DEnt.n {K : PySem.W.Frag} {P : Program} {w : World} {H : Hp} {d : Addr} {es : List Ent} (h : NdAt K P w H d es) : DEnt K P w H d (es.map fun e => (V.ref e.2.1, V.int e.2.2)) := .inr ⟨es, h, rfl⟩
section
variable {X : Cx} {pins : List (Addr × Obj)} {σ : L2.St} {H : Hp} {s : Shared} {d : Addr} {prs : List (V × V)}
theorem DEnt.raw (I : Inv X pins σ H s) (h : DEnt X.K X.prog X.w H d prs) : (d == sysModules) = false ∧ prs.length ≤ sizeLine ∧ ∃ ds ep, DT.Raw s.heap d ds ep ∧ ds.size = prs.length ∧
    ∀ (j : Nat) (pr : V × V), prs[j]? = some pr → ∃ en, ds[j]? = some en ∧ L2.RelV pr.1 en.key ∧ L2.RelV pr.2 en.val := by
  rcases h with ⟨kvs, hd, rfl⟩ | ⟨es, n, rfl⟩
  · obtain ⟨z, hs, vs, kv, o, ds, ep, ho, hx, hdt, hko, hpr, hnd⟩ := dk_of I.hok hd
    have l1 : ds.size = kvs.length := by rw [← Array.length_toList, hpr.length, kv.length]
    refine ⟨hs, by rw [List.length_map]; exact z, ds, ep, ⟨o, ho, hx, hdt⟩, by rw [List.length_map, l1], fun j pr hj => ?_⟩
    rw [List.getElem?_map] at hj
    cases q : kvs[j]? with
    | none => rw [q] at hj; cases hj
    | some e =>
      rw [q] at hj
      cases hj
      obtain ⟨k, v⟩ := e
      obtain ⟨u, hu, ru⟩ := kv_get kv q
      have hj2 : j < ds.toList.length := by
        rw [Array.length_toList, l1]
        exact (List.getElem?_eq_some_iff.mp q).1
      have hen : ds.toList[j]? = some ds.toList[j] := List.getElem?_eq_getElem hj2
      obtain ⟨k1, k2⟩ := hpr.get? hen hu
      refine ⟨ds.toList[j], by rw [← Array.getElem?_toList]; exact hen, relV_key k1, ?_⟩
      rw [k2]
      exact ru
  · obtain ⟨z, hs, xs, rel, o, ds, ep, ho, hx, hdt, he, _, _⟩ := n.open I
    refine ⟨hs, by rw [List.length_map]; exact z, ds, ep, ⟨o, ho, hx, hdt⟩, by rw [List.length_map, size_of_entries he, rel.len], fun j pr hj => ?_⟩
    rw [List.getElem?_map] at hj
    cases q : es[j]? with
    | none => rw [q] at hj; cases hj
    | some e =>
      rw [q] at hj
      cases hj
      obtain ⟨x, hx', h1, h2, h3⟩ := paired_get rel q
      refine ⟨entryOfKey (nestedKind X.prog X.w) x, ?_, ?_, h3⟩
      · rw [entry_at he j, hx']
        rfl
      · show L2.RelV (.ref e.2.1) (.ref x.2.1)
        rw [h2]
        rfl
theorem DEnt.noDict (I : Inv X pins σ H s) (h : DEnt X.K X.prog X.w H d prs) : ∀ b, Value.ref d = .ref b → ∃ ob, s.heap.get? b = some ob ∧ ob.dict = none := fun b q => by
  cases q
  obtain ⟨_, _, ds, ep, ⟨o, ho, hx, _⟩, _⟩ := h.raw I
  exact ⟨o, ho, hx.2.1⟩
/-! ### d.items() as a value -/
def tItemsV (K : PySem.W.Frag) (P : Program) (w : World) (td : TE) : TE := fun σ H Q => td σ H fun x H1 => ∃ (d : Addr) (prs : List (V × V)), x = .ref d ∧ DEnt K P w H1 d prs ∧ ∀ p, H1 p = none → Q (.ref p) (upd H1 p (L2.DX.itemsO p d))
theorem pe_itemsV {e : Expr} {td : TE} {apos cpos : Pos} (he : PE X e td) (hbase : attributeBase e "items" X.env (eval e X.env) = eval e X.env := by rfl) (hline : (apos.endLine == cpos.line) = true := by rfl) :
    PE X (.Call (.Attribute e "items" apos) [] [] cpos) (tItemsV X.K X.prog X.w td) := by
  refine ⟨fun pins s σ H Q I h => ?_⟩
  refine wpAny_Call_method (T := "dict") (id := "dict.items") hbase rfl hline PySem.F.plainAttrs_dict PySem.F.slot_dict_items PySem.F.type_dict_items (thn (he.run pins s σ H _ I h) fun u s1 ⟨x, H1, I1, rx, d, prs, ex, n, q⟩ => ?_)
  subst ex
  obtain rfl : u = Value.ref d := rx
  obtain ⟨hs, _, ds, ep, hraw, _⟩ := n.raw I1
  refine ⟨hraw.typeIs, n.noDict I1, ?_⟩
  show wpAny _ _ (callWith cpos (.builtin "dict.items") [.ref d] [] []) _ X.xe s1
  refine method_meetsIn PySem.F.slot_dict_items PySem.F.entry_dict_items rfl (PySem.evalArgs_none ⟨rfl, hraw.typeIs, PySem.F.args_dict_items_1 _, _, DT.meetsItems (es := ds) (ep := ep) hs, hraw, ?_⟩)
  have hf : H1 s1.heap.objs.size = none := I1.hok.fresh (Nat.le_refl _)
  exact ⟨.ref s1.heap.objs.size, upd H1 s1.heap.objs.size (L2.DX.itemsO s1.heap.objs.size d), I1.laid (t' := s1.toks) (fun b u e => Heap.get?_push_of_some _ e) (Nat.le_refl _) (L2.DX.itemsO_ok (Heap.get?_push_size _ rfl)), rfl, q _ hf⟩
end
end Nd


set_option Elab.async false
set_option linter.all false
set_option maxRecDepth 100000
set_option maxHeartbeats 4000000
namespace Nd
open PySem PySem.Spec PyProof.Rows L2
/-! ### sorted(d.items()) -/
section
variable {X : Cx}
/-- the data of the pairs -/
def PrD (K : PySem.W.Frag) (H : Hp) : List (V × V) → List PyData → Prop := Paired fun pr dt => ∃ a c, dt = .tuple [a, c] ∧ Dp K H pr.1 a ∧ Dp K H pr.2 c
def rSortItems (K : PySem.W.Frag) (P : Program) (w : World) : List V → Hp → VK → Prop := fun xs H Q => ∃ (p d : Addr) (prs : List (V × V)) (dts : List PyData), xs = [.ref p] ∧ H p = some (L2.DX.itemsO p d) ∧ DEnt K P w H d prs ∧ PrD K H prs dts ∧
  PySem.W.AllAlike dts ∧ (∀ t ∈ dts, t.depth ≤ 20) ∧ ∀ (l : Addr) (H' : Hp) (ys : List V), H l = none → Same H H' → H' l = some (.lst ys) → DpAll K H' ys (dts.mergeSort (PySem.W.dataLe false id)) → Q (.ref l) H'
/-- a made pair in the heap -/
def MadeP (K : PySem.W.Frag) (H : Hp) (h : Heap) (as : List Addr) (v : Value) (dt : PyData) : Prop := ∃ (b : Addr) (pr : V × V) (k u : Value), v = .ref b ∧ b ∈ as ∧ h.get? b = some { cls := .type "tuple", data := .seq #[k, u] } ∧
  L2.RelV pr.1 k ∧ L2.RelV pr.2 u ∧ ∃ a c, dt = .tuple [a, c] ∧ Dp K H pr.1 a ∧ Dp K H pr.2 c
theorem eachIs_of {α β : Type} {R : α → β → Prop} : ∀ {as : List α} {bs : List β}, as.length = bs.length → (∀ (j : Nat) (a : α) (b : β), as[j]? = some a → bs[j]? = some b → R a b) → PySem.W.EachIs R as bs
  | [], [], _, _ => .nil
  | a :: as, b :: bs, hl, h => .cons (h 0 a b rfl rfl) (eachIs_of (by simpa using hl) fun j x y e1 e2 => h (j + 1) x y (by simpa using e1) (by simpa using e2))
  | [], _ :: _, hl, _ => by simp at hl
  | _ :: _, [], hl, _ => by simp at hl
theorem madeP_refs {K : PySem.W.Frag} {H : Hp} {h : Heap} {as : List Addr} : ∀ {vs : List Value} {ds : List PyData}, PySem.W.EachIs (MadeP K H h as) vs ds → ∃ bs : List Addr, vs = bs.map Value.ref ∧ Vals (bs.map V.ref) vs ∧
    (∀ (j : Nat) (b : Addr) (dt : PyData), bs[j]? = some b → ds[j]? = some dt → MadeP K H h as (.ref b) dt) ∧ bs.length = ds.length
  | _, _, .nil => ⟨[], rfl, .nil, fun j b dt h => (by simp at h), rfl⟩
  | _, _, .cons h t => by
    obtain ⟨bs, e, r, q, l⟩ := madeP_refs t
    obtain ⟨b, pr, k, u, rfl, hb⟩ := id h
    refine ⟨b :: bs, by rw [e]; rfl, .cons rfl r, fun j c dt h1 h2 => ?_, by simp [l]⟩
    cases j with
    | zero =>
      simp only [List.getElem?_cons_zero, Option.some.injEq] at h1 h2
      subst h1 h2
      exact h
    | succ j =>
      simp only [List.getElem?_cons_succ] at h1 h2
      exact q j c dt h1 h2
theorem dpAll_of {K : PySem.W.Frag} {H : Hp} : ∀ {bs : List Addr} {ds : List PyData}, bs.length = ds.length → (∀ (j : Nat) (b : Addr) (dt : PyData), bs[j]? = some b → ds[j]? = some dt → Dp K H (.ref b) dt) → DpAll K H (bs.map V.ref) ds
  | [], [], _, _ => .nil
  | b :: bs, d :: ds, hl, h => .cons (h 0 b d rfl rfl) (dpAll_of (by simpa using hl) fun j x y e1 e2 => h (j + 1) x y (by simpa using e1) (by simpa using e2))
  | [], _ :: _, hl, _ => by simp at hl
  | _ :: _, [], hl, _ => by simp at hl
theorem cr_sortItems (hc : X.calm = true) (hu : X.A.units + 64 < cLine) : CallR X (.builtin "sorted") (rSortItems X.K X.prog X.w) := by
  intro pins s σ H xs us Q I r h
  obtain ⟨p, d, prs, dts, rfl, hp, hD, hP, hal, hdep, q⟩ := h
  obtain rfl := Vals.ref1 r
  have view : s.heap.IsItemsView p d := (show ObjOk X.prog X.w H s.heap p (L2.DX.itemsO p d) from I.hok p _ hp).1
  obtain ⟨hs, hz, ds, ep, hraw, hsz, hent⟩ := hD.raw I
  have hh : X.A.handled = none := I.ok.hd hc
  refine DT.sortedI (es := ds) (ep := ep) hh view hraw (by rw [hsz]; exact hz) fun h' tk as hk hlt hl hG => ?_
  have lp : prs.length = dts.length := Paired.length hP
  have nd : as.Nodup := List.Pairwise.imp (fun h => Nat.ne_of_lt h) hG.rise
  have hob : (h'.push { cls := .type "list", data := .seq (as.map Value.ref).toArray }).get? h'.objs.size = some (seqObj "list" (as.map Value.ref).toArray 0) := Heap.get?_push_size _ rfl
  have kb : ∀ b o, s.heap.get? b = some o → (h'.push { cls := .type "list", data := .seq (as.map Value.ref).toArray }).get? b = some o := fun b o e => Heap.get?_push_of_some _ (hk b o e)
  have ne0 : ∀ b o, h'.get? b = some o → b ≠ h'.objs.size := fun b o e => Nat.ne_of_lt (Heap.lt_size e)
  generalize hh2 : h'.push { cls := .type "list", data := .seq (as.map Value.ref).toArray } = h2 at hob kb ⊢
  have ka : ∀ b o, h'.get? b = some o → h2.get? b = some o := fun b o e => by rw [← hh2]; exact Heap.get?_push_of_some _ e
  have made : PySem.W.EachIs (MadeP X.K H h' as) (as.map Value.ref) dts := by
    refine eachIs_of (by rw [List.length_map, hl, hsz, lp]) fun j v dt hj hd => ?_
    rw [List.getElem?_map] at hj
    cases qa : as[j]? with
    | none => rw [qa] at hj; cases hj
    | some b =>
      rw [qa] at hj
      cases hj
      obtain ⟨en, he, hg⟩ := hG.pairs j b qa
      have hjp : j < prs.length := by rw [lp]; exact (List.getElem?_eq_some_iff.mp hd).1
      obtain ⟨en', he', r1, r2⟩ := hent j _ (List.getElem?_eq_getElem hjp)
      rw [he] at he'
      cases he'
      obtain ⟨dt', hd', hpd⟩ := paired_get hP (List.getElem?_eq_getElem hjp)
      rw [hd] at hd'
      cases hd'
      exact ⟨b, prs[j], en.key, en.val, rfl, List.mem_of_getElem? qa, hg, r1, r2, hpd⟩
  have reads : PySem.W.EachIs (fun v dt => ∃ rs, Reads h2 v (id dt) rs ∧ h'.objs.size ∉ rs) (as.map Value.ref) dts := made.mono fun v dt ⟨b, pr, k, u, ev, hb, hg, r1, r2, a, c, ed, d1, d2⟩ => by
    subst ev ed
    obtain ⟨as1, q1⟩ := Dp.reads I a _ _ d1 r1
    obtain ⟨as2, q2⟩ := Dp.reads I c _ _ d2 r2
    have q1' := PyProof.Rows.Reads.keeps kb q1
    have q2' := PyProof.Rows.Reads.keeps kb q2
    refine ⟨_, Reads.tuple (ka _ _ hg) rfl rfl (ReadsAll.cons q1' (ReadsAll.cons q2' ReadsAll.nil)), fun hm => ?_⟩
    have : h'.objs.size < s.heap.objs.size := by
      rcases List.mem_append.mp hm with hm | hm
      · exact reads_lt q1 _ hm
      · rcases List.mem_append.mp hm with hm | hm
        · exact reads_lt q2 _ hm
        · exact nomatch hm
    omega
  have hsort : PySem.W.Sortable (dts.map id) := .inl fun t ht => by
    rw [List.map_id] at ht
    obtain ⟨j, hj⟩ := List.mem_iff_getElem?.mp ht
    have hjp : j < prs.length := by rw [lp]; exact (List.getElem?_eq_some_iff.mp hj).1
    obtain ⟨dt', hd', a, c, e, _⟩ := paired_get hP (List.getElem?_eq_getElem hjp)
    rw [hj] at hd'
    cases hd'
    exact ⟨a, [c], e⟩
  refine PySem.W.list_sort_data (s := { s with heap := h2, toks := tk }) (R := MadeP X.K H h' as) (enc := id) hob made reads (by rw [List.map_id]; exact hal) hsort (by rw [← lp]; exact hz) (fun b hb => ?_) fun out hlen hout => ?_
  · have := hdep b hb
    show X.A.in1.units + 1 + (id b).depth < cLine
    show X.A.units + 1 + 1 + b.depth < cLine
    omega
  show EP X pins σ Q (.ref h'.objs.size) { s with heap := sortedHeap h2 h'.objs.size (as.map Value.ref) out.toArray, toks := tk }
  have kF : ∀ b o, b ≠ h'.objs.size → h2.get? b = some o → (sortedHeap h2 h'.objs.size (as.map Value.ref) out.toArray).get? b = some o := fun b o hb e => (PyProof.Rows.sortedHeap_old hb (Heap.lt_size e)).trans e
  have kS : ∀ b o, s.heap.get? b = some o → (sortedHeap h2 h'.objs.size (as.map Value.ref) out.toArray).get? b = some o := fun b o e => kF b o (ne0 _ _ (hk b o e)) (kb b o e)
  obtain ⟨eF, heF⟩ := PyProof.Rows.sortedHeap_at (vs := as.map Value.ref) (out := out.toArray) hob
  have I1 : Inv X pins σ H { s with heap := sortedHeap h2 h'.objs.size (as.map Value.ref) out.toArray, toks := tk } := I.kept (t' := tk) kS
  have hn0 : H h'.objs.size = none := I.hok.fresh (Nat.le_of_lt hlt)
  obtain ⟨bs, eb, rv, hbs, lbs⟩ := madeP_refs hout
  have hlen2 : (bs.map V.ref).length ≤ sizeLine := by
    rw [List.length_map, lbs, List.length_mergeSort, ← lp]
    exact hz
  have I2 : Inv X pins σ (upd H h'.objs.size (.lst (bs.map V.ref))) { s with heap := sortedHeap h2 h'.objs.size (as.map Value.ref) out.toArray, toks := tk } :=
    I1.take (h' := sortedHeap h2 h'.objs.size (as.map Value.ref) out.toArray) (t' := tk) (fun b ob _ e => e) (I.fpOk (Nat.le_of_lt hlt) hn0) ⟨hlen2, out, eF, rv, heF⟩
  obtain ⟨H2, I3, g, qt⟩ := L2.DX.takeT (P := fun b vs => ∃ (x y : V) (k u : Value), vs = [x, y] ∧ h'.get? b = some { cls := .type "tuple", data := .seq #[k, u] } ∧ L2.RelV x k ∧ L2.RelV y u) I as _ I2 nd fun b hb => by
    obtain ⟨j, hj⟩ := List.mem_iff_getElem?.mp hb
    obtain ⟨en, he, hg⟩ := hG.pairs j b hj
    have hjp : j < prs.length := by
      have := (Array.getElem?_eq_some_iff.mp he).1
      omega
    obtain ⟨en', he', r1, r2⟩ := hent j _ (List.getElem?_eq_getElem hjp)
    rw [he] at he'
    cases he'
    have hbl : s.heap.objs.size ≤ b := Nat.le_of_lt (hG.above b hb)
    refine ⟨hbl, ?_, [prs[j].1, prs[j].2], ⟨_, _, en.key, en.val, rfl, hg, r1, r2⟩, fun H3 => ⟨(by rw [sizeLine_eq]; show 2 ≤ 16777216; omega), [en.key, en.val], .cons r1 (.cons r2 .nil), ⟨_, kF _ _ (ne0 _ _ hg) (ka _ _ hg), rfl, 0, rfl⟩⟩⟩
    rw [upd_ne (ne0 _ _ hg)]
    exact I.hok.fresh hbl
  have gr : Same H H2 := fun b o e => g b o (by rw [upd_ne (ne_of_none e hn0)]; exact e)
  refine ⟨.ref h'.objs.size, H2, I3, rfl, q h'.objs.size H2 (bs.map V.ref) hn0 gr (g _ _ upd_same) ?_⟩
  refine dpAll_of lbs fun j b dt hj hd => ?_
  obtain ⟨b', pr, k, u, eb', hb, hg, r1, r2, a, c, ed, d1, d2⟩ := hbs j b dt hj hd
  cases eb'
  obtain ⟨vs, ⟨x, y, k', u', ev, hg', r1', r2'⟩, hH⟩ := qt b hb
  rw [hg] at hg'
  cases hg'
  have ex : x = pr.1 := Option.some.inj (r1'.abs.symm.trans r1.abs)
  have ey : y = pr.2 := Option.some.inj (r2'.abs.symm.trans r2.abs)
  subst ev ed ex ey
  exact .tup (SqT.of hH) (.cons (dp_same gr d1) (.cons (dp_same gr d2) .nil))
end
end Nd


set_option Elab.async false
set_option linter.all false
set_option maxRecDepth 100000
set_option maxHeartbeats 4000000
namespace Nd
open PySem PySem.Spec PyProof.Rows L2
/-! ### walks over a locked dict of this kind -/
section
variable {X : Cx} {pins : List (Addr × Obj)} {σ : L2.St} {H : Hp} {s : Shared} {d : Addr} {o : Obj} {es : List Ent}
theorem lockedN (I : Inv X pins σ H s) (h : H d = some (.frz o (ndO X.prog X.w d es))) : (d == sysModules) = false ∧ s.heap.get? d = some o ∧ o.ExactDict ∧ ∃ (ds : Array DictEntry) (ep : Nat), o.data = .dict ds ep ∧ ds.size = es.length ∧
    ∀ (j : Nat) (e : Ent), es[j]? = some e → ∃ en, ds[j]? = some en ∧ en.key = .ref e.2.1 ∧ L2.RelV (.int e.2.2) en.val := by
  obtain ⟨hd, ⟨z, hs, xs, rel, o', ds, ep, ho, hx, hdt, he, _⟩, _⟩ : s.heap.get? d = some o ∧ ObjOk X.prog X.w H s.heap d (ndO X.prog X.w d es) := I.hok d _ h
  rw [hd] at ho
  cases ho
  refine ⟨hs, hd, hx, ds, ep, hdt, by rw [size_of_entries he, rel.len], fun j e q => ?_⟩
  obtain ⟨x, hx', h1, h2, h3⟩ := paired_get rel q
  refine ⟨entryOfKey (nestedKind X.prog X.w) x, ?_, ?_, h3⟩
  · rw [entry_at he j, hx']
    rfl
  · show Value.ref x.2.1 = Value.ref e.2.1
    rw [h2]
end
/-- the keys' own tuples -/
def ItkN (P : Program) (w : World) (d : Addr) (o : Obj) (es : List Ent) : It :=
  ⟨fun i H => H d = some (.frz o (ndO P w d es)) ∧ i < es.length, fun i H x H' => H' = H ∧ ∃ e, es[i]? = some e ∧ x = .ref e.2.1, fun i H => H d = some (.frz o (ndO P w d es)) ∧ es.length ≤ i⟩
/-- the pairs, each a new tuple -/
def ItiN (P : Program) (w : World) (d : Addr) (o : Obj) (es : List Ent) : It :=
  ⟨fun i H => H d = some (.frz o (ndO P w d es)) ∧ i < es.length, fun i H x H' => ∃ T e, es[i]? = some e ∧ x = .ref T ∧ H T = none ∧ H' = upd H T (.tup [.ref e.2.1, .int e.2.2]), fun i H => H d = some (.frz o (ndO P w d es)) ∧ es.length ≤ i⟩
section
variable {P : Program} {w : World} {K : PySem.W.Frag} {tg : Expr} {d : Addr} {o : Obj} {ds : Array DictEntry} {ep : Nat}
theorem turn_keysN {es : List Ent} (it : Addr) (hod : o.data = .dict ds ep) : Turn P w K tg (ItkN P w d o es) [it] it (fun i h => h.IsKeyIter it d i es.length ep) where
  mem := List.mem_singleton.mpr rfl
  obj := fun i h st b hb => by
    obtain rfl := List.mem_singleton.mp hb
    obtain ⟨oi, e, c, dd⟩ := st
    exact ⟨oi, e, fun v z => by rw [dd] at z; cases z⟩
  keep := fun i h h' st k => st.at fun oi e => k it (List.mem_singleton.mpr rfl) oi e
  item := by
    intro X hP hw hK hc i pins s σ H E I hf st hg
    subst hP hw hK
    obtain ⟨hd, hi⟩ := hg
    have hit := hf it (List.mem_singleton.mpr rfl)
    obtain ⟨hs, hgd, hx, ds', ep', hdt, hsz, ent⟩ := lockedN I hd
    obtain ⟨rfl, rfl⟩ := dict_ep hod hdt
    obtain ⟨en, hen, hkey, _⟩ := ent i _ (List.getElem?_eq_getElem hi)
    refine next_key_item st hgd hdt hsz hen fun h' st' sb => ?_
    have I1 : Inv X pins σ H { s with heap := h' } := I.turned (t' := s.toks) (fun b ob hb e => (sb.2 b hb).trans e) hit.1 hit.2.1 hit.2.2.2.1 hit.2.2.2.2.1 hit.2.2.2.2.2
    obtain ⟨oi, e, c, dd⟩ := id st'
    exact ⟨en.key, rfl, go_of (s := { s with heap := h' }) e c dd (by decide) ⟨.ref es[i].2.1, H, I1, hkey, ⟨rfl, es[i], List.getElem?_eq_getElem hi, rfl⟩, st', fun b hb => (hf b hb).1⟩⟩
  done := by
    intro X hP hw hK hc i pins s σ H E I hf st hg
    subst hP hw hK
    obtain ⟨hd, hi⟩ := hg
    have hit := hf it (List.mem_singleton.mpr rfl)
    obtain ⟨hs, hgd, hx, ds', ep', hdt, hsz, ent⟩ := lockedN I hd
    obtain ⟨rfl, rfl⟩ := dict_ep hod hdt
    exact next_key_end (I.ok.hd hc) st hgd hdt hsz hi fun h' eb => ⟨rfl, I.turned (t' := s.toks) (fun b ob hb e => eb b ob hb e) hit.1 hit.2.1 hit.2.2.2.1 hit.2.2.2.2.1 hit.2.2.2.2.2⟩
  self := fun A i s Q E st h => by
    refine wpAny_pyIter_slot st.typeIs PySem.F.slot_dict_keyiterator_iter (wpAny_call_entry PySem.F.slot_dict_keyiterator_iter st.typeIs PySem.F.entry_dict_keyiterator_iter ?_ (PySem.F.args_dict_keyiterator_iter_1 _))
    show wpAny _ _ (ret (.ref it)) _ _ s
    exact wpAny_pure ⟨_, rfl, "dict_keyiterator", _, st.typeIs, PySem.F.slot_dict_keyiterator_next.lookup, h⟩
theorem turn_itemsN {es : List Ent} {elts : List Expr} {kk : Nat} {tpos : Pos} (it : Addr) (hod : o.data = .dict ds ep) :
    Turn P w K (.Tuple elts kk tpos) (ItiN P w d o es) [it] it (fun i h => ∃ ok ov, IsItemIter h it d i es.length ep ok ov) where
  mem := List.mem_singleton.mpr rfl
  obj := fun i h st b hb => by
    obtain rfl := List.mem_singleton.mp hb
    obtain ⟨ok, ov, e⟩ := st
    exact ⟨_, e, fun v z => nomatch z⟩
  keep := fun i h h' st k => let ⟨ok, ov, e⟩ := st; ⟨ok, ov, k it (List.mem_singleton.mpr rfl) _ e⟩
  item := by
    intro X hP hw hK hc i pins s σ H E I hf st hg
    subst hP hw hK
    obtain ⟨hd, hi⟩ := hg
    obtain ⟨hs, hgd, hx, ds', ep', hdt, hsz, ent⟩ := lockedN I hd
    obtain ⟨rfl, rfl⟩ := dict_ep hod hdt
    obtain ⟨en, hen, hkey, hval⟩ := ent i _ (List.getElem?_eq_getElem hi)
    obtain ⟨ok, ov, he⟩ := st
    rw [← hsz] at he
    have hlt : it < s.heap.objs.size := Heap.lt_size he
    have hi2 : i < ds'.size := by omega
    have een : ds'[i] = en := by
      rw [Array.getElem?_eq_getElem hi2] at hen
      exact Option.some.inj hen
    refine DT.nextI he ⟨o, hgd, hx, hdt⟩ hi2 fun h' ho hT hz hk => ?_
    refine ⟨_, rfl, wpAny_letOwnedTupleGo_items (s := { s with heap := h' }) ho fun h'' he' sb => ?_⟩
    have hT2 : h''.get? s.heap.objs.size = some { cls := .type "tuple", data := .seq #[ds'[i].key, ds'[i].val] } := (sb.2 _ (Nat.ne_of_gt hlt)).trans hT
    rw [een] at hT2
    have new : ObjOk X.prog X.w (upd H s.heap.objs.size (.tup [.ref es[i].2.1, .int es[i].2.2])) h'' s.heap.objs.size (.tup [.ref es[i].2.1, .int es[i].2.2]) :=
      ⟨by show 2 ≤ sizeLine; decide, [en.key, en.val], .cons hkey (.cons hval .nil), ⟨_, hT2, rfl, _, rfl⟩⟩
    have I1 : Inv X pins σ (upd H s.heap.objs.size (.tup [.ref es[i].2.1, .int es[i].2.2])) { s with heap := h'' } :=
      I.turnedNew (t' := s.toks) (ch := [it]) (fun b ob hb e => (sb.2 b (fun z => hb (List.mem_singleton.mpr z))).trans (hk b ob (fun z => hb (List.mem_singleton.mpr z)) e)) hf (Nat.le_refl _) new
    refine ⟨.ref s.heap.objs.size, _, I1, rfl, ⟨_, es[i], List.getElem?_eq_getElem hi, rfl, I.hok.fresh (Nat.le_refl _), rfl⟩, ⟨ds'[i].key, ds'[i].val, ?_⟩, fun b hb => ?_⟩
    · rw [← hsz]
      exact he'
    · obtain rfl := List.mem_singleton.mp hb
      rw [upd_ne (Nat.ne_of_lt hlt)]
      exact (hf b (List.mem_singleton.mpr rfl)).1
  done := by
    intro X hP hw hK hc i pins s σ H E I hf st hg
    subst hP hw hK
    obtain ⟨hd, hi⟩ := hg
    have hit := hf it (List.mem_singleton.mpr rfl)
    obtain ⟨hs, hgd, hx, ds', ep', hdt, hsz, ent⟩ := lockedN I hd
    obtain ⟨rfl, rfl⟩ := dict_ep hod hdt
    obtain ⟨ok, ov, he⟩ := st
    rw [← hsz] at he
    exact DT.endI (I.ok.hd hc) he ⟨o, hgd, hx, hdt⟩ (by omega) fun h' eb => ⟨rfl, I.turned (t' := s.toks) (fun b ob hb e => eb b ob hb e) hit.1 hit.2.1 hit.2.2.2.1 hit.2.2.2.2.1 hit.2.2.2.2.2⟩
  self := fun A i s Q E st h => let ⟨_, _, e⟩ := st; PySem.W.kcp_self e h
end
def iKeysN (P : Program) (w : World) (td : TE) : TI := fun σ H R => td σ H fun x H1 => ∃ d o es, x = .ref d ∧ H1 d = some (.frz o (ndO P w d es)) ∧ R (ItkN P w d o es) H1
def iItemsN (P : Program) (w : World) (td : TE) : TI := fun σ H R => td σ H fun x H1 => ∃ d o es, x = .ref d ∧ H1 d = some (.frz o (ndO P w d es)) ∧ R (ItiN P w d o es) H1
section
variable {X : Cx} {tg e : Expr} {td : TE} {apos cpos : Pos}
theorem pi_keysN (he : PE X e td) : PI X tg e (iKeysN X.prog X.w td) := by
  refine ⟨fun pins s σ H R I h => ?_⟩
  refine thn (he.run pins s σ H _ I h) fun u s1 ⟨x, H1, I1, rx, d, o, es, ex, hd, q⟩ => ?_
  subst ex
  obtain rfl : u = Value.ref d := rx
  obtain ⟨hs, hgd, hx, ds, ep, hdt, hsz, ent⟩ := lockedN I1 hd
  refine iter_keys hs hgd hx hdt (pi_one (tk := s1.toks) I1 _ (turn_keysN _ hdt) ⟨_, Heap.get?_push_size _ rfl, rfl, ?_⟩ q)
  rw [hsz] <;> rfl
theorem pi_itemsN {elts : List Expr} {kk : Nat} {tpos : Pos} (he : PE X e td) (hbase : attributeBase e "items" X.env (eval e X.env) = eval e X.env := by rfl) (hline : (apos.endLine == cpos.line) = true := by rfl) :
    PI X (.Tuple elts kk tpos) (.Call (.Attribute e "items" apos) [] [] cpos) (iItemsN X.prog X.w td) := by
  refine ⟨fun pins s σ H R I h => ?_⟩
  refine wpAny_Call_method (T := "dict") (id := "dict.items") hbase rfl hline PySem.F.plainAttrs_dict PySem.F.slot_dict_items PySem.F.type_dict_items (thn (he.run pins s σ H _ I h) fun u s1 ⟨x, H1, I1, rx, d, o, es, ex, hd, q⟩ => ?_)
  subst ex
  obtain rfl : u = Value.ref d := rx
  obtain ⟨hs, hgd, hx, ds, ep, hdt, hsz, ent⟩ := lockedN I1 hd
  have hraw : DT.Raw s1.heap d ds ep := ⟨o, hgd, hx, hdt⟩
  refine ⟨hraw.typeIs, fun b z => (by cases z; exact ⟨o, hgd, hx.2.1⟩), ?_⟩
  have I2 : Inv X pins σ H1 { s1 with heap := s1.heap.push { cls := .type "dict_items", data := .fields #[.ref d] } } := I1.kept (t' := s1.toks) fun b ob z => Heap.get?_push_of_some _ z
  show wpAny _ _ (callWith cpos (.builtin "dict.items") [.ref d] [] []) _ X.xe s1
  refine method_meetsIn PySem.F.slot_dict_items PySem.F.entry_dict_items rfl (PySem.evalArgs_none ⟨rfl, hraw.typeIs, PySem.F.args_dict_items_1 _, _, DT.meetsItems (es := ds) (ep := ep) hs, hraw, ?_⟩)
  refine DT.iterI (d := d) (es := ds) (ep := ep) ⟨_, Heap.get?_push_size _ rfl, rfl, rfl⟩ (hraw.push _) (pi_one (tk := s1.toks) I2 _ (turn_itemsN _ hdt) ⟨.none, .none, ?_⟩ q)
  rw [← hsz]
  exact Heap.get?_push_size _ rfl
end
section
variable {P : Program} {w : World} {d : Addr} {o : Obj} {es : List Ent}
theorem walk_keysN : Walk (ItkN P w d o es) es.length (fun H => H d = some (.frz o (ndO P w d es))) (fun i H x H' => H' = H ∧ ∃ e, es[i]? = some e ∧ x = .ref e.2.1) :=
  ⟨fun _ _ hi q => ⟨q, hi⟩, fun _ q => ⟨q, Nat.le_refl _⟩, fun _ _ _ _ _ _ y => y⟩
theorem walk_itemsN : Walk (ItiN P w d o es) es.length (fun H => H d = some (.frz o (ndO P w d es))) (fun i H x H' => ∃ T e, es[i]? = some e ∧ x = .ref T ∧ H T = none ∧ H' = upd H T (.tup [.ref e.2.1, .int e.2.2])) :=
  ⟨fun _ _ hi q => ⟨q, hi⟩, fun _ q => ⟨q, Nat.le_refl _⟩, fun _ _ _ _ _ _ y => y⟩
end
theorem mut_nd {P : Program} {w : World} {d : Addr} {es : List Ent} : Mut (some (ndO P w d es)) := True.intro
end Nd


set_option Elab.async false
set_option linter.all false
set_option maxRecDepth 100000
set_option maxHeartbeats 2000000
/-! books: what is added up by keys; in order -/
namespace Bk
open PySem
class Ky (κ : Type) [DecidableEq κ] where
  enc : κ → PyData
  al : ∀ a b, PySem.W.alike (enc a) (enc b) = true
  inj : ∀ a b, PySem.W.keyToks (enc a) = PySem.W.keyToks (enc b) → a = b
  eqv : ∀ a b, PyData.eqv (enc a) (enc b) = decide (a = b)
  nn : ∀ a, enc a ≠ .none
  dep : ∀ a, (enc a).depth ≤ 10
section
variable {κ : Type} [DecidableEq κ] [Ky κ]
open Ky
def lt (a b : κ) : Bool := PySem.W.dataLt (enc a) (enc b)
theorem lt_irrefl (a : κ) : lt a a = false := PyProof.Rows.lex_irrefl _
theorem lt_trans {a b c : κ} (h1 : lt a b = true) (h2 : lt b c = true) : lt a c = true := (PyProof.Rows.listOrd PyProof.Rows.itemOrd).trans _ _ _ h1 h2
theorem lt_total {a b : κ} (h1 : lt a b = false) (h2 : lt b a = false) : a = b := inj a b ((PyProof.Rows.listOrd PyProof.Rows.itemOrd).total _ _ h1 h2)
theorem lt_asymm {a b : κ} (h : lt a b = true) : lt b a = false := by
  cases e : lt b a with
  | false => rfl
  | true => rw [← lt_trans h e, lt_irrefl]
theorem lt_ne {a b : κ} (h : lt a b = true) : a ≠ b := fun e => by rw [e, lt_irrefl] at h; cases h
abbrev Bag (κ : Type) := List (κ × Int)
/-- rising, each key once -/
def Asc (l : Bag κ) : Prop := l.Pairwise fun a b => lt a.1 b.1 = true
theorem Asc.uniq {l : Bag κ} (h : Asc l) {p q : κ × Int} (hp : p ∈ l) (hq : q ∈ l) (e : p.1 = q.1) : p = q := by
  induction l with
  | nil => exact nomatch hp
  | cons x r ih =>
    obtain ⟨h1, h2⟩ := List.pairwise_cons.mp h
    rcases List.mem_cons.mp hp with e1 | hp1
    · rcases List.mem_cons.mp hq with e2 | hq1
      · rw [e1, e2]
      · rw [e1] at e
        exact absurd e (lt_ne (h1 q hq1))
    · rcases List.mem_cons.mp hq with e2 | hq1
      · rw [e2] at e
        exact absurd e.symm (lt_ne (h1 p hp1))
      · exact ih h2 hp1 hq1
theorem asc_ext : ∀ {l m : Bag κ}, Asc l → Asc m → (∀ p, p ∈ l ↔ p ∈ m) → l = m
  | [], [], _, _, _ => rfl
  | [], y :: m, _, _, h => absurd ((h y).mpr List.mem_cons_self) (by simp)
  | x :: l, [], _, _, h => absurd ((h x).mp List.mem_cons_self) (by simp)
  | x :: l, y :: m, hl, hm, h => by
    obtain ⟨a1, a2⟩ := List.pairwise_cons.mp hl
    obtain ⟨b1, b2⟩ := List.pairwise_cons.mp hm
    have e : x = y := by
      rcases List.mem_cons.mp ((h x).mp List.mem_cons_self) with e | hx
      · exact e
      · rcases List.mem_cons.mp ((h y).mpr List.mem_cons_self) with e | hy
        · exact e.symm
        · have := lt_asymm (a1 y hy)
          rw [b1 x hx] at this
          cases this
    subst e
    have nl : x ∉ l := fun q => lt_ne (a1 x q) rfl
    have nm : x ∉ m := fun q => lt_ne (b1 x q) rfl
    rw [asc_ext a2 b2 fun p => ?_]
    constructor
    · intro hp
      rcases List.mem_cons.mp ((h p).mp (List.mem_cons_of_mem _ hp)) with e | q
      · rw [e] at hp
        exact absurd hp nl
      · exact q
    · intro hp
      rcases List.mem_cons.mp ((h p).mpr (List.mem_cons_of_mem _ hp)) with e | q
      · rw [e] at hp
        exact absurd hp nm
      · exact q
/-! adding up -/
def look (l : Bag κ) (k : κ) : Option Int := (l.find? fun e => decide (e.1 = k)).map (·.2)
def put (l : Bag κ) (k : κ) (v : Int) : Bag κ := if (look l k).isSome then l.map (fun e => if e.1 = k then (e.1, v) else e) else l ++ [(k, v)]
def add1 (l : Bag κ) (p : κ × Int) : Bag κ := put l p.1 ((look l p.1).getD 0 + p.2)
/-- the book of what is told in turn -/
def book (ts : Bag κ) : Bag κ := ts.foldl add1 []
def pr (l : Bag κ) (f : κ → Int) : Int := (l.map fun e => e.2 * f e.1).sum
theorem pr_nil (f : κ → Int) : pr [] f = 0 := rfl
theorem pr_cons (p : κ × Int) (l : Bag κ) (f : κ → Int) : pr (p :: l) f = p.2 * f p.1 + pr l f := by simp [pr]
theorem pr_append (l m : Bag κ) (f : κ → Int) : pr (l ++ m) f = pr l f + pr m f := by simp [pr]
theorem pr_perm {l m : Bag κ} (h : l.Perm m) (f : κ → Int) : pr l f = pr m f := by
  induction h with
  | nil => rfl
  | cons x _ ih => rw [pr_cons, pr_cons, ih]
  | swap x y l => rw [pr_cons, pr_cons, pr_cons, pr_cons]; omega
  | trans _ _ h1 h2 => rw [h1, h2]
theorem look_none {l : Bag κ} {k : κ} (h : look l k = none) : ∀ e ∈ l, e.1 ≠ k := by
  intro e he q
  unfold look at h
  rw [Option.map_eq_none_iff, List.find?_eq_none] at h
  exact h e he (decide_eq_true q)
theorem look_mem {l : Bag κ} {k : κ} {v : Int} (h : look l k = some v) : (k, v) ∈ l := by
  unfold look at h
  obtain ⟨e, he, rfl⟩ := Option.map_eq_some_iff.mp h
  have h1 := List.mem_of_find?_eq_some he
  have h2 := List.find?_some he
  have h3 : e.1 = k := of_decide_eq_true h2
  rw [← h3]
  exact h1
theorem look_of_mem {l : Bag κ} (hn : (l.map (·.1)).Nodup) {k : κ} {v : Int} (h : (k, v) ∈ l) : look l k = some v := by
  induction l with
  | nil => exact nomatch h
  | cons x r ih =>
    rw [List.map_cons, List.nodup_cons] at hn
    unfold look
    rw [List.find?_cons]
    rcases List.mem_cons.mp h with e | h
    · rw [← e]
      simp
    · have hne : ¬ x.1 = k := fun e => hn.1 (by rw [e]; exact List.mem_map.mpr ⟨_, h, rfl⟩)
      rw [decide_eq_false hne]
      exact ih hn.2 h
theorem keys_put (l : Bag κ) (k : κ) (v : Int) : (put l k v).map (·.1) = if (look l k).isSome then l.map (·.1) else l.map (·.1) ++ [k] := by
  unfold put
  split
  · rw [List.map_map]
    refine List.map_congr_left fun e _ => ?_
    show (if e.1 = k then (e.1, v) else e).1 = e.1
    split <;> rfl
  · rw [List.map_append]
    rfl
theorem nodup_put {l : Bag κ} (hn : (l.map (·.1)).Nodup) (k : κ) (v : Int) : ((put l k v).map (·.1)).Nodup := by
  rw [keys_put]
  split
  · exact hn
  · rename_i h
    have hno : look l k = none := by
      cases e : look l k with
      | none => rfl
      | some _ => rw [e] at h; simp at h
    rw [List.nodup_append]
    refine ⟨hn, by simp, fun a ha b hb e => ?_⟩
    rw [List.mem_singleton] at hb
    obtain ⟨x, hx, rfl⟩ := List.mem_map.mp ha
    exact look_none hno x hx (e.trans hb)
theorem map_off {l : Bag κ} {k : κ} {v : Int} (h : ∀ e ∈ l, e.1 ≠ k) : l.map (fun e => if e.1 = k then (e.1, v) else e) = l := by
  induction l with
  | nil => rfl
  | cons x r ih =>
    rw [List.map_cons, if_neg (h x List.mem_cons_self), ih fun e he => h e (List.mem_cons_of_mem _ he)]
theorem pr_set {l : Bag κ} (hn : (l.map (·.1)).Nodup) {k : κ} {u : Int} (h : (k, u) ∈ l) (v : Int) (f : κ → Int) : pr (l.map fun e => if e.1 = k then (e.1, v) else e) f = pr l f + (v - u) * f k := by
  induction l with
  | nil => exact nomatch h
  | cons x r ih =>
    rw [List.map_cons, List.nodup_cons] at hn
    rw [List.map_cons, pr_cons, pr_cons]
    rcases List.mem_cons.mp h with e | h
    · have hoff : ∀ e ∈ r, e.1 ≠ k := fun e' he q => hn.1 (by rw [← e, ← q]; exact List.mem_map.mpr ⟨_, he, rfl⟩)
      rw [map_off hoff, ← e, if_pos rfl]
      simp only [Int.sub_mul]
      omega
    · have hne : ¬ x.1 = k := fun e => hn.1 (by rw [e]; exact List.mem_map.mpr ⟨_, h, rfl⟩)
      rw [if_neg hne, ih hn.2 h]
      omega
theorem pr_add1 {l : Bag κ} (hn : (l.map (·.1)).Nodup) (p : κ × Int) (f : κ → Int) : pr (add1 l p) f = pr l f + p.2 * f p.1 := by
  unfold add1 put
  cases e : look l p.1 with
  | none =>
    simp only [Option.isSome_none, Bool.false_eq_true, if_false, Option.getD_none, Int.zero_add]
    rw [pr_append, pr_cons, pr_nil]
    simp
  | some u =>
    simp only [Option.isSome_some, if_true, Option.getD_some]
    rw [pr_set hn (look_mem e)]
    rw [show u + p.2 - u = p.2 by omega]
theorem nodup_add1 {l : Bag κ} (hn : (l.map (·.1)).Nodup) (p : κ × Int) : ((add1 l p).map (·.1)).Nodup := nodup_put hn _ _
theorem fold_ok : ∀ (ts : Bag κ) (l : Bag κ), (l.map (·.1)).Nodup → ((ts.foldl add1 l).map (·.1)).Nodup ∧ ∀ f, pr (ts.foldl add1 l) f = pr l f + pr ts f
  | [], l, h => ⟨h, fun f => by rw [pr_nil]; simp⟩
  | p :: ts, l, h => by
    obtain ⟨h1, h2⟩ := fold_ok ts (add1 l p) (nodup_add1 h p)
    refine ⟨h1, fun f => ?_⟩
    rw [List.foldl_cons, h2, pr_add1 h, pr_cons]
    omega
theorem book_nodup (ts : Bag κ) : ((book ts).map (·.1)).Nodup := (fold_ok ts [] List.nodup_nil).1
theorem book_pr (ts : Bag κ) (f : κ → Int) : pr (book ts) f = pr ts f := by
  have := (fold_ok ts [] List.nodup_nil).2 f
  rw [pr_nil, Int.zero_add] at this
  exact this
theorem book_snoc (ts : Bag κ) (p : κ × Int) : book (ts ++ [p]) = add1 (book ts) p := by simp [book]
def Pos (l : Bag κ) : Prop := ∀ p ∈ l, 0 < p.2
theorem pos_add1 {l : Bag κ} (h : Pos l) {p : κ × Int} (hp : 0 < p.2) : Pos (add1 l p) := by
  intro q hq
  have h0 : 0 ≤ (look l p.1).getD 0 := by
    cases e : look l p.1 with
    | none => exact Int.le_refl _
    | some u => exact Int.le_of_lt (h _ (look_mem e))
  unfold add1 put at hq
  split at hq
  · obtain ⟨x, hx, rfl⟩ := List.mem_map.mp hq
    split
    · show 0 < (look l p.1).getD 0 + p.2
      omega
    · exact h x hx
  · rcases List.mem_append.mp hq with hq | hq
    · exact h q hq
    · rw [List.mem_singleton.mp hq]
      show 0 < (look l p.1).getD 0 + p.2
      omega
theorem pos_fold : ∀ (ts : Bag κ) (l : Bag κ), Pos l → Pos ts → Pos (ts.foldl add1 l)
  | [], _, h, _ => h
  | p :: ts, l, h, ht => pos_fold ts (add1 l p) (pos_add1 h (ht p List.mem_cons_self)) fun q hq => ht q (List.mem_cons_of_mem _ hq)
theorem pos_book {ts : Bag κ} (h : Pos ts) : Pos (book ts) := pos_fold ts [] (fun _ q => nomatch q) h
theorem len_add1 (l : Bag κ) (p : κ × Int) : (add1 l p).length ≤ l.length + 1 := by
  unfold add1 put
  split
  · rw [List.length_map]; omega
  · rw [List.length_append]; exact Nat.le_refl _
theorem len_fold : ∀ (ts : Bag κ) (l : Bag κ), (ts.foldl add1 l).length ≤ l.length + ts.length
  | [], _ => Nat.le_refl _
  | p :: ts, l => by
    have h1 := len_fold ts (add1 l p)
    have h2 := len_add1 l p
    rw [List.foldl_cons, List.length_cons]
    omega
theorem len_book (ts : Bag κ) : (book ts).length ≤ ts.length := by
  have := len_fold ts []
  rw [List.length_nil, Nat.zero_add] at this
  exact this
/-- whatever holds of all keys told holds of the book's -/
theorem key_book {Pk : κ → Prop} : ∀ (ts l : Bag κ), (∀ p ∈ l, Pk p.1) → (∀ p ∈ ts, Pk p.1) → ∀ p ∈ ts.foldl add1 l, Pk p.1
  | [], _, h, _ => h
  | t :: ts, l, h, ht => by
    refine key_book ts (add1 l t) (fun p hp => ?_) fun q hq => ht q (List.mem_cons_of_mem _ hq)
    have hm : p.1 ∈ (add1 l t).map (·.1) := List.mem_map.mpr ⟨p, hp, rfl⟩
    unfold add1 at hm
    rw [keys_put] at hm
    split at hm
    · obtain ⟨x, hx, e⟩ := List.mem_map.mp hm
      rw [← e]
      exact h x hx
    · rcases List.mem_append.mp hm with hm | hm
      · obtain ⟨x, hx, e⟩ := List.mem_map.mp hm
        rw [← e]
        exact h x hx
      · rw [List.mem_singleton.mp hm]
        exact ht t List.mem_cons_self
/-! in order -/
def encP (p : κ × Int) : PyData := .tuple [enc p.1, .int p.2]
def srt (l : Bag κ) : Bag κ := l.mergeSort (PySem.W.dataLe false encP)
theorem srt_perm (l : Bag κ) : (srt l).Perm l := List.mergeSort_perm l _
theorem srt_asc {l : Bag κ} (hn : (l.map (·.1)).Nodup) : Asc (srt l) := by
  have h1 : (srt l).Pairwise (fun a b => PySem.W.dataLe false encP a b = true) := PySem.W.sort_pairwise (PySem.W.sortLe_total _ false _) l
  have h2 : ((srt l).map (·.1)).Nodup := ((srt_perm l).map _).nodup_iff.mpr hn
  rw [List.Nodup, List.pairwise_map] at h2
  refine (h1.and h2).imp fun {a b} ⟨hle, hne⟩ => ?_
  have hle' : (!PySem.W.dataLt (encP b) (encP a)) = true := hle
  unfold encP at hle'
  have ai : PySem.W.alike (.int b.2) (.int a.2) = true := by simp [PySem.W.alike]
  rw [PySem.W.dataLt_pair (al _ _) ai, eqv, decide_eq_false (Ne.symm hne), if_neg Bool.false_ne_true] at hle'
  have hle2 : lt b.1 a.1 = false := by
    cases e : lt b.1 a.1 with
    | false => rfl
    | true =>
      have e' : PySem.W.dataLt (enc b.1) (enc a.1) = true := e
      rw [e'] at hle'
      cases hle'
  cases e : lt a.1 b.1 with
  | true => rfl
  | false => exact absurd (lt_total e hle2) hne
def nf (ts : Bag κ) : Bag κ := srt (book ts)
theorem nf_asc (ts : Bag κ) : Asc (nf ts) := srt_asc (book_nodup ts)
theorem nf_pr (ts : Bag κ) (f : κ → Int) : pr (nf ts) f = pr ts f := by
  unfold nf
  rw [pr_perm (srt_perm _), book_pr]
theorem nf_pos {ts : Bag κ} (h : Pos ts) : Pos (nf ts) := fun p hp => pos_book h p ((srt_perm _).mem_iff.mp hp)
theorem nf_len (ts : Bag κ) : (nf ts).length ≤ ts.length := by
  unfold nf
  rw [(srt_perm _).length_eq]
  exact len_book ts
theorem nf_key {Pk : κ → Prop} {ts : Bag κ} (h : ∀ p ∈ ts, Pk p.1) : ∀ p ∈ nf ts, Pk p.1 := fun p hp => key_book ts [] (fun _ q => nomatch q) h p ((srt_perm _).mem_iff.mp hp)
/-! one form -/
def del (k : κ) : κ → Int := fun x => if x = k then 1 else 0
theorem pr_off {l : Bag κ} {k : κ} (h : ∀ e ∈ l, e.1 ≠ k) : pr l (del k) = 0 := by
  induction l with
  | nil => rfl
  | cons x r ih =>
    rw [pr_cons, ih fun e he => h e (List.mem_cons_of_mem _ he)]
    unfold del
    rw [if_neg (h x List.mem_cons_self)]
    simp
theorem pr_del {l : Bag κ} (h : Asc l) {k : κ} {v : Int} (hm : (k, v) ∈ l) : pr l (del k) = v := by
  induction l with
  | nil => exact nomatch hm
  | cons x r ih =>
    obtain ⟨h1, h2⟩ := List.pairwise_cons.mp h
    rw [pr_cons]
    rcases List.mem_cons.mp hm with e | hm
    · have hoff : ∀ e ∈ r, e.1 ≠ k := fun e' he q => lt_ne (h1 e' he) (by rw [← e]; exact q.symm)
      rw [pr_off hoff, ← e]
      unfold del
      rw [if_pos rfl]
      simp
    · rw [ih h2 hm]
      unfold del
      rw [if_neg fun q => lt_ne (h1 _ hm) q]
      simp
theorem mem_of_pr {l : Bag κ} (h : Asc l) {k : κ} {v : Int} (hv : v ≠ 0) (e : pr l (del k) = v) : (k, v) ∈ l := by
  by_cases hx : ∃ u, (k, u) ∈ l
  · obtain ⟨u, hu⟩ := hx
    rw [pr_del h hu] at e
    rw [← e]
    exact hu
  · have hoff : ∀ e ∈ l, e.1 ≠ k := fun e' he q => hx ⟨e'.2, by rw [← q]; exact he⟩
    rw [pr_off hoff] at e
    exact absurd e.symm hv
theorem one_form {l m : Bag κ} (hl : Asc l) (hm : Asc m) (pl : Pos l) (pm : Pos m) (h : ∀ f, pr l f = pr m f) : l = m := by
  refine asc_ext hl hm fun p => ⟨fun hp => ?_, fun hp => ?_⟩
  · have := pr_del hl (k := p.1) (v := p.2) hp
    rw [h] at this
    exact mem_of_pr hm (Int.ne_of_gt (pl p hp)) this
  · have := pr_del hm (k := p.1) (v := p.2) hp
    rw [← h] at this
    exact mem_of_pr hl (Int.ne_of_gt (pm p hp)) this
theorem nf_eq {l m : Bag κ} (pl : Pos l) (pm : Pos m) (h : ∀ f, pr l f = pr m f) : nf l = nf m :=
  one_form (nf_asc l) (nf_asc m) (nf_pos pl) (nf_pos pm) fun f => by rw [nf_pr, nf_pr, h]
theorem nf_id {l : Bag κ} (hl : Asc l) (pl : Pos l) : nf l = l := one_form (nf_asc l) hl (nf_pos pl) pl fun f => nf_pr l f
end
end Bk


set_option Elab.async false
set_option linter.all false
set_option maxRecDepth 100000
set_option maxHeartbeats 2000000
/-! polynomials over tokens -/
namespace Bk
open PySem Nd
instance : Ky Str where
  enc := .str
  al := fun a b => by simp [PySem.W.alike]
  inj := fun a b h => by
    simp only [PySem.W.keyToks, List.cons.injEq, Sum.inr.injEq, and_true] at h
    exact PySem.W.str_of_cps h
  eqv := fun a b => by
    by_cases h : a = b
    · subst h
      simp [PyData.eqv]
    · rw [decide_eq_false h]
      simp [PyData.eqv, h]
  nn := fun a h => nomatch h
  dep := fun a => by simp [PyData.depth]
def tkD (p : Str × Int) : PyData := .tuple [.str p.1, .int p.2]
theorem mD_eq (m : Mono) : mD m = .tuple (m.map tkD) := rfl
theorem al_tk (p q : Str × Int) : PySem.W.alike (tkD p) (tkD q) = true := by simp [tkD, PySem.W.alike, PySem.W.alikeAll]
theorem al_tks : ∀ m n : Mono, PySem.W.alikeAll (m.map tkD) (n.map tkD) = true
  | [], _ => by simp [PySem.W.alikeAll]
  | _ :: _, [] => by simp [PySem.W.alikeAll]
  | p :: m, q :: n => by
    rw [List.map_cons, List.map_cons, PySem.W.alikeAll, al_tk, al_tks m n]
    rfl
theorem toks_tk (p : Str × Int) : PySem.W.keyToks (tkD p) = [.inl 1, .inr p.1.cps.toList, .inl 1, .inl p.2, .inl 0] := by simp [tkD, PySem.W.keyToks, PySem.W.keyToksAll]
theorem toks_inj : ∀ m n : Mono, PySem.W.keyToksAll (m.map tkD) = PySem.W.keyToksAll (n.map tkD) → m = n
  | [], [], _ => rfl
  | [], q :: n, h => by simp [PySem.W.keyToksAll] at h
  | p :: m, [], h => by simp [PySem.W.keyToksAll] at h
  | p :: m, q :: n, h => by
    rw [List.map_cons, List.map_cons, PySem.W.toks_all_cons, PySem.W.toks_all_cons, toks_tk, toks_tk] at h
    simp only [List.cons_append, List.nil_append, List.cons.injEq, Sum.inl.injEq, Sum.inr.injEq, true_and] at h
    obtain ⟨h1, h2, h3⟩ := h
    rw [toks_inj m n h3]
    obtain ⟨p1, p2⟩ := p
    obtain ⟨q1, q2⟩ := q
    simp only at h1 h2
    rw [PySem.W.str_of_cps h1, h2]
theorem eqv_tk (p q : Str × Int) : PyData.eqv (tkD p) (tkD q) = decide (p = q) := by
  obtain ⟨p1, p2⟩ := p
  obtain ⟨q1, q2⟩ := q
  by_cases h1 : p1 = q1
  · by_cases h2 : p2 = q2
    · subst h1 h2
      simp [tkD, PyData.eqv, PyData.eqvAll]
    · simp [tkD, PyData.eqv, PyData.eqvAll, h2]
  · simp [tkD, PyData.eqv, PyData.eqvAll, h1]
theorem eqv_tks : ∀ m n : Mono, PyData.eqvAll (m.map tkD) (n.map tkD) = decide (m = n)
  | [], [] => by simp [PyData.eqvAll]
  | [], q :: n => by simp [PyData.eqvAll]
  | p :: m, [] => by simp [PyData.eqvAll]
  | p :: m, q :: n => by
    rw [List.map_cons, List.map_cons, PySem.W.eqv_all_cons, eqv_tk, eqv_tks m n]
    by_cases h1 : p = q
    · by_cases h2 : m = n
      · simp [h1, h2]
      · simp [h2]
    · simp [h1]
theorem dep_tks : ∀ m : Mono, PyData.depthAll (m.map tkD) ≤ 1
  | [] => by simp [PyData.depthAll]
  | p :: m => by
    have := dep_tks m
    simp only [List.map_cons, PyData.depthAll, tkD, PyData.depth]
    omega
instance : Ky Mono where
  enc := mD
  al := fun a b => by
    rw [mD_eq, mD_eq, PySem.W.alike]
    exact al_tks a b
  inj := fun a b h => by
    rw [mD_eq, mD_eq, PySem.W.keyToks, PySem.W.keyToks] at h
    exact toks_inj a b h
  eqv := fun a b => by
    rw [mD_eq, mD_eq, PyData.eqv]
    exact eqv_tks a b
  nn := fun a h => nomatch h
  dep := fun a => by
    have := dep_tks a
    rw [mD_eq, PyData.depth]
    omega
abbrev Poly := Bag Mono
/-- tokens rising, exponents from 1 on -/
def MOk (m : Mono) : Prop := Asc m ∧ Pos m
def POk (p : Poly) : Prop := Asc p ∧ Pos p ∧ ∀ t ∈ p, MOk t.1
def mulM (a b : Mono) : Mono := nf (a ++ b)
def prods (p q : Poly) : Poly := p.flatMap fun a => q.map fun b => (mulM a.1 b.1, a.2 * b.2)
def plusP (p q : Poly) : Poly := nf (p ++ q)
def timesP (p q : Poly) : Poly := nf (prods p q)
theorem pos_append {κ : Type} {l m : Bag κ} (hl : Pos l) (hm : Pos m) : Pos (l ++ m) := fun p hp => (List.mem_append.mp hp).elim (hl p) (hm p)
theorem mulM_ok {a b : Mono} (ha : MOk a) (hb : MOk b) : MOk (mulM a b) := ⟨nf_asc _, nf_pos (pos_append ha.2 hb.2)⟩
theorem mulM_comm {a b : Mono} (ha : MOk a) (hb : MOk b) : mulM a b = mulM b a :=
  nf_eq (pos_append ha.2 hb.2) (pos_append hb.2 ha.2) fun f => by rw [pr_append, pr_append]; omega
theorem mulM_assoc {a b c : Mono} (ha : MOk a) (hb : MOk b) (hc : MOk c) : mulM (mulM a b) c = mulM a (mulM b c) := by
  refine nf_eq (pos_append (mulM_ok ha hb).2 hc.2) (pos_append ha.2 (mulM_ok hb hc).2) fun f => ?_
  rw [pr_append, pr_append]
  unfold mulM
  rw [nf_pr, nf_pr, pr_append, pr_append]
  omega
theorem mulM_nil_left {a : Mono} (ha : MOk a) : mulM [] a = a := by
  unfold mulM
  rw [List.nil_append]
  exact nf_id ha.1 ha.2
theorem mulM_nil_right {a : Mono} (ha : MOk a) : mulM a [] = a := by
  unfold mulM
  rw [List.append_nil]
  exact nf_id ha.1 ha.2
theorem ok_nil : MOk [] := ⟨List.Pairwise.nil, fun _ h => nomatch h⟩
theorem pok_zero : POk [] := ⟨List.Pairwise.nil, fun _ h => (nomatch h), fun _ h => nomatch h⟩
def oneP : Poly := [([], 1)]
theorem pok_one : POk oneP := ⟨List.pairwise_singleton _ _, fun p h => by rw [List.mem_singleton.mp h]; decide, fun p h => by rw [List.mem_singleton.mp h]; exact ok_nil⟩
theorem plusP_ok {p q : Poly} (hp : POk p) (hq : POk q) : POk (plusP p q) :=
  ⟨nf_asc _, nf_pos (pos_append hp.2.1 hq.2.1), nf_key (Pk := MOk) fun t ht => (List.mem_append.mp ht).elim (hp.2.2 t) (hq.2.2 t)⟩
theorem mem_prods {p q : Poly} {t : Mono × Int} (h : t ∈ prods p q) : ∃ a ∈ p, ∃ b ∈ q, t = (mulM a.1 b.1, a.2 * b.2) := by
  unfold prods at h
  obtain ⟨a, ha, h⟩ := List.mem_flatMap.mp h
  obtain ⟨b, hb, rfl⟩ := List.mem_map.mp h
  exact ⟨a, ha, b, hb, rfl⟩
theorem pos_prods {p q : Poly} (hp : Pos p) (hq : Pos q) : Pos (prods p q) := fun t ht => by
  obtain ⟨a, ha, b, hb, rfl⟩ := mem_prods ht
  exact Int.mul_pos (hp a ha) (hq b hb)
theorem timesP_ok {p q : Poly} (hp : POk p) (hq : POk q) : POk (timesP p q) :=
  ⟨nf_asc _, nf_pos (pos_prods hp.2.1 hq.2.1), nf_key (Pk := MOk) fun t ht => by
    obtain ⟨a, ha, b, hb, rfl⟩ := mem_prods ht
    exact mulM_ok (hp.2.2 a ha) (hq.2.2 b hb)⟩
theorem pr_mapmul (q : Poly) (x : Int) (g : Mono → Mono) (f : Mono → Int) : pr (q.map fun b => (g b.1, x * b.2)) f = x * pr q (fun b => f (g b)) := by
  induction q with
  | nil => rw [List.map_nil, pr_nil, pr_nil, Int.mul_zero]
  | cons b r ih =>
    rw [List.map_cons, pr_cons, pr_cons, ih, Int.mul_add, Int.mul_assoc]
theorem pr_prods (p q : Poly) (f : Mono → Int) : pr (prods p q) f = pr p fun a => pr q fun b => f (mulM a b) := by
  induction p with
  | nil => rfl
  | cons a r ih =>
    have e : prods (a :: r) q = (q.map fun b => (mulM a.1 b.1, a.2 * b.2)) ++ prods r q := by simp [prods]
    rw [e, pr_append, ih, pr_cons, pr_mapmul q a.2 (mulM a.1) f]
theorem pr_times (p q : Poly) (f : Mono → Int) : pr (timesP p q) f = pr p fun a => pr q fun b => f (mulM a b) := by
  unfold timesP
  rw [nf_pr, pr_prods]
theorem pr_plus (p q : Poly) (f : Mono → Int) : pr (plusP p q) f = pr p f + pr q f := by
  unfold plusP
  rw [nf_pr, pr_append]
theorem pr_congr {p : Poly} {f g : Mono → Int} (h : ∀ t ∈ p, f t.1 = g t.1) : pr p f = pr p g := by
  induction p with
  | nil => rfl
  | cons a r ih =>
    rw [pr_cons, pr_cons, h a List.mem_cons_self, ih fun t ht => h t (List.mem_cons_of_mem _ ht)]
theorem pr_add (p : Poly) (f g : Mono → Int) : pr p (fun a => f a + g a) = pr p f + pr p g := by
  induction p with
  | nil => rfl
  | cons a r ih =>
    rw [pr_cons, pr_cons, pr_cons, ih, Int.mul_add]
    omega
theorem pr_zero (p : Poly) : pr p (fun _ => 0) = 0 := by
  induction p with
  | nil => rfl
  | cons a r ih => rw [pr_cons, ih]; simp
theorem pr_scale (p : Poly) (x : Int) (f : Mono → Int) : pr p (fun a => x * f a) = x * pr p f := by
  induction p with
  | nil => rw [pr_nil, pr_nil, Int.mul_zero]
  | cons a r ih =>
    rw [pr_cons, pr_cons, ih, Int.mul_add, ← Int.mul_assoc, ← Int.mul_assoc, Int.mul_comm a.2 x]
theorem pr_swap (p q : Poly) (f : Mono → Mono → Int) : pr p (fun a => pr q fun b => f a b) = pr q fun b => pr p fun a => f a b := by
  induction p with
  | nil =>
    rw [pr_nil]
    exact (pr_zero q).symm
  | cons a r ih =>
    rw [pr_cons, ih]
    have e : (fun b => pr (a :: r) fun x => f x b) = fun b => a.2 * f a.1 b + pr r fun x => f x b := by
      funext b
      rw [pr_cons]
    rw [e, pr_add, pr_scale]
section
variable {p q r : Poly}
theorem plus_assoc (hp : POk p) (hq : POk q) (hr : POk r) : plusP (plusP p q) r = plusP p (plusP q r) :=
  nf_eq (pos_append (plusP_ok hp hq).2.1 hr.2.1) (pos_append hp.2.1 (plusP_ok hq hr).2.1) fun f => by rw [pr_append, pr_append, pr_plus, pr_plus]; omega
theorem plus_comm (hp : POk p) (hq : POk q) : plusP p q = plusP q p := nf_eq (pos_append hp.2.1 hq.2.1) (pos_append hq.2.1 hp.2.1) fun f => by rw [pr_append, pr_append]; omega
theorem plus_zero (hp : POk p) : plusP p [] = p := by
  unfold plusP
  rw [List.append_nil]
  exact nf_id hp.1 hp.2.1
theorem zero_plus (hp : POk p) : plusP [] p = p := by
  unfold plusP
  rw [List.nil_append]
  exact nf_id hp.1 hp.2.1
theorem times_comm (hp : POk p) (hq : POk q) : timesP p q = timesP q p :=
  nf_eq (pos_prods hp.2.1 hq.2.1) (pos_prods hq.2.1 hp.2.1) fun f => by
    rw [pr_prods, pr_prods, pr_swap q p]
    exact pr_congr fun a ha => pr_congr fun b hb => by rw [mulM_comm (hp.2.2 a ha) (hq.2.2 b hb)]
theorem times_assoc (hp : POk p) (hq : POk q) (hr : POk r) : timesP (timesP p q) r = timesP p (timesP q r) :=
  nf_eq (pos_prods (timesP_ok hp hq).2.1 hr.2.1) (pos_prods hp.2.1 (timesP_ok hq hr).2.1) fun f => by
    rw [pr_prods, pr_prods, pr_times]
    refine pr_congr fun a ha => ?_
    rw [pr_times]
    exact pr_congr fun b hb => pr_congr fun c hc => by rw [mulM_assoc (hp.2.2 a ha) (hq.2.2 b hb) (hr.2.2 c hc)]
theorem times_plus (hp : POk p) (hq : POk q) (hr : POk r) : timesP p (plusP q r) = plusP (timesP p q) (timesP p r) :=
  nf_eq (pos_prods hp.2.1 (plusP_ok hq hr).2.1) (pos_append (timesP_ok hp hq).2.1 (timesP_ok hp hr).2.1) fun f => by
    rw [pr_prods, pr_append, pr_times, pr_times, ← pr_add]
    exact pr_congr fun a ha => by rw [pr_plus]
theorem times_one (hp : POk p) : timesP p oneP = p := by
  refine one_form (nf_asc _) hp.1 (timesP_ok hp pok_one).2.1 hp.2.1 fun f => ?_
  rw [pr_times]
  refine pr_congr fun a ha => ?_
  unfold oneP
  rw [pr_cons, pr_nil, mulM_nil_right (hp.2.2 a ha)]
  simp
theorem one_times (hp : POk p) : timesP oneP p = p := by rw [times_comm pok_one hp, times_one hp]
theorem times_zero : timesP p [] = [] := by
  have e : prods p [] = [] := by
    unfold prods
    induction p with
    | nil => rfl
    | cons a r ih => rw [List.flatMap_cons, List.map_nil, List.nil_append, ih]
  unfold timesP
  rw [e]
  exact nf_id List.Pairwise.nil fun _ h => nomatch h
theorem zero_times : timesP [] p = [] := nf_id List.Pairwise.nil fun _ h => nomatch h
end
/-! sizes -/
def S {κ : Type} (p : Bag κ) : Int := pr p fun _ => 1
theorem S_plus (p q : Poly) : S (plusP p q) = S p + S q := pr_plus p q _
theorem S_times (p q : Poly) : S (timesP p q) = S p * S q := by
  unfold S
  rw [pr_times]
  have e : (fun _ : Mono => pr q fun _ => 1) = fun _ : Mono => (pr q fun _ => 1) * 1 := by
    funext a
    rw [Int.mul_one]
  rw [e, pr_scale p _ (fun _ => 1), Int.mul_comm]
theorem S_nf {κ : Type} [DecidableEq κ] [Ky κ] (ts : Bag κ) : S (nf ts) = S ts := nf_pr ts _
theorem S_append {κ : Type} (p q : Bag κ) : S (p ++ q) = S p + S q := by
  unfold S pr
  simp
theorem S_nonneg {κ : Type} {l : Bag κ} (h : Pos l) : 0 ≤ S l := by
  induction l with
  | nil => exact Int.le_refl _
  | cons x r ih =>
    have h1 := h x List.mem_cons_self
    have h2 := ih fun q hq => h q (List.mem_cons_of_mem _ hq)
    have e : S (x :: r) = x.2 * 1 + S r := by unfold S pr; simp
    omega
theorem le_S {κ : Type} {l : Bag κ} (h : Pos l) {p : κ × Int} (hp : p ∈ l) : p.2 ≤ S l := by
  induction l with
  | nil => exact nomatch hp
  | cons x r ih =>
    have h1 := h x List.mem_cons_self
    have h0 : Pos r := fun q hq => h q (List.mem_cons_of_mem _ hq)
    have h2 := S_nonneg h0
    have e : S (x :: r) = x.2 * 1 + S r := by unfold S pr; simp
    rcases List.mem_cons.mp hp with q | q
    · rw [q]; omega
    · have := ih h0 q
      omega
theorem S_book {κ : Type} [DecidableEq κ] [Ky κ] (ts : Bag κ) : S (book ts) = S ts := book_pr ts _
theorem S_mulM (a b : Mono) : S (mulM a b) = S a + S b := by
  unfold mulM
  rw [S_nf, S_append]
theorem len_prods (p q : Poly) : (prods p q).length = p.length * q.length := by
  unfold prods
  induction p with
  | nil => simp
  | cons a r ih => rw [List.flatMap_cons, List.length_append, ih, List.length_map, List.length_cons, Nat.add_mul, Nat.one_mul, Nat.add_comm]
/-- degrees at most d -/
def Dg (p : Poly) (d : Int) : Prop := ∀ t ∈ p, S t.1 ≤ d
theorem Dg_nf {ts : Poly} {d : Int} (h : Dg ts d) : Dg (nf ts) d := nf_key (Pk := fun m => S m ≤ d) h
theorem Dg_plus {p q : Poly} {d : Int} (hp : Dg p d) (hq : Dg q d) : Dg (plusP p q) d := Dg_nf fun t ht => (List.mem_append.mp ht).elim (hp t) (hq t)
theorem Dg_times {p q : Poly} {d e : Int} (hp : Dg p d) (hq : Dg q e) : Dg (timesP p q) (d + e) := Dg_nf fun t ht => by
  obtain ⟨a, ha, b, hb, rfl⟩ := mem_prods ht
  have h1 := hp a ha
  have h2 := hq b hb
  show S (mulM a.1 b.1) ≤ d + e
  rw [S_mulM]
  omega
end Bk


set_option Elab.async false
set_option linter.all false
set_option maxRecDepth 100000
set_option maxHeartbeats 2000000
namespace K26
open PySem L2
def topS (i : Nat) : Stmt := PySem.Challenge.pw_ledgertrace_k26_blames.main.body.getD i (.Pass ⟨0, 0, 0, 0⟩)
abbrev sTokens : Stmt := topS 5
abbrev sWits : Stmt := topS 8
abbrev sLLack : Stmt := topS 9
abbrev sSetO : Stmt := topS 10
abbrev sLSets : Stmt := topS 11
abbrev sBits : Stmt := topS 12
abbrev sMask : Stmt := topS 13
abbrev sBrk : Stmt := topS 14
abbrev sMet : Stmt := topS 15
abbrev sBls : Stmt := topS 17
abbrev sCon_ : Stmt := topS 18
abbrev sBla_ : Stmt := topS 19
abbrev sBOrd : Stmt := topS 20
abbrev yMix : Stmt := topS 22
abbrev yStart : Stmt := topS 23
abbrev yTake : Stmt := topS 24
abbrev ySame : Stmt := topS 25
abbrev yTok : Stmt := topS 26
abbrev yRis : Stmt := topS 27
abbrev yPolyOf : Stmt := topS 28
abbrev yPoly : Stmt := topS 29
abbrev yListed : Stmt := topS 30
abbrev yHanded : Stmt := topS 31
abbrev yOf : Stmt := topS 32
abbrev yThere : Stmt := topS 33
abbrev ySets : Stmt := topS 34
abbrev yWithin : Stmt := topS 35
abbrev yLeast : Stmt := topS 36
abbrev yBrk : Stmt := topS 37
abbrev yShr : Stmt := topS 38
abbrev sDue : Stmt := topS 39
abbrev yDue : Stmt := topS 39
abbrev yRef : Stmt := topS 40
abbrev yPrs : Stmt := topS 41
abbrev yLaw : Stmt := topS 42
/-- the mixing: some number below 2147483629 -/
def spMix : Sp := fun vs H Q _ => ∃ c s : Int, vs = [.int c, .int s] ∧ ∀ r : Int, 0 ≤ r → Q (.int r) H
section
variable {P : Program} {w : World} {K : PySem.W.Frag} {mg : Str → Option Value} {base : Heap}
end
end K26


set_option Elab.async false
set_option linter.all false
set_option maxRecDepth 100000
set_option maxHeartbeats 4000000
namespace K26
open PySem L2
def bx (d0 d1 at_ s m : Int) (c : Addr) : List V := [.int d0, .int d1, .int at_, .int s, .int m, .ref c]
/-- a box at b, its cells at c -/
structure BoxAt (H : Hp) (b c : Addr) (ns : List Int) : Prop where
  lst : ∃ d0 d1 at_ s m : Int, 0 ≤ at_ ∧ H b = some (.lst (bx d0 d1 at_ s m c))
  cells : H c = some (.lst (ns.map V.int))
  len : ns.length ≤ 1000
theorem bx_ne {d0 d1 at_ s m : Int} {c : Addr} {ns : List Int} : HO.lst (ns.map V.int) ≠ HO.lst (bx d0 d1 at_ s m c) := by
  intro z
  have z' := HO.lst.inj z
  have h5 := congrArg (fun l => l[5]?) z'
  simp only [bx, List.getElem?_map] at h5
  cases e : ns[5]? with
  | none => rw [e] at h5; simp at h5
  | some y => rw [e] at h5; simp at h5
/-- all but b is kept -/
def But (b : Addr) (H H' : Hp) : Prop := ∀ a o, H a = some o → a ≠ b → H' a = some o
theorem But.refl {b : Addr} {H : Hp} : But b H H := fun _ _ h _ => h
theorem But.trans {b : Addr} {H H1 H2 : Hp} (x : But b H H1) (y : But b H1 H2) : But b H H2 := fun a o h n => y a o (x a o h n) n
theorem But.upd {b : Addr} {H : Hp} {o : HO} : But b H (upd H b o) := fun a u h n => by rw [upd_ne n]; exact h
theorem But.same {b : Addr} {H H1 H2 : Hp} (x : But b H H1) (y : Same H1 H2) : But b H H2 := fun a o h n => y a o (x a o h n)
theorem BoxAt.ne {H : Hp} {b c : Addr} {ns : List Int} (x : BoxAt H b c ns) : c ≠ b := by
  obtain ⟨d0, d1, at_, s, m, _, h⟩ := x.lst
  exact ne_of x.cells h bx_ne
theorem BoxAt.put {H : Hp} {b c : Addr} {ns : List Int} (x : BoxAt H b c ns) {d0 d1 at_ s m : Int} (h : 0 ≤ at_) : BoxAt (upd H b (.lst (bx d0 d1 at_ s m c))) b c ns :=
  ⟨⟨d0, d1, at_, s, m, h, upd_same⟩, by rw [upd_ne x.ne]; exact x.cells, x.len⟩
/-- another box stays -/
theorem BoxAt.keep {H H' : Hp} {b b2 c2 : Addr} {ns : List Int} (y : BoxAt H b2 c2 ns) (hb : But b H H') (n1 : b2 ≠ b) (n2 : c2 ≠ b) : BoxAt H' b2 c2 ns := by
  obtain ⟨d0, d1, at_, s, m, h0, h⟩ := y.lst
  exact ⟨⟨d0, d1, at_, s, m, h0, hb _ _ h n1⟩, hb _ _ y.cells n2, y.len⟩
theorem BoxAt.same {H H' : Hp} {b c : Addr} {ns : List Int} (y : BoxAt H b c ns) (s : Same H H') : BoxAt H' b c ns := by
  obtain ⟨d0, d1, at_, s', m, h0, h⟩ := y.lst
  exact ⟨⟨d0, d1, at_, s', m, h0, s _ _ h⟩, s _ _ y.cells, y.len⟩
def spBox (K : PySem.W.Frag) : Sp := fun vs H Q _ => ∃ (a : Addr) (ns : List Int) (n : Int), vs = [.ref a, .int n] ∧ SqL K H a (ns.map V.int) ∧ ns.length ≤ 1000 ∧ 0 ≤ n ∧
  ∀ (b c : Addr) (H' : Hp), H b = none → H c = none → Same H H' → BoxAt H' b c ns → Q (.ref b) H'
def spDraw : Sp := fun vs H Q _ => ∃ (b c : Addr) (ns : List Int) (many : Int), vs = [.ref b, .int many] ∧ 0 < many ∧ many < 10000000 ∧ BoxAt H b c ns ∧
  ∀ (r : Int) (H' : Hp), 0 ≤ r → r < many → BoxAt H' b c ns → But b H H' → Q (.int r) H'
section
variable {P : Program} {w : World} {K : PySem.W.Frag} {mg : Str → Option Value} {base : Heap}
end
end K26


set_option Elab.async false
set_option linter.all false
set_option maxRecDepth 100000
set_option maxHeartbeats 4000000
namespace K26
open PySem L2
def scalV : V → Prop
  | .non => True
  | .bl _ => True
  | .int _ => True
  | .str _ => True
  | _ => False
/-- the same data at both, n deep at most -/
def Alike (K : PySem.W.Frag) (H : Hp) : Nat → V → V → Prop
  | 0, x, y => x = y ∧ scalV x
  | n + 1, x, y => (x = y ∧ scalV x) ∨ ∃ (a b : Addr) (xs ys : List V), x = .ref a ∧ y = .ref b ∧ ((SqT K H a xs ∧ SqT K H b ys) ∨ (SqL K H a xs ∧ SqL K H b ys)) ∧ xs.length = ys.length ∧ ys.length ≤ 1000000 ∧
      ∀ (i : Nat) (u v : V), xs[i]? = some u → ys[i]? = some v → Alike K H n u v
theorem sqT_same {K : PySem.W.Frag} {H H' : Hp} {a : Addr} {xs : List V} (s : Same H H') (h : SqT K H a xs) : SqT K H' a xs := by
  rcases h with (h | ⟨o, h⟩) | h
  · exact .inl (.inl (s _ _ h))
  · exact .inl (.inr ⟨o, s _ _ h⟩)
  · exact .inr h
theorem Alike.same {K : PySem.W.Frag} {H H' : Hp} (s : Same H H') : ∀ {n : Nat} {x y : V}, Alike K H n x y → Alike K H' n x y
  | 0, _, _, h => h
  | n + 1, x, y, h => by
    rcases h with h | ⟨a, b, xs, ys, rfl, rfl, h, hl, h1, h2⟩
    · exact .inl h
    · refine .inr ⟨a, b, xs, ys, rfl, rfl, ?_, hl, h1, fun i u v e1 e2 => (h2 i u v e1 e2).same s⟩
      rcases h with ⟨p, q⟩ | ⟨p, q⟩
      · exact .inl ⟨sqT_same s p, sqT_same s q⟩
      · exact .inr ⟨s.seq p, s.seq q⟩
theorem tyX_T {K : PySem.W.Frag} {H : Hp} {a : Addr} {xs : List V} (h : SqT K H a xs) : TyX K H (.ref a) (.type "tuple") := by
  rcases h with (h | ⟨o, h⟩) | ⟨o, its, n, h1, h2, _⟩
  · exact .base (.tup h)
  · exact .fTuple h
  · exact .kTuple h1 h2
theorem tyX_L {K : PySem.W.Frag} {H : Hp} {a : Addr} {xs : List V} (h : SqL K H a xs) : TyX K H (.ref a) (.type "list") := by
  rcases h with (h | ⟨o, h⟩) | ⟨o, its, n, h1, h2, _⟩
  · exact .base (.lst h)
  · exact .base (.frz h)
  · exact .kList h1 h2
def spAlike (K : PySem.W.Frag) (n : Nat) : Sp := fun vs H Q _ => ∃ x y : V, vs = [x, y] ∧ Alike K H n x y ∧ ∀ H', Same H H' → Q (.bl true) H'
theorem Alike.two {K : PySem.W.Frag} {H : Hp} {n : Nat} {x y : V} (h : Alike K H n x y) : (x = y ∧ scalV x) ∨ ∃ (m : Nat) (a b : Addr) (xs ys : List V), n = m + 1 ∧ x = .ref a ∧ y = .ref b ∧ ((SqT K H a xs ∧ SqT K H b ys) ∨ (SqL K H a xs ∧ SqL K H b ys)) ∧ xs.length = ys.length ∧ ys.length ≤ 1000000 ∧
    ∀ (i : Nat) (u v : V), xs[i]? = some u → ys[i]? = some v → Alike K H m u v := by
  cases n with
  | zero => exact .inl h
  | succ m =>
    rcases h with h | ⟨a, b, xs, ys, h⟩
    · exact .inl h
    · exact .inr ⟨m, a, b, xs, ys, rfl, h⟩
def spA (K : PySem.W.Frag) : Nat → Sp
  | 0 => fun _ _ _ _ => False
  | n + 1 => spAlike K n
theorem kitAnyS {K : PySem.W.Frag} {t : String} (h : t = "tuple" ∨ t = "list") : PySem.W.kitAny K (.type t) [.type "tuple", .type "list"] = some true := by
  rcases h with rfl | rfl
  · exact kitAny_cons (b := true) (kit_ty (by decide +kernel)) (fun z => nomatch z) fun _ => rfl
  · exact kitAny_cons (b := false) (kit_ty (by decide +kernel)) (fun _ => kitAny_cons (b := true) (kit_ty (by decide +kernel)) (fun z => nomatch z) fun _ => rfl) fun z => nomatch z
theorem atI_some {xs : List V} {i : Nat} (h : i < xs.length) : atI xs ((0 : Int) + (i : Int)) = some (xs[i]) := by
  rw [Int.zero_add]
  exact atI_nat (by simp [h])
structure Nm (mg : Str → Option Value) : Prop where
  isi : mg "isinstance" = none
  tup : mg "tuple" = none
  lst : mg "list" = none
  len : mg "len" = none
  rng : mg "range" = none
  bool : mg "bool" = none
  str : mg "str" = none
  int : mg "int" = none
def typName : V → String
  | .non => "NoneType"
  | .bl _ => "bool"
  | .int _ => "int"
  | _ => "str"
theorem scal_ty {K : PySem.W.Frag} {H : Hp} {x : V} (h : scalV x) : TyX K H x (.type (typName x)) := by
  cases x <;> first | exact h.elim | exact .base .non | exact .base (.bl _) | exact .base (.int _) | exact .base (.str _)
theorem kitAny2 {K : PySem.W.Frag} {t a b : String} (h1 : kitB t a = some false) (h2 : kitB t b = some false) : PySem.W.kitAny K (.type t) [.type a, .type b] = some false :=
  kitAny_cons (kit_ty h1) (fun _ => kitAny_cons (kit_ty h2) (fun _ => rfl) fun z => nomatch z) fun z => nomatch z
section
variable {P : Program} {w : World} {K : PySem.W.Frag} {mg : Str → Option Value} {base : Heap}
end
end K26


set_option Elab.async false
set_option linter.all false
set_option maxRecDepth 100000
set_option maxHeartbeats 2000000
namespace K26
open PySem L2 Nd Bk
/-! data of tuples alone -/
mutual
def tupOnly : PyData → Bool
  | .tuple ds => tupOnlyAll ds
  | .int _ => true
  | .str _ => true
  | .none => true
  | .bool _ => true
  | _ => false
def tupOnlyAll : List PyData → Bool
  | [] => true
  | d :: ds => tupOnly d && tupOnlyAll ds
end
def NotT (u : Option HO) : Prop := (∀ xs, u ≠ some (.tup xs)) ∧ ∀ o xs, u ≠ some (.frz o (.tup xs))
theorem notT_none : NotT none := ⟨fun _ h => (nomatch h), fun _ _ h => nomatch h⟩
theorem notT_lst {xs : List V} : NotT (some (.lst xs)) := ⟨fun _ h => (nomatch h), fun _ _ h => nomatch h⟩
theorem notT_dK {xs : List (Key × V)} : NotT (some (.dK xs)) := ⟨fun _ h => (nomatch h), fun _ _ h => nomatch h⟩
theorem notT_nd {P : Program} {w : World} {d : Addr} {es : List Ent} : NotT (some (ndO P w d es)) := ⟨fun _ h => (by unfold ndO at h; cases h), fun _ _ h => (by unfold ndO at h; cases h)⟩
theorem notT_frzN {P : Program} {w : World} {d : Addr} {es : List Ent} {o : Obj} : NotT (some (.frz o (ndO P w d es))) := ⟨fun _ h => (by cases h), fun _ _ h => (by unfold ndO at h; cases h)⟩
theorem notT_frzK {xs : List (Key × V)} {o : Obj} : NotT (some (.frz o (.dK xs))) := ⟨fun _ h => (by cases h), fun _ _ h => (by cases h)⟩
theorem sqT_put {K : PySem.W.Frag} {H : Hp} {D a : Addr} {o : HO} {xs : List V} (n : NotT (H D)) (h : SqT K H a xs) : SqT K (upd H D o) a xs := by
  rcases h with (h | ⟨o', h⟩) | h
  · refine .inl (.inl ?_)
    rw [upd_ne (fun e => n.1 xs (by rw [← e]; exact h))]
    exact h
  · refine .inl (.inr ⟨o', ?_⟩)
    rw [upd_ne (fun e => n.2 o' xs (by rw [← e]; exact h))]
    exact h
  · exact .inr h
mutual
theorem dp_put0 {K : PySem.W.Frag} {H : Hp} {D : Addr} {o : HO} (n : NotT (H D)) : ∀ {v : V} {d : PyData}, Dp K H v d → tupOnly d = true → Dp K (upd H D o) v d
  | _, _, .non => fun _ => .non
  | _, _, .bl b => fun _ => .bl b
  | _, _, .int i => fun _ => .int i
  | _, _, .str x => fun _ => .str x
  | _, _, .lst h a => fun t => by simp [tupOnly] at t
  | _, _, .tup h a => fun t => .tup (sqT_put n h) (dpAll_put0 n a (by simpa [tupOnly] using t))
theorem dpAll_put0 {K : PySem.W.Frag} {H : Hp} {D : Addr} {o : HO} (n : NotT (H D)) : ∀ {v : List V} {d : List PyData}, DpAll K H v d → tupOnlyAll d = true → DpAll K (upd H D o) v d
  | _, _, .nil => fun _ => .nil
  | _, _, .cons h r => fun t => by
    simp only [tupOnlyAll, Bool.and_eq_true] at t
    exact .cons (dp_put0 n h t.1) (dpAll_put0 n r t.2)
end
theorem dp_put {K : PySem.W.Frag} {H : Hp} {D : Addr} {o : HO} (n : NotT (H D)) {v : V} {d : PyData} (t : tupOnly d = true) (h : Dp K H v d) : Dp K (upd H D o) v d := dp_put0 n h t
theorem dpAll_put {K : PySem.W.Frag} {H : Hp} {D : Addr} {o : HO} (n : NotT (H D)) {v : List V} {d : List PyData} (t : tupOnlyAll d = true) (h : DpAll K H v d) : DpAll K (upd H D o) v d := dpAll_put0 n h t
theorem tupOnlyAll_of : ∀ {ds : List PyData}, (∀ d ∈ ds, tupOnly d = true) → tupOnlyAll ds = true
  | [], _ => rfl
  | d :: ds, h => by
    simp only [tupOnlyAll, Bool.and_eq_true]
    exact ⟨h d List.mem_cons_self, tupOnlyAll_of fun e he => h e (List.mem_cons_of_mem _ he)⟩
/-! bags as data -/
section
variable {κ : Type} [DecidableEq κ] [Ky κ]
def bD (l : Bag κ) : PyData := .tuple (l.map encP)
class Tu (κ : Type) [DecidableEq κ] [Ky κ] : Prop where
  tu : ∀ k : κ, tupOnly (Ky.enc k) = true
theorem tu_encP [Tu κ] (p : κ × Int) : tupOnly (encP p) = true := by
  show (tupOnlyAll [Ky.enc p.1, .int p.2]) = true
  simp [tupOnlyAll, tupOnly, Tu.tu]
theorem tu_encPs [Tu κ] (l : Bag κ) : ∀ d ∈ l.map encP, tupOnly d = true := fun d h => by
  obtain ⟨p, _, rfl⟩ := List.mem_map.mp h
  exact tu_encP p
theorem tu_bD [Tu κ] (l : Bag κ) : tupOnly (bD l) = true := by
  show tupOnlyAll (l.map encP) = true
  exact tupOnlyAll_of (tu_encPs l)
end
instance : Tu Str := ⟨fun _ => rfl⟩
theorem mD_bD (m : Mono) : mD m = bD m := rfl
theorem enc_mono (m : Mono) : Ky.enc m = bD m := rfl
instance : Tu Mono := ⟨fun m => tu_bD (κ := Str) m⟩
section
variable {K : PySem.W.Frag} {H : Hp}
theorem dpAll_len : ∀ {xs : List V} {ds : List PyData}, DpAll K H xs ds → xs.length = ds.length
  | _, _, .nil => rfl
  | _, _, .cons _ t => by simp [dpAll_len t]
theorem dpAll_get : ∀ {xs : List V} {ds : List PyData}, DpAll K H xs ds → ∀ {i : Nat} {x : V}, xs[i]? = some x → ∃ d, ds[i]? = some d ∧ Dp K H x d
  | _, _, .cons h t, 0, x, e => by
    simp only [List.getElem?_cons_zero, Option.some.injEq] at e
    exact ⟨_, rfl, by rw [← e]; exact h⟩
  | _, _, .cons h t, i + 1, x, e => by
    simp only [List.getElem?_cons_succ] at e ⊢
    exact dpAll_get t e
theorem dpAll_append : ∀ {xs ys : List V} {ds es : List PyData}, DpAll K H xs ds → DpAll K H ys es → DpAll K H (xs ++ ys) (ds ++ es)
  | _, _, _, _, .nil, h => h
  | _, _, _, _, .cons h t, h2 => .cons h (dpAll_append t h2)
theorem dp_tup {v : V} {ds : List PyData} (h : Dp K H v (.tuple ds)) : ∃ a xs, v = .ref a ∧ SqT K H a xs ∧ DpAll K H xs ds := by
  cases h with
  | tup h a => exact ⟨_, _, rfl, h, a⟩
theorem dp_int {v : V} {i : Int} (h : Dp K H v (.int i)) : v = .int i := by
  cases h
  rfl
theorem dp_str {v : V} {i : Str} (h : Dp K H v (.str i)) : v = .str i := by
  cases h
  rfl
/-- the pair (key, number) at T -/
theorem dp_pair {κ : Type} [DecidableEq κ] [Ky κ] {v : V} {p : κ × Int} (h : Dp K H v (encP p)) : ∃ T k, v = .ref T ∧ SqT K H T [k, .int p.2] ∧ Dp K H k (Ky.enc p.1) := by
  obtain ⟨a, xs, rfl, hs, ha⟩ := dp_tup h
  cases ha with
  | cons h1 h2 =>
    cases h2 with
    | cons h3 h4 =>
      cases h4
      cases h3
      exact ⟨a, _, rfl, hs, h1⟩
theorem dp_mk {κ : Type} [DecidableEq κ] [Ky κ] {T : Addr} {k : V} {c : Int} {x : κ} (h : SqT K H T [k, .int c]) (hk : Dp K H k (Ky.enc x)) : Dp K H (.ref T) (encP (x, c)) := .tup h (.cons hk (.cons (.int c) .nil))
/-- a bag's tuple at a -/
theorem dp_bag {κ : Type} [DecidableEq κ] [Ky κ] {v : V} {l : Bag κ} (h : Dp K H v (bD l)) : ∃ a xs, v = .ref a ∧ SqT K H a xs ∧ xs.length = l.length ∧ DpAll K H xs (l.map encP) := by
  obtain ⟨a, xs, rfl, hs, ha⟩ := dp_tup h
  exact ⟨a, xs, rfl, hs, by rw [dpAll_len ha, List.length_map], ha⟩
theorem bag_get {κ : Type} [DecidableEq κ] [Ky κ] {xs : List V} {l : Bag κ} (h : DpAll K H xs (l.map encP)) {i : Nat} {x : V} (e : xs[i]? = some x) : ∃ p, l[i]? = some p ∧ Dp K H x (encP p) := by
  obtain ⟨d, h1, h2⟩ := dpAll_get h e
  rw [List.getElem?_map] at h1
  cases q : l[i]? with
  | none => rw [q] at h1; cases h1
  | some p =>
    rw [q] at h1
    cases h1
    exact ⟨p, rfl, h2⟩
end
/-! a list that is put together -/
theorem sm_new {H H2 : Hp} {d : Addr} {o : HO} (s : Same H H2) (n : H d = none) : Same H (upd H2 d o) := fun a u h => by
  rw [upd_ne (ne_of_none h n)]
  exact s a u h
theorem sm_refl {H : Hp} : Same H H := fun _ _ h => h
structure AccI (K : PySem.W.Frag) (H1 : Hp) (D : Addr) (ds : List PyData) (i : Nat) (H2 : Hp) : Prop where
  sm : Same H1 H2
  at_ : ∃ ys, H2 D = some (.lst ys) ∧ DpAll K H2 ys (ds.take i)
section
variable {K : PySem.W.Frag} {H1 : Hp} {D : Addr} {ds : List PyData}
theorem acc_zero (n : H1 D = none) : AccI K H1 D ds 0 (upd H1 D (.lst [])) := ⟨sm_new sm_refl n, [], upd_same, by rw [List.take_zero]; exact .nil⟩
theorem acc_step {i : Nat} {H2 H4 : Hp} {y : V} {d : PyData} (a : AccI K H1 D ds i H2) (n : H1 D = none) (hl : ds.length ≤ 1000000) (tu : ∀ d ∈ ds, tupOnly d = true) (s : Same H2 H4) (e : ds[i]? = some d) (h : Dp K H4 y d) :
    ∃ acc, H4 D = some (.lst acc) ∧ acc.length < sizeLine ∧ AccI K H1 D ds (i + 1) (upd H4 D (.lst (acc ++ [y]))) := by
  obtain ⟨s1, ys, hD, hy⟩ := a
  have hD4 := s _ _ hD
  have nt : NotT (H4 D) := by rw [hD4]; exact notT_lst
  have lt : tupOnlyAll (ds.take i) = true := tupOnlyAll_of fun d hd => tu d (List.mem_of_mem_take hd)
  refine ⟨ys, hD4, ?_, sm_new (s1.trans s) n, ys ++ [y], upd_same, ?_⟩
  · have := dpAll_len hy
    rw [List.length_take] at this
    rw [sizeLine_eq]
    omega
  · rw [List.take_succ, e]
    exact dpAll_append (dpAll_put nt lt (dpAll_same s hy)) (.cons (dp_put nt (tu d (List.mem_of_getElem? e)) h) .nil)
theorem acc_end {H2 : Hp} {n : Nat} (a : AccI K H1 D ds n H2) (e : n = ds.length) : Same H1 H2 ∧ ∃ ys, H2 D = some (.lst ys) ∧ DpAll K H2 ys ds := by
  subst e
  obtain ⟨s1, ys, hD, hy⟩ := a
  rw [List.take_length] at hy
  exact ⟨s1, ys, hD, hy⟩
end
/-! what a dict of this kind holds, as a bag -/
def bagOf (es : List Ent) : Poly := es.map fun e => (e.1, e.2.2)
theorem bagOf_len (es : List Ent) : (bagOf es).length = es.length := List.length_map ..
theorem look_bagOf (es : List Ent) (m : Mono) : look (bagOf es) m = getN es m := by
  induction es with
  | nil => rfl
  | cons e r ih =>
    unfold look getN bagOf at ih ⊢
    rw [List.map_cons, List.find?_cons, List.find?_cons]
    by_cases h : e.1 = m
    · simp [h]
    · simp only [decide_eq_false h]
      exact ih
theorem bagOf_put (es : List Ent) (m : Mono) (a : Addr) (c : Int) : bagOf (putN es m a c) = put (bagOf es) m c := by
  unfold putN put
  rw [look_bagOf]
  split
  · unfold bagOf
    rw [List.map_map, List.map_map]
    refine List.map_congr_left fun e _ => ?_
    show (fun e : Ent => (e.1, e.2.2)) (if e.1 = m then (e.1, e.2.1, c) else e) = if e.1 = m then (e.1, c) else (e.1, e.2.2)
    split <;> rfl
  · unfold bagOf
    rw [List.map_append]
    rfl
end K26


set_option Elab.async false
set_option linter.all false
set_option maxRecDepth 100000
set_option maxHeartbeats 2000000
namespace K26
open PySem L2 Nd Bk PySem.Spec PyProof.Rows
/-! dict(tuple of pairs), the tuple known to be without a dict of its own -/
def PlainT (H : Hp) (a : Addr) : Prop := ∃ o xs, H a = some (.frz o (.tup xs)) ∧ o.dict = none
theorem PlainT.same {H H' : Hp} {a : Addr} (s : Same H H') (h : PlainT H a) : PlainT H' a := let ⟨o, xs, h1, h2⟩ := h; ⟨o, xs, s _ _ h1, h2⟩
theorem PlainT.put {H : Hp} {a D : Addr} {u : HO} (n : NotT (H D)) (h : PlainT H a) : PlainT (upd H D u) a := by
  obtain ⟨o, xs, h1, h2⟩ := h
  refine ⟨o, xs, ?_, h2⟩
  rw [upd_ne (fun e => n.2 o xs (by rw [← e]; exact h1))]
  exact h1
def tx (m : Mono) : List (Key × V) := m.map fun p => (.inr p.1, .int p.2)
section
variable {X : Cx}
theorem call_tupleF : CallR X (.type "tuple") (fun xs H Q => ∃ p ys, xs = [.ref p] ∧ SqL X.K H p ys ∧ ∀ l o, H l = none → o.dict = none → Q (.ref l) (upd H l (.frz o (.tup ys)))) := by
  intro pins s σ H xs us Q I r h
  obtain ⟨p, ys, rfl, hq, q⟩ := h
  obtain ⟨u, rfl, rx⟩ := vals1 r
  cases rx
  obtain ⟨its, r', pl, hz⟩ := I.list hq
  have hlen := r'.length
  refine call_tuple_list pl.isList (fun h' kp => ?_) (by simp only [List.size_toArray] <;> omega)
  have I1 : Inv X pins σ H { s with heap := h' } := I.kept (t' := s.toks) kp
  have I2 : Inv X pins σ (upd H h'.objs.size (.frz { cls := .type "tuple", data := .seq its.toArray } (.tup ys))) { s with heap := h'.push { cls := .type "tuple", data := .seq its.toArray } } :=
    I1.laid (t' := s.toks) (fun b o e => Heap.get?_push_of_some _ e) (Nat.le_refl _) (show ObjOk X.prog X.w _ _ _ (.frz _ (.tup ys)) from ⟨Heap.get?_push_size _ rfl, hz, its, r', IsTup.new _ _⟩)
  exact ⟨.ref h'.objs.size, _, I2, rfl, q _ _ (I1.hok.fresh (Nat.le_refl _)) rfl⟩
theorem pairs_ofT {pins : List (Addr × Obj)} {σ : L2.St} {H : Hp} {s : Shared} (I : Inv X pins σ H s) : ∀ {m : Mono} {xs : List V} {us : List Value}, DpAll X.K H xs (m.map tkD) → Vals xs us →
    ∃ (as : List Addr) (ps : List (Value × Value)) (prs : List (Key × Value)), us = as.map Value.ref ∧ KV (tx m) prs ∧ as.length = m.length ∧ ps.length = m.length ∧
      ∀ (j : Nat) (k v : Value), ps[j]? = some (k, v) → (∃ a, as[j]? = some a ∧ PairAt s.heap a k v) ∧ ∃ key, prs[j]? = some (key, v) ∧ (mixKind X.prog X.w).is key k = true
  | [], _, _, h, r => by
    cases h
    cases r
    exact ⟨[], [], [], rfl, .nil, rfl, rfl, fun j k v e => by simp at e⟩
  | p :: m, _, _, h, r => by
    cases h with
    | cons h1 h2 =>
      cases r with
      | cons r1 r2 =>
        obtain ⟨as, ps, prs, rfl, kv, la, lp, hh⟩ := pairs_ofT I h2 r2
        obtain ⟨T, k, rfl, hs, hk⟩ := dp_pair (κ := Str) (p := p) h1
        cases dp_str (i := p.1) hk
        cases r1
        obtain ⟨its, rv, ht, _⟩ := I.tuple hs
        obtain ⟨u, y, ei, ru, ry⟩ := vals2 rv
        subst ei
        refine ⟨T :: as, (u, y) :: ps, (.inr p.1, y) :: prs, rfl, .cons ⟨rfl, ry⟩ kv, by simp [la], by simp [lp], fun j k v e => ?_⟩
        cases j with
        | zero =>
          simp only [List.getElem?_cons_zero, Option.some.injEq, Prod.mk.injEq] at e
          obtain ⟨rfl, rfl⟩ := e
          exact ⟨⟨T, rfl, .inl ht⟩, .inr p.1, rfl, kV_is (P := X.prog) (w := X.w) ru⟩
        | succ j =>
          simp only [List.getElem?_cons_succ] at e ⊢
          exact hh j k v e
theorem merge_snoc {k : Key} {v : V} : ∀ (more kvs : List (Key × V)), (kvs ++ more).map (·.1) |>.Nodup → mergeK kvs more = kvs ++ more
  | [], kvs, _ => by
    rw [List.append_nil]
    rfl
  | p :: r, kvs, h => by
    have hn : valV kvs p.1 = none := by
      cases e : valV kvs p.1 with
      | none => rfl
      | some y =>
        unfold valV at e
        obtain ⟨q, hq, _⟩ := Option.map_eq_some_iff.mp e
        have h1 := List.mem_of_find?_eq_some hq
        have h2' := List.find?_some hq
        have h2 : q.1 = p.1 := of_decide_eq_true h2'
        rw [List.map_append, List.nodup_append] at h
        exact absurd h2 (h.2.2 q.1 (List.mem_map.mpr ⟨q, h1, rfl⟩) p.1 (by simp))
    show mergeK (putK kvs p.1 p.2) r = _
    rw [putK_new _ hn, merge_snoc r (k := k) (v := v) _ (by simpa using h)]
    simp
theorem tx_nodup {m : Mono} (h : (m.map (·.1)).Nodup) : ((tx m).map (·.1)).Nodup := by
  unfold tx
  rw [List.map_map]
  have e : ((fun kv : Key × V => kv.1) ∘ fun p : Str × Int => ((Sum.inr p.1 : Key), V.int p.2)) = (fun x : Str => (Sum.inr x : Key)) ∘ fun p : Str × Int => p.1 := rfl
  rw [e, ← List.map_map]
  rw [List.Nodup, List.pairwise_map]
  exact h.imp fun {a b} hab e => hab (Sum.inr.inj e)
theorem call_dictT (hcalm : X.calm = true) : CallR X (.type "dict") (fun xs H Q => ∃ (a : Addr) (m : Mono), xs = [.ref a] ∧ PlainT H a ∧ Dp X.K H (.ref a) (mD m) ∧ (m.map (·.1)).Nodup ∧
    ∀ p, H p = none → Q (.ref p) (upd H p (.dK (tx m)))) := by
  intro pins s σ H xs us Q I r q
  obtain ⟨a, m, ex, hp, hd, hnd, q⟩ := q
  subst ex
  obtain ⟨u, eu, rx⟩ := vals1 r
  subst eu
  cases rx
  obtain ⟨a', ys, ea, hs, hl, ha⟩ := dp_bag (κ := Str) hd
  cases ea
  obtain ⟨its, rv, ht, hz⟩ := I.tuple hs
  obtain ⟨as, ps, prs, rfl, kv, la, lp, hh⟩ := pairs_ofT I ha rv
  obtain ⟨o, zs, hH, ho⟩ := hp
  have hk : s.heap.get? a = some o := (show ObjOk X.prog X.w H s.heap a (.frz o (.tup zs)) from I.hok a _ hH).1
  obtain ⟨o', ho', hc', n', hd'⟩ := ht
  rw [hk] at ho'
  cases ho'
  have tl : (tx m).length = m.length := List.length_map ..
  have pl : prs.length = m.length := by rw [← tl, kv.length]
  refine PySem.call_dict_pairs (knd := mixKind X.prog X.w) (kvs := prs) (PairArg.tuple a (as.map Value.ref).toArray (fun j => as.getD j 0) ps) (I.ok.hd hcalm) ⟨⟨o, n', hk, hc', ho, hd'⟩, by simp [la, lp], fun j k v e => ?_⟩ ⟨by rw [pl, lp], fun i key v e => ?_⟩ (by rw [lp, ← hl]; exact hz) fun h' tk hdd hkk => ?_
  · obtain ⟨⟨b, hb, hpa⟩, _⟩ := hh j k v e
    have e2 : as.getD j 0 = b := by rw [List.getD_eq_getElem?_getD, hb]; rfl
    show (List.map Value.ref as).toArray[j]? = some (Value.ref (as.getD j 0)) ∧ PairAt s.heap (as.getD j 0) k v
    rw [e2]
    exact ⟨by simp [hb], hpa⟩
  · obtain ⟨_, key', h1, h2⟩ := hh i key v e
    exact ⟨key', h1, h2⟩
  · have hm : (s.heap.objs.size == sysModules) = false := beq_eq_false_iff_ne.mpr (Nat.ne_of_gt I.big)
    have em : mergeK [] (tx m) = tx m := merge_snoc (k := .inl 0) (v := .non) (tx m) [] (by rw [List.nil_append]; exact tx_nodup hnd)
    have mr := KV.merge kv (kvs := []) (vs := []) .nil
    rw [em] at mr
    refine ⟨.ref s.heap.objs.size, upd H s.heap.objs.size (.dK (tx m)), I.laid (t' := tk) (fun b o e => hkk b o (by simp) e) (Nat.le_refl _) (show ObjOk X.prog X.w _ _ _ (.dK (tx m)) from ⟨?_, hm, merged [] prs, mr, hdd⟩), rfl, q _ (I.hok.fresh (Nat.le_refl _))⟩
    rw [tl, ← hl]
    exact hz
end
end K26


set_option Elab.async false
set_option linter.all false
set_option maxRecDepth 100000
set_option maxHeartbeats 4000000
namespace K26
open PySem L2 Nd Bk
def BEY : Int := 10 ^ 100
/-- the names that are used -/
structure Cn (K : PySem.W.Frag) (mg : Str → Option Value) : Prop where
  N : Nm mg
  min : mg "min" = none
  any : mg "any" = none
  dict : mg "dict" = none
  srt : mg "sorted" = none
/-- a def of the program, as it is called -/
structure Df (P : Program) (w : World) (K : PySem.W.Frag) (mg : Str → Option Value) (base : Heap) (k : Nat) (x : Str) (ps : List Str) (sp : Sp) : Prop where
  ok : ∃ (f : Addr) (fd : FuncData), mg x = some (.ref f) ∧ PySem.W.keepIn K (.ref f) = true ∧ Binds K fd ps [] ∧ FnOk P w K mg base CX0 k f fd ps sp
theorem u9 {k : Nat} {A : Around} (hr : Room k A) : A.units + 9 < cLine := by
  have := hr.un
  omega
theorem u64 {k : Nat} {A : Around} (hr : Room k A) : A.units + 64 < cLine := by
  have := hr.un
  omega
def spPut (K : PySem.W.Frag) (P : Program) (w : World) : Sp := fun vs H Q _ => ∃ (d a : Addr) (es : List Ent) (m : Mono) (c : Int), vs = [.ref d, .ref a, .int c] ∧ NdAt K P w H d es ∧ Dp K H (.ref a) (mD m) ∧ es.length ≤ 1000000 ∧
  (getN es m).getD 0 + c < BEY ∧ Q .non (upd H d (ndO P w d (putN es m a ((getN es m).getD 0 + c))))
def spChk (K : PySem.W.Frag) (P : Program) (w : World) : Sp := fun vs H Q _ => ∃ (d : Addr) (es : List Ent), vs = [.ref d] ∧ NdAt K P w H d es ∧ es.length ≤ 400 ∧ Q .non H
section
variable {P : Program} {w : World} {K : PySem.W.Frag} {mg : Str → Option Value} {base : Heap}
end
end K26


set_option Elab.async false
set_option linter.all false
set_option maxRecDepth 100000
set_option maxHeartbeats 4000000
namespace K26
open PySem L2 Nd Bk
theorem lock_back {H H' : Hp} {d : Addr} {u : HO} {od : Obj} (e : H d = some u) (s : Same (upd H d (.frz od u)) H') : Same H (upd H' d u) := fun a o h => by
  by_cases q : a = d
  · rw [q] at h ⊢
    rw [upd_same]
    rw [h] at e
    exact e.symm ▸ rfl
  · rw [upd_ne q]
    exact s a o (by rw [upd_ne q]; exact h)
theorem nd_back {K : PySem.W.Frag} {P : Program} {w : World} {H H' : Hp} {d : Addr} {es : List Ent} (n : NdAt K P w H d es) (s : Same H H') : NdAt K P w H' d es := ⟨s _ _ n.at_, fun e he => dp_same s (n.keys e he)⟩
theorem nd_other {K : PySem.W.Frag} {P : Program} {w : World} {H : Hp} {d D : Addr} {es : List Ent} {o : HO} (n : NdAt K P w H d es) (ne : d ≠ D) (nt : NotT (H D)) : NdAt K P w (upd H D o) d es :=
  ⟨by rw [upd_ne ne]; exact n.at_, fun e he => dp_put nt (tu_bD (κ := Str) e.1) (n.keys e he)⟩
theorem map_srt {κ : Type} [DecidableEq κ] [Ky κ] (l : Bag κ) : (l.map encP).mergeSort (PySem.W.dataLe false id) = (srt l).map encP := by
  unfold srt
  rw [List.map_mergeSort]
  intro a _ b _
  rfl
theorem al_encP {κ : Type} [DecidableEq κ] [Ky κ] (p q : κ × Int) : PySem.W.alike (encP p) (encP q) = true := by
  have ai : PySem.W.alike (.int p.2) (.int q.2) = true := by simp [PySem.W.alike]
  simp [encP, PySem.W.alike, PySem.W.alikeAll, Ky.al]
theorem dep_encP {κ : Type} [DecidableEq κ] [Ky κ] (p : κ × Int) : (encP p).depth ≤ 20 := by
  have := Ky.dep p.1
  simp only [encP, PyData.depth, PyData.depthAll]
  omega
theorem prd_of {K : PySem.W.Frag} {P : Program} {w : World} {H : Hp} {d : Addr} {es : List Ent} (n : NdAt K P w H d es) : PrD K H (es.map fun e => (V.ref e.2.1, V.int e.2.2)) ((bagOf es).map encP) := by
  have h := n.keys
  clear n
  induction es with
  | nil => exact .nil
  | cons e r ih => exact .cons ⟨_, _, rfl, h e List.mem_cons_self, .int _⟩ (ih fun x hx => h x (List.mem_cons_of_mem _ hx))
def spPoly (K : PySem.W.Frag) (P : Program) (w : World) : Sp := fun vs H Q _ => ∃ (d : Addr) (es : List Ent), vs = [.ref d] ∧ NdAt K P w H d es ∧ es.length ≤ 400 ∧ (∀ t ∈ bagOf es, t.2 < BEY ∧ t.1.length ≤ 1000 ∧ ∀ x ∈ t.1, x.2 < BEY) ∧
  ∀ (v : V) (H' : Hp), Same H H' → Dp K H' v (bD (srt (bagOf es))) → Q v H'
def spAs (K : PySem.W.Frag) (P : Program) (w : World) : Sp := fun vs H Q _ => ∃ (d : Addr) (es : List Ent), vs = [.ref d] ∧ NdAt K P w H d es ∧ ∀ (v : V) (H' : Hp), Same H H' → Dp K H' v (bD (srt (bagOf es))) → Q v H'
def spCkF (K : PySem.W.Frag) : Sp := fun vs H Q _ => ∃ (v : V) (B : Poly), vs = [v] ∧ Dp K H v (bD B) ∧ (∀ t ∈ B, t.2 < BEY ∧ t.1.length ≤ 1000 ∧ ∀ x ∈ t.1, x.2 < BEY) ∧ ∀ H', Same H H' → Q .non H'
section
variable {P : Program} {w : World} {K : PySem.W.Frag} {mg : Str → Option Value} {base : Heap}
theorem srt_lim {B : Poly} {p : Mono × Int → Prop} (h : ∀ t ∈ B, p t) : ∀ t ∈ srt B, p t := fun t ht => h t (List.mem_mergeSort.mp ht)
end
end K26


set_option Elab.async false
set_option linter.all false
set_option maxRecDepth 100000
set_option maxHeartbeats 4000000
namespace K26
open PySem L2 Nd Bk
/-- a pair whose first is a tuple that is known to be without a dict -/
def PlP (K : PySem.W.Frag) (H : Hp) (x : V) (t : Mono × Int) : Prop := ∃ U a, x = .ref U ∧ SqT K H U [.ref a, .int t.2] ∧ PlainT H a ∧ Dp K H (.ref a) (bD t.1)
theorem PlP.same {K : PySem.W.Frag} {H H' : Hp} {x : V} {t : Mono × Int} (s : Same H H') (h : PlP K H x t) : PlP K H' x t := let ⟨U, a, h1, h2, h3, h4⟩ := h; ⟨U, a, h1, sqT_same s h2, h3.same s, dp_same s h4⟩
theorem PlP.put {K : PySem.W.Frag} {H : Hp} {D : Addr} {o : HO} {x : V} {t : Mono × Int} (n : NotT (H D)) (h : PlP K H x t) : PlP K (upd H D o) x t :=
  let ⟨U, a, h1, h2, h3, h4⟩ := h; ⟨U, a, h1, sqT_put n h2, h3.put n, dp_put n (tu_bD (κ := Str) t.1) h4⟩
structure Fz (K : PySem.W.Frag) (H : Hp) (T : Addr) (xs : List V) (p : Poly) : Prop where
  sq : SqT K H T xs
  all : DpAll K H xs (p.map encP)
  pl : Paired (PlP K H) xs p
theorem Fz.same {K : PySem.W.Frag} {H H' : Hp} {T : Addr} {xs : List V} {p : Poly} (s : Same H H') (h : Fz K H T xs p) : Fz K H' T xs p := ⟨sqT_same s h.sq, dpAll_same s h.all, Paired.mapP h.pl fun _ _ q => q.same s⟩
theorem Fz.put {K : PySem.W.Frag} {H : Hp} {D : Addr} {o : HO} {T : Addr} {xs : List V} {p : Poly} (n : NotT (H D)) (h : Fz K H T xs p) : Fz K (upd H D o) T xs p :=
  ⟨sqT_put n h.sq, dpAll_put n (tupOnlyAll_of (tu_encPs p)) h.all, Paired.mapP h.pl fun _ _ q => q.put n⟩
theorem Fz.len {K : PySem.W.Frag} {H : Hp} {T : Addr} {xs : List V} {p : Poly} (h : Fz K H T xs p) : xs.length = p.length := by rw [dpAll_len h.all, List.length_map]
def rTupF (K : PySem.W.Frag) : List V → Hp → VK → Prop := fun xs H Q => ∃ p ys, xs = [.ref p] ∧ SqL K H p ys ∧ ∀ l o, H l = none → o.dict = none → Q (.ref l) (upd H l (.frz o (.tup ys)))
def Szd (p : Poly) : Prop := p.length ≤ 1000 ∧ ∀ t ∈ p, t.1.length ≤ 1000
def spFroz (K : PySem.W.Frag) : Sp := fun vs H Q _ => ∃ (v : V) (p : Poly), vs = [v] ∧ Dp K H v (bD p) ∧ Szd p ∧ ∀ (T : Addr) (xs : List V) (H' : Hp), Same H H' → Fz K H' T xs p → Q (.ref T) H'
theorem list1000 {n : Nat} (h : n ≤ 1000) : n ≤ 1000000 := by omega
section
variable {P : Program} {w : World} {K : PySem.W.Frag} {mg : Str → Option Value} {base : Heap}
end
end K26


set_option Elab.async false
set_option linter.all false
set_option maxRecDepth 100000
set_option maxHeartbeats 4000000
namespace K26
open PySem L2 Nd Bk
/-! tuples stay -/
def KeepT (H H' : Hp) : Prop := (∀ a xs, H a = some (.tup xs) → H' a = some (.tup xs)) ∧ ∀ a o xs, H a = some (.frz o (.tup xs)) → H' a = some (.frz o (.tup xs))
theorem KeepT.trans {H H1 H2 : Hp} (x : KeepT H H1) (y : KeepT H1 H2) : KeepT H H2 := ⟨fun a xs h => y.1 a xs (x.1 a xs h), fun a o xs h => y.2 a o xs (x.2 a o xs h)⟩
theorem KeepT.same {H H' : Hp} (s : Same H H') : KeepT H H' := ⟨fun a xs h => s _ _ h, fun a o xs h => s _ _ h⟩
theorem KeepT.but {H H' : Hp} {d : Addr} (n : NotT (H d)) (s : But d H H') : KeepT H H' := ⟨fun a xs h => s _ _ h (fun e => n.1 xs (by rw [← e]; exact h)), fun a o xs h => s _ _ h (fun e => n.2 o xs (by rw [← e]; exact h))⟩
theorem KeepT.upd {H : Hp} {d : Addr} {o : HO} (n : NotT (H d)) : KeepT H (upd H d o) := .but n But.upd
theorem sqT_kt {K : PySem.W.Frag} {H H' : Hp} (k : KeepT H H') {a : Addr} {xs : List V} (h : SqT K H a xs) : SqT K H' a xs := by
  rcases h with (h | ⟨o, h⟩) | h
  · exact .inl (.inl (k.1 _ _ h))
  · exact .inl (.inr ⟨o, k.2 _ _ _ h⟩)
  · exact .inr h
mutual
theorem dp_kt0 {K : PySem.W.Frag} {H H' : Hp} (k : KeepT H H') : ∀ {v : V} {d : PyData}, Dp K H v d → tupOnly d = true → Dp K H' v d
  | _, _, .non => fun _ => .non
  | _, _, .bl b => fun _ => .bl b
  | _, _, .int i => fun _ => .int i
  | _, _, .str x => fun _ => .str x
  | _, _, .lst h a => fun t => by simp [tupOnly] at t
  | _, _, .tup h a => fun t => .tup (sqT_kt k h) (dpAll_kt0 k a (by simpa [tupOnly] using t))
theorem dpAll_kt0 {K : PySem.W.Frag} {H H' : Hp} (k : KeepT H H') : ∀ {v : List V} {d : List PyData}, DpAll K H v d → tupOnlyAll d = true → DpAll K H' v d
  | _, _, .nil => fun _ => .nil
  | _, _, .cons h r => fun t => by
    simp only [tupOnlyAll, Bool.and_eq_true] at t
    exact .cons (dp_kt0 k h t.1) (dpAll_kt0 k r t.2)
end
theorem bD_kt {K : PySem.W.Frag} {H H' : Hp} {κ : Type} [DecidableEq κ] [Ky κ] [Tu κ] (k : KeepT H H') {v : V} {l : Bag κ} (h : Dp K H v (bD l)) : Dp K H' v (bD l) := dp_kt0 k h (tu_bD l)
theorem bA_kt {K : PySem.W.Frag} {H H' : Hp} {κ : Type} [DecidableEq κ] [Ky κ] [Tu κ] (k : KeepT H H') {v : List V} {l : Bag κ} (h : DpAll K H v (l.map encP)) : DpAll K H' v (l.map encP) := dpAll_kt0 k h (tupOnlyAll_of (tu_encPs l))
theorem PlP.kt {K : PySem.W.Frag} {H H' : Hp} {x : V} {t : Mono × Int} (k : KeepT H H') (h : PlP K H x t) : PlP K H' x t := let ⟨U, a, h1, h2, ⟨o, xs, h3, h5⟩, h4⟩ := h; ⟨U, a, h1, sqT_kt k h2, ⟨o, xs, k.2 _ _ _ h3, h5⟩, bD_kt (κ := Str) k h4⟩
theorem Fz.kt {K : PySem.W.Frag} {H H' : Hp} (k : KeepT H H') {T : Addr} {xs : List V} {p : Poly} (h : Fz K H T xs p) : Fz K H' T xs p := ⟨sqT_kt k h.sq, bA_kt k h.all, Paired.mapP h.pl fun _ _ q => q.kt k⟩
theorem sm_but {H H3 H5 : Hp} {d : Addr} (s : Same H H3) (n : H d = none) (b : But d H3 H5) : Same H H5 := fun a o h => b _ _ (s _ _ h) (ne_of_none h n)
/-! sizes -/
section
variable {κ : Type} [DecidableEq κ] [Ky κ]
theorem put_mem (l : Bag κ) (k : κ) (v : Int) : (k, v) ∈ put l k v := by
  unfold put
  split
  · rename_i h
    obtain ⟨u, hu⟩ := Option.isSome_iff_exists.mp h
    exact List.mem_map.mpr ⟨(k, u), look_mem hu, by simp⟩
  · simp
theorem S_take_le {ts : Bag κ} (h : Pos ts) (i : Nat) : S (ts.take i) ≤ S ts := by
  have e : S ts = S (ts.take i) + S (ts.drop i) := by rw [← S_append, List.take_append_drop]
  have := S_nonneg (l := ts.drop i) fun p hp => h p (List.mem_of_mem_drop hp)
  omega
theorem look_le {ts : Bag κ} (h : Pos ts) {i : Nat} {p : κ × Int} (e : ts[i]? = some p) : (look (book (ts.take i)) p.1).getD 0 + p.2 ≤ S ts := by
  have ht : ts.take (i + 1) = ts.take i ++ [p] := by rw [List.take_succ, e]; rfl
  have hp : Pos (ts.take (i + 1)) := fun q hq => h q (List.mem_of_mem_take hq)
  have h1 : (p.1, (look (book (ts.take i)) p.1).getD 0 + p.2) ∈ book (ts.take (i + 1)) := by
    rw [ht, book_snoc]
    exact put_mem _ _ _
  have h2 := le_S (pos_book hp) h1
  rw [S_book] at h2
  have h3 := S_take_le h (i + 1)
  exact Int.le_trans h2 h3
theorem len_le_S {m : Bag κ} (h : Pos m) : (m.length : Int) ≤ S m := by
  induction m with
  | nil => exact Int.le_refl _
  | cons x r ih =>
    have h1 := h x List.mem_cons_self
    have h2 := ih fun q hq => h q (List.mem_cons_of_mem _ hq)
    have e : S (x :: r) = x.2 * 1 + S r := by unfold S pr; simp
    rw [List.length_cons]
    omega
end
theorem szd_of {p : Poly} (h : POk p) (hl : p.length ≤ 1000) (hd : Dg p 1000) : Szd p := ⟨hl, fun t ht => by
  have h1 := len_le_S (h.2.2 t ht).2
  have h2 := hd t ht
  omega⟩
theorem book_keys {Pk : Mono → Prop} {ts : Poly} (h : ∀ t ∈ ts, Pk t.1) : ∀ t ∈ book ts, Pk t.1 := key_book ts [] (fun _ q => nomatch q) h
theorem poly_lim {ts : Poly} (hp : Pos ts) (hs : S ts < BEY) (hm : ∀ t ∈ ts, Pos t.1 ∧ S t.1 ≤ 1000) : ∀ t ∈ book ts, t.2 < BEY ∧ t.1.length ≤ 1000 ∧ ∀ x ∈ t.1, x.2 < BEY := fun t ht => by
  have h1 := le_S (pos_book hp) ht
  rw [S_book] at h1
  obtain ⟨h2, h3⟩ := book_keys (Pk := fun m => Pos m ∧ S m ≤ 1000) hm t ht
  have h4 := len_le_S h2
  refine ⟨by omega, by omega, fun x hx => ?_⟩
  have h5 := le_S h2 hx
  have : (1000 : Int) < BEY := by decide
  omega
theorem rcat_mk {K : PySem.W.Frag} {H : Hp} {a b : Addr} {xs ys : List V} {Q : VK} (ha : SqT K H a xs) (hb : SqT K H b ys) (hz : xs.length + ys.length ≤ sizeLine) (h : ∀ r H', Same H H' → SqT K H' r (xs ++ ys) → Q (.ref r) H') : rCatA K (.ref a) (.ref b) H Q :=
  ⟨a, b, xs, ys, rfl, rfl, ha, hb, hz, fun e => h b H sm_refl (by rw [e]; exact hb), fun _ e => h a H sm_refl (by rw [e, List.append_nil]; exact ha), fun _ _ p np => h p _ (sm_new sm_refl np) (SqT.of upd_same)⟩
theorem nd_put {K : PySem.W.Frag} {P : Program} {w : World} {H : Hp} {d a : Addr} {es : List Ent} {m : Mono} {c : Int} (n : NdAt K P w H d es) (hm : Dp K H (.ref a) (mD m)) : NdAt K P w (upd H d (ndO P w d (putN es m a c))) d (putN es m a c) := by
  have kt : KeepT H (upd H d (ndO P w d (putN es m a c))) := .upd (by rw [n.at_]; exact notT_nd)
  refine ⟨upd_same, fun e he => ?_⟩
  have : ∀ e ∈ putN es m a c, Dp K H (.ref e.2.1) (mD e.1) := fun e he => by
    unfold putN at he
    split at he
    · obtain ⟨e0, h0, rfl⟩ := List.mem_map.mp he
      split
      · exact n.keys e0 h0
      · exact n.keys e0 h0
    · rcases List.mem_append.mp he with h | h
      · exact n.keys e h
      · rw [List.mem_singleton.mp h]
        exact hm
  exact bD_kt (κ := Str) kt (this e he)
def spPlus (K : PySem.W.Frag) : Sp := fun vs H Q _ => ∃ (x y : V) (p q : Poly), vs = [x, y] ∧ Dp K H x (bD p) ∧ Dp K H y (bD q) ∧ POk p ∧ POk q ∧ p.length + q.length ≤ 400 ∧ S p + S q < BEY ∧ Dg p 1000 ∧ Dg q 1000 ∧
  ∀ (v : V) (H' : Hp), Same H H' → Dp K H' v (bD (plusP p q)) → Q v H'
section
variable {P : Program} {w : World} {K : PySem.W.Frag} {mg : Str → Option Value} {base : Heap}
end
end K26


set_option Elab.async false
set_option linter.all false
set_option maxRecDepth 100000
set_option maxHeartbeats 4000000
namespace K26
open PySem L2 Nd Bk
/-! a dict of tokens -/
theorem valV_tx (m : Mono) (t : Str) : valV (tx m) (.inr t) = (look m t).map V.int := by
  induction m with
  | nil => rfl
  | cons p r ih =>
    unfold valV look tx at ih ⊢
    rw [List.map_cons, List.find?_cons, List.find?_cons]
    by_cases h : p.1 = t
    · simp [h]
    · have h2 : ¬ (Sum.inr p.1 : Key) = Sum.inr t := fun e => h (Sum.inr.inj e)
      simp only [decide_eq_false h, decide_eq_false h2]
      exact ih
theorem putK_tx (m : Mono) (t : Str) (c : Int) : putK (tx m) (.inr t) (.int c) = tx (put m t c) := by
  unfold putK put
  rw [valV_any, valV_tx, Option.isSome_map]
  split
  · unfold tx
    rw [List.map_map, List.map_map]
    refine List.map_congr_left fun e _ => ?_
    show (if (Sum.inr e.1 : Key) = Sum.inr t then _ else _) = ((fun p : Str × Int => ((Sum.inr p.1 : Key), V.int p.2)) (if e.1 = t then (e.1, c) else e))
    by_cases h : e.1 = t
    · rw [if_pos h, if_pos (by rw [h])]
    · rw [if_neg h, if_neg fun z => h (Sum.inr.inj z)]
  · unfold tx
    rw [List.map_append]
    rfl
theorem getD_tx (m : Mono) (t : Str) : (valV (tx m) (.inr t)).getD (.int 0) = .int ((look m t).getD 0) := by
  rw [valV_tx]
  cases look m t <;> rfl
theorem prd_tx {K : PySem.W.Frag} {H : Hp} (m : Mono) : PrD K H ((tx m).map fun kv => (kV kv.1, kv.2)) (m.map encP) := by
  induction m with
  | nil => exact .nil
  | cons e r ih => exact .cons ⟨_, _, rfl, .str _, .int _⟩ ih
theorem tx_len (m : Mono) : (tx m).length = m.length := List.length_map ..
section
variable {κ : Type} [DecidableEq κ] [Ky κ]
theorem asc_nodup {m : Bag κ} (h : Asc m) : (m.map (·.1)).Nodup := by
  rw [List.Nodup, List.pairwise_map]
  exact List.Pairwise.imp (fun h => lt_ne h) h
theorem fold_id : ∀ (m l : Bag κ), ((l ++ m).map (·.1)).Nodup → m.foldl add1 l = l ++ m
  | [], l, _ => by rw [List.append_nil]; rfl
  | p :: r, l, h => by
    have hn : look l p.1 = none := by
      cases e : look l p.1 with
      | none => rfl
      | some u =>
        have h1 := look_mem e
        rw [List.map_append, List.nodup_append] at h
        exact absurd rfl (h.2.2 p.1 (List.mem_map.mpr ⟨_, h1, rfl⟩) p.1 (by simp))
    have e1 : add1 l p = l ++ [p] := by
      unfold add1 put
      rw [hn]
      simp
    rw [List.foldl_cons, e1, fold_id r _ (by simpa using h)]
    simp
theorem book_id {m : Bag κ} (h : (m.map (·.1)).Nodup) : book m = m := by
  unfold book
  rw [fold_id m [] (by simpa using h)]
  rfl
theorem book_app (l m : Bag κ) : book (l ++ m) = m.foldl add1 (book l) := by simp [book]
end
def spJoin (K : PySem.W.Frag) : Sp := fun vs H Q _ => ∃ (a b : Addr) (m n : Mono), vs = [.ref a, .ref b] ∧ PlainT H a ∧ Dp K H (.ref a) (mD m) ∧ Dp K H (.ref b) (mD n) ∧ MOk m ∧ MOk n ∧ m.length ≤ 1000 ∧ n.length ≤ 1000 ∧
  ∀ (c : Addr) (H' : Hp), Same H H' → Dp K H' (.ref c) (mD (mulM m n)) → Q (.ref c) H'
section
variable {P : Program} {w : World} {K : PySem.W.Frag} {mg : Str → Option Value} {base : Heap}
theorem u1 {k : Nat} {A : Around} (hr : Room k A) : A.units + 1 < cLine := by
  have := hr.un
  omega
end
end K26


set_option Elab.async false
set_option linter.all false
set_option maxRecDepth 100000
set_option maxHeartbeats 4000000
namespace K26
open PySem L2 Nd Bk
theorem prods_cons (t : Mono × Int) (p q : Poly) : prods (t :: p) q = q.map (fun b => (mulM t.1 b.1, t.2 * b.2)) ++ prods p q := by simp [prods]
theorem prods_app (p p' q : Poly) : prods (p ++ p') q = prods p q ++ prods p' q := by simp [prods]
theorem split_at {α : Type} {l : List α} {i : Nat} {x : α} (h : l[i]? = some x) : l = l.take i ++ x :: l.drop (i + 1) := by
  have h1 := (List.getElem?_eq_some_iff.mp h)
  obtain ⟨h2, h3⟩ := h1
  rw [← h3, ← List.drop_eq_getElem_cons h2, List.take_append_drop]
theorem prods_split {p q : Poly} {i j : Nat} {t u : Mono × Int} (h : p[i]? = some t) (h2 : q[j]? = some u) :
    ∃ B, prods p q = (prods (p.take i) q ++ (q.take j).map fun b => (mulM t.1 b.1, t.2 * b.2)) ++ (mulM t.1 u.1, t.2 * u.2) :: B := by
  refine ⟨(q.drop (j + 1)).map (fun b => (mulM t.1 b.1, t.2 * b.2)) ++ prods (p.drop (i + 1)) q, ?_⟩
  have e1 : prods p q = prods (p.take i ++ t :: p.drop (i + 1)) q := by rw [← split_at h]
  have e2 : q.map (fun b => (mulM t.1 b.1, t.2 * b.2)) = (q.take j ++ u :: q.drop (j + 1)).map fun b => (mulM t.1 b.1, t.2 * b.2) := by rw [← split_at h2]
  rw [e1, prods_app, prods_cons, e2, List.map_append, List.map_cons]
  simp
section
variable {κ : Type} [DecidableEq κ] [Ky κ]
theorem look_le2 {A B : Bag κ} {p : κ × Int} (h : Pos (A ++ p :: B)) : (look (book A) p.1).getD 0 + p.2 ≤ S (A ++ p :: B) := by
  have e : (A ++ p :: B)[A.length]? = some p := by simp
  have := look_le h e
  rw [List.take_left] at this
  exact this
end
theorem pos_of_prods {p q : Poly} (hp : POk p) (hq : POk q) : Pos (prods p q) := pos_prods hp.2.1 hq.2.1
theorem S_prods (p q : Poly) : S (prods p q) = S p * S q := by
  have h := S_times p q
  unfold timesP at h
  rw [S_nf] at h
  exact h
theorem prods_take_succ {p q : Poly} {i : Nat} {t : Mono × Int} (h : p[i]? = some t) : prods (p.take (i + 1)) q = prods (p.take i) q ++ q.map fun b => (mulM t.1 b.1, t.2 * b.2) := by
  rw [List.take_succ, h, show (some t).toList = [t] from rfl, prods_app, prods_cons]
  simp [prods]
theorem prods_dg {p q : Poly} (okp : POk p) (okq : POk q) (h : ∀ a ∈ p, ∀ b ∈ q, S a.1 + S b.1 ≤ 1000) : ∀ t ∈ prods p q, Pos t.1 ∧ S t.1 ≤ 1000 := fun t ht => by
  obtain ⟨a, ha, b, hb, rfl⟩ := mem_prods ht
  refine ⟨(mulM_ok (okp.2.2 a ha) (okq.2.2 b hb)).2, ?_⟩
  show S (mulM a.1 b.1) ≤ 1000
  rw [S_mulM]
  exact h a ha b hb
theorem natAbs_bey {c : Int} (h0 : 0 ≤ c) (h : c < BEY) : c.natAbs < 2 ^ 400 := by
  have e : (c.natAbs : Int) = c := Int.natAbs_of_nonneg h0
  have hb : BEY ≤ ((2 ^ 400 : Nat) : Int) := by decide +kernel
  omega
/-- what a product asks of its factors -/
structure Mul (p q : Poly) : Prop where
  okp : POk p
  okq : POk q
  len : p.length * q.length ≤ 400
  lp : p.length ≤ 1000
  lq : q.length ≤ 1000
  sum : S p * S q < BEY
  sp : S p < BEY
  sq : S q < BEY
  dp : Dg p 1000
  dq : Dg q 1000
  deg : ∀ a ∈ p, ∀ b ∈ q, S a.1 + S b.1 ≤ 1000
def spProd (K : PySem.W.Frag) (P : Program) (w : World) : Sp := fun vs H Q _ => ∃ (T1 T2 : Addr) (xs ys : List V) (p q : Poly), vs = [.ref T1, .ref T2] ∧ Fz K H T1 xs p ∧ Fz K H T2 ys q ∧ Mul p q ∧
  ∀ (d : Addr) (es : List Ent) (H' : Hp), Same H H' → NdAt K P w H' d es → bagOf es = book (prods p q) → Q (.ref d) H'
def spTimes (K : PySem.W.Frag) : Sp := fun vs H Q _ => ∃ (x y : V) (p q : Poly), vs = [x, y] ∧ Dp K H x (bD p) ∧ Dp K H y (bD q) ∧ Mul p q ∧ ∀ (v : V) (H' : Hp), Same H H' → Dp K H' v (bD (timesP p q)) → Q v H'
section
variable {P : Program} {w : World} {K : PySem.W.Frag} {mg : Str → Option Value} {base : Heap}
end
end K26


set_option Elab.async false
set_option linter.all false
set_option maxRecDepth 100000
set_option maxHeartbeats 4000000
namespace K26
open PySem L2 Nd Bk
section
variable {κ : Type} [DecidableEq κ] [Ky κ]
def AscK (l : List κ) : Prop := l.Pairwise fun a b => lt a b = true
def cnt (f : List κ) (k : κ) : Nat := (f.filter fun o => lt o k).length
def insK (f : List κ) (k : κ) : List κ := f.take (cnt f k) ++ [k] ++ f.drop (cnt f k)
def sortK (ks : List κ) : List κ := ks.foldl insK []
theorem cut_ok : ∀ {f : List κ} {k : κ}, AscK f → k ∉ f → (∀ a ∈ f.take (cnt f k), lt a k = true) ∧ ∀ b ∈ f.drop (cnt f k), lt k b = true
  | [], k, _, _ => ⟨fun a h => by simp [cnt] at h, fun a h => by simp [cnt] at h⟩
  | x :: r, k, h, hk => by
    obtain ⟨h1, h2⟩ := List.pairwise_cons.mp h
    rw [List.mem_cons, not_or] at hk
    cases e : lt x k with
    | true =>
      have ec : cnt (x :: r) k = cnt r k + 1 := by simp [cnt, List.filter_cons, e]
      obtain ⟨i1, i2⟩ := cut_ok h2 hk.2
      rw [ec, List.take_succ_cons, List.drop_succ_cons]
      refine ⟨fun a ha => ?_, i2⟩
      rcases List.mem_cons.mp ha with q | q
      · rw [q]; exact e
      · exact i1 a q
    | false =>
      have hxk : lt k x = true := by
        cases q : lt k x with
        | true => rfl
        | false => exact absurd (lt_total q e) hk.1
      have hr : ∀ o ∈ r, lt o k = false := fun o ho => lt_asymm (lt_trans hxk (h1 o ho))
      have ec : cnt (x :: r) k = 0 := by
        unfold cnt
        rw [List.filter_cons, e, if_neg Bool.false_ne_true, List.filter_eq_nil_iff.mpr (fun o ho => by rw [hr o ho]; exact Bool.false_ne_true)]
        rfl
      rw [ec]
      refine ⟨fun a ha => by simp at ha, fun b hb => ?_⟩
      rw [List.drop_zero] at hb
      rcases List.mem_cons.mp hb with q | q
      · rw [q]; exact hxk
      · exact lt_trans hxk (h1 b q)
theorem insK_perm (f : List κ) (k : κ) : (insK f k).Perm (k :: f) := by
  unfold insK
  have h : (f.take (cnt f k) ++ [k] ++ f.drop (cnt f k)).Perm (k :: (f.take (cnt f k) ++ f.drop (cnt f k))) := by
    rw [List.append_assoc, List.singleton_append]
    exact List.perm_middle
  rw [List.take_append_drop] at h
  exact h
theorem insK_asc {f : List κ} {k : κ} (h : AscK f) (hk : k ∉ f) : AscK (insK f k) := by
  obtain ⟨h1, h2⟩ := cut_ok h hk
  unfold insK AscK
  rw [List.append_assoc, List.singleton_append, List.pairwise_append]
  refine ⟨List.Pairwise.sublist (List.take_sublist _ _) h, List.pairwise_cons.mpr ⟨h2, List.Pairwise.sublist (List.drop_sublist _ _) h⟩, fun a ha b hb => ?_⟩
  rcases List.mem_cons.mp hb with q | q
  · rw [q]; exact h1 a ha
  · exact lt_trans (h1 a ha) (h2 b q)
theorem sortK_ok : ∀ (ks f : List κ), (f ++ ks).Nodup → AscK f → AscK (ks.foldl insK f) ∧ (ks.foldl insK f).Perm (f ++ ks)
  | [], f, _, h => ⟨h, by rw [List.append_nil]; exact List.Perm.refl _⟩
  | k :: r, f, hn, h => by
    have hk : k ∉ f := fun q => by
      rw [List.nodup_append] at hn
      exact hn.2.2 k q k List.mem_cons_self rfl
    have p1 : (insK f k ++ r).Perm (f ++ k :: r) := ((insK_perm f k).append_right r).trans (by rw [List.cons_append]; exact List.perm_middle.symm)
    obtain ⟨h1, h2⟩ := sortK_ok r (insK f k) (p1.nodup_iff.mpr hn) (insK_asc h hk)
    exact ⟨h1, h2.trans p1⟩
theorem sortK_len {ks : List κ} (h : ks.Nodup) : (sortK ks).length = ks.length := by
  have := (sortK_ok ks [] (by simpa using h) List.Pairwise.nil).2.length_eq
  simpa [sortK] using this
theorem srt_keys {l : Bag κ} (h : (l.map (·.1)).Nodup) : (srt l).map (·.1) = sortK (l.map (·.1)) := by
  obtain ⟨h1, h2⟩ := sortK_ok (l.map (·.1)) [] (by simpa using h) List.Pairwise.nil
  have h3 := srt_asc h
  have h4 : (((srt l).map (·.1)).map fun k => (k, (0 : Int))) = (sortK (l.map (·.1))).map fun k => (k, (0 : Int)) := by
    refine asc_ext ?_ ?_ fun p => ?_
    · unfold Asc at h3 ⊢
      rw [List.map_map, List.pairwise_map]
      exact h3
    · unfold Asc
      rw [List.pairwise_map]
      exact h1
    · have e : ∀ k, k ∈ (srt l).map (·.1) ↔ k ∈ sortK (l.map (·.1)) := fun k => by
        rw [(((srt_perm l).map _).mem_iff : k ∈ (srt l).map (·.1) ↔ k ∈ l.map (·.1))]
        have := h2.mem_iff (a := k)
        rw [List.nil_append] at this
        exact this.symm
      simp only [List.mem_map (f := fun k : κ => (k, (0 : Int)))]
      constructor
      · rintro ⟨k, hk, rfl⟩
        exact ⟨k, (e k).mp hk, rfl⟩
      · rintro ⟨k, hk, rfl⟩
        exact ⟨k, (e k).mpr hk, rfl⟩
  have inv : ∀ l : List κ, (l.map fun k => (k, (0 : Int))).map (·.1) = l := fun l => by
    induction l with
    | nil => rfl
    | cons x r ih => rw [List.map_cons, List.map_cons, ih]
  have h5 := congrArg (List.map (·.1)) h4
  rw [inv, inv] at h5
  exact h5
theorem sortK_take {ks : List κ} {i : Nat} {k : κ} (h : ks[i]? = some k) : sortK (ks.take (i + 1)) = insK (sortK (ks.take i)) k := by
  rw [List.take_succ, h]
  simp [sortK]
end
def spSort (K : PySem.W.Frag) (κ : Type) [DecidableEq κ] [Ky κ] : Sp := fun vs H Q _ => ∃ (a : Addr) (xs : List V) (ks : List κ), vs = [.ref a] ∧ SqL K H a xs ∧ DpAll K H xs (ks.map Ky.enc) ∧ ks.Nodup ∧ ks.length ≤ 1000 ∧
  ∀ (l : Addr) (ys : List V) (H' : Hp), H l = none → Same H H' → H' l = some (.lst ys) → DpAll K H' ys ((sortK ks).map Ky.enc) → Q (.ref l) H'
theorem tu_encs {κ : Type} [DecidableEq κ] [Ky κ] [Tu κ] (l : List κ) : tupOnlyAll (l.map Ky.enc) = true := tupOnlyAll_of fun d h => by
  obtain ⟨k, _, rfl⟩ := List.mem_map.mp h
  exact Tu.tu k
theorem enc_get {K : PySem.W.Frag} {H : Hp} {κ : Type} [DecidableEq κ] [Ky κ] {xs : List V} {l : List κ} (h : DpAll K H xs (l.map Ky.enc)) {i : Nat} {x : V} (e : xs[i]? = some x) : ∃ k, l[i]? = some k ∧ Dp K H x (Ky.enc k) := by
  obtain ⟨d, h1, h2⟩ := dpAll_get h e
  rw [List.getElem?_map] at h1
  cases q : l[i]? with
  | none => rw [q] at h1; cases h1
  | some p =>
    rw [q] at h1
    cases h1
    exact ⟨p, rfl, h2⟩
theorem dpAll_take {K : PySem.W.Frag} {H : Hp} : ∀ {xs : List V} {ds : List PyData} (n : Nat), DpAll K H xs ds → DpAll K H (xs.take n) (ds.take n)
  | _, _, 0, h => by rw [List.take_zero, List.take_zero]; exact .nil
  | _, _, n + 1, .nil => by rw [List.take_nil, List.take_nil]; exact .nil
  | _, _, n + 1, .cons h t => by rw [List.take_succ_cons, List.take_succ_cons]; exact .cons h (dpAll_take n t)
theorem dpAll_drop {K : PySem.W.Frag} {H : Hp} : ∀ {xs : List V} {ds : List PyData} (n : Nat), DpAll K H xs ds → DpAll K H (xs.drop n) (ds.drop n)
  | _, _, 0, h => by rw [List.drop_zero, List.drop_zero]; exact h
  | _, _, n + 1, .nil => by rw [List.drop_nil, List.drop_nil]; exact .nil
  | _, _, n + 1, .cons h t => by rw [List.drop_succ_cons, List.drop_succ_cons]; exact dpAll_drop n t
section
variable {P : Program} {w : World} {K : PySem.W.Frag} {mg : Str → Option Value} {base : Heap}
end
end K26


set_option Elab.async false
set_option linter.all false
set_option maxRecDepth 100000
set_option maxHeartbeats 4000000
namespace K26
open PySem L2 Nd Bk
def spNorm (K : PySem.W.Frag) (P : Program) (w : World) : Sp := fun vs H Q _ => ∃ (d : Addr) (es : List Ent), vs = [.ref d] ∧ NdAt K P w H d es ∧ ((bagOf es).map (·.1)).Nodup ∧ Pos (bagOf es) ∧ es.length ≤ 1000 ∧
  ∀ (v : V) (H' : Hp), Same H H' → Dp K H' v (bD (srt (bagOf es))) → Q v H'
def spLPlus (K : PySem.W.Frag) : Sp := fun vs H Q _ => ∃ (x y : V) (p q : Poly), vs = [x, y] ∧ Dp K H x (bD p) ∧ Dp K H y (bD q) ∧ POk p ∧ POk q ∧ p.length + q.length ≤ 1000 ∧
  ∀ (v : V) (H' : Hp), Same H H' → Dp K H' v (bD (plusP p q)) → Q v H'
theorem keys_dp {K : PySem.W.Frag} {H : Hp} {es : List Ent} (h : ∀ e ∈ es, Dp K H (.ref e.2.1) (mD e.1)) : DpAll K H (es.map fun e => V.ref e.2.1) (((bagOf es).map (·.1)).map Ky.enc) := by
  induction es with
  | nil => exact .nil
  | cons e r ih => exact .cons (h e List.mem_cons_self) (ih fun x hx => h x (List.mem_cons_of_mem _ hx))
section
variable {P : Program} {w : World} {K : PySem.W.Frag} {mg : Str → Option Value} {base : Heap}
end
end K26


set_option Elab.async false
set_option linter.all false
set_option maxRecDepth 100000
set_option maxHeartbeats 4000000
namespace K26
open PySem L2 Nd Bk
def spLProd (K : PySem.W.Frag) : Sp := fun vs H Q _ => ∃ (x y : V) (m n : Mono), vs = [x, y] ∧ Dp K H x (mD m) ∧ Dp K H y (mD n) ∧ MOk m ∧ MOk n ∧ m.length + n.length ≤ 1000 ∧ ∀ (a : Addr) (H' : Hp), Same H H' → Dp K H' (.ref a) (mD (mulM m n)) → Q (.ref a) H'
def spLTimes (K : PySem.W.Frag) : Sp := fun vs H Q _ => ∃ (x y : V) (p q : Poly), vs = [x, y] ∧ Dp K H x (bD p) ∧ Dp K H y (bD q) ∧ POk p ∧ POk q ∧ p.length * q.length ≤ 1000 ∧ S p < BEY ∧ S q < BEY ∧ (∀ t ∈ p, t.1.length ≤ 500) ∧ (∀ t ∈ q, t.1.length ≤ 500) ∧
  ∀ (v : V) (H' : Hp), Same H H' → Dp K H' v (bD (timesP p q)) → Q v H'
theorem txkeys_dp {K : PySem.W.Frag} {H : Hp} (m : Mono) : DpAll K H ((tx m).map fun kv => kV kv.1) ((m.map (·.1)).map Ky.enc) := by
  induction m with
  | nil => exact .nil
  | cons e r ih => exact .cons (.str e.1) ih
section
variable {P : Program} {w : World} {K : PySem.W.Frag} {mg : Str → Option Value} {base : Heap}
end
end K26


set_option Elab.async false
set_option linter.all false
set_option maxRecDepth 100000
set_option maxHeartbeats 4000000
namespace K26
open PySem L2 Nd Bk
section
variable {P : Program} {w : World} {K : PySem.W.Frag} {mg : Str → Option Value} {base : Heap}
end
end K26


set_option Elab.async false
set_option linter.all false
set_option maxRecDepth 100000
set_option maxHeartbeats 4000000
namespace K26
open PySem L2 Nd Bk
theorem BoxAt.notT {H : Hp} {b c : Addr} {ns : List Int} (x : BoxAt H b c ns) : NotT (H b) := by
  obtain ⟨d0, d1, at_, s, m, _, h⟩ := x.lst
  rw [h]
  exact notT_lst
theorem BoxAt.off {H : Hp} {b c d : Addr} {ns : List Int} (x : BoxAt H b c ns) (n : H d = none) : d ≠ b := by
  obtain ⟨d0, d1, at_, s, m, _, h⟩ := x.lst
  exact Ne.symm (ne_of_none h n)
/-- a thing of ours at d changes -/
theorem BoxAt.mine {H : Hp} {b c d : Addr} {ns : List Int} {o : HO} (x : BoxAt H b c ns) (h1 : b ≠ d) (h2 : c ≠ d) : BoxAt (upd H d o) b c ns := by
  obtain ⟨d0, d1, at_, s, m, h0, h⟩ := x.lst
  exact ⟨⟨d0, d1, at_, s, m, h0, by rw [upd_ne h1]; exact h⟩, by rw [upd_ne h2]; exact x.cells, x.len⟩
theorem but_mine {H H4 : Hp} {b d : Addr} {o : HO} (k : But b H H4) (n : H d = none) : But b H (upd H4 d o) := fun a u h ne => by
  rw [upd_ne (ne_of_none h n)]
  exact k a u h ne
theorem pick_int {zs : List Int} {j : Nat} (h : j < zs.length) : ∃ z, (zs.map V.int)[j]? = some (V.int z) ∧ z ∈ zs := ⟨zs[j], by rw [List.getElem?_map, List.getElem?_eq_getElem h]; rfl, List.getElem_mem h⟩
theorem pick_str {zs : List Str} {j : Nat} (h : j < zs.length) : ∃ z, (zs.map V.str)[j]? = some (V.str z) := ⟨zs[j], by rw [List.getElem?_map, List.getElem?_eq_getElem h]; rfl⟩
/-- a short text, not empty -/
def shT (z : Str) : Bool := decide (0 < z.length) && (decide (z.length ≤ 10) && z.cps.toList.all fun c => decide (c < 16 ^ 8))
theorem ofString_small (t : String) : ∀ c ∈ (Str.ofString t).cps.toList, c < 16 ^ 8 := by
  rw [Str.ofString_eq_toList]
  intro c hc
  obtain ⟨x, _, rfl⟩ := List.mem_map.mp hc
  have h : x.val.toNat < UInt32.size := x.val.toNat_lt
  have e : (16 : Nat) ^ 8 = UInt32.size := by decide
  rw [e]
  exact h
theorem shT_mk {z : Str} (h0 : 0 < z.length) (h1 : z.length ≤ 10) (h2 : ∀ c ∈ z.cps.toList, c < 16 ^ 8) : shT z = true := by
  unfold shT
  rw [Bool.and_eq_true, Bool.and_eq_true, decide_eq_true_eq, decide_eq_true_eq, List.all_eq_true]
  exact ⟨h0, h1, fun c hc => decide_eq_true (h2 c hc)⟩
theorem pick_strM {zs : List Str} {j : Nat} (h : j < zs.length) : ∃ z, (zs.map V.str)[j]? = some (V.str z) ∧ z ∈ zs := ⟨zs[j], by rw [List.getElem?_map, List.getElem?_eq_getElem h]; rfl, List.getElem_mem h⟩
def spTok : Sp := fun vs H Q _ => ∃ (b c : Addr) (ns : List Int), vs = [.ref b] ∧ BoxAt H b c ns ∧ ∀ (z : Str) (H' : Hp), shT z = true → BoxAt H' b c ns → But b H H' → Q (.str z) H'
section
variable {P : Program} {w : World} {K : PySem.W.Frag} {mg : Str → Option Value} {base : Heap}
end
end K26


set_option Elab.async false
set_option linter.all false
set_option maxRecDepth 100000
set_option maxHeartbeats 4000000
namespace K26
open PySem L2 Nd Bk
structure PM (m : Mono) : Prop where
  ok : MOk m
  len : m.length ≤ 4
  sz : S m ≤ 48
  tk : ∀ x ∈ m, shT x.1 = true
structure PB (p : Poly) : Prop where
  ok : POk p
  len : p.length ≤ 8
  sz : S p ≤ 8000
  dg : Dg p 48
  tk : ∀ t ∈ p, ∀ x ∈ t.1, shT x.1 = true
theorem S_le {κ : Type} {l : Bag κ} {n : Nat} {c : Int} (hc : 0 ≤ c) (hl : l.length ≤ n) (h : ∀ t ∈ l, t.2 ≤ c) : S l ≤ n * c := by
  induction l generalizing n with
  | nil =>
    have : (0 : Int) ≤ n * c := Int.mul_nonneg (by omega) hc
    exact this
  | cons x r ih =>
    cases n with
    | zero => simp at hl
    | succ n =>
      have h1 := h x List.mem_cons_self
      have h2 := ih (n := n) (by rw [List.length_cons] at hl; omega) fun t ht => h t (List.mem_cons_of_mem _ ht)
      have e : S (x :: r) = x.2 * 1 + S r := by unfold S pr; simp
      have e2 : ((n + 1 : Nat) : Int) * c = (n : Int) * c + c := by rw [Int.natCast_add, Int.add_mul]; simp
      omega
theorem put_all {κ : Type} [DecidableEq κ] {l : Bag κ} {k : κ} {v : Int} {R : κ × Int → Prop} (h : ∀ t ∈ l, R t) (hv : R (k, v)) : ∀ t ∈ put l k v, R t := fun t ht => by
  unfold put at ht
  split at ht
  · obtain ⟨e, he, rfl⟩ := List.mem_map.mp ht
    by_cases q : e.1 = k
    · rw [if_pos q, q]
      exact hv
    · rw [if_neg q]
      exact h e he
  · rcases List.mem_append.mp ht with q | q
    · exact h t q
    · rw [List.mem_singleton.mp q]
      exact hv
theorem put_len {κ : Type} [DecidableEq κ] (l : Bag κ) (k : κ) (v : Int) : (put l k v).length ≤ l.length + 1 := by
  unfold put
  split
  · rw [List.length_map]; omega
  · rw [List.length_append]; exact Nat.le_refl _
def spLMono (K : PySem.W.Frag) : Sp := fun vs H Q _ => ∃ (b c : Addr) (ns : List Int), vs = [.ref b, .int 4] ∧ BoxAt H b c ns ∧ ∀ (a : Addr) (m : Mono) (H' : Hp), PM m → BoxAt H' b c ns → But b H H' → Dp K H' (.ref a) (mD m) → Q (.ref a) H'
def spLPoly (K : PySem.W.Frag) : Sp := fun vs H Q _ => ∃ (b c : Addr) (ns : List Int), vs = [.ref b, .int 8, .int 4] ∧ BoxAt H b c ns ∧ ∀ (v : V) (p : Poly) (H' : Hp), PB p → BoxAt H' b c ns → But b H H' → Dp K H' v (bD p) → Q v H'
section
variable {P : Program} {w : World} {K : PySem.W.Frag} {mg : Str → Option Value} {base : Heap}
end
end K26


set_option Elab.async false
set_option linter.all false
set_option maxRecDepth 100000
set_option maxHeartbeats 2000000
/-! defs that are called where no repr is under way (so that they may ask for one) -/
namespace Gd
open PySem PySem.Spec PyProof.Rows L2
/-- nothing is being shown around the call -/
abbrev Still (A : Around) : Prop := A.guards = some []
structure FnG (P : Program) (w : World) (K : PySem.W.Frag) (mg : Str → Option Value) (base : Heap) (k : Nat) (f : Addr) (fd : FuncData) (ps : List Str) (sp : Sp) : Prop where
  len : ∀ vs H Q, sp vs H Q E0 → vs.length = ps.length
  go : ∀ {A : Around} {outer : List Env} {s : Shared} {H : Hp} {args : Args} {us : List Value} {vs : List V} {Q : VK}, Still A → Room k A →
    Env0 P w K mg base A outer s H → sp vs H Q E0 → Vals vs us → BindsTo s fd args (ps.zip us) → codeAny (model P w) A (.call (.ref f) args) (CR CX0 outer P w H s Q E0) s
section
variable {P : Program} {w : World} {K : PySem.W.Frag} {mg : Str → Option Value} {base : Heap} {k : Nat} {f : Addr} {fd : FuncData} {ps : List Str} {sp : Sp}
theorem FnG.of (F : FnOk P w K mg base CX0 k f fd ps sp) : FnG P w K mg base k f fd ps sp :=
  { len := fun vs H Q h => F.len vs H Q E0 h, go := fun _ room e0 want rel bind => F.run _ _ _ _ _ _ _ _ _ room e0 bind rel want }
/-- a def by its body: the body's reading may count on it that nothing is being shown -/
theorem ok_still {x qual : Str} {st : Stmt} {N : List Str} (D : Fun K x qual st f fd) (S : FnScope N ps (defScope st)) (len : ∀ vs H Q, sp vs H Q E0 → vs.length = ps.length)
    (body : ∀ (cdv : Value) (A : Around) (outer : List Env) (s : Shared) (H : Hp) (vs : List V) (Q : VK), Still A → Room k (A.deeper (envOfC qual (defScope st) s.heap.objs.size f cdv)) → sp vs H Q E0 →
      ∃ t, PSs (cxOf CX0 P w K mg base N qual (defScope st) f cdv A outer s H E0).nox (defBody st) t ∧ t { nx := fun _ J => Q .non J, rt := Q } (start N vs) H) : FnG P w K mg base (k + 1) f fd ps sp := by
  refine { len := len, go := ?_ }
  intro A outer s H args us vs Q still room e0 want rel bind
  obtain ⟨oc, od, kV, doc, pm, an, cdv, ct, osl, rfl, look, code⟩ := D.ex
  have old := fun (b : Addr) (o : Obj) (q : base.get? b = some o) => (e0.bs b o q).1
  have inK := e0.mod.kin.keeps old
  have kinds : ∀ y ∈ ps.zip us, (defScope st).names.lookup y.1 = some .local ∨ ((defScope st).names.lookup y.1 = some .cell ∧
      ((cellsFrom (s.heap.objs.size + 1) (defScope st).names []).lookup y.1).isSome = true) := by
    intro y hy
    rcases S.par y.1 (List.of_mem_zip (a := y.1) (b := y.2) hy).1 with q | q
    · exact .inl q
    · exact .inr ⟨q, PySem.W.cellsFrom_some _ _ _ (.inl q)⟩
  obtain ⟨t, block, reads⟩ := body cdv A outer s H vs Q still (room.deeper _) want
  refine codeAny_call_function room.depth (inK _ _ look) rfl S.co S.gen rfl
    (PySem.W.codeRec_of inK code) (bind _ _ _ _ ?_)
  apply wpAny_newFunctionEnv_cells S.kind kinds
  rintro _ rfl s1 laid
  have start := inv_start (CX := CX0) (E := E0) S room.hd e0 (len _ _ _ want) rel laid
  refine ⟨(e0.mod.nolimit.keeps old).keeps laid.toInCall.keep, codeAny_func ?_⟩
  refine wpAny_mono (block.nox.run [] s1 _ H _ start reads) ?_ fun _ _ q => q
  intro fl s' ends
  cases fl with
  | ret u =>
    obtain ⟨v, _, J, i, r, q⟩ := ends
    exact ⟨v, J, i.os, i.bare, i.base, i.hok, r, q⟩
  | next =>
    obtain ⟨_, J, i, q⟩ := ends
    exact ⟨.non, J, i.os, i.bare, i.base, i.hok, rfl, q⟩
  | brk => exact ends.choose_spec.choose_spec.2.elim
  | cont => exact ends.choose_spec.choose_spec.2.elim
end
section
variable {X : Cx} {k : Nat} {f : Addr} {fd : FuncData} {ps ks : List Str} {sp : Sp} {x : Str} {p pos : Pos} {e : Expr} {es : List Expr} {kws : List Keyword} {t tk : TA}
/-- a call where nothing is being shown -/
theorem run_still {pins : List (Addr × Obj)} {σ : L2.St} {H : Hp} {s : Shared} {Q : VK} {us zs : List Value} {kw : List (Str × Value)} {vs : List V} (F : FnG X.prog X.w X.K X.mg X.base k f fd ps sp)
    (still : Still X.A) (room : Room k X.A) (I : Inv X pins σ H s) (want : sp vs H Q E0) (rel : Vals vs zs) (bind : BindsTo s fd ⟨us, kw⟩ (ps.zip zs)) :
    wpAny (model X.prog X.w) X.A (call (.ref f) us kw) (EP X pins σ Q) X.xe s := by
  apply wpAny_call
  refine codeAny_mono (F.go still room I.env0 want rel bind) ?_
  rintro (_ | fl) s' q
  · exact q.elim
  · cases fl with
    | ret u => exact I.after q
    | next => exact q.elim
    | brk => exact q.elim
    | cont => exact q.elim
theorem pe_still (F : FnG X.prog X.w X.K X.mg X.base k f fd ps sp) (still : Still X.A) (room : Room k X.A) (g : Gl X x) (m : X.mg x = some (.ref f)) (kp : PySem.W.keepIn X.K (.ref f) = true) (b : Binds X.K fd ps []) (a : PA X (e :: es) t)
    (nd : (x == ("__debug__" : Str)) = false := by decide) (st : starEach (e :: es) X.env = (false, eval e X.env) :: starEach es X.env := by rfl) (pl : (backTo pos (starEach es X.env)).any (·.1) = false := by rfl) :
    PE X (.Call (.Name x p) (e :: es) [] pos) (tCall sp [] E0 t) := by
  constructor
  intro pins s σ H Q I h
  have args := a.run pos pins s σ H _ I h
  apply wpAny_Call_Name_kw
  refine ld_glob I g m (PySem.W.callWith_K (h₀ := X.base) I.ok.mod.kin kp (thn args ?_) st pl) nd
  rintro us s1 ⟨vs, J, i, r, q⟩
  have q' : sp vs J Q E0 := by
    have z : sp (vs ++ []) J Q E0 := q
    rw [List.append_nil] at z
    exact z
  have l : (us ++ []).length = ps.length := by
    rw [List.append_nil, ← r.length]
    exact F.len _ _ _ q'
  have bd := b s1 us i.kIn l
  rw [List.append_nil] at bd
  exact ⟨i.kIn, run_still F still room i q' r bd⟩
end
end Gd


set_option Elab.async false
set_option linter.all false
set_option maxRecDepth 100000
set_option maxHeartbeats 2000000
namespace Gd
open PySem PySem.Spec PyProof.Rows L2
theorem still_caller : Still callerA := rfl
section
variable {P : Program} {w : World} {K : PySem.W.Frag} {mg mb : Str → Option Value} {k : Nat} {fa a : Addr} {fd : FuncData} {x : Str} {sp : Sp} {s : Shared} {vs : List Value} {ns : List Int}
/-- the first call of all, from a heap in which the script alone is told -/
theorem first_call (inK : K.In s.heap) (top : s.heap.Ns mainGlobals mg) (bns : s.heap.Ns builtinsNs mb) (boot : ∀ y : Str, y ≠ "__name__" → mb y = bootBuiltins y) (free : s.heap.NoLimit) (gens : s.gens = #[])
    (obj : s.heap.get? a = some { cls := .type "list", data := .seq vs.toArray }) (room : Room k callerA)
    (F : ∀ base : Heap, K.In base → base.Ns mainGlobals mg → FnG P w K mg base k fa fd [x] sp) (bind : ∀ (t : Shared) (u : Value), BindsTo t fd ⟨[u], []⟩ [(x, u)])
    {H : Hp} (only : Only H) (want : sp [.ref a] H (fun v _ => v = .bl true) E0) (hok : HOk P w H s.heap) (alone : ∀ b, H b ≠ none → b = a ∧ K.lookup a = none) :
    codeAny (model P w) callerA (.call (.ref fa) ⟨[.ref a], []⟩) (fun r t => r = .ok (.ret (.bool true)) ∧ OldK s.heap t.heap ∧ t.os = s.os ∧ AllBare t.gens) s := by
  have away : ∀ b : Addr, b ≠ a → H b = none := fun b ne => Classical.byContradiction fun q => ne (alone b q).1
  have dicts : ∀ {b : Addr} {o : Obj} {es : Array DictEntry} {ep : Nat}, s.heap.get? b = some o → o.data = .dict es ep → H b = none := by
    intro b o es ep e d
    refine away b ?_
    rintro rfl
    rw [obj] at e
    cases e
    exact nomatch (show Data.seq vs.toArray _ = Data.dict es ep from d)
  have keepNs : ∀ {b : Addr} {m : Str → Option Value}, s.heap.Ns b m → (hidT s.heap H).Ns b m := by
    rintro b m ⟨o, es, ep, e, d, r⟩
    exact ⟨o, es, ep, hidT_get e (dicts e d), d, r⟩
  have hidK : K.In (hidT s.heap H) := by
    intro b o e
    refine hidT_get (inK b o e) (Classical.byContradiction fun q => ?_)
    obtain ⟨rfl, none_⟩ := alone b q
    rw [none_] at e
    cases e
  obtain ⟨ml, lim, lim'⟩ := free
  have env : Env0 P w K mg (hidT s.heap H) callerA [] s H :=
    { frames := rfl, mod := ⟨hidK, keepNs top, ⟨mb, keepNs bns, boot⟩, ⟨ml, keepNs lim, lim'⟩⟩, bs := fun b o e => of_hidT e, bsz := Nat.le_of_eq (hidT_size _ _), funs := trivial,
      frf := fun b q => absurd (show b ∈ ([] : List Addr) from q) (by simp), hok := hok, bare := .of_eq gens }
  have run := (F _ hidK (keepNs top)).go still_caller room env want (.cons rfl .nil) (bind s (.ref a))
  refine codeAny_mono run ?_
  rintro (_ | fl) t q
  · exact q.elim
  cases fl with
  | next => exact q.elim
  | brk => exact q.elim
  | cont => exact q.elim
  | ret u =>
    obtain ⟨v, J, os, bare, un, hok', rel, yes⟩ := q
    have yes' : v = .bl true := yes
    subst yes'
    obtain rfl : u = Value.bool true := rel
    refine ⟨rfl, OldK.of_keep ?_, os, bare⟩
    intro b o e
    cases c : H b with
    | none => exact un.keep b o e c (fun z => absurd (show b ∈ ([] : List Addr) from z) (by simp)) (by simp)
    | some ho =>
      rcases only b with z | ⟨ob, xs, z⟩
      · rw [c] at z
        cases z
      · have old := (hok b _ z).1
        have new := (hok' b _ (un.frzs b ob _ z)).1
        rw [e] at old
        cases old
        exact new
/-- .. whatever the script's list is: one of the module's own, or one that is told -/
theorem law_still (inK : K.In s.heap) (top : s.heap.Ns mainGlobals mg) (bns : s.heap.Ns builtinsNs mb) (boot : ∀ y : Str, y ≠ "__name__" → mb y = bootBuiltins y) (free : s.heap.NoLimit) (gens : s.gens = #[])
    (obj : s.heap.get? a = some { cls := .type "list", data := .seq vs.toArray }) (nums : IntsAre vs ns) (len : ns.length ≤ sizeLine) (room : Room k callerA)
    (F : ∀ base : Heap, K.In base → base.Ns mainGlobals mg → FnG P w K mg base k fa fd [x] sp) (bind : ∀ (t : Shared) (u : Value), BindsTo t fd ⟨[u], []⟩ [(x, u)])
    (want : ∀ H : Hp, SqL K H a (ns.map V.int) → sp [.ref a] H (fun v _ => v = .bl true) E0) :
    codeAny (model P w) callerA (.call (.ref fa) ⟨[.ref a], []⟩) (fun r t => r = .ok (.ret (.bool true)) ∧ OldK s.heap t.heap ∧ t.os = s.os ∧ AllBare t.gens) s := by
  have rel := vals_ints nums
  have size : vs.toArray.size ≤ sizeLine := by
    rw [List.size_toArray, nums.length]
    exact len
  rcases own : K.lookup a with _ | o
  · -- told by the heap
    let ob : Obj := { cls := .type "list", data := .seq vs.toArray }
    let H : Hp := fun b => if b = a then some (.frz ob (.lst (ns.map V.int))) else none
    have here : H a = some (.frz ob (.lst (ns.map V.int))) := if_pos rfl
    have there : ∀ {b u}, H b = some u → b = a ∧ u = .frz ob (.lst (ns.map V.int)) := by
      intro b u q
      by_cases c : b = a
      · rw [c, here] at q
        exact ⟨c, (Option.some.inj q).symm⟩
      · rw [show H b = none from if_neg c] at q
        cases q
    refine first_call inK top bns boot free gens obj room F bind (H := H) (fun b => ?_) (want H (.inl (.inr ⟨ob, here⟩))) (fun b u q => ?_) fun b q => ?_
    · by_cases c : b = a
      · exact .inr ⟨ob, ns.map V.int, by rw [c]; exact here⟩
      · exact .inl (if_neg c)
    · obtain ⟨rfl, rfl⟩ := there q
      exact ⟨obj, by rw [List.length_map]; exact len, vs, _, rel, obj⟩
    · obtain ⟨u, hu⟩ := Option.ne_none_iff_exists'.mp q
      exact ⟨(there hu).1, own⟩
  · -- one of the module's own
    have e := inK a o own
    rw [obj] at e
    cases e
    refine first_call inK top bns boot free gens obj room F bind (H := fun _ => none) (fun _ => .inl rfl) (want _ (.inr ⟨_, vs.toArray, _, own, rfl, rfl, rfl, size, by simpa using rel⟩)) ?_ fun b q => absurd rfl q
    intro b u q
    exact nomatch (show (none : Option HO) = some u from q)
end
/-- the head's goal, from the promise of the law's def, called where nothing is being shown -/
theorem walk_still {l : PySem.W.OpenLaw} {n k : Nat} {q : Program} {loose : List Str} {XP : (Str → Option Value) → Heap → Prop} {YP : World → Heap → Prop} {d : DefRec} {K : Params → PySem.W.Frag} {x : Str} {sp : PySem.W.Frag → Sp}
    (most : l.most = some n) (small : n ≤ sizeLine) (plain : d.params.defaults = []) (room : Room k callerA) (inK : ∀ (w : World) (h : Heap), YP w h → (K w.params).In h)
    (F : ∀ (w : World) (mg : Str → Option Value) (fa : Addr) (h : Heap), (K w.params).In h → h.Ns mainGlobals mg → mg d.name = some (.ref fa) → ∃ fd : FuncData, (∀ (t : Shared) (u : Value), BindsTo t fd ⟨[u], []⟩ [(x, u)]) ∧
      ∀ base : Heap, (K w.params).In base → base.Ns mainGlobals mg → FnG l.prog w (K w.params) mg base k fa fd [x] (sp (K w.params)))
    (want : ∀ (K : PySem.W.Frag) (H : Hp) (a : Addr) (ns : List Int), ns.length ≤ n → SqL K H a (ns.map V.int) → sp K [.ref a] H (fun v _ => v = .bl true) E0) : PySem.W.WalkO q loose XP YP l.row.toRowW d [] (fun f vs => PySem.call f vs) := by
  apply Att.attach_call most plain
  intro w s₀ s mg mb fa o pm cd doc a vs ns G Y _ _ _ named obj nums len gens
  have own := inK w _ Y
  obtain ⟨fd, bind, fn⟩ := F w mg fa _ own G.T.g named
  exact law_still own G.T.g G.T.b G.T.builtins G.T.nolimit gens obj nums (Nat.le_trans len small) room fn bind fun H sq => want _ H a ns len sq
end Gd


set_option Elab.async false
set_option linter.all false
set_option maxRecDepth 100000
set_option maxHeartbeats 2000000
namespace Gd
open PySem PySem.Spec PyProof.Rows L2
/-! how long a text of data may be -/
mutual
def cost : PyData → Nat
  | .list xs => costs xs + 3
  | .tuple xs => costs xs + 3
  | _ => 110
def costs : List PyData → Nat
  | [] => 0
  | x :: xs => cost x + 2 + costs xs
end
mutual
/-- lists and tuples of short texts and numbers below 10 ^ 105 -/
def shortD : PyData → Bool
  | .list xs => shortDs xs
  | .tuple xs => shortDs xs
  | .int i => decide (0 ≤ i) && decide (i < 10 ^ 105)
  | .str z => decide (z.length ≤ 10) && z.cps.toList.all fun c => decide (c < 16 ^ 8)
  | .none => true
  | .bool _ => true
  | _ => false
def shortDs : List PyData → Bool
  | [] => true
  | x :: xs => shortD x && shortDs xs
end
theorem piled_le : ∀ (ts : List Str), piled ts = (ts.map fun t => t.length + 2).sum
  | [] => by simp [piled]
  | t :: ts => by simp [piled, piled_le ts]
theorem join_le (ts : List Str) : (Str.join ", " ts).length ≤ (ts.map fun t => t.length + 2).sum := by
  by_cases h : ts = []
  · subst h
    exact Nat.le_of_eq (by decide +kernel)
  · have := join_length_add ts h
    rw [piled_le] at this
    omega
mutual
theorem shown_le : ∀ {d : PyData}, shortD d = true → d.shown.length ≤ cost d ∧ d.showable = true ∧ d.hasDict = false
  | .none, h => ⟨by decide +kernel, by simp only [PyData.showable], by simp only [PyData.hasDict]⟩
  | .bool b, h => ⟨by cases b <;> decide +kernel, by simp only [PyData.showable], by simp only [PyData.hasDict]⟩
  | .dict _, h => by simp [shortD] at h
  | .int i, h => by
    simp only [shortD, Bool.and_eq_true, decide_eq_true_eq] at h
    refine ⟨?_, ?_, by simp only [PyData.hasDict]⟩
    · rw [PyData.shown_int]
      have := toString_length_le h.1 (k := 105) (by decide) h.2
      simp only [cost]
      omega
    · simp only [PyData.showable, decide_eq_true_eq]
      have hn : i.natAbs < 2 ^ 1000 := by
        have e : (i.natAbs : Int) = i := Int.natAbs_of_nonneg h.1
        have hb : ((10 : Int) ^ 105) ≤ ((2 ^ 1000 : Nat) : Int) := by decide +kernel
        omega
      by_cases z : i.natAbs = 0
      · rw [z]
        decide
      · exact Nat.lt_of_lt_of_le ((Nat.log2_lt z).mpr hn) (by decide)
  | .str z, h => by
    simp only [shortD, Bool.and_eq_true, decide_eq_true_eq, List.all_eq_true] at h
    refine ⟨?_, by simp only [PyData.showable], by simp only [PyData.hasDict]⟩
    rw [PyData.shown_str]
    have := PySem.StrLaws.reprText_len z h.2
    simp only [cost]
    omega
  | .list xs, h => by
    obtain ⟨h1, h2, h3⟩ := showns_le (by simpa [shortD] using h)
    refine ⟨?_, by simp only [PyData.showable, h2], by simp only [PyData.hasDict, h3]⟩
    rw [PyData.shown_list, Str.length_append, Str.length_append]
    have := join_le (PyData.shownAll xs)
    simp only [cost]
    have e1 : Str.length "[" = 1 := by decide +kernel
    have e2 : Str.length "]" = 1 := by decide +kernel
    omega
  | .tuple xs, h => by
    obtain ⟨h1, h2, h3⟩ := showns_le (by simpa [shortD] using h)
    refine ⟨?_, by simp only [PyData.showable, h2], by simp only [PyData.hasDict, h3]⟩
    rw [PyData.shown_tuple, Str.length_append, Str.length_append]
    have := join_le (PyData.shownAll xs)
    simp only [cost]
    have e1 : Str.length "(" = 1 := by decide +kernel
    have e2 : Str.length (Str.ofString (if (xs.length == 1) = true then ",)" else ")")) ≤ 2 := by
      split <;> decide +kernel
    omega
theorem showns_le : ∀ {ds : List PyData}, shortDs ds = true → ((PyData.shownAll ds).map fun t => t.length + 2).sum ≤ costs ds ∧ PyData.showableAll ds = true ∧ PyData.hasDictAll ds = false
  | [], _ => by simp [PyData.shownAll, PyData.showableAll, PyData.hasDictAll, costs]
  | d :: ds, h => by
    simp only [shortDs, Bool.and_eq_true] at h
    obtain ⟨h1, h2, h3⟩ := shown_le h.1
    obtain ⟨g1, g2, g3⟩ := showns_le h.2
    refine ⟨?_, by simp [PyData.showableAll, h2, g2], by simp [PyData.hasDictAll, h3, g3]⟩
    rw [PyData.shownAll_cons, List.map_cons, List.sum_cons]
    simp only [costs]
    omega
end
section
variable {X : Cx}
/-- repr(x) of a list or tuple of short data -/
def rRepr (K : PySem.W.Frag) : List V → Hp → VK → Prop := fun xs H Q => ∃ (a : Addr) (d : PyData), xs = [.ref a] ∧ Dp K H (.ref a) d ∧ shortD d = true ∧ cost d ≤ 1000000 ∧ d.depth ≤ 20 ∧ Q (.str d.shown) H
theorem cr_repr (still : Still X.A) (hu : X.A.units + 64 < cLine) : CallR X (.builtin "repr") (rRepr X.K) := by
  intro pins s σ H xs us Q I r h
  obtain ⟨a, d, rfl, hd, sh, sz, dep, q⟩ := h
  obtain ⟨u, rfl, rx⟩ := vals1 r
  cases rx
  obtain ⟨as, rd⟩ := Dp.reads I d _ _ hd rfl
  obtain ⟨h1, h2, h3⟩ := shown_le sh
  refine repr_of_reads' rd h2 (PyData.noDict_hsm h3) still (by omega) (fun _ _ e => e) (fun h' t tk hk => ?_) (by rw [sizeLine_eq]; omega)
  exact ⟨.str d.shown, H, I.kept (t' := tk) hk, ⟨t, rfl⟩, q⟩
end
section
variable {X : Cx} {k : Nat} {f : Addr} {fd : FuncData} {ps ks : List Str} {sp : Sp} {x : Str} {p pos : Pos} {kws : List Keyword} {tk : TA} {g : List Value → List Value → List Value} {gV : List V → List V → List V}
/-- f(a = .., b = ..): keywords alone -/
theorem pe_kws (F : FnG X.prog X.w X.K X.mg X.base k f fd ps sp) (still : Still X.A) (room : Room k X.A) (gl : Gl X x) (m : X.mg x = some (.ref f)) (kp : PySem.W.keepIn X.K (.ref f) = true) (b : KBinds X.K fd ps ks g gV) (kw : PK X kws tk)
    (all : (backToKw pos (keywordEach kws X.env)).all (·.1.isSome) = true := by rfl) (nms : (backToKw pos (keywordEach kws X.env)).filterMap (·.1) = ks := by rfl) (nd : (x == ("__debug__" : Str)) = false := by decide)
    (pl : ((backTo pos (starEach [] X.env)).any (·.1) || (backToKw pos (keywordEach kws X.env)).any (·.1.isNone)) = false := by rfl) : PE X (.Call (.Name x p) [] kws pos) (tCallK sp gV E0 tNil tk) := by
  constructor
  intro pins s σ H Q I h
  have kwargs := kw.run pos pins s σ H _ I h
  apply wpAny_Call_Name_kw
  refine ld_glob I gl m (PySem.W.callWith_KW0 (h₀ := X.base) I.ok.mod.kin kp all (thn kwargs ?_) pl) nd
  rintro ws s2 ⟨zs, J, i, r, q⟩
  have rr : Vals (gV [] zs) (g [] ws) := b.rel .nil r
  have l : (g [] ws).length = ps.length := by
    rw [← rr.length]
    exact F.len _ _ _ q
  rw [nms]
  exact ⟨i.kIn, run_still F still room i q rr (b.to s2 [] ws i.kIn l)⟩
end
end Gd


set_option Elab.async false
set_option linter.all false
set_option maxRecDepth 100000
set_option maxHeartbeats 2000000
/-! a, b = a list -/
namespace Gd
open PySem PySem.Spec PyProof.Rows L2
section
variable {prog : Program} {w : World} {A : Around} {E : Value → Shared → Prop}
/-- so many of a list, from the i-th on -/
theorem drawn_list {it l : Addr} {xs : Array Value} (ne : l ≠ it) (n : Nat) : ∀ {i : Nat} {s : Shared} {Q : List Value → Shared → Prop}, s.heap.IsListIter it l i → s.heap.IsList l xs → i + n ≤ xs.size →
    (∀ g, g.IsListIter it l (i + n) → Heap.SameBut it s.heap g → Q ((xs.toList.drop i).take n) { s with heap := g }) → wpAny (model prog w) A (draw (.ref it) n) Q E s := by
  induction n with
  | zero =>
    intro i s Q at_ _ _ q
    have q := q s.heap at_ (Heap.SameBut.refl ..)
    rw [List.take_zero] at q
    exact wpAny_pure q
  | succ n ih =>
    intro i s Q at_ here le q
    have lt : i < xs.size := by omega
    have step : xs.toList.drop i = xs[i] :: xs.toList.drop (i + 1) := by
      simp [List.drop_eq_getElem_cons, lt]
    show wpAny _ _ (pyNext (.ref it) >>= _) Q E s
    apply wpAny_bind
    refine wpAny_pyNext_list_item at_ here (x := xs[i]) (by simp [lt]) ?_
    intro g at1 same1
    apply wpAny_bind
    apply wpAny_holding
    refine ih at1 (here.at fun o e => same1.extBut l o ne e) (by omega) ?_
    intro g2 at2 same2
    have q := q g2 (by rw [← Nat.add_assoc, Nat.add_right_comm]; exact at2) (same1.trans same2)
    rw [step, List.take_succ_cons] at q
    exact wpAny_pure q
theorem unpacked_list {l : Addr} {xs : Array Value} {s : Shared} {targets : List (Bool × (Value → Sem Unit))} {Q : Unit → Shared → Prop} (calm : A.handled = none) (here : s.heap.IsList l xs) (count : targets.length = xs.size) (plain : targets.findIdx? (·.1) = none)
    (k : ∀ g, (∀ b o, s.heap.get? b = some o → g.get? b = some o) → wpAny (model prog w) A (assignInOrder (targets.map (·.2)) xs.toList) Q E { s with heap := g }) : wpAny (model prog w) A (unpack (.ref l) targets) Q E s := by
  have ne : l ≠ s.heap.objs.size := by
    obtain ⟨o, e, _⟩ := here
    exact Nat.ne_of_lt (Heap.lt_size e)
  unfold unpack
  rw [count, plain]
  apply wpAny_bind
  apply wpAny_holding
  unfold unpackItems notIterableAtAll
  refine wpAny_bind (wpAny_bind (wpAny_specialOf here.typeIs slot_list_iter.lookup (wpAny_pure ?_)))
  show wpAny _ _ (holding _ (pyIter (.ref l)) >>= _) _ _ _
  refine wpAny_bind (wpAny_holding (wpAny_pyIter_list here ?_))
  have fresh : (s.heap.push { cls := .type "list_iterator", data := .fields #[.ref l, .int 0 0] }).IsListIter s.heap.objs.size l 0 := ⟨_, Heap.get?_push_size _ rfl, rfl, rfl⟩
  refine wpAny_bind (wpAny_holding (drawn_list ne xs.size fresh (here.push _) (by omega) ?_))
  intro g at_ same
  rw [List.drop_zero, List.take_of_length_le (by simp)]
  rw [if_neg (by simp)]
  have here2 : g.IsList l xs := (here.push _).at fun o e => same.extBut l o ne e
  refine wpAny_bind (wpAny_holding (wpAny_pyNext_list_end calm at_ here2 (by simp) ?_))
  intro g2 ext
  show wpAny _ _ (pure xs.toList) _ _ _
  refine wpAny_pure (k g2 fun b o e => ?_)
  have off : b ≠ s.heap.objs.size := Nat.ne_of_lt (Heap.lt_size e)
  exact ext b o off (same.extBut b o off (Heap.get?_push_of_some _ e))
end
section
variable {X : Cx} {pos : Pos}
def gSeq (K : PySem.W.Frag) (n : Nat) (t : TGs) : TG := fun v σ H Q => ∃ a xs, v = .ref a ∧ (SqL K H a xs ∨ SqT K H a xs) ∧ xs.length = n ∧ t xs σ H Q
/-- (a, b, ..) = a list or a tuple of that length -/
theorem pg_seq {es : List Expr} {k : Nat} {t : TGs} {n : Nat} (calm : X.calm = true) (h : PGs X es t) (count : (assignEach es X.env).length = n := by rfl) (plain : (assignEach es X.env).findIdx? (·.1) = none := by rfl) :
    PG X (.Tuple es k pos) (gSeq X.K n t) := by
  constructor
  rintro pins s σ H v u Q I r ⟨a, xs, rfl, sq, len, q⟩
  rcases sq with sq | sq
  · obtain rfl : u = Value.ref a := r
    obtain ⟨its, rel, here, _⟩ := I.list sq
    rw [assign_Tuple]
    apply wpAny_bind
    apply wpAny_standAt
    refine unpacked_list (I.ok.hd calm) here.isList (by rw [count, ← len, rel.length, List.size_toArray]) plain ?_
    intro g keep
    have I1 : Inv X pins σ H { s with heap := g } := I.kept (t' := s.toks) keep
    exact h.run pins _ σ H xs _ Q I1 (by simpa using rel) q
  · exact (pg_tup (pos := pos) (k := k) calm h count plain).run pins s σ H _ u Q I r ⟨a, xs, rfl, sq, len, q⟩
def iSeq (K : PySem.W.Frag) (tl : TE) : TI := fun σ H R => iList K tl σ H R ∨ iTup K tl σ H R
/-- walked: a list or a tuple -/
theorem pi_seq {tg e : Expr} {tl : TE} (h : PE X e tl) : PI X tg e (iSeq X.K tl) := by
  constructor
  rintro pins s σ H R I (q | q)
  · exact (pi_list h).run pins s σ H R I q
  · exact (pi_tup h).run pins s σ H R I q
end
end Gd


set_option Elab.async false
set_option linter.all false
set_option maxRecDepth 100000
set_option maxHeartbeats 4000000
namespace K26
open PySem L2 Nd Bk
/-! forms of data: some of its tuples as lists, apart from what is going to change -/
mutual
def flat : PyData → PyData
  | .list xs => .tuple (flats xs)
  | .tuple xs => .tuple (flats xs)
  | d => d
def flats : List PyData → List PyData
  | [] => []
  | x :: xs => flat x :: flats xs
end
theorem flats_map : ∀ xs : List PyData, flats xs = xs.map flat
  | [] => by simp [flats]
  | x :: xs => by simp [flats, flats_map xs]
mutual
theorem flat_tup : ∀ {d : PyData}, tupOnly d = true → flat d = d
  | .int _, _ => by simp [flat]
  | .str _, _ => by simp [flat]
  | .tuple ds, h => by
    simp only [flat]
    rw [flats_tup (by simpa [tupOnly] using h)]
  | .none, _ => by simp [flat]
  | .bool _, _ => by simp [flat]
  | .list _, h => by simp [tupOnly] at h
  | .dict _, h => by simp [tupOnly] at h
theorem flats_tup : ∀ {ds : List PyData}, tupOnlyAll ds = true → flats ds = ds
  | [], _ => by simp [flats]
  | d :: ds, h => by
    simp only [tupOnlyAll, Bool.and_eq_true] at h
    simp only [flats]
    rw [flat_tup h.1, flats_tup h.2]
end
mutual
inductive Fp (K : PySem.W.Frag) (H : Hp) (av : List Addr) : V → PyData → Prop
  | non : Fp K H av .non .none
  | bl (b : Bool) : Fp K H av (.bl b) (.bool b)
  | int (i : Int) : Fp K H av (.int i) (.int i)
  | str (x : Str) : Fp K H av (.str x) (.str x)
  | lst {a : Addr} {xs : List V} {ds : List PyData} : H a = some (.lst xs) → a ∉ av → FpAll K H av xs ds → Fp K H av (.ref a) (.list ds)
  | tup {a : Addr} {xs : List V} {ds : List PyData} : SqT K H a xs → FpAll K H av xs ds → Fp K H av (.ref a) (.tuple ds)
inductive FpAll (K : PySem.W.Frag) (H : Hp) (av : List Addr) : List V → List PyData → Prop
  | nil : FpAll K H av [] []
  | cons {v : V} {vs : List V} {d : PyData} {ds : List PyData} : Fp K H av v d → FpAll K H av vs ds → FpAll K H av (v :: vs) (d :: ds)
end
section
variable {K : PySem.W.Frag} {H H' : Hp} {av av' : List Addr}
mutual
theorem Fp.dp : ∀ {v : V} {d : PyData}, Fp K H av v d → Dp K H v d
  | _, _, .non => .non
  | _, _, .bl b => .bl b
  | _, _, .int i => .int i
  | _, _, .str x => .str x
  | _, _, .lst h _ a => .lst (SqL.of h) (FpAll.dp a)
  | _, _, .tup h a => .tup h (FpAll.dp a)
theorem FpAll.dp : ∀ {v : List V} {d : List PyData}, FpAll K H av v d → DpAll K H v d
  | _, _, .nil => .nil
  | _, _, .cons h t => .cons (Fp.dp h) (FpAll.dp t)
end
mutual
theorem Fp.of : ∀ {v : V} {d : PyData}, Dp K H v d → tupOnly d = true → Fp K H av v d
  | _, _, .non => fun _ => .non
  | _, _, .bl b => fun _ => .bl b
  | _, _, .int i => fun _ => .int i
  | _, _, .str x => fun _ => .str x
  | _, _, .lst h a => fun t => by simp [tupOnly] at t
  | _, _, .tup h a => fun t => .tup h (FpAll.of a (by simpa [tupOnly] using t))
theorem FpAll.of : ∀ {v : List V} {d : List PyData}, DpAll K H v d → tupOnlyAll d = true → FpAll K H av v d
  | _, _, .nil => fun _ => .nil
  | _, _, .cons h r => fun t => by
    simp only [tupOnlyAll, Bool.and_eq_true] at t
    exact .cons (Fp.of h t.1) (FpAll.of r t.2)
end
/-- the tuples stay, and the lists that aren't to be avoided; what is to be avoided is told anew -/
theorem fp_move (kt : KeepT H H') (kl : ∀ a xs, H a = some (.lst xs) → a ∉ av → H' a = some (.lst xs) ∧ a ∉ av') : (∀ {v : V} {d : PyData}, Fp K H av v d → Fp K H' av' v d) ∧ ∀ {v : List V} {d : List PyData}, FpAll K H av v d → FpAll K H' av' v d := by
  have key : ∀ n : Nat, (∀ (v : V) (d : PyData), sizeOf d ≤ n → Fp K H av v d → Fp K H' av' v d) ∧ ∀ (v : List V) (d : List PyData), sizeOf d ≤ n → FpAll K H av v d → FpAll K H' av' v d := by
    intro n
    induction n with
    | zero =>
      refine ⟨fun v d hs => ?_, fun v d hs => ?_⟩
      · cases d <;> simp at hs
      · cases d <;> simp at hs
    | succ n ih =>
      refine ⟨fun v d hs h => ?_, fun v d hs h => ?_⟩
      · cases h with
        | non => exact .non
        | bl b => exact .bl b
        | int i => exact .int i
        | str x => exact .str x
        | lst h1 h2 h3 =>
          obtain ⟨g1, g2⟩ := kl _ _ h1 h2
          exact .lst g1 g2 (ih.2 _ _ (by simp at hs; omega) h3)
        | tup h1 h2 => exact .tup (sqT_kt kt h1) (ih.2 _ _ (by simp at hs; omega) h2)
      · cases h with
        | nil => exact .nil
        | cons h1 h2 => exact .cons (ih.1 _ _ (by simp at hs; omega) h1) (ih.2 _ _ (by simp at hs; omega) h2)
  exact ⟨fun {v d} h => (key _).1 v d (Nat.le_refl _) h, fun {v d} h => (key _).2 v d (Nat.le_refl _) h⟩
theorem Fp.same {v : V} {d : PyData} (s : Same H H') (h : Fp K H av v d) : Fp K H' av v d := (fp_move (.same s) fun a xs h1 h2 => ⟨s _ _ h1, h2⟩).1 h
theorem FpAll.same {v : List V} {d : List PyData} (s : Same H H') (h : FpAll K H av v d) : FpAll K H' av v d := (fp_move (.same s) fun a xs h1 h2 => ⟨s _ _ h1, h2⟩).2 h
theorem Fp.but {b : Addr} {v : V} {d : PyData} (m : b ∈ av) (n : NotT (H b)) (s : But b H H') (h : Fp K H av v d) : Fp K H' av v d := (fp_move (.but n s) fun a xs h1 h2 => ⟨s _ _ h1 fun e => h2 (by rw [e]; exact m), h2⟩).1 h
theorem FpAll.but {b : Addr} {v : List V} {d : List PyData} (m : b ∈ av) (n : NotT (H b)) (s : But b H H') (h : FpAll K H av v d) : FpAll K H' av v d := (fp_move (.but n s) fun a xs h1 h2 => ⟨s _ _ h1 fun e => h2 (by rw [e]; exact m), h2⟩).2 h
theorem Fp.less {v : V} {d : PyData} (m : ∀ x ∈ av', x ∈ av) (h : Fp K H av v d) : Fp K H av' v d := (fp_move (.same sm_refl) fun a xs h1 h2 => ⟨h1, fun q => h2 (m a q)⟩).1 h
theorem FpAll.less {v : List V} {d : List PyData} (m : ∀ x ∈ av', x ∈ av) (h : FpAll K H av v d) : FpAll K H av' v d := (fp_move (.same sm_refl) fun a xs h1 h2 => ⟨h1, fun q => h2 (m a q)⟩).2 h
theorem Fp.more {x : Addr} {v : V} {d : PyData} (n : H x = none) (h : Fp K H av v d) : Fp K H (x :: av) v d := (fp_move (.same sm_refl) fun a xs h1 h2 => ⟨h1, fun q => (List.mem_cons.mp q).elim (fun e => by rw [e, n] at h1; cases h1) h2⟩).1 h
theorem FpAll.snoc : ∀ {vs : List V} {ds : List PyData} {v : V} {d : PyData}, FpAll K H av vs ds → Fp K H av v d → FpAll K H av (vs ++ [v]) (ds ++ [d])
  | _, _, _, _, .nil, h => .cons h .nil
  | _, _, _, _, .cons h t, h2 => .cons h (FpAll.snoc t h2)
theorem FpAll.len : ∀ {vs : List V} {ds : List PyData}, FpAll K H av vs ds → vs.length = ds.length
  | _, _, .nil => rfl
  | _, _, .cons _ t => by simp [FpAll.len t]
end
end K26


set_option Elab.async false
set_option linter.all false
set_option maxRecDepth 100000
set_option maxHeartbeats 4000000
namespace K26
open PySem L2 Nd Bk
/-- a number, a truth value, none -/
inductive Sc : PyData → Prop
  | int (i : Int) : Sc (.int i)
  | non : Sc .none
  | bl (b : Bool) : Sc (.bool b)
/-- numbers, texts, tuples of them, so many deep -/
def Okd : Nat → PyData → Prop
  | 0, d => Sc d ∨ ∃ z, d = .str z
  | n + 1, d => Sc d ∨ (∃ z, d = .str z) ∨ ∃ ds, d = .tuple ds ∧ ds.length ≤ 1000 ∧ ∀ e ∈ ds, Okd n e
theorem Okd.tu : ∀ {n : Nat} {d : PyData}, Okd n d → tupOnly d = true
  | 0, _, h => by
    rcases h with h | ⟨z, rfl⟩
    · cases h <;> rfl
    · rfl
  | n + 1, _, h => by
    rcases h with h | ⟨z, rfl⟩ | ⟨ds, rfl, _, h⟩
    · cases h <;> rfl
    · rfl
    · show tupOnlyAll ds = true
      exact tupOnlyAll_of fun e he => (h e he).tu
/-- a form that is a tuple is known to be without a dict -/
def Top (H : Hp) (v : V) (d' : PyData) : Prop := ∀ ds, d' = .tuple ds → ∃ T, v = .ref T ∧ PlainT H T
theorem PlainT.kt {H H' : Hp} {a : Addr} (k : KeepT H H') (h : PlainT H a) : PlainT H' a := let ⟨o, xs, h1, h2⟩ := h; ⟨o, xs, k.2 _ _ _ h1, h2⟩
def spLs (K : PySem.W.Frag) (n : Nat) : Sp := fun vs H Q _ => ∃ (b c : Addr) (ns : List Int) (av : List Addr) (v : V) (d : PyData), vs = [.ref b, v] ∧ BoxAt H b c ns ∧ Dp K H v d ∧ Okd n d ∧ b ∈ av ∧ (∀ x ∈ av, H x ≠ none) ∧
  ∀ (v' : V) (d' : PyData) (H' : Hp), flat d' = d → BoxAt H' b c ns → But b H H' → Fp K H' av v' d' → Top H' v' d' → Q v' H'
def sps (K : PySem.W.Frag) : Nat → Sp
  | 0 => fun _ _ _ _ => False
  | n + 1 => spLs K n
section
variable {P : Program} {w : World} {K : PySem.W.Frag} {mg : Str → Option Value} {base : Heap}
end
end K26


set_option Elab.async false
set_option linter.all false
set_option maxRecDepth 100000
set_option maxHeartbeats 4000000
namespace K26
open PySem L2 Nd Bk Gd
/-- at v: a form of the data -/
def FD (K : PySem.W.Frag) (H : Hp) (v : V) (d : PyData) : Prop := ∃ d', Dp K H v d' ∧ flat d' = d
section
variable {K : PySem.W.Frag} {H H' : Hp} {v : V}
theorem FD.same {d : PyData} (s : Same H H') (h : FD K H v d) : FD K H' v d := let ⟨d', h1, h2⟩ := h; ⟨d', dp_same s h1, h2⟩
theorem FD.of {d : PyData} (h : Dp K H v d) (t : tupOnly d = true) : FD K H v d := ⟨d, h, flat_tup t⟩
theorem Fp.fd {av : List Addr} {d d' : PyData} (h : Fp K H av v d') (e : flat d' = d) : FD K H v d := ⟨d', h.dp, e⟩
theorem fd_int {i : Int} (h : FD K H v (.int i)) : v = .int i := by
  obtain ⟨d', h, e⟩ := h
  cases d' <;> simp [flat] at e
  subst e
  exact dp_int h
theorem fd_str {z : Str} (h : FD K H v (.str z)) : v = .str z := by
  obtain ⟨d', h, e⟩ := h
  cases d' <;> simp [flat] at e
  subst e
  exact dp_str h
theorem fd_seq {ds : List PyData} (h : FD K H v (.tuple ds)) : ∃ a xs, v = .ref a ∧ (SqL K H a xs ∨ SqT K H a xs) ∧ xs.length = ds.length ∧ ∀ (i : Nat) (x : V), xs[i]? = some x → ∃ d, ds[i]? = some d ∧ FD K H x d := by
  obtain ⟨d', h, e⟩ := h
  have key : ∀ {a : Addr} {xs : List V} {es : List PyData}, DpAll K H xs es → flats es = ds → xs.length = ds.length ∧ ∀ (i : Nat) (x : V), xs[i]? = some x → ∃ d, ds[i]? = some d ∧ FD K H x d := by
    intro a xs es ha hes
    rw [flats_map] at hes
    refine ⟨by rw [dpAll_len ha, ← hes, List.length_map], fun i x hx => ?_⟩
    obtain ⟨d, h1, h2⟩ := dpAll_get ha hx
    exact ⟨flat d, by rw [← hes, List.getElem?_map, h1]; rfl, d, h2, rfl⟩
  cases h with
  | non => simp [flat] at e
  | bl => simp [flat] at e
  | int => simp [flat] at e
  | str => simp [flat] at e
  | lst h1 h2 =>
    simp only [flat, PyData.tuple.injEq] at e
    obtain ⟨k1, k2⟩ := key (a := 0) h2 e
    exact ⟨_, _, rfl, .inl h1, k1, k2⟩
  | tup h1 h2 =>
    simp only [flat, PyData.tuple.injEq] at e
    obtain ⟨k1, k2⟩ := key (a := 0) h2 e
    exact ⟨_, _, rfl, .inr h1, k1, k2⟩
/-- a bag's form -/
theorem fd_bag {κ : Type} [DecidableEq κ] [Ky κ] {l : Bag κ} (h : FD K H v (bD l)) : ∃ a xs, v = .ref a ∧ (SqL K H a xs ∨ SqT K H a xs) ∧ xs.length = l.length ∧ ∀ (i : Nat) (x : V), xs[i]? = some x → ∃ p, l[i]? = some p ∧ FD K H x (encP p) := by
  obtain ⟨a, xs, rfl, sq, len, get⟩ := fd_seq h
  refine ⟨a, xs, rfl, sq, by rw [len, List.length_map], fun i x hx => ?_⟩
  obtain ⟨d, h1, h2⟩ := get i x hx
  rw [List.getElem?_map] at h1
  obtain ⟨p, hp, rfl⟩ := Option.map_eq_some_iff.mp h1
  exact ⟨p, hp, h2⟩
theorem fd_pair {κ : Type} [DecidableEq κ] [Ky κ] {p : κ × Int} (h : FD K H v (encP p)) : ∃ T k, v = .ref T ∧ (SqL K H T [k, .int p.2] ∨ SqT K H T [k, .int p.2]) ∧ FD K H k (Ky.enc p.1) := by
  obtain ⟨a, xs, rfl, sq, len, get⟩ := fd_seq h
  match xs, len with
  | [x, y], _ =>
    obtain ⟨d, h1, h2⟩ := get 0 x rfl
    obtain ⟨e, h3, h4⟩ := get 1 y rfl
    simp only [List.getElem?_cons_zero, Option.some.injEq] at h1
    simp only [List.getElem?_cons_succ, List.getElem?_cons_zero, Option.some.injEq] at h3
    subst h1 h3
    cases fd_int h4
    exact ⟨a, x, rfl, sq, h2⟩
end
/-- a walk over a list or a tuple that a name holds -/
theorem seq_go {K : PySem.W.Frag} {σ : L2.St} {i : Nat} {H : Hp} {a : Addr} {xs : List V} {R : It → Hp → Prop} (hv : σ[i]? = some (some (.ref a))) (h : SqL K H a xs ∨ SqT K H a xs)
    (k : ∀ (J : It) (G : Hp → Prop), Walk J xs.length G (YAt xs) → (∀ H', (SqL K H a xs → SqL K H' a xs) → (SqT K H a xs → SqT K H' a xs) → G H') → R J H) : iSeq K (tVar i) σ H R := by
  rcases h with h | h
  · exact .inl ⟨_, hv, a, rfl, ⟨_, h⟩, k _ _ walk_list fun H' f _ => f h⟩
  · exact .inr ⟨_, hv, a, rfl, ⟨_, h⟩, k _ _ walk_tup fun H' _ f => f h⟩
theorem sq_same {K : PySem.W.Frag} {H H' : Hp} {a : Addr} {xs : List V} (s : Same H H') (h : SqL K H a xs ∨ SqT K H a xs) : SqL K H' a xs ∨ SqT K H' a xs := h.imp s.seq (sqT_same s)
def spFroz2 (K : PySem.W.Frag) : Sp := fun vs H Q _ => ∃ (v : V) (p : Poly), vs = [v] ∧ FD K H v (bD p) ∧ Szd p ∧ ∀ (T : Addr) (xs : List V) (H' : Hp), Same H H' → Fz K H' T xs p → Q (.ref T) H'
section
variable {P : Program} {w : World} {K : PySem.W.Frag} {mg : Str → Option Value} {base : Heap}
end
end K26


set_option Elab.async false
set_option linter.all false
set_option maxRecDepth 100000
set_option maxHeartbeats 2000000
/-! own exception classes over one own base that is over Exception, each with an __init__ that keeps its argument in a field -/
namespace PySem
namespace ExE
open PySem.W PySem.Calls PyProof.Rows Builtin Builtin.ObjectAttr
abbrev eTail : List Value := [.type "Exception", .type "BaseException", .type "object"]
/-- the class at C: what the written part says of it; T its own base, f its field, fI its __init__ -/
structure EC (K : Frag) (C : Addr) (T : Addr) (f : Str) (fI : Addr) : Prop where
  cls : ∃ nm q N bs sn sub ab col dd k0 k1 k2 k3 k5, K.lookup C = some (excClassObj nm q C N bs (.ref T :: eTail) true sn sub ab col dd k0 k1 k2 k3 k5 "Exception.__new__")
  sa : findIn K (.ref C) "__setattr__" = some (some (.builtin "object.__setattr__"))
  ga : findIn K (.ref C) "__getattribute__" = some (some (.builtin "BaseException.__getattribute__"))
  gg : findIn K (.ref C) "__getattr__" = some none
  ca : findIn K (.ref C) "__class__" = some (some (.builtin "object.__class__"))
  no : findIn K (.ref C) f = some none
  ini : findIn K (.ref C) "__init__" = some (some (.ref fI))
  tI : typeIn K (.ref fI) = some (.type "function")
  kC : keepIn K (.ref C) = true
  tyC : typeIn K (.ref C) = some (.type "type")
section
variable {K : Frag} {C T fI : Addr} {f : Str}
theorem EC.clsIn (e : EC K C T f fI) : ∃ cd, clsIn K C = some cd ∧ cd.mro = .ref C :: .ref T :: eTail ∧ cd.hasDict = true := by
  obtain ⟨nm, q, N, bs, sn, sub, ab, col, dd, k0, k1, k2, k3, k5, h⟩ := e.cls
  refine ⟨{ name := nm, bases := bs, mro := .ref C :: .ref T :: eTail, ns := N, qualname := q, hasDict := true, slotNames := sn, subclasses := sub, abstract := ab, collection := col, hasDel := false }, ?_, rfl, rfl⟩
  unfold W.clsIn
  rw [h] <;> rfl
theorem EC.isCls (e : EC K C T f fI) : (PySem.W.clsIn K C).isSome = true := by
  obtain ⟨cd, h, _⟩ := e.clsIn
  rw [h]
  rfl
theorem EC.hd (e : EC K C T f fI) : hasDictIn K C = true := by
  obtain ⟨cd, h, _, h2⟩ := e.clsIn
  unfold hasDictIn
  rw [h]
  exact h2
theorem EC.ovr (e : EC K C T f fI) : excOver K C eTail = true := by
  obtain ⟨cd, h, h1, _⟩ := e.clsIn
  unfold excOver
  rw [h, Option.any_some, h1]
  show (C == C && excTail eTail eTail) = true
  rw [beq_self_eq_true]
  rfl
theorem EC.mro (e : EC K C T f fI) (b : Value) : mroIn K C b = some ((Value.ref C :: .ref T :: eTail).contains b) := by
  obtain ⟨cd, h, h1, _⟩ := e.clsIn
  unfold mroIn
  rw [h, Option.bind_some, h1]
  rfl
theorem EC.sub (e : EC K C T f fI) (b : Value) : subIn K (.ref C) b = some ((Value.ref C :: .ref T :: eTail).contains b) := e.mro b
theorem EC.exC (e : EC K C T f fI) : subIn K (.ref C) (.type "BaseException") = some true := by
  rw [e.sub, List.contains_cons, List.contains_cons]
  rfl
theorem EC.has (e : EC K C T f fI) {X : String} (h : eTail.contains (.type X) = true) : subIn K (.ref C) (.type X) = some true := by
  rw [e.sub, List.contains_cons, List.contains_cons, h, Bool.or_true, Bool.or_true]
theorem EC.lacks (e : EC K C T f fI) {X : String} (h : eTail.contains (.type X) = false) : subIn K (.ref C) (.type X) = some false := by
  rw [e.sub, List.contains_cons, List.contains_cons, h]
  rfl
theorem EC.self (e : EC K C T f fI) : subIn K (.ref C) (.ref C) = some true := by
  rw [e.sub, List.contains_cons, beq_self_eq_true, Bool.true_or]
theorem EC.base (e : EC K C T f fI) : subIn K (.ref C) (.ref T) = some true := by
  rw [e.sub, List.contains_cons, List.contains_cons, beq_self_eq_true, Bool.true_or, Bool.or_true]
theorem EC.other (e : EC K C T f fI) {D : Addr} (h1 : D ≠ C) (h2 : D ≠ T) : subIn K (.ref C) (.ref D) = some false := by
  have q1 : (Value.ref D == Value.ref C) = false := by simp [h1]
  have q2 : (Value.ref D == Value.ref T) = false := by simp [h2]
  rw [e.sub, List.contains_cons, List.contains_cons, q1, q2]
  rfl
theorem EC.taker (e : EC K C T f fI) : takerIn K C f = some none := by
  unfold takerIn
  rw [e.no] <;> rfl
end
/-- the first store into an exception -/
theorem store1 {prog : Program} {w : World} {A : Around} {R : Result → Shared → Prop} {hp : Heap} {g : Array GenState} {d : Drawn} {t : Nat} {os : OsState} {K : Frag} {C T fI x t0 : Addr} {f : Str} {tk : Tok} {v : Value}
    (X : K.In hp) (e : EC K C T f fI) (hx : hp.get? x = some (HandSPX.excO C t0))
    (hq : ∀ h' tk' dx, (∀ b o, b ≠ x → hp.get? b = some o → h'.get? b = some o) → hp.objs.size ≤ dx → dx ≠ x →
      h'.get? x = some { cls := .ref C, dict := some dx, data := .fields #[.ref t0, .none, .none, .none, .bool false, .none] } →
      h'.Ns1 dx (fun y => if y = f then some v else none) → R (.ok (.ret .none)) ⟨h', g, d, tk', os⟩) :
    codeAny (model prog w) A (.call (.builtin "object.__setattr__") ⟨[.ref x, .str f tk, v], []⟩) R ⟨hp, g, d, t, os⟩ := by
  have ne : x ≠ hp.objs.size := Nat.ne_of_lt (Heap.lt_size hx)
  obtain ⟨cd, hcd, hmro, hdict⟩ := e.clsIn
  have look : Looks (model prog w) hp (classData C) cd := looks_clsIn X hcd
  refine osa_openX (s := ⟨hp, g, d, t, os⟩) (od := none) F.store_Exception X ⟨hx, rfl, rfl, trivial⟩ e.ovr e.taker fun b => ?_
  obtain ⟨nm, bs, mro, ns, qn, hd, sn, sb, ab, col, del⟩ := cd
  dsimp only at hdict
  subst hdict
  show wpAny _ _ (storeInOwnDict (.ref x) (.ref C) (.str f tk) f v b) _ _ _
  unfold storeInOwnDict
  unfold ownDictForStores
  repeat (first | with_reducible refine HandSPX.store_in_new ?_ ?_ | with_reducible refine wpAny_loadPart_at hx ?_ | with_reducible refine look.at ?_ | wp_step)
  · exact ⟨_, #[], _, (Heap.get?_update_ne _ _ _ _ ne.symm).trans (Heap.get?_push_at rfl rfl), rfl, fun u hu => absurd hu (by simp), fun _ => rfl⟩
  · intro h' tk' hn hs
    have hx1 : (hp.push { cls := .type "dict", data := .dict #[] }).get? x = some (HandSPX.excO C t0) := Heap.get?_push_of_some _ hx
    refine hq h' tk' hp.objs.size (fun b o hb ho => ?_) (Nat.le_refl _) ne.symm ?_ hn
    · refine (hs.2 b (Nat.ne_of_lt (Heap.lt_size ho))).trans ?_
      exact (Heap.get?_update_ne _ _ _ _ hb).trans (Heap.get?_push_of_some _ ho)
    · refine (hs.2 x ne).trans ?_
      exact Heap.get?_update_self _ hx1 rfl

/-- what the call of such a class leaves: the exception at e, its dict at d -/
structure Made (f : Str) (h h' : Heap) (e C d : Addr) (v : Value) : Prop where
  keep : ∀ b o, h.get? b = some o → h'.get? b = some o
  new : h.objs.size ≤ e
  obj : ∃ t1 : Addr, h'.get? e = some { cls := .ref C, dict := some d, data := .fields #[.ref t1, .none, .none, .none, .bool false, .none] }
  dbig : h.objs.size ≤ d
  dne : d ≠ e
  ns : h'.Ns1 d (fun y => if y = f then some v else none)
/-- the class, called with one argument: asked of each class -/
def Makes (K : Frag) (C : Addr) (f : Str) : Prop := ∀ {prog : Program} {w : World} {A : Around} {R : Result → Shared → Prop} {s : Shared} {v : Value}, K.In s.heap → s.heap.NoLimit → A.depth + 1 < recursionLimit →
  (∀ h' tk e d, Made f s.heap h' e C d v → R (.ok (.ret (.ref e))) { s with heap := h', toks := tk }) → codeAny (model prog w) A (.call (.ref C) ⟨[v], []⟩) R s
theorem lineOne (v : Value) : [v].length ≤ sizeLine := by
  rw [sizeLine_eq]
  exact (by decide : 1 ≤ 16777216)
theorem ldName {M : Model} {s : Shared} {A : Around} {E : Value → Shared → Prop} {name : Str} {scope : Scope} {L a : Addr} {cd : Value} {m : Str → Option Value} {x : Str} {pos : Pos} {v : Value} {Q : Value → Shared → Prop}
    (hn : s.heap.Ns L m) (hv : m x = some v) (h : Q v s) (hk : scope.kind = .function := by rfl) (hl : (envOfC name scope L a cd).kindOf x = some .local := by rfl) (hd : (x == ("__debug__" : Str)) = false := by decide) :
    wpAny M A (eval (.Name x pos) (envOfC name scope L a cd)) Q E s := wpAny_Name (wpAny_loadName_local hk hl hn hv h) hd

namespace Iat
def ia (p1 p2 : Pos) : Arguments := { posonlyargs := [], args := [{ arg := "self", annotation := none, pos := p1 }, { arg := "at", annotation := none, pos := p2 }], vararg := none, kwonlyargs := [], kw_defaults := [], kwarg := none, defaults := [] }
def ib (q1 q2 q3 q4 : Pos) : List Stmt := [.Assign [.Attribute (.Name "self" q1) "at" q2] (.Name "at" q3) q4]
def isc : Scope := { kind := .function, names := [(PySem.Str.ofString "self", .local), (PySem.Str.ofString "at", .local)], isGenerator := false, isCoroutine := false, more := [] }
/-- the function __init__ at fI -/
def FnI (K : Frag) (fI : Addr) (qn : Str) : Prop := ∃ (oc : Value) (od : Option Addr) (doc pm : Value) (an : Option Addr) (cdv ct : Value) (osl : Array (Option Value)) (p1 p2 q1 q2 q3 q4 : Pos),
    K.lookup fI = some ⟨oc, od, .func (fnOf "__init__" qn (ia p1 p2) (ib q1 q2 q3 q4) isc .none .none doc pm an cdv ct), osl⟩ ∧ codeIn K cdv qn = true
section
variable {K : Frag} {C T fI : Addr} {qn : Str}
theorem init {prog : Program} {w : World} {A : Around} {R : Result → Shared → Prop} {s : Shared} (e : EC K C T "at" fI) (fn : FnI K fI qn) {x t0 : Addr} {v : Value} (X : K.In s.heap) (hlim : s.heap.NoLimit) (hx : s.heap.get? x = some (HandSPX.excO C t0)) (hroom : A.depth < recursionLimit)
    (hq : ∀ h' tk dx, (∀ b o, b ≠ x → s.heap.get? b = some o → h'.get? b = some o) → s.heap.objs.size ≤ dx → dx ≠ x →
      h'.get? x = some { cls := .ref C, dict := some dx, data := .fields #[.ref t0, .none, .none, .none, .bool false, .none] } →
      h'.Ns1 dx (fun y => if y = "at" then some v else none) → R (.ok (.ret .none)) { s with heap := h', toks := tk }) :
    codeAny (model prog w) A (.call (.ref fI) ⟨[.ref x, v], []⟩) R s := by
  obtain ⟨oc, od, doc, pm, an, cdv, ct, osl, p1, p2, q1, q2, q3, q4, ho, hcd⟩ := fn
  refine Att.call_fn (binds := [("self", .ref x), ("at", v)]) X hlim ho hcd hroom (BindsTo.of_eq (by first | rfl | with_unfolding_all rfl)) (by first | rfl | decide | with_unfolding_all rfl) (fun s₁ IC => ?_) rfl rfl rfl
  obtain ⟨h₁, tk₁, rfl⟩ := IC.toInCall.same
  have kp : ∀ b o, s.heap.get? b = some o → h₁.get? b = some o := IC.toInCall.keep
  have hn := IC.toInCall.ns
  have X₁ : K.In h₁ := X.keeps kp
  have hx₁ := kp _ _ hx
  show wpAny _ _ (execs _ _) _ _ _
  refine wpAny_execs_cons (plainObj_wpAny_Assign_Attribute ?_)
  refine ldName (v := v) hn (by first | rfl | with_unfolding_all rfl | kernel_rfl) (ldName (v := .ref x) hn (by first | rfl | with_unfolding_all rfl | kernel_rfl) ?_)
  refine set_plain X₁ (ox := HandSPX.excO C t0) (od := none) ⟨hx₁, rfl, rfl, trivial⟩ e.sa ?_
  refine store1 X₁ e hx₁ fun h₃ tk₃ dx k₃ dn dne hx₃ hn₃ => ?_
  show wpAny _ _ (execs _ _) _ _ _
  have big : s.heap.objs.size ≤ dx := Nat.le_of_lt (Nat.lt_of_lt_of_le hn.lt dn)
  exact wpAny_execs_nil (hq h₃ tk₃ dx (fun b o hb ho => k₃ b o hb (kp b o ho)) big dne hx₃ hn₃)
theorem makes (e : EC K C T "at" fI) (fn : FnI K fI qn) : Makes K C "at" := fun {prog w A R s v} X hlim hroom hq => by
  obtain ⟨nm, q, N, bs, sn, sub, ab, col, dd, k0, k1, k2, k3, k5, hC⟩ := e.cls
  obtain ⟨hp, g, dr, tk, os⟩ := s
  have kp : ∀ b o, hp.get? b = some o → ((hp.push (kdv_tup [v])).push (HandSPX.excO C hp.objs.size)).get? b = some o := fun b o z => Heap.get?_push_of_some _ (Heap.get?_push_of_some _ z)
  have hget : ((hp.push (kdv_tup [v])).push (HandSPX.excO C hp.objs.size)).get? (hp.objs.size + 1) = some (HandSPX.excO C hp.objs.size) := by heap_get
  have tails : ∀ Y : String, (Value.ref T :: eTail).contains (.type Y) = eTail.contains (.type Y) := fun Y => by rw [List.contains_cons]; rfl
  refine HandSPX.call_own F.excBase_Exception tails (X _ _ hC) (looks_findIn X e.ini) (fun self => bind_fn X self e.tI) (lineOne v) ?_
  refine init (s := ⟨(hp.push (kdv_tup [v])).push (HandSPX.excO C hp.objs.size), g, dr, tk, os⟩) e fn (X.keeps kp) (hlim.keeps kp) hget ?_ fun h' tk' dx k' dn dne hx' hns => ?_
  · show A.depth + 1 < recursionLimit
    exact hroom
  · have old : ∀ b o, hp.get? b = some o → h'.get? b = some o := fun b o z => k' b o (Nat.ne_of_lt (Nat.lt_succ_of_lt (Heap.lt_size z))) (kp b o z)
    have z : hp.objs.size + 1 + 1 ≤ dx := by
      have q := dn
      simp only [Heap.size_push] at q
      exact q
    exact ⟨rfl, hq h' tk' (hp.objs.size + 1) dx ⟨old, Nat.le_succ _, ⟨_, hx'⟩, Nat.le_trans (Nat.le_trans (Nat.le_succ _) (Nat.le_succ _)) z, dne, hns⟩⟩
end
end Iat

namespace Iname
def ia (p1 p2 : Pos) : Arguments := { posonlyargs := [], args := [{ arg := "self", annotation := none, pos := p1 }, { arg := "name", annotation := none, pos := p2 }], vararg := none, kwonlyargs := [], kw_defaults := [], kwarg := none, defaults := [] }
def ib (q1 q2 q3 q4 : Pos) : List Stmt := [.Assign [.Attribute (.Name "self" q1) "name" q2] (.Name "name" q3) q4]
def isc : Scope := { kind := .function, names := [(PySem.Str.ofString "self", .local), (PySem.Str.ofString "name", .local)], isGenerator := false, isCoroutine := false, more := [] }
/-- the function __init__ at fI -/
def FnI (K : Frag) (fI : Addr) (qn : Str) : Prop := ∃ (oc : Value) (od : Option Addr) (doc pm : Value) (an : Option Addr) (cdv ct : Value) (osl : Array (Option Value)) (p1 p2 q1 q2 q3 q4 : Pos),
    K.lookup fI = some ⟨oc, od, .func (fnOf "__init__" qn (ia p1 p2) (ib q1 q2 q3 q4) isc .none .none doc pm an cdv ct), osl⟩ ∧ codeIn K cdv qn = true
section
variable {K : Frag} {C T fI : Addr} {qn : Str}
theorem init {prog : Program} {w : World} {A : Around} {R : Result → Shared → Prop} {s : Shared} (e : EC K C T "name" fI) (fn : FnI K fI qn) {x t0 : Addr} {v : Value} (X : K.In s.heap) (hlim : s.heap.NoLimit) (hx : s.heap.get? x = some (HandSPX.excO C t0)) (hroom : A.depth < recursionLimit)
    (hq : ∀ h' tk dx, (∀ b o, b ≠ x → s.heap.get? b = some o → h'.get? b = some o) → s.heap.objs.size ≤ dx → dx ≠ x →
      h'.get? x = some { cls := .ref C, dict := some dx, data := .fields #[.ref t0, .none, .none, .none, .bool false, .none] } →
      h'.Ns1 dx (fun y => if y = "name" then some v else none) → R (.ok (.ret .none)) { s with heap := h', toks := tk }) :
    codeAny (model prog w) A (.call (.ref fI) ⟨[.ref x, v], []⟩) R s := by
  obtain ⟨oc, od, doc, pm, an, cdv, ct, osl, p1, p2, q1, q2, q3, q4, ho, hcd⟩ := fn
  refine Att.call_fn (binds := [("self", .ref x), ("name", v)]) X hlim ho hcd hroom (BindsTo.of_eq (by first | rfl | with_unfolding_all rfl)) (by first | rfl | decide | with_unfolding_all rfl) (fun s₁ IC => ?_) rfl rfl rfl
  obtain ⟨h₁, tk₁, rfl⟩ := IC.toInCall.same
  have kp : ∀ b o, s.heap.get? b = some o → h₁.get? b = some o := IC.toInCall.keep
  have hn := IC.toInCall.ns
  have X₁ : K.In h₁ := X.keeps kp
  have hx₁ := kp _ _ hx
  show wpAny _ _ (execs _ _) _ _ _
  refine wpAny_execs_cons (plainObj_wpAny_Assign_Attribute ?_)
  refine ldName (v := v) hn (by first | rfl | with_unfolding_all rfl | kernel_rfl) (ldName (v := .ref x) hn (by first | rfl | with_unfolding_all rfl | kernel_rfl) ?_)
  refine set_plain X₁ (ox := HandSPX.excO C t0) (od := none) ⟨hx₁, rfl, rfl, trivial⟩ e.sa ?_
  refine store1 X₁ e hx₁ fun h₃ tk₃ dx k₃ dn dne hx₃ hn₃ => ?_
  show wpAny _ _ (execs _ _) _ _ _
  have big : s.heap.objs.size ≤ dx := Nat.le_of_lt (Nat.lt_of_lt_of_le hn.lt dn)
  exact wpAny_execs_nil (hq h₃ tk₃ dx (fun b o hb ho => k₃ b o hb (kp b o ho)) big dne hx₃ hn₃)
theorem makes (e : EC K C T "name" fI) (fn : FnI K fI qn) : Makes K C "name" := fun {prog w A R s v} X hlim hroom hq => by
  obtain ⟨nm, q, N, bs, sn, sub, ab, col, dd, k0, k1, k2, k3, k5, hC⟩ := e.cls
  obtain ⟨hp, g, dr, tk, os⟩ := s
  have kp : ∀ b o, hp.get? b = some o → ((hp.push (kdv_tup [v])).push (HandSPX.excO C hp.objs.size)).get? b = some o := fun b o z => Heap.get?_push_of_some _ (Heap.get?_push_of_some _ z)
  have hget : ((hp.push (kdv_tup [v])).push (HandSPX.excO C hp.objs.size)).get? (hp.objs.size + 1) = some (HandSPX.excO C hp.objs.size) := by heap_get
  have tails : ∀ Y : String, (Value.ref T :: eTail).contains (.type Y) = eTail.contains (.type Y) := fun Y => by rw [List.contains_cons]; rfl
  refine HandSPX.call_own F.excBase_Exception tails (X _ _ hC) (looks_findIn X e.ini) (fun self => bind_fn X self e.tI) (lineOne v) ?_
  refine init (s := ⟨(hp.push (kdv_tup [v])).push (HandSPX.excO C hp.objs.size), g, dr, tk, os⟩) e fn (X.keeps kp) (hlim.keeps kp) hget ?_ fun h' tk' dx k' dn dne hx' hns => ?_
  · show A.depth + 1 < recursionLimit
    exact hroom
  · have old : ∀ b o, hp.get? b = some o → h'.get? b = some o := fun b o z => k' b o (Nat.ne_of_lt (Nat.lt_succ_of_lt (Heap.lt_size z))) (kp b o z)
    have z : hp.objs.size + 1 + 1 ≤ dx := by
      have q := dn
      simp only [Heap.size_push] at q
      exact q
    exact ⟨rfl, hq h' tk' (hp.objs.size + 1) dx ⟨old, Nat.le_succ _, ⟨_, hx'⟩, Nat.le_trans (Nat.le_trans (Nat.le_succ _) (Nat.le_succ _)) z, dne, hns⟩⟩
end
end Iname

namespace Iword
def ia (p1 p2 : Pos) : Arguments := { posonlyargs := [], args := [{ arg := "self", annotation := none, pos := p1 }, { arg := "word", annotation := none, pos := p2 }], vararg := none, kwonlyargs := [], kw_defaults := [], kwarg := none, defaults := [] }
def ib (q1 q2 q3 q4 : Pos) : List Stmt := [.Assign [.Attribute (.Name "self" q1) "word" q2] (.Name "word" q3) q4]
def isc : Scope := { kind := .function, names := [(PySem.Str.ofString "self", .local), (PySem.Str.ofString "word", .local)], isGenerator := false, isCoroutine := false, more := [] }
/-- the function __init__ at fI -/
def FnI (K : Frag) (fI : Addr) (qn : Str) : Prop := ∃ (oc : Value) (od : Option Addr) (doc pm : Value) (an : Option Addr) (cdv ct : Value) (osl : Array (Option Value)) (p1 p2 q1 q2 q3 q4 : Pos),
    K.lookup fI = some ⟨oc, od, .func (fnOf "__init__" qn (ia p1 p2) (ib q1 q2 q3 q4) isc .none .none doc pm an cdv ct), osl⟩ ∧ codeIn K cdv qn = true
section
variable {K : Frag} {C T fI : Addr} {qn : Str}
theorem init {prog : Program} {w : World} {A : Around} {R : Result → Shared → Prop} {s : Shared} (e : EC K C T "word" fI) (fn : FnI K fI qn) {x t0 : Addr} {v : Value} (X : K.In s.heap) (hlim : s.heap.NoLimit) (hx : s.heap.get? x = some (HandSPX.excO C t0)) (hroom : A.depth < recursionLimit)
    (hq : ∀ h' tk dx, (∀ b o, b ≠ x → s.heap.get? b = some o → h'.get? b = some o) → s.heap.objs.size ≤ dx → dx ≠ x →
      h'.get? x = some { cls := .ref C, dict := some dx, data := .fields #[.ref t0, .none, .none, .none, .bool false, .none] } →
      h'.Ns1 dx (fun y => if y = "word" then some v else none) → R (.ok (.ret .none)) { s with heap := h', toks := tk }) :
    codeAny (model prog w) A (.call (.ref fI) ⟨[.ref x, v], []⟩) R s := by
  obtain ⟨oc, od, doc, pm, an, cdv, ct, osl, p1, p2, q1, q2, q3, q4, ho, hcd⟩ := fn
  refine Att.call_fn (binds := [("self", .ref x), ("word", v)]) X hlim ho hcd hroom (BindsTo.of_eq (by first | rfl | with_unfolding_all rfl)) (by first | rfl | decide | with_unfolding_all rfl) (fun s₁ IC => ?_) rfl rfl rfl
  obtain ⟨h₁, tk₁, rfl⟩ := IC.toInCall.same
  have kp : ∀ b o, s.heap.get? b = some o → h₁.get? b = some o := IC.toInCall.keep
  have hn := IC.toInCall.ns
  have X₁ : K.In h₁ := X.keeps kp
  have hx₁ := kp _ _ hx
  show wpAny _ _ (execs _ _) _ _ _
  refine wpAny_execs_cons (plainObj_wpAny_Assign_Attribute ?_)
  refine ldName (v := v) hn (by first | rfl | with_unfolding_all rfl | kernel_rfl) (ldName (v := .ref x) hn (by first | rfl | with_unfolding_all rfl | kernel_rfl) ?_)
  refine set_plain X₁ (ox := HandSPX.excO C t0) (od := none) ⟨hx₁, rfl, rfl, trivial⟩ e.sa ?_
  refine store1 X₁ e hx₁ fun h₃ tk₃ dx k₃ dn dne hx₃ hn₃ => ?_
  show wpAny _ _ (execs _ _) _ _ _
  have big : s.heap.objs.size ≤ dx := Nat.le_of_lt (Nat.lt_of_lt_of_le hn.lt dn)
  exact wpAny_execs_nil (hq h₃ tk₃ dx (fun b o hb ho => k₃ b o hb (kp b o ho)) big dne hx₃ hn₃)
theorem makes (e : EC K C T "word" fI) (fn : FnI K fI qn) : Makes K C "word" := fun {prog w A R s v} X hlim hroom hq => by
  obtain ⟨nm, q, N, bs, sn, sub, ab, col, dd, k0, k1, k2, k3, k5, hC⟩ := e.cls
  obtain ⟨hp, g, dr, tk, os⟩ := s
  have kp : ∀ b o, hp.get? b = some o → ((hp.push (kdv_tup [v])).push (HandSPX.excO C hp.objs.size)).get? b = some o := fun b o z => Heap.get?_push_of_some _ (Heap.get?_push_of_some _ z)
  have hget : ((hp.push (kdv_tup [v])).push (HandSPX.excO C hp.objs.size)).get? (hp.objs.size + 1) = some (HandSPX.excO C hp.objs.size) := by heap_get
  have tails : ∀ Y : String, (Value.ref T :: eTail).contains (.type Y) = eTail.contains (.type Y) := fun Y => by rw [List.contains_cons]; rfl
  refine HandSPX.call_own F.excBase_Exception tails (X _ _ hC) (looks_findIn X e.ini) (fun self => bind_fn X self e.tI) (lineOne v) ?_
  refine init (s := ⟨(hp.push (kdv_tup [v])).push (HandSPX.excO C hp.objs.size), g, dr, tk, os⟩) e fn (X.keeps kp) (hlim.keeps kp) hget ?_ fun h' tk' dx k' dn dne hx' hns => ?_
  · show A.depth + 1 < recursionLimit
    exact hroom
  · have old : ∀ b o, hp.get? b = some o → h'.get? b = some o := fun b o z => k' b o (Nat.ne_of_lt (Nat.lt_succ_of_lt (Heap.lt_size z))) (kp b o z)
    have z : hp.objs.size + 1 + 1 ≤ dx := by
      have q := dn
      simp only [Heap.size_push] at q
      exact q
    exact ⟨rfl, hq h' tk' (hp.objs.size + 1) dx ⟨old, Nat.le_succ _, ⟨_, hx'⟩, Nat.le_trans (Nat.le_trans (Nat.le_succ _) (Nat.le_succ _)) z, dne, hns⟩⟩
end
end Iword
end ExE
end PySem


set_option Elab.async false
set_option linter.all false
set_option maxRecDepth 100000
set_option maxHeartbeats 2000000
namespace L2
open PySem PySem.Spec PyProof.Rows PySem.ExE
/-- an exception of the class at C, at e, its dict at d, its field f holding v -/
def EAt (H : Hp) (C : Addr) (f : Str) (e : Addr) (v : V) : Prop := ∃ d : Addr, H e = some (exo e C (some d)) ∧ H d = some (.xd [(f, v)])
theorem EAt.keep {H H' : Hp} {C e : Addr} {f : Str} {v : V} (h : EAt H C f e v) (k : ∀ b o, H b = some o → (∀ xs, o ≠ .lst xs) → H' b = some o) : EAt H' C f e v := by
  obtain ⟨d, h1, h2⟩ := h
  exact ⟨d, k _ _ h1 (fun xs z => by have z' : HO.ext _ = HO.lst xs := z; cases z'), k _ _ h2 (fun xs z => nomatch z)⟩
section
variable {X : Cx} {C : Addr} {f : Str}
/-- C(e) in a raise -/
def tMkX (C : Addr) (f : Str) (ta : TA) : St → Hp → XK → Prop := fun σ H Q => ta σ H fun vs H1 => ∃ v, vs = [v] ∧ ∀ d, H1 d = none → Q (.ref C) (some d) (upd H1 d (.xd [(f, v)]))
/-- C(e) as a value -/
def tMkV (C : Addr) (f : Str) (ta : TA) : TE := fun σ H Q => ta σ H fun vs H1 => ∃ v, vs = [v] ∧ ∀ d e, H1 d = none → H1 e = none → e ≠ d → Q (.ref e) (upd (upd H1 d (.xd [(f, v)])) e (exo e C (some d)))
/-- the state behind the making: what lies without the exception, what lies with it -/
theorem made_inv {pins : List (Addr × Obj)} {σ : St} {H1 : Hp} {hp h' : Heap} {g : Array GenState} {dr : Drawn} {tk tk' : Nat} {os : OsState} {e d : Addr} {v : V} {v' : Value}
    (I1 : Inv X pins σ H1 ⟨hp, g, dr, tk, os⟩) (rv : RelV v v') (M : Made f hp h' e C d v') :
    ∃ (G : Heap) (t1 : Addr), Inv X pins σ (upd H1 d (.xd [(f, v)])) ⟨G, g, dr, tk', os⟩ ∧ (∀ b o, G.get? b = some o → h'.get? b = some o) ∧ G.get? e = none ∧
      h'.get? e = some { cls := .ref C, dict := some d, data := .fields #[.ref t1, .none, .none, .none, .bool false, .none] } ∧ H1 d = none ∧ H1 e = none := by
  obtain ⟨t1, hoe⟩ := M.obj
  obtain ⟨G, keepG, goneG⟩ := restrict h' fun b => decide (b ≠ e)
  have gk : ∀ b, b ≠ e → G.get? b = h'.get? b := fun b hb => keepG b (decide_eq_true hb)
  have ge : G.get? e = none := goneG e (by simp)
  have old : ∀ b o, hp.get? b = some o → G.get? b = some o := fun b o q => by
    rw [gk b (Nat.ne_of_lt (Nat.lt_of_lt_of_le (Heap.lt_size q) M.new))]
    exact M.keep b o q
  have nsG : G.Ns1 d (fun y => if y = f then some v' else none) := M.ns.at fun o q => (gk d M.dne).trans q
  have ob : ObjOk X.prog X.w (upd H1 d (.xd [(f, v)])) G d (.xd [(f, v)]) := ⟨_, nsG, fun y => relO_put (fs := []) (mA := fun _ => none) rv (fun _ => True.intro) y⟩
  refine ⟨G, t1, I1.laid (t' := tk') old M.dbig ob, fun b o q => ?_, ge, hoe, I1.hok.fresh M.dbig, I1.hok.fresh M.new⟩
  by_cases hb : b = e
  · rw [hb, ge] at q
    cases q
  · rw [← gk b hb]
    exact q
theorem pmk_mk {x : Str} {a : Expr} {ta : TA} {p pos : Pos} {k : Nat} {T fI : Addr} (E : EC X.K C T f fI) (mk : Makes X.K C f) (hm : X.mg x = some (.ref C)) (hr : Room k X.A) (ha : PA X [a] ta) (hg : Gl X x)
    (hdb : (x == ("__debug__" : Str)) = false := by decide) (he : starEach (a :: []) X.env = (false, eval a X.env) :: starEach [] X.env := by rfl) (hpl : (backTo pos (starEach [] X.env)).any (·.1) = false := by rfl) :
    PMk X (.Call (.Name x p) [a] [] pos) (tMkX C f ta) := by
  intro pins s σ H Q I h
  refine wpAny_Call_Name_kw (ld_glob I hg hm ?_ hdb)
  refine PySem.W.callWith_K (h₀ := X.base) I.ok.mod.kin E.kC (thn (ha.run pos pins s σ H _ I h) fun us s1 hh => ?_) he hpl
  obtain ⟨vs, H1, I1, r1, v, ev, q1⟩ := hh
  subst ev
  refine ⟨I1.kIn, ?_⟩
  cases r1 with
  | cons rv rn =>
    rename_i v' us'
    cases rn
    show wpAny _ _ (call (.ref C) [v']) _ _ _
    have hlim := I1.nolimit
    obtain ⟨hp, g, dr, tk, os⟩ := s1
    refine wpAny_call (mk I1.kIn hlim (by have := hr.dp; show X.A.depth + 1 < _; omega) fun h' tk' e d M => ?_)
    obtain ⟨G, t1, J, kG, ge, hoe, nd, ne⟩ := made_inv (tk' := tk') I1 rv M
    refine ⟨e, _, _, ⟨G, g, dr, tk', os⟩, _, .ref C, some d, rfl, J, kG, ge, hoe, ⟨rfl, rfl⟩, rfl, rfl, ?_, rfl, I1.bare, raises_own E.exC E.tyC, q1 d nd⟩
    rw [upd_ne (Ne.symm M.dne)]
    exact ne
theorem pe_mk {x : Str} {a : Expr} {ta : TA} {p pos : Pos} {k : Nat} {T fI : Addr} (E : EC X.K C T f fI) (mk : Makes X.K C f) (hm : X.mg x = some (.ref C)) (hr : Room k X.A) (ha : PA X [a] ta) (hg : Gl X x)
    (hdb : (x == ("__debug__" : Str)) = false := by decide) (he : starEach (a :: []) X.env = (false, eval a X.env) :: starEach [] X.env := by rfl) (hpl : (backTo pos (starEach [] X.env)).any (·.1) = false := by rfl) :
    PE X (.Call (.Name x p) [a] [] pos) (tMkV C f ta) := by
  refine ⟨fun pins s σ H Q I h => ?_⟩
  refine wpAny_Call_Name_kw (ld_glob I hg hm ?_ hdb)
  refine PySem.W.callWith_K (h₀ := X.base) I.ok.mod.kin E.kC (thn (ha.run pos pins s σ H _ I h) fun us s1 hh => ?_) he hpl
  obtain ⟨vs, H1, I1, r1, v, ev, q1⟩ := hh
  subst ev
  refine ⟨I1.kIn, ?_⟩
  cases r1 with
  | cons rv rn =>
    rename_i v' us'
    cases rn
    show wpAny _ _ (call (.ref C) [v']) _ _ _
    have hlim := I1.nolimit
    obtain ⟨hp, g, dr, tk, os⟩ := s1
    refine wpAny_call (mk I1.kIn hlim (by have := hr.dp; show X.A.depth + 1 < _; omega) fun h' tk' e d M => ?_)
    obtain ⟨G, t1, J, kG, ge, hoe, nd, ne⟩ := made_inv (tk' := tk') I1 rv M
    have ne' : (upd H1 d (.xd [(f, v)])) e = none := by
      rw [upd_ne (Ne.symm M.dne)]
      exact ne
    exact ⟨.ref e, _, J.laidN (h' := h') (t' := tk') kG ge ne' (exo_ok hoe), rfl, q1 d e nd ne (Ne.symm M.dne)⟩
/-- what stands at an exception's address in the heap -/
theorem EAt.inst {H : Hp} {h : Heap} {e : Addr} {v : V} (ok : HOk X.prog X.w H h) (a : EAt H C f e v) : ∃ (ox od : Obj) (u : Value), PySem.W.InstAt h e ox C (some od) ∧ PySem.W.lookIn f od = some (some u) ∧ RelV v u := by
  obtain ⟨d, h1, h2⟩ := a
  obtain ⟨t1, ho⟩ := exo_at ok h1
  obtain ⟨mA, hns, hr⟩ : ObjOk X.prog X.w H h d (.xd [(f, v)]) := ok d _ h2
  obtain ⟨od, hod, hl⟩ := lookIn_ns hns
  have l : List.lookup f [(f, v)] = some v := by simp [List.lookup]
  obtain ⟨u, hu, ru⟩ := RelO.some_of (v := v) (o := mA f) (by rw [← l]; exact hr f)
  exact ⟨_, od, u, ⟨ho, rfl, rfl, hod⟩, by rw [hl, hu], ru⟩
/-- e.f -/
def tFldE (K : PySem.W.Frag) (f : Str) (to : TE) : TE := fun σ H Q => to σ H fun x H1 => ∃ (e C T fI : Addr) (v : V), x = .ref e ∧ EC K C T f fI ∧ EAt H1 C f e v ∧ Q v H1
theorem pe_fldE {o : Expr} {to : TE} {pos : Pos} (ho : PE X o to) (hb : attributeBase o f X.env (eval o X.env) = eval o X.env := by rfl) : PE X (.Attribute o f pos) (tFldE X.K f to) := by
  refine ⟨fun pins s σ H Q I h => ?_⟩
  refine attr_of hb (thn (ho.run pins s σ H _ I h) fun u s1 hh => ?_)
  obtain ⟨x, H1, I1, rx, e, C, T, fI, v, ex, Ec, ea, q⟩ := hh
  subst ex
  obtain rfl : u = Value.ref e := rx
  obtain ⟨ox, od, w, J, hl, rw'⟩ := ea.inst I1.hok
  exact HandSPX.exc_get I1.kIn J Ec.ga Ec.gg Ec.exC (PySem.W.findObj_own Ec.hd Ec.no rfl hl) (handed_of rw') ⟨v, H1, I1.tok _, rw', q⟩
/-- isinstance(e, c) -/
structure HasCls (K : PySem.W.Frag) : Prop where
  hn : PySem.W.specialIn K (.builtin "object.__class__") "__get__" = some (some (.builtin "getset_descriptor.__get__"))
  ht : PySem.W.takesIn K (.builtin "object.__class__") = some true
def rIsV (K : PySem.W.Frag) : List V → Hp → VK → Prop := fun xs H Q => ∃ (e C T fI : Addr) (f : Str) (v c : V) (u : Value) (b : Bool), xs = [.ref e, c] ∧ ClsV c u ∧ EC K C T f fI ∧ EAt H C f e v ∧ PySem.W.kitOne K (.ref C) u = some b ∧ Q (.bl b) H
theorem call_isV (Z : HasCls X.K) : CallR X (.builtin "isinstance") (rIsV X.K) := by
  intro pins s σ H xs us Q I r h
  obtain ⟨e, C, T, fI, f, v, c, u, b, rfl, k, Ec, ea, hk, q⟩ := h
  obtain ⟨u1, u2, rfl, r1, r2⟩ := vals2 r
  have e2 := k.eq r2
  subst e2
  cases (show u1 = Value.ref e from r1)
  obtain ⟨ox, od, w, J, _, _⟩ := ea.inst I.hok
  have hob : PySem.W.mroIn X.K C (.type "object") = some true := Ec.has (by decide)
  exact PySem.W.kia_one (PySem.W.kitx_exc Ec.isCls Ec.ga Ec.gg Ec.exC Ec.ca Z.hn Z.ht hob) I.kIn J hk (fun z => nomatch z) fun tk => ⟨.bl b, H, I.tok tk, rfl, q⟩
end
/-! the answers -/
section
open PySem.W
variable {K : PySem.W.Frag} {C T fI D T2 fJ : Addr} {f f2 : Str}
theorem kit_self : kitOne K (.ref C) (.ref C) = some true := by
  unfold kitOne
  rw [if_pos (beq_self_eq_true _)]
theorem kit_own (E : EC K C T f fI) {D : Addr} {b : Bool} (hD : (clsIn K D).isSome = true) (tD : typeIn K (.ref D) = some (.type "type")) (h : subIn K (.ref C) (.ref D) = some b) (hne : D ≠ C) : kitOne K (.ref C) (.ref D) = some b := by
  have q : ((clsIn K D).isSome && typeIn K (.ref D) == some (.type "type")) = true := by rw [hD, tD]; rfl
  unfold kitOne
  rw [if_neg (by simp [Ne.symm hne])]
  unfold kitCls
  dsimp only
  rw [if_pos q]
  exact h
theorem kit_bi (E : EC K C T f fI) {n : String} {b : Bool} (hm : kitMeta n = true) (h : subIn K (.ref C) (.type n) = some b) : kitOne K (.ref C) (.type n) = some b := by
  unfold kitOne
  rw [if_neg (by simp)]
  unfold kitCls
  dsimp only
  rw [if_pos hm]
  exact h
end
/-! try with clauses, each with a name -/
/-- what the clauses wish, one behind the other; each: its class, the slot of its name, its suite -/
def wClauses (K : PySem.W.Frag) (Wout : WX) (D : Ends) : List (Value × Nat × (Addr → Value → Option Addr → TS)) → WX
  | [] => Wout
  | (c, i, ts) :: r => fun cls d σ H => ∃ b, PySem.W.exmOne K cls c = some b ∧
      (b = true → ∀ a, H a = none → ts a cls d { nx := fun σ' H' => D.nx (σ'.set i none) H', rt := D.rt, bk := fun σ' H' => D.bk (σ'.set i none) H', ct := fun σ' H' => D.ct (σ'.set i none) H' } (σ.set i (some (.ref a))) H) ∧
      (b = false → wClauses K Wout D r cls d σ H)
inductive Clauses (X : Cx) : List ExceptHandler → List (Value × Nat × (Addr → Value → Option Addr → TS)) → Prop
  | nil : Clauses X [] []
  | cons {x n : Str} {i : Nat} {c : Value} {ts : Addr → Value → Option Addr → TS} {b₀ : Stmt} {suite : List Stmt} {np pos' : Pos} {hds : List ExceptHandler} {l : List (Value × Nat × (Addr → Value → Option Addr → TS))}
      (hc : Names X x c) (hi : X.N[i]? = some n) (hln : X.env.kindOf n = some .local)
      (hsu : ∀ (a : Addr) (oe : Obj) (cls : Value) (d : Option Addr) (pn : List (Addr × Obj)), Zc cls d oe → (∃ vs, oe.data = .fields vs) → PSs (X.suite a ((a, oe) :: pn)) (b₀ :: suite) (ts a cls d))
      (r : Clauses X hds l) : Clauses X (.ExceptHandler (some (.Name x np)) (some n) (b₀ :: suite) pos' :: hds) ((c, i, ts) :: l)
section
variable {X : Cx} {body : List Stmt} {h₀ : ExceptHandler} {hds : List ExceptHandler} {l : List (Value × Nat × (Addr → Value → Option Addr → TS))} {pos : Pos} {tb : WX → TS} {Wout : WX}
/-- the suite's end: its name goes -/
theorem suite_end {pins : List (Addr × Obj)} {D : Ends} {i : Nat} {n : Str} {a : Addr} {q : Addr × Obj} {p : Pos} {fl : Flow} {s6 : Shared} (ok : X.Ok) (hN : X.N.Nodup) (hi : X.N[i]? = some n) (hln : X.env.kindOf n = some .local)
    (hsp : SP (X.suite a (q :: (X.pn ++ pins))) [] { nx := fun σ' H' => D.nx (σ'.set i none) H', rt := D.rt, bk := fun σ' H' => D.bk (σ'.set i none) H', ct := fun σ' H' => D.ct (σ'.set i none) H' } fl s6) :
    wpAny (model X.prog X.w) X.A (do bindName X.env n .none; unbindBehindTheSuite X.env n p) (fun _ s7 => SP X pins D fl s7) X.xe s6 := by
  cases fl with
  | next =>
    obtain ⟨σ6, H6, S6, w6⟩ := hsp
    exact gone_ok (S6.unsuite ok) hN hi hln fun s7 J7 => ⟨_, _, J7, w6⟩
  | brk =>
    obtain ⟨σ6, H6, S6, w6⟩ := hsp
    exact gone_ok (S6.unsuite ok) hN hi hln fun s7 J7 => ⟨_, _, J7, w6⟩
  | cont =>
    obtain ⟨σ6, H6, S6, w6⟩ := hsp
    exact gone_ok (S6.unsuite ok) hN hi hln fun s7 J7 => ⟨_, _, J7, w6⟩
  | ret u =>
    obtain ⟨v6, σ6, H6, S6, r6, w6⟩ := hsp
    exact gone_ok (S6.unsuite ok) hN hi hln fun s7 J7 => ⟨_, _, _, J7, r6, w6⟩
theorem ps_try_named (hs : X.stack = X.env :: X.outer) (hf : X.env.frame = some X.env.locals) (hN : X.N.Nodup) (tk : Takes X Wout)
    (hb : ∀ (W : WX) (pn : List (Addr × Obj)) (xe : Value → Shared → Prop), Takes (X.tr pn xe) W → PassesOwn (model X.prog X.w) X.A X.env xe → PSs (X.tr pn xe) body (tb W))
    (hh : Clauses X (h₀ :: hds) l) : PS X (.Try body (h₀ :: hds) [] [] pos) (fun D σ H => tb (wClauses X.K Wout D l) D σ H) := by
  refine ⟨fun pins s σ H D I h => ?_⟩
  have ok := I.ok
  have hfr : X.A.frames = some (X.env :: X.outer) := by rw [ok.frames, hs]
  refine wpAny_Try_except ?_
  refine wpAny_mono ((hb (wClauses X.K Wout D l) (X.pn ++ pins) (fun e s₁ => wpAny (model X.prog X.w) X.A (noteFrame e X.env) (fun _ s₂ =>
    wpAny (model X.prog X.w) X.A (setFlight e none) (fun _ s₃ => wpAny (model X.prog X.w) X.A (handleBy e X.env (h₀ :: hds)) (SP X pins D) X.xe s₃) X.xe s₂) X.xe s₁)
    (fun u s' xx => ?_) PassesOwn.looking).run [] s σ H D (I.toTry _) h) (fun fl s1 hsp => ?_) (fun e s1 he => he)
  · obtain ⟨a, B, sI, pins', σ', H', cls, d, rfl, J', nb, up, sky, na, os, ag, w⟩ := xx
    have J : Inv X pins σ' H' sI := J'.ofTry ok
    have sky' : Sky B (X.env :: X.outer) a (Zc cls d) X.env.locals s'.heap := by
      rw [← hs]
      exact sky
    refine Sky.land Zc.steady hfr hf sky' fun h3 fl3 up3 => ?_
    have J3 : Inv X pins σ' H' { s' with heap := h3 } := J.landed nb fl3.1 (up.trans up3) os ag
    obtain ⟨oe3, vs3, he3, hz3, hd3⟩ := fl3.there
    have nfr : a ∉ frs (X.env :: X.outer) := fun hm => by
      obtain ⟨_, o', e', hnf⟩ := fl3.2.2.1.mem hm
      rw [he3] at e'
      cases e'
      exact hnf _ hd3
    have nL : a ≠ X.env.locals := fun z => nfr (List.mem_filterMap.mpr ⟨X.env, List.mem_cons_self, by rw [hf, z]⟩)
    have nF : a ∉ X.fs := fun hm => by
      obtain ⟨e, he, q⟩ := List.mem_filterMap.mp hm
      exact nfr (List.mem_filterMap.mpr ⟨e, List.mem_cons_of_mem _ he, q⟩)
    have S3 := J3.suite he3 hd3 na nL nF
    have LT : PySem.W.Looks (model X.prog X.w) h3 (typeOf (.ref a)) cls := fun A Q E s k q => wpAny_typeOf_ref (k _ _ he3) (by rw [hz3.1]; exact q)
    have go : ∀ {hs' : List ExceptHandler} {l' : List (Value × Nat × (Addr → Value → Option Addr → TS))}, Clauses X hs' l' → wClauses X.K Wout D l' cls d σ' H' →
        wpAny (model X.prog X.w) X.A (handleBy (.ref a) X.env hs') (SP X pins D) X.xe { s' with heap := h3 } := by
      intro hs' l' hk
      induction hk with
      | nil =>
        intro w
        refine wpAny_handleBy_nil ?_
        obtain ⟨k1, k2, k3, oe, vs, T, oT, ts', he, hz, hd, h1, hr⟩ := id fl3
        have fin : wpAny (model X.prog X.w) X.A (setFlight (.ref a) X.env.frame) (fun _ s4 => wpAny (model X.prog X.w) X.A (throw (.ref a) : Sem Flow) (SP X pins D) X.xe s4) X.xe { s' with heap := h3 } := by
          rw [hf]
          refine HandSPX.setFlight_upZ fl3 fun h4 hh4 up4 => wpAny_throw (tk _ _ ?_)
          refine ⟨a, B, sI, pins, σ', H', cls, d, rfl, J, nb, (up.trans up3).trans up4, .inr (.inr ?_), na, os, ag, w⟩
          rw [hs]
          exact hh4
        unfold PySem.passOn
        refine wpAny_bind (wpAny_field he hd h1 ?_)
        rw [if_neg (show ¬ ((Value.ref T == Value.none) = true) from by simp)]
        first
          | exact wpAny_bind (wpAny_pure (wpAny_bind fin))
          | exact wpAny_bind fin
      | @cons x n i c ts b₀ suite np pos' hds2 l2 hc hi hln hsu r ih =>
        intro w
        obtain ⟨b, hb1, hyes, hno⟩ := w
        refine wpAny_handleBy_cons (codeAny_handlers_test ?_) (by intro q; cases q)
        have LM := PySem.W.exm_one (M := model X.prog X.w) (J3.kIn) LT hb1
        have test : ∀ {Q : Value → Shared → Prop} {E : Value → Shared → Prop}, Q c { s' with heap := h3 } → wpAny (model X.prog X.w) (X.A.mark (some (.ref a))) (eval (.Name x np) X.env) Q E { s' with heap := h3 } := fun {Q E} q => by
          obtain ⟨hg, hdbg, hm | ⟨hm, hv, hnn⟩⟩ := hc
          · exact ld_glob (X := X.suite a ((a, oe3) :: (X.pn ++ pins))) S3 hg hm q hdbg
          · exact ld_blt (X := X.suite a ((a, oe3) :: (X.pn ++ pins))) S3 hg hm hv q hnn hdbg
        refine test (LM.here ?_)
        cases b with
        | false =>
          show wpAny _ X.A (handleBy (.ref a) X.env hds2) _ _ _
          exact ih (hno rfl)
        | true =>
          refine codeAny_handlers_suite_as ?_
          refine HandSPX.lands_againZ fl3 fun h4 fl4 up4 => ?_
          have J4 : Inv X pins σ' H' { s' with heap := h4 } := J.landed nb fl4.1 ((up.trans up3).trans up4) os ag
          obtain ⟨oe4, vs4, he4, hz4, hd4⟩ := fl4.there
          have S4 := J4.suite he4 hd4 na nL nF
          refine store_ok (X := X.suite a ((a, oe4) :: (X.pn ++ pins))) (v := .ref a) S4 hN hi (.inl hln) rfl (fun s5 S5 => ?_) (.inr hln)
          refine wpAny_mono ((hsu a oe4 cls d (X.pn ++ pins) hz4 ⟨_, hd4⟩).run [] s5 _ H' _ S5 (hyes rfl a na)) (fun fl s6 hsp => ?_) (fun _ _ z => False.elim z)
          exact suite_end ok hN hi hln hsp
    exact go hh w
  · cases fl with
    | next =>
      obtain ⟨σ', H', J', q⟩ := hsp
      exact wpAny_execs_nil ⟨σ', H', J'.ofTry ok, q⟩
    | brk =>
      obtain ⟨σ', H', J', q⟩ := hsp
      exact ⟨σ', H', J'.ofTry ok, q⟩
    | cont =>
      obtain ⟨σ', H', J', q⟩ := hsp
      exact ⟨σ', H', J'.ofTry ok, q⟩
    | ret u =>
      obtain ⟨v, σ', H', J', r, q⟩ := hsp
      exact ⟨v, σ', H', J'.ofTry ok, r, q⟩
end
end L2


set_option Elab.async false
set_option linter.all false
set_option maxRecDepth 100000
set_option maxHeartbeats 4000000
namespace K26
open PySem L2 Nd Bk Gd PySem.ExE
/-! what goes beyond -/
def cp (i : Int) : Int := if BEY < i then BEY else i
def capB (l : Poly) : Poly := l.map fun e => (e.1, cp e.2)
theorem cp_ge (i : Int) : BEY ≤ cp i ↔ BEY ≤ i := by
  unfold cp
  split <;> omega
theorem cp_id {i : Int} (h : i < BEY) : cp i = i := by
  unfold cp
  rw [if_neg (by omega)]
theorem cp_add {x c : Int} (hc : 0 ≤ c) : cp (cp x + c) = cp (x + c) := by
  unfold cp
  repeat' split
  all_goals omega
theorem look_capB (l : Poly) (k : Mono) : look (capB l) k = (look l k).map cp := by
  unfold look capB
  induction l with
  | nil => rfl
  | cons e r ih =>
    rw [List.map_cons, List.find?_cons, List.find?_cons]
    by_cases h : e.1 = k
    · simp [h]
    · simp only [decide_eq_false h]
      exact ih
theorem put_capB (l : Poly) (k : Mono) (v : Int) : put (capB l) k (cp v) = capB (put l k v) := by
  unfold put
  rw [look_capB, Option.isSome_map]
  split
  · unfold capB
    rw [List.map_map, List.map_map]
    refine List.map_congr_left fun e _ => ?_
    show (if e.1 = k then (e.1, cp v) else (e.1, cp e.2)) = (fun e : Mono × Int => (e.1, cp e.2)) (if e.1 = k then (e.1, v) else e)
    split <;> rfl
  · unfold capB
    rw [List.map_append]
    rfl
theorem cp_zero : cp 0 = 0 := by decide +kernel
theorem add_capB (l : Poly) (k : Mono) {c : Int} (hc : 0 ≤ c) : put (capB l) k (cp ((look (capB l) k).getD 0 + c)) = capB (add1 l (k, c)) := by
  unfold add1
  rw [← put_capB, look_capB]
  cases look l k with
  | none => rfl
  | some u =>
    show put (capB l) k (cp (cp u + c)) = put (capB l) k (cp (u + c))
    rw [cp_add hc]
def Big (B : Poly) : Prop := ∃ t ∈ B, BEY ≤ t.2 ∨ ∃ x ∈ t.1, BEY ≤ x.2
theorem big_cap (B : Poly) : Big (capB B) ↔ Big B := by
  unfold Big capB
  constructor
  · rintro ⟨t, ht, h⟩
    obtain ⟨e, he, rfl⟩ := List.mem_map.mp ht
    exact ⟨e, he, h.imp (cp_ge _).mp id⟩
  · rintro ⟨e, he, h⟩
    exact ⟨_, List.mem_map.mpr ⟨e, he, rfl⟩, h.imp (cp_ge _).mpr id⟩
theorem cap_id {B : Poly} (h : ¬ Big B) : capB B = B := by
  have : ∀ e ∈ B, (e.1, cp e.2) = e := fun e he => by
    have : e.2 < BEY := by
      by_cases q : BEY ≤ e.2
      · exact absurd ⟨e, he, .inl q⟩ h
      · omega
    rw [cp_id this]
  unfold capB
  rw [List.map_congr_left this, List.map_id']
theorem cap_len (B : Poly) : (capB B).length = B.length := List.length_map ..
/-- the class of what is raised -/
structure Tm (K : PySem.W.Frag) (mg : Str → Option Value) (T C fI : Addr) : Prop where
  E : EC K C T "word" fI
  mks : Makes K C "word"
  g : mg "TooMany" = some (.ref C)
/-- what is told of such a book, or raised -/
structure Told (K : PySem.W.Frag) (C : Addr) (B : Poly) (H : Hp) (Q : VK) (E : XK) : Prop where
  terms : 400 < B.length → ∀ d H', Same H H' → H' d = some (.xd [("word", .str "terms")]) → E (.ref C) (some d) H'
  figs : B.length ≤ 400 → Big B → ∀ d H', Same H H' → H' d = some (.xd [("word", .str "figures")]) → E (.ref C) (some d) H'
  poly : B.length ≤ 400 → ¬ Big B → ∀ v H', Same H H' → Dp K H' v (bD (srt B)) → Q v H'
def spPut2 (K : PySem.W.Frag) (P : Program) (w : World) : Sp := fun vs H Q _ => ∃ (d a : Addr) (es : List Ent) (m : Mono) (c : Int), vs = [.ref d, .ref a, .int c] ∧ NdAt K P w H d es ∧ Dp K H (.ref a) (mD m) ∧ es.length ≤ 1000000 ∧
  Q .non (upd H d (ndO P w d (putN es m a (cp ((getN es m).getD 0 + c)))))
def spChk2 (K : PySem.W.Frag) (P : Program) (w : World) (C : Addr) : Sp := fun vs H Q E => ∃ (d : Addr) (es : List Ent), vs = [.ref d] ∧ NdAt K P w H d es ∧
  (400 < es.length → ∀ x H', Same H H' → H' x = some (.xd [("word", .str "terms")]) → E (.ref C) (some x) H') ∧ (es.length ≤ 400 → Q .non H)
section
variable {P : Program} {w : World} {K : PySem.W.Frag} {mg : Str → Option Value} {base : Heap} {T C fI : Addr}
end
end K26


set_option Elab.async false
set_option linter.all false
set_option maxRecDepth 100000
set_option maxHeartbeats 4000000
namespace K26
open PySem L2 Nd Bk Gd PySem.ExE
section
variable {P : Program} {w : World} {K : PySem.W.Frag} {mg : Str → Option Value} {base : Heap} {T C fI : Addr}
/-- the exponents' walk -/
theorem any_big {xs : Mono} : (xs.map fun x => decide (BEY ≤ x.2)).any id = decide (∃ x ∈ xs, BEY ≤ x.2) := by
  induction xs with
  | nil => simp
  | cons x r ih =>
    rw [List.map_cons, List.any_cons, ih]
    by_cases h : BEY ≤ x.2 <;> simp [h]
def spPolyR (K : PySem.W.Frag) (P : Program) (w : World) (C : Addr) : Sp := fun vs H Q E => ∃ (d : Addr) (es : List Ent), vs = [.ref d] ∧ NdAt K P w H d es ∧ es.length ≤ 1000 ∧ (∀ t ∈ bagOf es, t.1.length ≤ 1000) ∧
  (400 < es.length → ∀ x H', Same H H' → H' x = some (.xd [("word", .str "terms")]) → E (.ref C) (some x) H') ∧
  (es.length ≤ 400 → Big (bagOf es) → ∀ x H', But d H H' → H' x = some (.xd [("word", .str "figures")]) → E (.ref C) (some x) H') ∧
  (es.length ≤ 400 → ¬ Big (bagOf es) → ∀ v H', Same H H' → Dp K H' v (bD (srt (bagOf es))) → Q v H')
theorem big_srt {B : Poly} : Big (srt B) ↔ Big B := ⟨fun ⟨t, h1, h2⟩ => ⟨t, List.mem_mergeSort.mp h1, h2⟩, fun ⟨t, h1, h2⟩ => ⟨t, List.mem_mergeSort.mpr h1, h2⟩⟩
def spCkF2 (K : PySem.W.Frag) (C : Addr) : Sp := fun vs H Q E => ∃ (v : V) (B : Poly), vs = [v] ∧ Dp K H v (bD B) ∧ (∀ t ∈ B, t.1.length ≤ 1000) ∧
  (Big B → ∀ x H', Same H H' → H' x = some (.xd [("word", .str "figures")]) → E (.ref C) (some x) H') ∧ (¬ Big B → ∀ H', Same H H' → Q .non H')
end
end K26


set_option Elab.async false
set_option linter.all false
set_option maxRecDepth 100000
set_option maxHeartbeats 4000000
namespace K26
open PySem L2 Nd Bk Gd PySem.ExE
section
variable {κ : Type} [DecidableEq κ] [Ky κ]
theorem len_ge1 (l : Bag κ) (p : κ × Int) : l.length ≤ (add1 l p).length := by
  unfold add1 put
  split
  · rw [List.length_map]; exact Nat.le_refl _
  · rw [List.length_append]; exact Nat.le_add_right _ _
theorem len_geF : ∀ (ts l : Bag κ), l.length ≤ (ts.foldl add1 l).length
  | [], l => Nat.le_refl _
  | p :: ts, l => Nat.le_trans (len_ge1 l p) (len_geF ts (add1 l p))
theorem book_mono (ts us : Bag κ) : (book ts).length ≤ (book (ts ++ us)).length := by
  rw [book_app]
  exact len_geF us (book ts)
end
theorem Told.of {K : PySem.W.Frag} {C : Addr} {B : Poly} {H H1 : Hp} {Q : VK} {E : XK} {d : Addr} {es : List Ent} (t : Told K C B H Q E) (s : Same H H1) (nd : H d = none) (e : bagOf es = capB B) :
    (400 < es.length → ∀ x H', Same H1 H' → H' x = some (.xd [("word", .str "terms")]) → E (.ref C) (some x) H') ∧ (es.length ≤ 400 → Big (bagOf es) → ∀ x H', But d H1 H' → H' x = some (.xd [("word", .str "figures")]) → E (.ref C) (some x) H') ∧
    (es.length ≤ 400 → ¬ Big (bagOf es) → ∀ v H', Same H1 H' → Dp K H' v (bD (srt (bagOf es))) → Q v H') := by
  have el : es.length = B.length := by rw [← bagOf_len, e, cap_len]
  rw [el, e]
  refine ⟨fun h x H' s' hx => t.terms h x H' (s.trans s') hx, fun h b x H' s' hx => t.figs h ((big_cap B).mp b) x H' (sm_but s nd s') hx, fun h b v H' s' hv => ?_⟩
  have nb : ¬ Big B := fun q => b ((big_cap B).mpr q)
  rw [cap_id nb] at hv
  exact t.poly h nb v H' (s.trans s') hv
/-- what is asked of terms -/
structure Tms (p : Poly) : Prop where
  ok : POk p
  len : p.length ≤ 500
  mon : ∀ t ∈ p, t.1.length ≤ 500
  num : ∀ t ∈ p, t.2 < BEY
theorem Tms.szd {p : Poly} (h : Tms p) : Szd p := ⟨Nat.le_trans h.len (by decide), fun t ht => Nat.le_trans (h.mon t ht) (by decide)⟩
def spPlus2 (K : PySem.W.Frag) (C : Addr) : Sp := fun vs H Q E => ∃ (x y : V) (p q : Poly), vs = [x, y] ∧ FD K H x (bD p) ∧ FD K H y (bD q) ∧ Tms p ∧ Tms q ∧ Told K C (book (p ++ q)) H Q E
def spProd2 (K : PySem.W.Frag) (P : Program) (w : World) (C : Addr) : Sp := fun vs H Q E => ∃ (T1 T2 : Addr) (xs ys : List V) (p q : Poly), vs = [.ref T1, .ref T2] ∧ Fz K H T1 xs p ∧ Fz K H T2 ys q ∧ Tms p ∧ Tms q ∧ p.length * q.length ≤ 1000 ∧
  (400 < (book (prods p q)).length → ∀ x H', Same H H' → H' x = some (.xd [("word", .str "terms")]) → E (.ref C) (some x) H') ∧
  ∀ (d : Addr) (es : List Ent) (H' : Hp), H d = none → Same H H' → NdAt K P w H' d es → bagOf es = capB (book (prods p q)) → Q (.ref d) H'
def spTimes2 (K : PySem.W.Frag) (C : Addr) : Sp := fun vs H Q E => ∃ (x y : V) (p q : Poly), vs = [x, y] ∧ FD K H x (bD p) ∧ FD K H y (bD q) ∧ Tms p ∧ Tms q ∧ p.length * q.length ≤ 1000 ∧ Told K C (book (prods p q)) H Q E
section
variable {P : Program} {w : World} {K : PySem.W.Frag} {mg : Str → Option Value} {base : Heap} {T C fI : Addr}
end
end K26


set_option Elab.async false
set_option linter.all false
set_option maxRecDepth 100000
set_option maxHeartbeats 4000000
namespace K26
open PySem L2 Nd Bk Gd PySem.ExE
/-- a def that may raise, called where it doesn't -/
theorem calm0 {P : Program} {w : World} {K : PySem.W.Frag} {mg : Str → Option Value} {base : Heap} {k : Nat} {f : Addr} {fd : FuncData} {ps : List Str} {sp : Sp} (F : FnOk P w K mg base (L2.CX P w) k f fd ps sp) :
    FnOk P w K mg base CX0 k f fd ps (fun vs H Q _ => sp vs H Q fun _ _ _ => False) := by
  refine ⟨fun vs H Q E h => F.len _ _ _ _ h, fun A outer s H args us vs Q E room e0 bind rel h => ?_⟩
  refine codeAny_mono (F.run A outer s H args us vs Q _ room e0 bind rel h) ?_
  intro r s' q
  cases r with
  | error e =>
    obtain ⟨_, _, _, _, _, _, _, _, _, _, _, _, _, _, _, _, z⟩ := q
  | ok fl =>
    cases fl with
    | ret u => exact q
    | next => exact q.elim
    | brk => exact q.elim
    | cont => exact q.elim
/-- the polynomial of one token -/
def tokP (t : Str) : Poly := [([(t, 1)], 1)]
theorem asc_one {κ : Type} [DecidableEq κ] [Ky κ] (x : κ × Int) : Asc [x] := List.pairwise_singleton _ _
theorem pos_one {κ : Type} {x : κ × Int} (h : 0 < x.2) : Pos [x] := fun y hy => by rw [List.mem_singleton.mp hy]; exact h
theorem tokP_ok (t : Str) : POk (tokP t) := ⟨asc_one _, pos_one (by show (0 : Int) < 1; decide), fun x h => by rw [List.mem_singleton.mp h]; exact ⟨asc_one _, pos_one (by show (0 : Int) < 1; decide)⟩⟩
theorem one_ok {m : Mono} (hm : MOk m) {c : Int} (hc : 0 < c) : POk [(m, c)] := ⟨asc_one _, pos_one hc, fun x h => by rw [List.mem_singleton.mp h]; exact hm⟩
theorem times_single (a b : Mono) (c d : Int) (h : 0 < c * d) : timesP [(a, c)] [(b, d)] = [(mulM a b, c * d)] := nf_id (asc_one _) (pos_one h)
theorem plus_single {m : Mono} {c d : Int} (hc : 0 < c) (hd : 0 < d) : plusP [(m, c)] [(m, d)] = [(m, c + d)] := by
  refine one_form (nf_asc _) (asc_one _) (nf_pos (pos_append (pos_one hc) (pos_one hd))) (pos_one (by show 0 < c + d; omega)) fun f => ?_
  unfold plusP
  rw [nf_pr, pr_append, pr_cons, pr_cons, pr_cons, pr_nil]
  simp only [Int.add_mul]
  omega
section
variable {κ : Type} [DecidableEq κ] [Ky κ]
theorem pr_rep (k : Nat) (x : κ) (f : κ → Int) : pr (List.replicate k (x, (1 : Int))) f = k * f x := by
  induction k with
  | zero => simp [pr]
  | succ k ih =>
    rw [List.replicate_succ, pr_cons, ih]
    simp only [Int.natCast_add, Int.add_mul]
    omega
theorem pos_rep (k : Nat) (x : κ) : Pos (List.replicate k (x, (1 : Int))) := fun y hy => by rw [(List.mem_replicate.mp hy).2]; show (0 : Int) < 1; decide
/-- a bag's beginning and so many of the next key -/
def upTo (m : Bag κ) (i k : Nat) (x : κ) : Bag κ := nf (m.take i ++ List.replicate k (x, 1))
theorem pos_upTo {m : Bag κ} (h : Pos m) (i k : Nat) (x : κ) : Pos (m.take i ++ List.replicate k (x, (1 : Int))) := pos_append (fun p hp => h p (List.mem_of_mem_take hp)) (pos_rep k x)
theorem upTo_zero {m : Bag κ} (ha : Asc m) (h : Pos m) (i : Nat) (x : κ) : upTo m i 0 x = m.take i := by
  unfold upTo
  rw [List.replicate_zero, List.append_nil]
  exact nf_id (List.Pairwise.sublist (List.take_sublist _ _) ha) fun p hp => h p (List.mem_of_mem_take hp)
theorem upTo_succ {m : Bag κ} (h : Pos m) (i k : Nat) (x : κ) : nf (upTo m i k x ++ [(x, 1)]) = upTo m i (k + 1) x := by
  refine nf_eq (pos_append (nf_pos (pos_upTo h i k x)) (pos_one (by show (0 : Int) < 1; decide))) (pos_upTo h i (k + 1) x) fun f => ?_
  unfold upTo
  rw [pr_append, nf_pr, pr_append, pr_append, pr_rep, pr_rep, pr_cons, pr_nil]
  simp only [Int.natCast_add, Int.add_mul]
  omega
theorem upTo_full {m : Bag κ} (ha : Asc m) (h : Pos m) {i : Nat} {x : κ × Int} (e : m[i]? = some x) : upTo m i x.2.toNat x.1 = m.take (i + 1) := by
  have hx := h x (List.mem_of_getElem? e)
  have hp : Pos (m.take (i + 1)) := fun p hp => h p (List.mem_of_mem_take hp)
  have ha' : Asc (m.take (i + 1)) := List.Pairwise.sublist (List.take_sublist _ _) ha
  refine one_form (nf_asc _) ha' (nf_pos (pos_upTo h _ _ _)) hp fun f => ?_
  unfold upTo
  rw [nf_pr, pr_append, pr_rep, List.take_succ, e, pr_append]
  have e2 : ((x.2.toNat : Nat) : Int) = x.2 := Int.toNat_of_nonneg (by omega)
  rw [e2]
  show _ = pr (m.take i) f + pr [x] f
  rw [pr_cons, pr_nil, Int.add_zero]
end
theorem plus_next {p : Poly} (h : POk p) {i : Nat} {t : Mono × Int} (e : p[i]? = some t) : plusP (p.take i) [t] = p.take (i + 1) := by
  have hp : Pos (p.take (i + 1)) := fun x hx => h.2.1 x (List.mem_of_mem_take hx)
  have ha' : Asc (p.take (i + 1)) := List.Pairwise.sublist (List.take_sublist _ _) h.1
  have e1 : p.take i ++ [t] = p.take (i + 1) := by rw [List.take_succ, e]; rfl
  unfold plusP
  rw [e1]
  exact nf_id ha' hp
end K26


set_option Elab.async false
set_option linter.all false
set_option maxRecDepth 100000
set_option maxHeartbeats 4000000
namespace K26
open PySem L2 Nd Bk Gd PySem.ExE
/-- plus, times of forms, where nothing goes beyond -/
def spPlusF (K : PySem.W.Frag) : Sp := fun vs H Q _ => ∃ (x y : V) (p q : Poly), vs = [x, y] ∧ FD K H x (bD p) ∧ FD K H y (bD q) ∧ Tms p ∧ Tms q ∧ p.length + q.length ≤ 400 ∧ ¬ Big (book (p ++ q)) ∧ ∀ (v : V) (H' : Hp), Same H H' → Dp K H' v (bD (plusP p q)) → Q v H'
def spTimesF (K : PySem.W.Frag) : Sp := fun vs H Q _ => ∃ (x y : V) (p q : Poly), vs = [x, y] ∧ FD K H x (bD p) ∧ FD K H y (bD q) ∧ Tms p ∧ Tms q ∧ p.length * q.length ≤ 400 ∧ ¬ Big (book (prods p q)) ∧ ∀ (v : V) (H' : Hp), Same H H' → Dp K H' v (bD (timesP p q)) → Q v H'
theorem not_big {ts : Poly} (hp : Pos ts) (hs : S ts < BEY) (hm : ∀ t ∈ ts, Pos t.1 ∧ S t.1 < BEY) : ¬ Big (book ts) := fun ⟨t, ht, h⟩ => by
  have h1 := le_S (pos_book hp) ht
  rw [S_book] at h1
  obtain ⟨h2, h3⟩ := book_keys (Pk := fun m => Pos m ∧ S m < BEY) hm t ht
  rcases h with h | ⟨x, hx, h⟩
  · omega
  · have := le_S h2 hx
    omega
/-- so many terms, numbers and exponents that stay below -/
structure PZ (p : Poly) (l : Nat) (s d : Int) : Prop where
  ok : POk p
  len : p.length ≤ l
  sz : S p ≤ s
  dg : Dg p d
theorem PZ.tms {p : Poly} {l : Nat} {s d : Int} (z : PZ p l s d) (h1 : l ≤ 500) (h2 : s < BEY) (h3 : d ≤ 500) : Tms p := ⟨z.ok, Nat.le_trans z.len h1, fun t ht => by
    have := len_le_S (z.ok.2.2 t ht).2
    have := z.dg t ht
    omega, fun t ht => by
    have := le_S z.ok.2.1 ht
    have := z.sz
    omega⟩
theorem PZ.sz0 {p : Poly} {l : Nat} {s d : Int} (h : PZ p l s d) : 0 ≤ S p := S_nonneg h.ok.2.1
section
variable {K : PySem.W.Frag} {H : Hp} {x y : V} {p q : Poly} {l l' : Nat} {s s' d d' : Int} {Q : VK}
theorem go_plusF (hx : FD K H x (bD p)) (hy : FD K H y (bD q)) (zp : PZ p l s d) (zq : PZ q l' s' d') (h1 : l + l' ≤ 400) (h2 : s + s' < BEY) (h3 : d ≤ 500) (h4 : d' ≤ 500) (h5 : 0 ≤ s) (h6 : 0 ≤ s')
    (k : ∀ (v : V) (H' : Hp), Same H H' → Dp K H' v (bD (plusP p q)) → Q v H') : spPlusF K [x, y] H Q E0 := by
  have a1 := zp.len
  have a2 := zq.len
  have a3 := zp.sz
  have a4 := zq.sz
  have b0 : (500 : Int) < BEY := by decide +kernel
  refine ⟨x, y, p, q, rfl, hx, hy, zp.tms (by omega) (by omega) h3, zq.tms (by omega) (by omega) h4, by omega, ?_, k⟩
  refine not_big (pos_append zp.ok.2.1 zq.ok.2.1) (by rw [S_append]; omega) fun t ht => ?_
  rcases List.mem_append.mp ht with h | h
  · have := zp.dg t h
    exact ⟨(zp.ok.2.2 t h).2, by omega⟩
  · have := zq.dg t h
    exact ⟨(zq.ok.2.2 t h).2, by omega⟩
theorem go_timesF (hx : FD K H x (bD p)) (hy : FD K H y (bD q)) (zp : PZ p l s d) (zq : PZ q l' s' d') (h1 : l * l' ≤ 400) (h2 : s * s' < BEY) (h3 : d ≤ 250) (h4 : d' ≤ 250) (h5 : l ≤ 500) (h6 : l' ≤ 500) (h7 : s < BEY) (h8 : s' < BEY)
    (k : ∀ (v : V) (H' : Hp), Same H H' → Dp K H' v (bD (timesP p q)) → Q v H') : spTimesF K [x, y] H Q E0 := by
  have a1 := zp.len
  have a2 := zq.len
  have a3 : S p * S q ≤ s * s' := Int.mul_le_mul zp.sz zq.sz zq.sz0 (Int.le_trans zp.sz0 zp.sz)
  have b0 : (500 : Int) < BEY := by decide +kernel
  refine ⟨x, y, p, q, rfl, hx, hy, zp.tms h5 h7 (by omega), zq.tms h6 h8 (by omega), Nat.le_trans (Nat.mul_le_mul a1 a2) h1, ?_, k⟩
  refine not_big (pos_of_prods zp.ok zq.ok) (by rw [S_prods]; omega) fun t ht => ?_
  obtain ⟨a, ha, b, hb, rfl⟩ := mem_prods ht
  have e1 := zp.dg a ha
  have e2 := zq.dg b hb
  refine ⟨(mulM_ok (zp.ok.2.2 a ha) (zq.ok.2.2 b hb)).2, ?_⟩
  show S (mulM a.1 b.1) < BEY
  rw [S_mulM]
  omega
end
section
variable {P : Program} {w : World} {K : PySem.W.Frag} {mg : Str → Option Value} {base : Heap} {C : Addr}
theorem plusF_of {k : Nat} {f : Addr} {fd : FuncData} (F : FnOk P w K mg base (L2.CX P w) k f fd ["p", "q"] (spPlus2 K C)) : FnOk P w K mg base CX0 k f fd ["p", "q"] (spPlusF K) := by
  refine (calm0 F).imp ?_
  rintro vs H Q E ⟨x, y, p, q, rfl, hx, hy, zp, zq, hl, nb, k⟩
  have lb : (book (p ++ q)).length ≤ 400 := Nat.le_trans (len_book _) (by rw [List.length_append]; exact hl)
  exact ⟨x, y, p, q, rfl, hx, hy, zp, zq, ⟨fun h => by omega, fun _ h => absurd h nb, fun _ _ v H' s' hv => k v H' s' hv⟩⟩
theorem timesF_of {k : Nat} {f : Addr} {fd : FuncData} (F : FnOk P w K mg base (L2.CX P w) k f fd ["p", "q"] (spTimes2 K C)) : FnOk P w K mg base CX0 k f fd ["p", "q"] (spTimesF K) := by
  refine (calm0 F).imp ?_
  rintro vs H Q E ⟨x, y, p, q, rfl, hx, hy, zp, zq, hl, nb, k⟩
  have lb : (book (prods p q)).length ≤ 400 := Nat.le_trans (len_book _) (by rw [len_prods]; exact hl)
  exact ⟨x, y, p, q, rfl, hx, hy, zp, zq, by omega, ⟨fun h => by omega, fun _ h => absurd h nb, fun _ _ v H' s' hv => k v H' s' hv⟩⟩
def spOfTok (K : PySem.W.Frag) : Sp := fun vs H Q _ => ∃ t : Str, vs = [.str t] ∧ ∀ (v : V) (H' : Hp), Same H H' → Dp K H' v (bD (tokP t)) → Q v H'
end
end K26


set_option Elab.async false
set_option linter.all false
set_option maxRecDepth 100000
set_option maxHeartbeats 4000000
namespace K26
open PySem L2 Nd Bk Gd PySem.ExE
theorem ak_int {K : PySem.W.Frag} {H : Hp} {n : Nat} {x y : V} {i : Int} (hx : Dp K H x (.int i)) (hy : Dp K H y (.int i)) : Alike K H n x y := by
  cases dp_int hx
  cases dp_int hy
  cases n with
  | zero => exact ⟨rfl, trivial⟩
  | succ n => exact .inl ⟨rfl, trivial⟩
theorem ak_str {K : PySem.W.Frag} {H : Hp} {n : Nat} {x y : V} {i : Str} (hx : Dp K H x (.str i)) (hy : Dp K H y (.str i)) : Alike K H n x y := by
  cases dp_str hx
  cases dp_str hy
  cases n with
  | zero => exact ⟨rfl, trivial⟩
  | succ n => exact .inl ⟨rfl, trivial⟩
theorem ak_sc {K : PySem.W.Frag} {H : Hp} {n : Nat} {x y : V} {d : PyData} (s : Sc d) (hx : Dp K H x d) (hy : Dp K H y d) : Alike K H n x y := by
  cases s with
  | int i => exact ak_int hx hy
  | non =>
    cases hx
    cases hy
    cases n with
    | zero => exact ⟨rfl, trivial⟩
    | succ n => exact .inl ⟨rfl, trivial⟩
  | bl b =>
    cases hx
    cases hy
    cases n with
    | zero => exact ⟨rfl, trivial⟩
    | succ n => exact .inl ⟨rfl, trivial⟩
/-- the same data of tuples, so deep -/
theorem ak_dp {K : PySem.W.Frag} {H : Hp} : ∀ {n : Nat} {d : PyData} {x y : V}, Okd n d → Dp K H x d → Dp K H y d → Alike K H n x y
  | 0, d, x, y, h, hx, hy => by
    rcases h with h | ⟨z, rfl⟩
    · exact ak_sc h hx hy
    · exact ak_str hx hy
  | n + 1, d, x, y, h, hx, hy => by
    rcases h with h | ⟨z, rfl⟩ | ⟨ds, rfl, hl, hds⟩
    · exact ak_sc h hx hy
    · exact ak_str hx hy
    · obtain ⟨a, xs, rfl, h1, h2⟩ := dp_tup hx
      obtain ⟨b, ys, rfl, h3, h4⟩ := dp_tup hy
      refine .inr ⟨a, b, xs, ys, rfl, rfl, .inl ⟨h1, h3⟩, by rw [dpAll_len h2, dpAll_len h4], by rw [dpAll_len h4]; omega, fun i u v e1 e2 => ?_⟩
      obtain ⟨d1, q1, r1⟩ := dpAll_get h2 e1
      obtain ⟨d2, q2, r2⟩ := dpAll_get h4 e2
      rw [q1] at q2
      cases q2
      exact ak_dp (hds d1 (List.mem_of_getElem? q1)) r1 r2
theorem okd_more : ∀ {n : Nat} {d : PyData}, Okd n d → Okd (n + 1) d
  | 0, d, h => h.elim .inl fun z => .inr (.inl z)
  | n + 1, d, h => by
    rcases h with h | h | ⟨ds, rfl, hl, hds⟩
    · exact .inl h
    · exact .inr (.inl h)
    · exact .inr (.inr ⟨ds, rfl, hl, fun e he => okd_more (hds e he)⟩)
theorem okd_mono {m : Mono} (h : m.length ≤ 1000) : Okd 2 (bD m) := .inr (.inr ⟨_, rfl, by rw [List.length_map]; exact h, fun e he => by
  obtain ⟨p, _, rfl⟩ := List.mem_map.mp he
  refine .inr (.inr ⟨_, rfl, by show 2 ≤ 1000; decide, fun e he => ?_⟩)
  simp only [List.mem_cons, List.not_mem_nil, or_false] at he
  rcases he with rfl | rfl
  · exact .inr ⟨_, rfl⟩
  · exact .inl (.int _)⟩)
theorem okd_poly {p : Poly} (h : Szd p) : Okd 4 (bD p) := .inr (.inr ⟨_, rfl, by rw [List.length_map]; exact h.1, fun e he => by
  obtain ⟨t, ht, rfl⟩ := List.mem_map.mp he
  refine .inr (.inr ⟨_, rfl, by show 2 ≤ 1000; decide, fun e he => ?_⟩)
  simp only [List.mem_cons, List.not_mem_nil, or_false] at he
  rcases he with rfl | rfl
  · exact okd_mono (h.2 t ht)
  · exact .inl (.int _)⟩)
theorem S_le5 {l : Poly} (hl : l.length ≤ 5) (h : ∀ t ∈ l, t.2 ≤ 5) : S l ≤ 25 := by
  have key : ∀ (l : Poly) (n : Nat), l.length ≤ n → (∀ t ∈ l, t.2 ≤ 5) → S l ≤ 5 * n := by
    intro l
    induction l with
    | nil =>
      intro n _ _
      show (0 : Int) ≤ 5 * n
      omega
    | cons x r ih =>
      intro n hl h
      have h1 := h x List.mem_cons_self
      rw [List.length_cons] at hl
      have h2 := ih (n - 1) (by omega) fun t ht => h t (List.mem_cons_of_mem _ ht)
      have e : S (x :: r) = x.2 * 1 + S r := by unfold S pr; simp
      omega
  exact key l 5 hl h
/-- few terms of small numbers -/
structure PF (p : Poly) : Prop where
  ok : POk p
  len : p.length ≤ 5
  num : ∀ t ∈ p, t.2 ≤ 5
  deg : Dg p 48
def spBuilt (K : PySem.W.Frag) : Sp := fun vs H Q _ => ∃ (b v : V) (p : Poly), vs = [b, v] ∧ Dp K H v (bD p) ∧ PF p ∧ ∀ H', Same H H' → Q (.bl true) H'
/-- so many times the monomial -/
def manyP (m : Mono) (k : Nat) : Poly := if k = 0 then [] else [(m, (k : Int))]
theorem manyP_succ {m : Mono} (hm : MOk m) (k : Nat) : plusP (manyP m k) [(m, 1)] = manyP m (k + 1) := by
  unfold manyP
  by_cases h : k = 0
  · subst h
    rw [if_pos rfl, if_neg (by decide), zero_plus (one_ok hm (by decide))]
    rfl
  · rw [if_neg h, if_neg (by omega), plus_single (by omega) (by decide)]
    rfl
theorem manyP_pz {m : Mono} (hm : MOk m) (hd : S m ≤ 48) {k : Nat} (hk : k ≤ 5) : PZ (manyP m k) 1 5 48 := by
  unfold manyP
  by_cases h : k = 0
  · rw [if_pos h]
    exact ⟨pok_zero, by decide, by decide, fun _ z => nomatch z⟩
  · rw [if_neg h]
    refine ⟨one_ok hm (by omega), Nat.le_refl _, ?_, fun t ht => ?_⟩
    · show S [(m, (k : Int))] ≤ 5
      unfold S
      rw [pr_cons, pr_nil]
      simp only
      omega
    · rw [List.mem_singleton.mp ht]
      exact hd
section
variable {P : Program} {w : World} {K : PySem.W.Frag} {mg : Str → Option Value} {base : Heap}
end
end K26


set_option Elab.async false
set_option linter.all false
set_option maxRecDepth 100000
set_option maxHeartbeats 4000000
namespace K26
open PySem L2 Nd Bk Gd PySem.ExE
def AskIs (B : Poly) (d : PyData) : Prop := (400 < B.length ∧ d = .tuple [.str "many", .str "terms"]) ∨ (B.length ≤ 400 ∧ Big B ∧ d = .tuple [.str "many", .str "figures"]) ∨ (B.length ≤ 400 ∧ ¬ Big B ∧ d = .tuple [.str "told", bD (srt B)])
def spAsk (K : PySem.W.Frag) : Sp := fun vs H Q _ => ∃ (s : Bool) (x y : V) (p q : Poly), vs = [.bl s, x, y] ∧ FD K H x (bD p) ∧ FD K H y (bD q) ∧ Tms p ∧ Tms q ∧ p.length * q.length ≤ 1000 ∧
  ∀ (v : V) (d : PyData) (H' : Hp), AskIs (book (if s = true then p ++ q else prods p q)) d → Same H H' → Dp K H' v d → Q v H'
section
variable {P : Program} {w : World} {K : PySem.W.Frag} {mg : Str → Option Value} {base : Heap} {T C fI : Addr}
theorem xf_of {C f fI} (E : EC K C T f fI) : XfC K C := ⟨E.ga, E.gg, E.exC, E.hd⟩
end
end K26


set_option Elab.async false
set_option linter.all false
set_option maxRecDepth 100000
set_option maxHeartbeats 8000000
namespace K26
open PySem L2 Nd Bk Gd PySem.ExE
/-! a form is as long as what it is a form of -/
mutual
theorem flat_short : ∀ d : PyData, shortD d = shortD (flat d) ∧ cost d = cost (flat d) ∧ d.depth = (flat d).depth
  | .list xs => by
    obtain ⟨h1, h2, h3⟩ := flats_short xs
    simp [flat, shortD, cost, PyData.depth, h1, h2, h3]
  | .tuple xs => by
    obtain ⟨h1, h2, h3⟩ := flats_short xs
    simp [flat, shortD, cost, PyData.depth, h1, h2, h3]
  | .none => by simp [flat]
  | .bool _ => by simp [flat]
  | .int _ => by simp [flat]
  | .str _ => by simp [flat]
  | .dict _ => by simp [flat]
theorem flats_short : ∀ ds : List PyData, shortDs ds = shortDs (flats ds) ∧ costs ds = costs (flats ds) ∧ PyData.depthAll ds = PyData.depthAll (flats ds)
  | [] => by simp [flats]
  | d :: ds => by
    obtain ⟨h1, h2, h3⟩ := flat_short d
    obtain ⟨g1, g2, g3⟩ := flats_short ds
    simp [flats, shortDs, costs, PyData.depthAll, ← h1, ← h2, ← h3, ← g1, ← g2, ← g3]
end
/-- may be shown -/
structure Sho (p : Poly) : Prop where
  sh : shortD (bD p) = true
  co : cost (bD p) ≤ 1000000
  de : (bD p).depth ≤ 20
theorem fp_ref {K : PySem.W.Frag} {H : Hp} {av : List Addr} {v : V} {d : PyData} {l : Poly} (h : Fp K H av v d) (e : flat d = bD l) : ∃ a, v = .ref a := by
  cases h with
  | non => simp [flat, bD] at e
  | bl b => simp [flat, bD] at e
  | int i => simp [flat, bD] at e
  | str x => simp [flat, bD] at e
  | lst h1 h2 h3 => exact ⟨_, rfl⟩
  | tup h1 h2 => exact ⟨_, rfl⟩
theorem Sho.of {p : Poly} (s : Sho p) {d : PyData} (e : flat d = bD p) : shortD d = true ∧ cost d ≤ 1000000 ∧ d.depth ≤ 20 := by
  obtain ⟨h1, h2, h3⟩ := flat_short d
  rw [h1, h2, h3, e]
  exact ⟨s.sh, s.co, s.de⟩
/-- the degree; the tokens, rising -/
def degP (p : Poly) : Int := p.foldl (fun b t => if S t.1 > b then S t.1 else b) 0
def tokK (p : Poly) : List Str := sortK ((p.flatMap fun t => t.1.map (·.1)).foldl (fun acc t => if t ∈ acc then acc else acc ++ [t]) [])
def tkD (p : Poly) : PyData := .tuple ((tokK p).map .str)
def spDeg (K : PySem.W.Frag) : Sp := fun vs H Q _ => ∃ (v : V) (p : Poly), vs = [v] ∧ FD K H v (bD p) ∧ POk p ∧ Szd p ∧ ∀ H', Same H H' → Q (.int (degP p)) H'
def spTks (K : PySem.W.Frag) : Sp := fun vs H Q _ => ∃ (v : V) (p : Poly), vs = [v] ∧ FD K H v (bD p) ∧ POk p ∧ Szd p ∧ (tokK p).length ≤ 1000 ∧ ∀ (v' : V) (H' : Hp), Same H H' → Dp K H' v' (tkD p) → Q v' H'
def spLTks (K : PySem.W.Frag) : Sp := fun vs H Q _ => ∃ (v : V) (p : Poly), vs = [v] ∧ Dp K H v (bD p) ∧ POk p ∧ Szd p ∧ (tokK p).length ≤ 1000 ∧ ∀ (l : Addr) (ys : List V) (H' : Hp), H l = none → Same H H' → H' l = some (.lst ys) → DpAll K H' ys ((tokK p).map .str) → Q (.ref l) H'
def spRight (K : PySem.W.Frag) : Sp := fun vs H Q _ => ∃ (b c : Addr) (ns : List Int) (x y : V) (p q : Poly), vs = [.ref b, x, y] ∧ BoxAt H b c ns ∧ Dp K H x (bD p) ∧ Dp K H y (bD q) ∧ PZ p 8 8000 48 ∧ PZ q 8 8000 48 ∧ Sho p ∧ Sho q ∧ (tokK p).length ≤ 1000 ∧
  ∀ H', BoxAt H' b c ns → But b H H' → Q (.bl true) H'
/-- keywords of two, told the other way round -/
def sw2 {α : Type} (us : List α) (l : List α) : List α := match us, l with
  | [], [a, b] => [b, a]
  | _, _ => []
def kw1 {α : Type} (us : List α) (l : List α) : List α := match us, l with
  | [], [a] => [a]
  | _, _ => []
theorem ak_l {K : PySem.W.Frag} {H : Hp} {A B : Addr} {xs ys : List V} {ds : List PyData} (h1 : H A = some (.lst xs)) (h2 : H B = some (.lst ys)) (b1 : DpAll K H xs ds) (b2 : DpAll K H ys ds) (hl : ds.length ≤ 10) (hz : ∀ d ∈ ds, Okd 4 d) : Alike K H 5 (.ref A) (.ref B) := by
  refine .inr ⟨A, B, xs, ys, rfl, rfl, .inr ⟨SqL.of h1, SqL.of h2⟩, by rw [dpAll_len b1, dpAll_len b2], by rw [dpAll_len b2]; omega, fun i u v e1 e2 => ?_⟩
  obtain ⟨d1, q1, r1⟩ := dpAll_get b1 e1
  obtain ⟨d2, q2, r2⟩ := dpAll_get b2 e2
  rw [q1] at q2
  cases q2
  exact ak_dp (hz d1 (List.mem_of_getElem? q1)) r1 r2
theorem okd_tks {p : Poly} (h : (tokK p).length ≤ 1000) : Okd 4 (tkD p) := okd_more (okd_more (okd_more (.inr (.inr ⟨_, rfl, by rw [List.length_map]; exact h, fun e he => by
  obtain ⟨z, _, rfl⟩ := List.mem_map.mp he
  exact .inr ⟨_, rfl⟩⟩))))
/-- told and due: lists of data of one kind -/
theorem ak_lists {K : PySem.W.Frag} {H : Hp} {A B : Addr} {xs ys : List V} {ds : List PyData} (nA : H A = none) (nB : upd H A (.lst xs) B = none) (a1 : DpAll K H xs ds) (a2 : DpAll K H ys ds) (hl : ds.length ≤ 10) (hz : ∀ d ∈ ds, Okd 4 d) :
    Alike K (upd (upd H A (.lst xs)) B (.lst ys)) 5 (.ref A) (.ref B) ∧ Same H (upd (upd H A (.lst xs)) B (.lst ys)) := by
  have s1 : Same H (upd H A (.lst xs)) := sm_new sm_refl nA
  have s2 : Same (upd H A (.lst xs)) (upd (upd H A (.lst xs)) B (.lst ys)) := sm_new sm_refl nB
  have hA : upd (upd H A (.lst xs)) B (.lst ys) A = some (.lst xs) := s2 _ _ upd_same
  have s := s1.trans s2
  have b1 := dpAll_same s a1
  have b2 := dpAll_same s a2
  refine ⟨.inr ⟨A, B, xs, ys, rfl, rfl, .inr ⟨SqL.of hA, SqL.of upd_same⟩, by rw [dpAll_len b1, dpAll_len b2], by rw [dpAll_len b2]; omega, fun i u v e1 e2 => ?_⟩, s⟩
  obtain ⟨d1, q1, r1⟩ := dpAll_get b1 e1
  obtain ⟨d2, q2, r2⟩ := dpAll_get b2 e2
  rw [q1] at q2
  cases q2
  exact ak_dp (hz d1 (List.mem_of_getElem? q1)) r1 r2
section
variable {P : Program} {w : World} {K : PySem.W.Frag} {mg : Str → Option Value} {base : Heap}
/-- a def as it may be called: by position and by keywords -/
structure Dk (P : Program) (w : World) (K : PySem.W.Frag) (mg : Str → Option Value) (base : Heap) (k : Nat) (x : Str) (ps ks : List Str) (g : List Value → List Value → List Value) (gV : List V → List V → List V) (sp : Sp) : Prop where
  ok : ∃ (f : Addr) (fd : FuncData), mg x = some (.ref f) ∧ PySem.W.keepIn K (.ref f) = true ∧ Binds K fd ps [] ∧ KBinds K fd ps ks g gV ∧ FnOk P w K mg base CX0 k f fd ps sp
end
end K26


set_option Elab.async false
set_option linter.all false
set_option maxRecDepth 100000
set_option maxHeartbeats 4000000
namespace K26
open PySem L2 Nd Bk Gd PySem.ExE
theorem S_sum (m : Mono) : S m = (m.map (·.2)).sum := by
  induction m with
  | nil => rfl
  | cons x r ih =>
    have e : S (x :: r) = x.2 * 1 + S r := by unfold S pr; simp
    rw [e, ih, List.map_cons, List.sum_cons]
    omega
theorem fd_ix {K : PySem.W.Frag} {H : Hp} {U : Addr} {k : V} {c : Int} (h : SqL K H U [k, .int c] ∨ SqT K H U [k, .int c]) (Q : VK) : (Q (.int c) H → rIx K (.ref U) (.int 1) H Q) ∧ (Q k H → rIx K (.ref U) (.int 0) H Q) := by
  rcases h with h | h
  · exact ⟨fun q => .inl ⟨U, _, _, _, rfl, rfl, h, rfl, q⟩, fun q => .inl ⟨U, _, _, _, rfl, rfl, h, rfl, q⟩⟩
  · exact ⟨fun q => .inr (.inl ⟨U, _, _, _, rfl, rfl, h, rfl, q⟩), fun q => .inr (.inl ⟨U, _, _, _, rfl, rfl, h, rfl, q⟩)⟩
theorem degP_take {p : Poly} {i : Nat} {t : Mono × Int} (h : p[i]? = some t) : degP (p.take (i + 1)) = if S t.1 > degP (p.take i) then S t.1 else degP (p.take i) := by
  unfold degP
  rw [List.take_succ, h]
  simp
section
variable {P : Program} {w : World} {K : PySem.W.Frag} {mg : Str → Option Value} {base : Heap}
end
/-! the tokens, each once -/
def dd (acc : List Str) (t : Str) : List Str := if t ∈ acc then acc else acc ++ [t]
def seen (p : Poly) : List Str := (p.flatMap fun t => t.1.map (·.1)).foldl dd []
theorem tokK_seen (p : Poly) : tokK p = sortK (seen p) := rfl
theorem dd_nodup : ∀ (l acc : List Str), acc.Nodup → (l.foldl dd acc).Nodup
  | [], _, h => h
  | t :: l, acc, h => by
    refine dd_nodup l (dd acc t) ?_
    unfold dd
    split
    · exact h
    · rename_i q
      rw [List.nodup_append]
      refine ⟨h, by simp, fun a ha b hb e => ?_⟩
      rw [List.mem_singleton] at hb
      exact q (by rw [← hb, ← e]; exact ha)
theorem dd_filter : ∀ (l acc : List Str), l.Nodup → l.foldl dd acc = acc ++ l.filter fun t => decide (t ∉ acc)
  | [], acc, _ => by simp
  | t :: l, acc, h => by
    obtain ⟨h1, h2⟩ := List.nodup_cons.mp h
    rw [List.foldl_cons, dd_filter l (dd acc t) h2]
    unfold dd
    by_cases q : t ∈ acc
    · rw [if_pos q, List.filter_cons, if_neg (by simp [q])]
    · rw [if_neg q, List.filter_cons, if_pos (by simp [q]), List.append_assoc, List.singleton_append]
      congr 2
      refine List.filter_congr fun x hx => ?_
      have : x ≠ t := fun e => h1 (by rw [← e]; exact hx)
      simp [this]
theorem seen_take {p : Poly} (h : POk p) {i : Nat} {t : Mono × Int} (e : p[i]? = some t) : seen (p.take (i + 1)) = seen (p.take i) ++ (t.1.map (·.1)).filter fun x => decide (x ∉ seen (p.take i)) := by
  unfold seen
  rw [List.take_succ, e, List.flatMap_append, List.foldl_append]
  have : (some t).toList.flatMap (fun t : Mono × Int => t.1.map (·.1)) = t.1.map (·.1) := by simp
  rw [this]
  exact dd_filter _ _ (asc_nodup (h.2.2 t (List.mem_of_getElem? e)).1)
theorem seen_nodup (p : Poly) : (seen p).Nodup := dd_nodup _ [] List.nodup_nil
theorem strs_dp {K : PySem.W.Frag} {H : Hp} : ∀ l : List Str, DpAll K H (l.map V.str) (l.map Ky.enc)
  | [] => .nil
  | x :: l => .cons (.str x) (strs_dp l)
theorem inV_strs (x : Str) (l : List Str) : (!inV (V.str x) (l.map V.str)) = decide (x ∉ l) := by
  have h : inV (V.str x) (l.map V.str) = decide (x ∈ l) := by
    unfold inV
    induction l with
    | nil => simp
    | cons y r ih =>
      rw [List.map_cons, List.any_cons, ih]
      have e : eqV (V.str y) (V.str x) = decide (y = x) := by
        show (y == x) = _
        by_cases q : y = x
        · rw [q, decide_eq_true rfl]
          exact beq_self_eq_true x
        · rw [decide_eq_false q]
          exact beq_eq_false_iff_ne.mpr q
      rw [e]
      by_cases q : y = x
      · simp [q]
      · have q' : x ≠ y := fun z => q z.symm
        simp [q, q']
  rw [h]
  by_cases q : x ∈ l <;> simp [q]
theorem flat_strs' (l : List Str) : (l.map V.str).all flatV = true := by
  rw [List.all_eq_true]
  intro v hv
  obtain ⟨x, _, rfl⟩ := List.mem_map.mp hv
  rfl
section
variable {P : Program} {w : World} {K : PySem.W.Frag} {mg : Str → Option Value} {base : Heap}
theorem dd_grow : ∀ (l acc : List Str), acc.length ≤ (l.foldl dd acc).length
  | [], _ => Nat.le_refl _
  | t :: l, acc => by
    refine Nat.le_trans ?_ (dd_grow l (dd acc t))
    unfold dd
    split
    · exact Nat.le_refl _
    · rw [List.length_append]
      omega
theorem seen_le (p : Poly) (i : Nat) : (seen (p.take i)).length ≤ (tokK p).length := by
  rw [tokK_seen, sortK_len (seen_nodup p)]
  have e : seen p = ((p.drop i).flatMap fun t => t.1.map (·.1)).foldl dd (seen (p.take i)) := by
    unfold seen
    rw [← List.foldl_append, ← List.flatMap_append, List.take_append_drop]
  rw [e]
  exact dd_grow _ _
end
end K26


set_option Elab.async false
set_option linter.all false
set_option maxRecDepth 100000
set_option maxHeartbeats 2000000
/-! max(xs, default = d) -/
namespace Gd
open PySem PySem.Spec PyProof.Rows L2
section
variable {prog : Program} {w : World} {A : Around} {R : Result → Shared → Prop} {I S : Addr} {fp wr : List Addr} {n : Nat} {P : Nat → Value → Prop} {St : Nat → Heap → Prop} {bt : Nat → Nat → Bool} {d : Value}
/-- what the loop holds so far -/
def Held (P : Nat → Value → Prop) (bt : Nat → Nat → Bool) (j : Nat) (xs : Array Value) : Prop := (j = 0 ∧ xs = #[]) ∨ ∃ i v, j = i + 1 ∧ xs = #[v, v] ∧ P (argBest bt i) v
theorem maxD_loop (W : Walks prog w A.in1 I fp wr n P St) (cmp : CmpOf prog w A.in1 .Gt P bt) (off : S ∉ fp) : ∀ (k : Nat) {j : Nat} {s : Shared} {xs : Array Value} {c : Nat}, j + k = n → St j s.heap → Held P bt j xs →
    s.heap.get? S = some { cls := .type "list", dict := none, data := .seq xs c, slots := #[] } →
    (∀ v h' tk, ((n = 0 ∧ v = d) ∨ (0 < n ∧ P (argBest bt (n - 1)) v)) → (∀ b o, b ∉ wr → b ≠ S → s.heap.get? b = some o → h'.get? b = some o) → R (.ok (.ret v)) { s with heap := h', toks := tk }) →
    codeAny (model prog w) A (.builtin "max.loop" ⟨[.ref I, .none, .ref S], [("default", d)]⟩) R s := by
  have out : S ∉ wr := fun h => off (W.sub _ h)
  have nm : (toString "max" ++ toString ".loop" : String) = "max.loop" := by decide
  intro k
  induction k with
  | zero =>
    intro j s xs c e st held at_ fin
    apply codeAny_builtin F.entry_max_loop
    rw [Around.under_plainId F.plain_max_loop _]
    show wpAny _ A.in1 (seqItems? (.ref S) >>= _) _ _ s
    apply wpAny_bind
    apply wpAny_seqItems at_ rfl
    rcases held with ⟨j0, rfl⟩ | ⟨i, v, ji, rfl, best⟩
    · show wpAny _ A.in1 (tryCatch (pyNext (.ref I)) _ >>= _) _ _ s
      apply wpAny_bind
      refine wpAny_tryCatch (W.done s _ _ (by rw [show n = j by omega]; exact st) fun h' tk keep => ?_)
      refine wpAny_bind (wpAny_rule (wpAny_pure ?_))
      exact fin d h' tk (.inl ⟨by omega, rfl⟩) fun b o hb _ q => keep b o hb q
    · show wpAny _ A.in1 (tryCatch (pyNext (.ref I)) _ >>= _) _ _ s
      apply wpAny_bind
      refine wpAny_tryCatch (W.done s _ _ (by rw [show n = j by omega]; exact st) fun h' tk keep => ?_)
      have at2 := keep S _ out at_
      show wpAny _ A.in1 (updateSeq S (fun _ => #[]) >>= _) _ _ _
      apply wpAny_bind
      refine wpAny_updateSeq at2 rfl (wpAny_bind (wpAny_letGo (wpAny_pure ?_)))
      refine fin v _ tk (.inr ⟨by omega, by rw [show n - 1 = i by omega]; exact best⟩) fun b o hb ne q => ?_
      exact (Heap.get?_update_other _ _ (Ne.symm ne)).trans (keep b o hb q)
  | succ k ih =>
    intro j s xs c e st held at_ fin
    apply codeAny_builtin F.entry_max_loop
    rw [Around.under_plainId F.plain_max_loop _]
    show wpAny _ A.in1 (seqItems? (.ref S) >>= _) _ _ s
    apply wpAny_bind
    apply wpAny_seqItems at_ rfl
    rcases held with ⟨j0, rfl⟩ | ⟨i, vb, ji, rfl, best⟩
    · show wpAny _ A.in1 (tryCatch (pyNext (.ref I)) _ >>= _) _ _ s
      apply wpAny_bind
      refine wpAny_tryCatch (W.item j s _ _ (by omega) st fun v h' tk pv st' keep => ?_)
      have at2 := keep S _ out at_
      show wpAny _ A.in1 (updateSeq S (fun _ => #[v, v]) >>= _) _ _ _
      apply wpAny_bind
      apply wpAny_updateSeq at2 rfl
      rw [nm]
      refine wpAny_pure ⟨plainId_quiet F.plain_max_loop _, ih (j := j + 1) (by omega) (W.frame _ _ _ st' fun b hb o q => ?_) (.inr ⟨j, v, rfl, rfl, ?_⟩) (Heap.get?_update_self _ at2 rfl) fun v' h2 tk2 got keep2 => ?_⟩
      · exact (Heap.get?_update_other _ _ (fun z : S = b => off (by rw [z]; exact hb))).trans q
      · subst j0
        exact pv
      · exact fin v' h2 tk2 got fun b o hb ne q => keep2 b o hb ne ((Heap.get?_update_other _ _ (Ne.symm ne)).trans (keep b o hb q))
    · subst ji
      show wpAny _ A.in1 (tryCatch (pyNext (.ref I)) _ >>= _) _ _ s
      apply wpAny_bind
      refine wpAny_tryCatch (W.item (i + 1) s _ _ (by omega) st fun v h' tk pv st' keep => ?_)
      have at2 := keep S _ out at_
      show wpAny _ A.in1 (tryCatch (holding [v, v] (richCompare .Gt v vb >>= _)) _ >>= _) _ _ _
      apply wpAny_bind
      apply wpAny_tryCatch
      apply wpAny_holding
      apply wpAny_bind
      refine cmp (i + 1) (argBest bt i) v vb _ _ _ pv best ?_
      refine wpAny_bind (wpAny_holding (wpAny_truthy_bool ?_))
      refine wpAny_bind (wpAny_letGo (wpAny_pure ?_))
      cases hb : bt (i + 1) (argBest bt i) with
      | true =>
        simp only [if_true]
        apply wpAny_bind
        refine wpAny_updateSeq at2 rfl (wpAny_bind (wpAny_letGo ?_))
        rw [nm]
        refine wpAny_pure ⟨plainId_quiet F.plain_max_loop _, ih (j := i + 1 + 1) (by omega) (W.frame _ _ _ st' fun b hb o q => ?_) (.inr ⟨i + 1, v, rfl, rfl, by simp only [argBest, hb, if_true]; exact pv⟩) (Heap.get?_update_self _ at2 rfl) fun v' h2 tk2 got keep2 => ?_⟩
        · exact (Heap.get?_update_other _ _ (fun z : S = b => off (by rw [z]; exact hb))).trans q
        · exact fin v' h2 tk2 got fun b o hb ne q => keep2 b o hb ne ((Heap.get?_update_other _ _ (Ne.symm ne)).trans (keep b o hb q))
      | false =>
        simp only [Bool.false_eq_true, if_false]
        refine wpAny_bind (wpAny_letGo ?_)
        rw [nm]
        refine wpAny_pure ⟨plainId_quiet F.plain_max_loop _, ih (j := i + 1 + 1) (by omega) st' (.inr ⟨i + 1, vb, rfl, rfl, by simp only [argBest, hb, Bool.false_eq_true, if_false]; exact best⟩) at2 fun v' h2 tk2 got keep2 => ?_⟩
        exact fin v' h2 tk2 got fun b o hb ne q => keep2 b o hb ne (keep b o hb q)
end
theorem args_maxD (a d : Value) : argsOk "max" ⟨[a], [("default", d)]⟩ := by
  unfold argsOk
  kernel_rfl
section
variable {prog : Program} {w : World} {A : Around} {E : Value → Shared → Prop} {s : Shared} {l : Addr} {its : List Value} {ns : List Int} {Q : Value → Shared → Prop} {d : Value}
theorem maxD_call (calm : A.handled = none) (here : s.heap.IsList l its.toArray) (are : IntsAre its ns)
    (fin : ∀ v h' tk, ((ns = [] ∧ v = d) ∨ ∃ m t, v = .int m t ∧ m ∈ ns ∧ ∀ y ∈ ns, y ≤ m) → (∀ b o, s.heap.get? b = some o → h'.get? b = some o) → Q v { s with heap := h', toks := tk }) : wpAny (model prog w) A (call (.builtin "max") [.ref l] [("default", d)]) Q E s := by
  obtain ⟨xs, ex⟩ := are.allInts.items
  have nums : numsOf (intItems xs).toList = ns := by
    rw [← ex]
    exact are.numsOf
  rw [nums_intItems] at nums
  subst nums
  rw [ex] at here
  have nm : (toString "max" ++ toString ".loop" : String) = "max.loop" := by decide
  apply wpAny_call
  apply codeAny_call_builtin F.plain_max F.entry_max
  simp only [checkBuiltinCall, F.kind_max]
  have body : wpAny (model prog w) A.in1 (Builtin.«max» ⟨[.ref l], [("default", d)]⟩) (fun fin' s' => match fin' with
      | .done f => (match (Except.ok f : Result) with | .ok (.ret v) => Q v s' | .ok _ => False | .error e => E e s')
      | .again c' => c'.quiet = true ∧ codeAny (model prog w) A c' (fun r s' => match r with | .ok (.ret v) => Q v s' | .ok _ => False | .error e => E e s') s') E s := by
    show wpAny _ A.in1 (Builtin.Builtins.bindParams "max" ["key", "default"] 0 ⟨[], [("default", d)]⟩ >>= _) _ _ s
    refine wpAny_bind (wpAny_of_eq (show Builtin.Builtins.bindParams "max" ["key", "default"] 0 ⟨[], [("default", d)]⟩ = pure [none, some d] from rfl) ?_)
    refine wpAny_bind (wpAny_pure ?_)
    refine wpAny_bind (iter_intList here fun s₂ e st hfp hlI => ?_)
    subst e
    refine wpAny_bind (wpAny_newObj_type ?_)
    rw [nm]
    refine wpAny_pure ⟨plainId_quiet F.plain_max_loop _, ?_⟩
    have W := Walks.list (prog := prog) (w := w) (A := A.in1) calm s.heap.objs.size l hlI (intItems xs)
    have new : (s.heap.push { cls := .type "list_iterator", data := .fields #[.ref l, .int 0 0] }).objs.size ∉ [s.heap.objs.size, l] := fun z => Nat.lt_irrefl _ (hfp _ z)
    have st2 := W.frame 0 _  ((s.heap.push { cls := .type "list_iterator", data := .fields #[.ref l, .int 0 0] }).push { cls := .type "list", data := .seq #[] }) st fun b _ o q => Heap.get?_push_of_some _ q
    refine maxD_loop W (CmpOf.ints_gt (numAt xs) (fun _ _ => intItems_at)) new (intItems xs).size (j := 0) (xs := #[]) (c := 0) (by omega) st2 (.inl ⟨rfl, rfl⟩) (Heap.get?_push_size _ rfl) fun v h' tk got keep => ?_
    refine fin v h' tk ?_ fun b o q => ?_
    · rcases got with ⟨z, rfl⟩ | ⟨z, pv⟩
      · left
        refine ⟨?_, rfl⟩
        have : xs.size = 0 := by simpa [intItems] using z
        simp [Array.eq_empty_of_size_eq_zero this]
      · right
        have z' : 0 < xs.size := by simpa [intItems] using z
        have ez : (intItems xs).size = xs.size := by simp [intItems]
        rw [ez] at pv
        obtain ⟨t, rfl⟩ := intItems_at pv
        obtain ⟨h1, h2⟩ := argBest_gt (numAt xs) (xs.size - 1)
        refine ⟨_, t, rfl, ?_, fun y hy => ?_⟩
        · rw [numAt_eq]
          exact PySem.getD_mem (by rw [List.length_map, Array.length_toList]; omega)
        · obtain ⟨j, hj, rfl⟩ := mem_getD hy
          rw [List.length_map, Array.length_toList] at hj
          rw [← numAt_eq]
          exact h2 j (by omega)
    · have lt := Heap.lt_size q
      refine keep b o (fun z => ?_) (fun z => ?_) (Heap.get?_push_of_some _ (Heap.get?_push_of_some _ q))
      · rw [List.mem_singleton.mp z] at lt
        exact Nat.lt_irrefl _ lt
      · rw [z, Heap.size_push] at lt
        exact absurd lt (Nat.not_lt.mpr (Nat.le_succ _))
  cases hsig : Manifest.signature? "max" with
  | none => exact wpAny_pure body
  | some sig =>
    have ok := args_maxD (.ref l) d
    simp only [argsOk, hsig] at ok
    have ok2 : Bind.checkArgs "max" sig ⟨[.ref l], [("default", d)]⟩ = pure () := ok
    show wpAny _ A.in1 (Bind.checkArgs "max" sig ⟨[.ref l], [("default", d)]⟩) _ _ s
    rw [ok2]
    exact wpAny_pure body
end
section
variable {X : Cx}
/-- max(xs, default=i): the default where xs is empty -/
def rMaxD (K : PySem.W.Frag) : List V → List V → Hp → VK → Prop := fun vs zs H Q => ∃ (a : Addr) (ns : List Int) (i : Int), vs = [.ref a] ∧ zs = [.int i] ∧ SqL K H a (ns.map V.int) ∧ (ns = [] → Q (.int i) H) ∧ ∀ m, m ∈ ns → (∀ y ∈ ns, y ≤ m) → Q (.int m) H
theorem cr_maxD (calm : X.calm = true) : CallRK X (.builtin "max") ["default"] (rMaxD X.K) := by
  intro pins s σ H vs zs us ws Q I r rz h
  obtain ⟨a, ns, i, rfl, rfl, sq, q0, q1⟩ := h
  obtain ⟨its, rel, here, _⟩ := I.list sq
  rw [Vals.ref1 r]
  obtain ⟨u, rfl, t, rfl⟩ := vals1 rz
  refine maxD_call (I.ok.hd calm) here.isList rel.ints fun v h' tk got keep => ?_
  rcases got with ⟨e, rfl⟩ | ⟨m, t2, rfl, h1, h2⟩
  · exact ⟨.int i, H, I.kept keep, ⟨t, rfl⟩, q0 e⟩
  · exact ⟨.int m, H, I.kept keep, ⟨t2, rfl⟩, q1 m h1 h2⟩
end
end Gd


set_option Elab.async false
set_option linter.all false
set_option maxRecDepth 100000
set_option maxHeartbeats 4000000
namespace K26
open PySem L2 Nd Bk Gd PySem.ExE
theorem S_nn {m : Mono} (h : ∀ x ∈ m, (0 : Int) ≤ x.2) : 0 ≤ S m := by
  rw [S_sum]
  induction m with
  | nil => exact Int.le_refl 0
  | cons x r ih =>
    rw [List.map_cons, List.sum_cons]
    have h1 := h x (List.mem_cons_self ..)
    have h2 := ih fun y hy => h y (List.mem_cons_of_mem _ hy)
    omega
theorem degP_max : ∀ (p : Poly) (b : Int), (∀ t ∈ p, S t.1 ≤ p.foldl (fun b t => if S t.1 > b then S t.1 else b) b) ∧ b ≤ p.foldl (fun b t => if S t.1 > b then S t.1 else b) b ∧ (p.foldl (fun b t => if S t.1 > b then S t.1 else b) b = b ∨ ∃ t ∈ p, S t.1 = p.foldl (fun b t => if S t.1 > b then S t.1 else b) b)
  | [], b => ⟨fun _ h => by simp at h, Int.le_refl _, .inl rfl⟩
  | t :: r, b => by
    rw [List.foldl_cons]
    obtain ⟨h1, h2, h3⟩ := degP_max r (if S t.1 > b then S t.1 else b)
    have g : S t.1 ≤ (if S t.1 > b then S t.1 else b) ∧ b ≤ (if S t.1 > b then S t.1 else b) := by split <;> omega
    refine ⟨fun u hu => ?_, Int.le_trans g.2 h2, ?_⟩
    · rcases List.mem_cons.mp hu with rfl | hu
      · exact Int.le_trans g.1 h2
      · exact h1 u hu
    · rcases h3 with h3 | ⟨u, hu, e⟩
      · rw [h3]
        by_cases q : S t.1 > b
        · rw [if_pos q]
          exact .inr ⟨t, List.mem_cons_self .., rfl⟩
        · rw [if_neg q]
          exact .inl rfl
      · exact .inr ⟨u, List.mem_cons_of_mem _ hu, e⟩
theorem degP_is {p : Poly} (nn : ∀ t ∈ p, 0 ≤ S t.1) {m : Int} (h1 : m ∈ p.map fun t => S t.1) (h2 : ∀ y ∈ p.map (fun t => S t.1), y ≤ m) : degP p = m := by
  obtain ⟨t, ht, rfl⟩ := List.mem_map.mp h1
  obtain ⟨g1, g2, g3⟩ := degP_max p 0
  have a1 := g1 t ht
  unfold degP
  rcases g3 with g3 | ⟨u, hu, e⟩
  · have := nn t ht
    rw [g3] at a1 ⊢
    omega
  · have := h2 _ (List.mem_map.mpr ⟨u, hu, rfl⟩)
    rw [← e] at a1 ⊢
    exact Int.le_antisymm this a1
theorem seq_goE {K : PySem.W.Frag} {tl : TE} {σ : L2.St} {H : Hp} {a : Addr} {xs : List V} {R : It → Hp → Prop} (hv : ∀ Q : VK, Q (.ref a) H → tl σ H Q) (h : SqL K H a xs ∨ SqT K H a xs)
    (k : ∀ (J : It) (G : Hp → Prop), Walk J xs.length G (YAt xs) → (∀ H', (SqL K H a xs → SqL K H' a xs) → (SqT K H a xs → SqT K H' a xs) → G H') → R J H) : iSeq K tl σ H R := by
  rcases h with h | h
  · exact .inl (hv _ ⟨a, rfl, ⟨_, h⟩, k _ _ walk_list fun H' f _ => f h⟩)
  · exact .inr (hv _ ⟨a, rfl, ⟨_, h⟩, k _ _ walk_tup fun H' _ f => f h⟩)
section
variable {P : Program} {w : World} {K : PySem.W.Frag} {mg : Str → Option Value} {base : Heap}
end
end K26


set_option Elab.async false
set_option linter.all false
set_option maxRecDepth 100000
set_option maxHeartbeats 4000000
namespace K26
open PySem L2 Nd Bk Gd
theorem short_all : ∀ {ds : List PyData}, (∀ d ∈ ds, shortD d = true) → shortDs ds = true
  | [], _ => by simp [shortDs]
  | d :: ds, h => by
    rw [shortDs, h d (List.mem_cons_self ..), short_all fun x hx => h x (List.mem_cons_of_mem _ hx)]
    rfl
theorem costs_all {c : Nat} : ∀ {ds : List PyData} {n : Nat}, ds.length ≤ n → (∀ d ∈ ds, cost d ≤ c) → costs ds ≤ n * (c + 2)
  | [], n, _, _ => by simp [costs]
  | d :: ds, 0, hn, _ => by simp at hn
  | d :: ds, n + 1, hn, h => by
    have h1 := h d (List.mem_cons_self ..)
    have h2 := costs_all (n := n) (by rw [List.length_cons] at hn; omega) fun x hx => h x (List.mem_cons_of_mem _ hx)
    rw [costs, Nat.add_mul]
    omega
theorem depth_all {n : Nat} : ∀ {ds : List PyData}, (∀ d ∈ ds, d.depth ≤ n) → PyData.depthAll ds ≤ n
  | [], _ => by simp [PyData.depthAll]
  | d :: ds, h => by
    rw [PyData.depthAll]
    exact Nat.max_le.mpr ⟨h d (List.mem_cons_self ..), depth_all fun x hx => h x (List.mem_cons_of_mem _ hx)⟩
/-- shown at the cost c, at most n deep -/
structure Shw (d : PyData) (c n : Nat) : Prop where
  sh : shortD d = true
  co : cost d ≤ c
  de : d.depth ≤ n
theorem shw_int {i : Int} (h0 : 0 ≤ i) (h1 : i < 10 ^ 105) : Shw (.int i) 110 1 := ⟨by rw [shortD, decide_eq_true h0, decide_eq_true h1]; rfl, by simp [cost], by simp [PyData.depth]⟩
theorem shT_ne {z : Str} (h : shT z = true) : z ≠ Str.ofString "" := fun e => by
  subst e
  exact absurd h (by decide +kernel)
theorem shw_str {z : Str} (h : shT z = true) : Shw (.str z) 110 1 := ⟨by rw [shortD]; exact (Bool.and_eq_true_iff.mp h).2, by simp [cost], by simp [PyData.depth]⟩
theorem shw_tup {ds : List PyData} {l c n : Nat} (hl : ds.length ≤ l) (h : ∀ d ∈ ds, Shw d c n) : Shw (.tuple ds) (l * (c + 2) + 3) (n + 1) := by
  refine ⟨?_, ?_, ?_⟩
  · rw [shortD]
    exact short_all fun d hd => (h d hd).sh
  · rw [cost]
    exact Nat.add_le_add_right (costs_all hl fun d hd => (h d hd).co) 3
  · rw [PyData.depth]
    exact Nat.add_le_add_right (depth_all fun d hd => (h d hd).de) 1
theorem Shw.weak {d : PyData} {c c' n n' : Nat} (h : Shw d c n) (h1 : c ≤ c') (h2 : n ≤ n') : Shw d c' n' := ⟨h.sh, Nat.le_trans h.co h1, Nat.le_trans h.de h2⟩
theorem shw_pair {d : PyData} {i : Int} {c n : Nat} (h : Shw d c n) (hc : 110 ≤ c) (hn : 1 ≤ n) (h0 : 0 ≤ i) (h1 : i < 10 ^ 105) : Shw (.tuple [d, .int i]) (2 * (c + 2) + 3) (n + 1) := shw_tup (Nat.le_refl 2) fun e he => by
  simp only [List.mem_cons, List.not_mem_nil, or_false] at he
  rcases he with rfl | rfl
  · exact h
  · exact (shw_int h0 h1).weak hc hn
/-- a polynomial of l terms of m tokens each, all short, may be shown -/
theorem shw_poly {p : Poly} {l m : Nat} (hl : p.length ≤ l) (hm : ∀ t ∈ p, t.1.length ≤ m) (ht : ∀ t ∈ p, ∀ x ∈ t.1, shT x.1 = true) (hc : ∀ t ∈ p, 0 ≤ t.2 ∧ t.2 < 10 ^ 105) (hx : ∀ t ∈ p, ∀ x ∈ t.1, 0 ≤ x.2 ∧ x.2 < 10 ^ 105) :
    Shw (bD p) (l * (2 * (m * 229 + 3 + 110 + 2) + 3 + 2) + 3) 5 := by
  refine shw_tup (by rw [List.length_map]; exact hl) fun d hd => ?_
  obtain ⟨t, tm, rfl⟩ := List.mem_map.mp hd
  have h1 : Shw (mD t.1) (m * 229 + 3) 3 := by
    refine shw_tup (l := m) (c := 227) (by rw [List.length_map]; exact hm t tm) fun e he => ?_
    obtain ⟨x, xm, rfl⟩ := List.mem_map.mp he
    exact shw_pair (c := 110) (shw_str (ht t tm x xm)) (by decide) (by decide) (hx t tm x xm).1 (hx t tm x xm).2
  exact shw_pair (h1.weak (c' := m * 229 + 3 + 110) (by omega) (Nat.le_refl _)) (by omega) (by decide) (hc t tm).1 (hc t tm).2
theorem S_mem {κ : Type} {l : Bag κ} (h : ∀ t ∈ l, 0 < t.2) : ∀ t ∈ l, t.2 ≤ S l := by
  induction l with
  | nil => exact fun t ht => nomatch ht
  | cons x r ih =>
    have e : S (x :: r) = x.2 * 1 + S r := by unfold S pr; simp
    have h1 := ih fun t ht => h t (List.mem_cons_of_mem _ ht)
    have h0 : 0 ≤ S r := by
      clear ih h1 e
      have hr : ∀ t ∈ r, 0 < t.2 := fun t ht => h t (List.mem_cons_of_mem _ ht)
      clear h
      induction r with
      | nil => exact Int.le_refl 0
      | cons y r2 ih2 =>
        have e : S (y :: r2) = y.2 * 1 + S r2 := by unfold S pr; simp
        have := ih2 fun t ht => hr t (List.mem_cons_of_mem _ ht)
        have := hr y (List.mem_cons_self ..)
        omega
    have hx := h x (List.mem_cons_self ..)
    intro t ht
    rcases List.mem_cons.mp ht with rfl | ht
    · omega
    · have := h1 t ht
      omega
theorem big105 : (8000 : Int) < 10 ^ 105 := by decide +kernel
/-- what was drawn may be shown -/
theorem S_len {κ : Type} {l : Bag κ} (h : ∀ t ∈ l, 0 < t.2) : (l.length : Int) ≤ S l := by
  induction l with
  | nil => exact Int.le_refl 0
  | cons x r ih =>
    have e : S (x :: r) = x.2 * 1 + S r := by unfold S pr; simp
    have h1 := ih fun t ht => h t (List.mem_cons_of_mem _ ht)
    have hx := h x (List.mem_cons_self ..)
    rw [List.length_cons]
    omega
theorem ml_pb {p : Poly} (h : PB p) : ∀ t ∈ p, t.1.length ≤ 48 := fun t ht => by
  have h1 := S_len (h.ok.2.2 t ht).2
  have h2 := h.dg t ht
  omega
theorem sho_pb {p : Poly} (h : PB p) : Sho p := by
  have b := big105
  have hm := ml_pb h
  have hs := h.sz
  have w := shw_poly (l := 8) (m := 48) h.len hm h.tk (fun t ht => ⟨Int.le_of_lt (h.ok.2.1 t ht), by
      have := S_mem h.ok.2.1 t ht
      omega⟩) (fun t ht x hx => ⟨Int.le_of_lt ((h.ok.2.2 t ht).2 x hx), by
      have h1 := S_mem (h.ok.2.2 t ht).2 x hx
      have h2 := h.dg t ht
      omega⟩)
  exact ⟨w.sh, Nat.le_trans w.co (by decide), Nat.le_trans w.de (by decide)⟩
theorem dd_len : ∀ (l acc : List Str), (l.foldl dd acc).length ≤ acc.length + l.length
  | [], _ => Nat.le_refl _
  | t :: l, acc => by
    refine Nat.le_trans (dd_len l (dd acc t)) ?_
    have : (dd acc t).length ≤ acc.length + 1 := by
      unfold dd
      split
      · omega
      · rw [List.length_append]
        exact Nat.le_refl _
    rw [List.length_cons]
    omega
theorem flat_len {m : Nat} : ∀ {p : Poly} {n : Nat}, p.length ≤ n → (∀ t ∈ p, t.1.length ≤ m) → (p.flatMap fun t => t.1.map (·.1)).length ≤ n * m
  | [], n, _, _ => by simp
  | t :: p, 0, hn, _ => by simp at hn
  | t :: p, n + 1, hn, h => by
    have h1 := h t (List.mem_cons_self ..)
    have h2 := flat_len (n := n) (by rw [List.length_cons] at hn; omega) fun x hx => h x (List.mem_cons_of_mem _ hx)
    rw [List.flatMap_cons, List.length_append, List.length_map, Nat.add_mul]
    omega
theorem tks_len {p : Poly} {n m : Nat} (hn : p.length ≤ n) (hm : ∀ t ∈ p, t.1.length ≤ m) : (tokK p).length ≤ n * m := by
  rw [tokK_seen, sortK_len (seen_nodup p)]
  refine Nat.le_trans (dd_len _ _) ?_
  rw [List.length_nil, Nat.zero_add]
  exact flat_len hn hm
theorem tks_pb {p : Poly} (h : PB p) : (tokK p).length ≤ 1000 := Nat.le_trans (tks_len h.len (ml_pb h)) (by decide)
end K26


set_option Elab.async false
set_option linter.all false
set_option maxRecDepth 100000
set_option maxHeartbeats 4000000
namespace K26
open PySem L2 Nd Bk Gd PySem.ExE
section
variable {K : PySem.W.Frag} {st : Stmt} {f : Addr} {fd : FuncData} {x : Str}
theorem kb_kw1 {y : Str} (F : Fun K x x st f fd)
    (h : ∀ (kV doc pm : Value) (an : Option Addr) (cdv ct : Value) (a : Value), bindArgs (PySem.W.fnOf x x (defArgs st) (defBody st) (defScope st) .none kV doc pm an cdv ct) ⟨[], [(y, a)]⟩ = pure [(y, a)]) : KBinds K fd [y] [y] kw1 kw1 := by
  obtain ⟨oc, od, kV, doc, pm, an, cdv, ct, osl, rfl, lk, hcd⟩ := F.ex
  refine ⟨fun s us ws _ hl => ?_, fun {vs us zs ws} r1 r2 => ?_⟩
  · match us, ws, hl with
    | [], [a], _ => exact .of_eq (h kV doc pm an cdv ct a)
    | [], [], hl => simp [kw1] at hl
    | [], _ :: _ :: _, hl => simp [kw1] at hl
    | _ :: _, _, hl => simp [kw1] at hl
  · cases r1 with
    | nil =>
      cases r2 with
      | nil => exact .nil
      | cons a b =>
        cases b with
        | nil => exact .cons a .nil
        | cons c d => exact .nil
    | cons _ _ => exact .nil
theorem kb_sw2 {y z : Str} (F : Fun K x x st f fd)
    (h : ∀ (kV doc pm : Value) (an : Option Addr) (cdv ct : Value) (a b : Value), bindArgs (PySem.W.fnOf x x (defArgs st) (defBody st) (defScope st) .none kV doc pm an cdv ct) ⟨[], [(z, a), (y, b)]⟩ = pure [(y, b), (z, a)]) : KBinds K fd [y, z] [z, y] sw2 sw2 := by
  obtain ⟨oc, od, kV, doc, pm, an, cdv, ct, osl, rfl, lk, hcd⟩ := F.ex
  refine ⟨fun s us ws _ hl => ?_, fun {vs us zs ws} r1 r2 => ?_⟩
  · match us, ws, hl with
    | [], [a, b], _ => exact .of_eq (h kV doc pm an cdv ct a b)
    | [], [], hl => simp [sw2] at hl
    | [], [_], hl => simp [sw2] at hl
    | [], _ :: _ :: _ :: _, hl => simp [sw2] at hl
    | _ :: _, _, hl => simp [sw2] at hl
  · cases r1 with
    | nil =>
      cases r2 with
      | nil => exact .nil
      | cons a b =>
        cases b with
        | nil => exact .nil
        | cons c d =>
          cases d with
          | nil => exact .cons c (.cons a .nil)
          | cons e g => exact .nil
    | cons _ _ => exact .nil
theorem kb_tokens (F : Fun K "tokens_of" "tokens_of" sTokens f fd) : KBinds K fd ["p"] ["p"] kw1 kw1 := kb_kw1 F fun _ _ _ _ _ _ _ => rfl
end
end K26


set_option Elab.async false
set_option linter.all false
set_option maxRecDepth 100000
set_option maxHeartbeats 4000000
/-! sets of texts: what is added, what sorted tells -/
namespace Sx
open PySem PySem.Spec PyProof.Rows L2
def txt (e : Int × Value) : Str := match e.2 with | .str x _ => x | _ => ⟨#[]⟩
def IsTxt (w : World) (e : Int × Value) : Prop := ∃ x tk, e = (hashStr w x, Value.str x tk)
def ins (x : Str) (L : List Str) : List Str := if x ∈ L then L else x :: L
/-- a table that may be walked -/
structure Tab (w : World) (es : Array (Int × Value)) (t : SetTable) : Prop where
  few : es.size < scanBound
  fit : t.fits es.size = true
  ris : Ris t.place.toList
  led : w.params.followText "set-order" = true ∨ t.led = true
/-- its entries are the texts of L, each once -/
structure Has (w : World) (es : Array (Int × Value)) (L : List Str) : Prop where
  all : ∀ e ∈ es.toList, IsTxt w e
  perm : (es.toList.map txt).Perm L
  once : L.Nodup
def SetS (w : World) (h : Heap) (a : Addr) (L : List Str) : Prop := ∃ o es ep t, h.get? a = some o ∧ o.ExactSet ∧ o.data = .set es ep t ∧ Has w es L ∧ Tab w es t
section
variable {P : Program} {w : World} {es es' : Array (Int × Value)} {L : List Str} {x : Str} {tk : Tok}
theorem Has.len (H : Has w es L) : L.length = es.size := by rw [← H.perm.length_eq, List.length_map, Array.length_toList]
theorem Has.elems (H : Has w es L) : ElemsOf (strKind P w) es.toList := fun e he => by
  obtain ⟨y, k, rfl⟩ := H.all e he
  exact ⟨⟨y, strKind_is P w y k, rfl⟩, rfl⟩
theorem Has.mem (H : Has w es L) : x ∈ L ↔ ∃ e ∈ es.toList, (strKind P w).is x e.2 = true := by
  rw [← H.perm.mem_iff, List.mem_map]
  have key : ∀ e ∈ es.toList, (txt e = x ↔ (strKind P w).is x e.2 = true) := fun e he => by
    obtain ⟨y, k, rfl⟩ := H.all e he
    exact ⟨fun q => by rw [show y = x from q]; exact strKind_is P w x k, fun q => (strKind P w).inj _ _ _ (strKind_is P w y k) q⟩
  exact ⟨fun ⟨e, he, q⟩ => ⟨e, he, (key e he).mp q⟩, fun ⟨e, he, q⟩ => ⟨e, he, (key e he).mpr q⟩⟩
theorem Has.move (H : Has w es L) (p : es'.toList.Perm es.toList) : Has w es' L := ⟨fun e he => H.all e (p.mem_iff.mp he), (p.map txt).trans H.perm, H.once⟩
theorem Has.more (H : Has w es L) (n : x ∉ L) (p : es'.toList.Perm ((hashStr w x, Value.str x tk) :: es.toList)) : Has w es' (x :: L) :=
  ⟨fun e he => (List.mem_cons.mp (p.mem_iff.mp he)).elim (fun q => ⟨x, tk, q⟩) (H.all e), (p.map txt).trans (H.perm.cons x), List.nodup_cons.mpr ⟨n, H.once⟩⟩
theorem SetS.keep {h h' : Heap} {a : Addr} (R : SetS w h a L) (k : ∀ o, h.get? a = some o → h'.get? a = some o) : SetS w h' a L := let ⟨o, es, ep, t, q, r⟩ := R; ⟨o, es, ep, t, k o q, r⟩
end
section
variable {P : Program} {w : World} {A : Around} {E : Value → Shared → Prop} {s : Shared} {a : Addr} {L : List Str} {x : Str} {tk : Tok}
theorem laidAt {h : Heap} {o : Obj} {es es' : Array (Int × Value)} {ep : Nat} {t t' : SetTable} (ho : h.get? a = some o) (hd : o.data = .set es ep t) : (h.update a (Obj.putSet es' t')).get? a = some { o with data := .set es' (ep + 1) t' } := by
  have e := Heap.get?_update_self (Obj.putSet es' t') ho (by rw [putSet_of es' t' hd] <;> rfl)
  exact e.trans (congrArg some (putSet_of es' t' hd))
/-- the entries are laid, and laid anew if the table is too full -/
theorem lay_end {g : Bool → Sem Unit} (hg : ∀ (b : Bool) (s1 : Shared) (G : Unit → Shared → Prop), G () s1 → wpAny (model P w) A (g b) G E s1) {o : Obj} {es : Array (Int × Value)} {ep : Nat} {t : SetTable}
    (ho : s.heap.get? a = some o) (hx : o.ExactSet) (hd : o.data = .set es ep t) {e1 : Array (Int × Value)} {t1 : SetTable} (hs : Has w e1 L) (ht : Tab w e1 t1) {dm : Bool} {R : Option Bool → Shared → Prop}
    (k : ∀ h', Heap.SameBut a s.heap h' → SetS w h' a L → R (some true) { s with heap := h' }) :
    wpAny (model P w) A (do
      storeSet a e1 t1
      if (!dm && t1.tooFull) = true then do
          g (relayAll t1 e1 (SetTable.grown e1.size)).2.2
          storeSet a (relayAll t1 e1 (SetTable.grown e1.size)).1 (relayAll t1 e1 (SetTable.grown e1.size)).2.1
          pure (some true)
        else pure (some true)) R E s := by
  have at1 := laidAt (es' := e1) (t' := t1) ho hd
  have sb := Heap.SameBut.update s.heap a (Obj.putSet e1 t1)
  refine wpAny_bind (wpAny_storeSet_of ho hd ?_ (fits_of_scanBound ht.few))
  by_cases c : (!dm && t1.tooFull) = true
  · rw [if_pos c]
    have p := relayAll_perm t1 e1 (SetTable.grown e1.size)
    have ft := relayAll_fits t1 e1 (SetTable.grown e1.size)
    have ri := relayAll_ris t1 e1 (SetTable.grown e1.size)
    have le := relayAll_led t1 e1 (SetTable.grown e1.size)
    revert p ft ri le
    obtain ⟨e2, t2, gv⟩ := relayAll t1 e1 (SetTable.grown e1.size)
    intro p ft ri le
    have z : e2.size = e1.size := by simpa using p.length_eq
    have f2 : e2.size < scanBound := z ▸ ht.few
    refine wpAny_bind (hg gv _ _ (wpAny_bind (wpAny_storeSet_of at1 rfl (wpAny_pure ?_) (fits_of_scanBound f2))))
    exact k _ (sb.trans (.update _ a _)) ⟨_, e2, _, t2, laidAt at1 rfl, hx, rfl, hs.move p, f2, ft, ri, ht.led.imp_right fun q => le.trans q⟩
  · rw [if_neg c]
    exact wpAny_pure (k _ sb ⟨_, e1, _, t1, at1, hx, rfl, hs, ht⟩)
theorem gave_ok {m : Sem Unit} (hm : m = pure () ∨ ∃ r, m = rule r) {G : Unit → Shared → Prop} (q : G () s) : wpAny (model P w) A m G E s := by
  rcases hm with rfl | ⟨r, rfl⟩
  · exact wpAny_pure q
  · exact wpAny_rule q
theorem add_hashed {G : Bool → Shared → Prop} (R : SetS w s.heap a L) (room : L.length + 1 < scanBound) (k : ∀ b h', Heap.SameBut a s.heap h' → SetS w h' a (ins x L) → G b { s with heap := h' }) :
    wpAny (model P w) A (setAddHashed a (.str x tk) ((strKind P w).hash x)) G E s := by
  obtain ⟨o, es, ep, t, ho, hx, hd, hs, ht⟩ := R
  have el := hs.elems (P := P)
  have ik := strKind_is P w x tk
  have sc : (Value.str x tk).scannable = true := rfl
  unfold setAddHashed setAddHashedIn
  refine wpAny_holding (wpAny_bind (wpAny_setState_of ho hd ht.fit ?_))
  dsimp only
  rw [if_pos (byScan_of sc ht.few el)]
  unfold setAddByScan
  refine wpAny_bind (wpAny_bind (wpAny_rule (wpAny_bind (wpAny_setScan_of ik ho hd ht.fit el ?_))))
  by_cases m : x ∈ L
  · obtain ⟨e, he, q⟩ := (hs.mem (P := P)).mp m
    cases f : List.findIdx? (fun e => (strKind P w).is x e.2) es.toList with
    | none => exact absurd ((List.findIdx?_eq_none_iff.mp f e he).symm.trans q) Bool.false_ne_true
    | some j => exact wpAny_pure (wpAny_pure (k false s.heap (.refl a s.heap) ⟨o, es, ep, t, ho, hx, hd, by unfold ins; rw [if_pos m]; exact hs, ht⟩))
  · cases f : List.findIdx? (fun e => (strKind P w).is x e.2) es.toList with
    | some j =>
      obtain ⟨h1, h2, _⟩ := List.findIdx?_eq_some_iff_getElem.mp f
      exact absurd ((hs.mem (P := P)).mpr ⟨_, List.getElem_mem h1, h2⟩) m
    | none =>
      have p := layNew_perm t es ((strKind P w).hash x) (.str x tk)
      have ft := layNew_fits t es ((strKind P w).hash x) (.str x tk)
      have ri := layNew_ris t es ((strKind P w).hash x) (.str x tk) ht.ris
      have le := layNew_led t es ((strKind P w).hash x) (.str x tk)
      dsimp only
      revert p ft ri le
      obtain ⟨e1, t1, dm, gv⟩ := layNew t es ((strKind P w).hash x) (.str x tk)
      dsimp only
      intro p ft ri le
      rw [Array.toList_push] at p
      have hs1 : Has w e1 (x :: L) := hs.more m (tk := tk) (p.trans (List.perm_append_singleton _ _))
      have few : e1.size < scanBound := by rw [← hs1.len]; exact room
      have led : w.params.followText "set-order" = true ∨ t1.led = true := ht.led.imp_right fun q => le.trans q
      have ie : ins x L = x :: L := if_neg m
      rw [ie] at k
      refine wpAny_bind (gave_ok (by cases gv <;> first | exact .inl rfl | exact .inr ⟨_, rfl⟩) ?_)
      split
      · rw [hashByValue_scannable 8 sc]
        refine wpAny_bind (wpAny_pure (lay_end (fun b s1 G q => gave_ok (by cases b <;> first | exact .inl rfl | exact .inr ⟨_, rfl⟩) q) ho hx hd hs1 ⟨few, ?_, ?_, ?_⟩ fun h' sb r => wpAny_pure (k true h' sb r)))
        · first | (split <;> first | exact ft | exact SetTable.fits_plain_off ft) | exact ft
        · first | (split <;> exact ri) | exact ri
        · first | (split <;> exact led) | exact led
      · refine wpAny_bind (wpAny_pure ?_)
        simp only [↓reduceIte]
        exact lay_end (fun b s1 G q => gave_ok (by cases b <;> first | exact .inl rfl | exact .inr ⟨_, rfl⟩) q) ho hx hd hs1 ⟨few, ft, ri, led⟩ fun h' sb r => wpAny_pure (k true h' sb r)
theorem add_txt {G : Value → Shared → Prop} (R : SetS w s.heap a L) (room : L.length + 1 < scanBound) (k : ∀ h', Heap.SameBut a s.heap h' → SetS w h' a (ins x L) → G .none { s with heap := h', toks := s.toks + 1 }) :
    wpAny (model P w) A (call (.builtin "set.add") [.ref a, .str x tk]) G E s := by
  obtain ⟨o, es, ep, t, ho, hx, _⟩ := id R
  refine wpAny_call_entry F.slot_set_add (show s.TypeIs (.ref a) "set" from ⟨o, ho, hx.1⟩) F.entry_set_add ?_ (F.args_set_add_2 _ _)
  unfold Builtin.«set.add» Builtin.Frozenset.oneOther
  simp only [List.isEmpty_nil, bind_assoc]
  unfold Builtin.Frozenset.addrOf setAdd
  refine wpAny_bind (wpAny_pure (wpAny_bind (wpAny_pure (wpAny_bind (wpAny_holding (wpAny_bind ((strKind P w).pyHash (strKind_is P w x tk) ?_)))))))
  exact add_hashed (s := { s with toks := s.toks + 1 }) R room fun _ h' sb r => wpAny_pure ⟨_, rfl, k h' sb r⟩
theorem new_txt (h : Heap) : SetS w (h.push { cls := .type "set", dict := none, data := .set #[] 0 (.fresh 0 0 (!w.params.followText "set-order")) }) h.objs.size [] :=
  ⟨_, #[], 0, _, Heap.get?_push_size _ rfl, ⟨rfl, rfl, rfl⟩, rfl, ⟨fun e he => (by simp at he), .refl _, List.Pairwise.nil⟩, by decide, rfl, List.Pairwise.nil, by
    show _ ∨ (!w.params.followText "set-order") = true
    cases w.params.followText "set-order" <;> first | exact .inl rfl | exact .inr rfl⟩
end
/-! tracked -/
def SetSO (w : World) (a : Addr) (L : List Str) : HO := .ext fun h => SetS w h a L
section
variable {X : Cx} {pins : List (Addr × Obj)} {σ : L2.St} {H : Hp} {s : Shared}
theorem setSO_ok {w : World} {P : Program} {h : Heap} {a : Addr} {L : List Str} (R : SetS w h a L) : ObjOk P w H h a (SetSO w a L) :=
  ⟨R, let ⟨o, _, _, _, q, _⟩ := R; ⟨o, q⟩, fun _ _ p k => SetS.keep p k⟩
theorem addS_ok {E : Value → Shared → Prop} {D : Addr} {L : List Str} {y : Str} {v : Value} {Q : Value → Shared → Prop} (I : Inv X pins σ H s) (hD : H D = some (SetSO X.w D L)) (room : L.length + 1 < scanBound) (r : RelV (.str y) v)
    (k : ∀ s', Inv X pins σ (upd H D (SetSO X.w D (ins y L))) s' → Q .none s') : wpAny (model X.prog X.w) X.A (call (.builtin "set.add") [.ref D, v]) Q E s := by
  obtain ⟨tk, rfl⟩ := r
  have R : SetS X.w s.heap D L := (I.hok D _ hD).1
  refine add_txt R room fun h' sb new => k _ (I.write (e := D) (t' := s.toks + 1) (by rw [hD]; trivial) (.inl rfl) (fun b u hb hu => (sb.2 b hb).trans hu) ?_ (setSO_ok new))
  obtain ⟨o, _, _, _, q, _⟩ := new
  exact ⟨o, q⟩
/-- sorted of such a set -/
def srtT (ks : List Str) : List Str := ks.mergeSort (PySem.W.dataLe false PyData.str)
def rSortS (w : World) : List V → Hp → VK → Prop := fun vs H Q => ∃ (a : Addr) (L : List Str), vs = [.ref a] ∧ H a = some (SetSO w a L) ∧ L.length ≤ 4000 ∧
  ∀ (ks : List Str) (p : Addr), ks.Perm L → H p = none → Q (.ref p) (upd H p (.lst ((srtT ks).map V.str)))
theorem vals_txt : ∀ {vs : List Value} {ks : List Str}, PySem.W.EachIs (fun v x => ∃ tk, v = Value.str x tk) vs ks → Vals (ks.map V.str) vs
  | _, _, .nil => .nil
  | _, _, .cons h t => .cons h (vals_txt t)
theorem each_txt {w : World} : ∀ {vs : List Value}, (∀ v ∈ vs, ∃ x tk, v = Value.str x tk) → PySem.W.EachIs (fun v x => ∃ tk, v = Value.str x tk) vs (vs.map fun v => txt (0, v))
  | [], _ => .nil
  | v :: r, h => .cons (by obtain ⟨x, tk, rfl⟩ := h v List.mem_cons_self; exact ⟨tk, rfl⟩) (each_txt (w := w) fun u hu => h u (List.mem_cons_of_mem _ hu))
theorem cr_sortS (hc : X.calm = true) (hu : X.A.units + 64 < cLine) : CallR X (.builtin "sorted") (rSortS X.w) := by
  intro pins s σ H vs us Q I r h
  obtain ⟨a, L, rfl, ha, hl, q⟩ := h
  obtain rfl := Vals.ref1 r
  have R : SetS X.w s.heap a L := (I.hok a _ ha).1
  obtain ⟨o, es, ep, t, ho, hx, hd, hs, ht⟩ := R
  refine Calls.call_function_entry kind_sorted plain_sorted entry_sorted (args_sorted1 _) ?_
  unfold Builtin.«sorted»
  refine wpAny_bind (m := checkCount "sorted" 1 1 _) (wpAny_pure (wpAny_bind (collect_set (A := X.A.in1) (I.ok.hd hc) ⟨o, ho, hx.1, hd⟩ ht.fit ht.few ht.ris ht.led fun s1 vs k1 hz g1 o1 pm => ?_)))
  have hv : ∀ v ∈ vs, ∃ x tk, v = Value.str x tk := fun v hv => by
    obtain ⟨e, he, rfl⟩ := List.mem_map.mp (pm.mem_iff.mp hv)
    obtain ⟨x, tk, rfl⟩ := hs.all e he
    exact ⟨x, tk, rfl⟩
  have pk : (vs.map fun v => txt (0, v)).Perm L := by
    have := pm.map fun v => txt (0, v)
    rw [List.map_map] at this
    exact this.trans hs.perm
  have ei := each_txt (w := X.w) hv
  generalize vs.map (fun v => txt (0, v)) = ks at pk ei
  have hln : ks.length ≤ 4000 := by rw [pk.length_eq]; exact hl
  have hvl : vs.length = ks.length := ei.length
  refine wpAny_bind (wpAny_newList ?_ (by rw [hvl, sizeLine_eq]; omega))
  have hob : (s1.heap.push (seqObj "list" vs.toArray 0)).get? s1.heap.objs.size = some (seqObj "list" vs.toArray 0) := Heap.get?_push_size _ rfl
  refine wpAny_bind (wpAny_holding (PySem.W.list_sort_data (s := { s1 with heap := s1.heap.push (seqObj "list" vs.toArray 0) }) (enc := PyData.str) hob ei (ei.mono fun v x ⟨tk, e⟩ => ⟨[], by subst e; exact Reads.str _ _, by simp⟩) (.of fun _ _ => rfl) (.others fun _ => ⟨nofun, nofun⟩) (by rw [sizeLine_eq]; omega) (fun b _ => ?_) fun out hlen hout => ?_))
  · show X.A.units + 1 + 1 + 0 < cLine
    omega
  obtain ⟨c, hc2⟩ := sortedHeap_at (vs := vs) (out := out.toArray) hob
  have kk : ∀ b u, s.heap.get? b = some u → (sortedHeap (s1.heap.push (seqObj "list" vs.toArray 0)) s1.heap.objs.size vs out.toArray).get? b = some u := fun b u e => by
    have e1 := k1 b u e
    have lt := Heap.lt_size e1
    rw [sortedHeap_old (Nat.ne_of_lt lt) (by rw [Heap.size_push]; exact Nat.lt_succ_of_lt lt)]
    exact Heap.get?_push_of_some _ e1
  have hn : H s1.heap.objs.size = none := I.hok.fresh hz
  have len2 : ((srtT ks).map V.str).length ≤ sizeLine := by
    unfold srtT
    rw [List.length_map, List.length_mergeSort, sizeLine_eq]
    omega
  refine wpAny_pure ⟨_, rfl, ?_⟩
  have J : Inv X pins σ (upd H s1.heap.objs.size (.lst ((srtT ks).map V.str))) { s with heap := sortedHeap (s1.heap.push (seqObj "list" vs.toArray 0)) s1.heap.objs.size vs out.toArray, gens := s1.gens, drawn := s1.drawn, toks := s1.toks } :=
    I.call (ch := []) (Un.laid kk hz hn) (I.hok.laid kk hz ⟨len2, out, c, vals_txt hout, hc2⟩) (by rw [g1]; exact I.bare) (fun _ z => nomatch z)
  refine ⟨.ref s1.heap.objs.size, _, ?_, rfl, q ks _ pk hn⟩
  have e : ({ s1 with heap := sortedHeap (s1.heap.push (seqObj "list" vs.toArray 0)) s1.heap.objs.size vs out.toArray } : Shared) = { s with heap := sortedHeap (s1.heap.push (seqObj "list" vs.toArray 0)) s1.heap.objs.size vs out.toArray, gens := s1.gens, drawn := s1.drawn, toks := s1.toks } := by
    cases s1
    cases s
    cases o1
    rfl
  rw [e]
  exact J
end
end Sx


set_option Elab.async false
set_option linter.all false
set_option maxRecDepth 100000
set_option maxHeartbeats 4000000
/-! {text for .. in .. for .. in ..} -/
namespace Sx
open PySem PySem.Spec PyProof.Rows L2
abbrev two (t0 i0 t1 i1 : Expr) : List Comprehension := [⟨t0, i0, [], 0⟩, ⟨t1, i1, [], 0⟩]
section
variable {elt t0 i0 t1 i1 : Expr} {scope : Scope} {pos : Pos} {it acc : Value} {env : Env}
theorem turn0 : compTurn (.SetComp elt (two t0 i0 t1 i1) scope pos) 0 it acc env = (do
    standAt i0.pos
    match ← pyNext it with
    | none => pure (.done .next)
    | some v =>
      letOwnedTupleGo t0 it v
      assign t0 env v
      let x ← eval i1 env
      standAt i1.pos
      let x ← foldedSetIterable i1 env x
      let _ ← runOwn (.compStart (.SetComp elt (two t0 i0 t1 i1) scope pos) 1 (← holding [x] (pyIter x)) acc env) env
      again (.compLoop (.SetComp elt (two t0 i0 t1 i1) scope pos) 0 it acc env)) := by rfl
theorem turn1 : compTurn (.SetComp elt (two t0 i0 t1 i1) scope pos) 1 it acc env = (do
    standAt i1.pos
    match ← pyNext it with
    | none => pure (.done .next)
    | some v =>
      letOwnedTupleGo t1 it v
      assign t1 env v
      (do let x ← eval elt env; standAt elt.pos; let _ ← call (.builtin "set.add") [acc, x])
      again (.compLoop (.SetComp elt (two t0 i0 t1 i1) scope pos) 1 it acc env)) := by rfl
end
section
variable {M : Program} {w : World} {A : Around} {R : Result → Shared → Prop} {s : Shared} {elt t0 i0 t1 i1 : Expr} {scope : Scope} {pos : Pos} {it acc : Value} {env : Env}
/-- where an error goes -/
abbrev Er (M : Program) (w : World) (A : Around) (env : Env) (R : Result → Shared → Prop) := notedBy (model M w) A env fun e s' => R (.error e) s'
theorem loop0 (hs : ∀ x, foldedSetIterable i1 env x = pure x) (I : Nat → Shared → Prop) (go : ∀ n s, I n s → wpAny (model M w) A (pyNext it) (fun r s1 => match r with
    | none => R (.ok .next) s1
    | some v => wpAny (model M w) A (letOwnedTupleGo t0 it v) (fun _ s2 => wpAny (model M w) A (assign t0 env v) (fun _ s3 => wpAny (model M w) A (eval i1 env) (fun x s4 => wpAny (model M w) A (pyIter x) (fun j s5 =>
        codeAny (model M w) A (.compStart (.SetComp elt (two t0 i0 t1 i1) scope pos) 1 j acc env) (fun r s6 => match r with
          | .ok _ => ∃ m, m < n ∧ I m s6
          | .error _ => False) s5) (Er M w A env R) s4) (Er M w A env R) s3) (Er M w A env R) s2) (Er M w A env R) s1) (Er M w A env R) s) (n : Nat) (h : I n s) :
    codeAny (model M w) A (.compLoop (.SetComp elt (two t0 i0 t1 i1) scope pos) 0 it acc env) R s := by
  refine codeAny_loop rfl I (fun n s hI => ?_) n h
  show wpAny _ A ((compTurn (.SetComp elt (two t0 i0 t1 i1) scope pos) 0 it acc env).onRaise (fun x => do noteFrame x env; theTreesLotGoes x)) _ _ s
  refine wpAny_noted ?_
  rw [turn0]
  refine wpAny_bind (wpAny_standAt (wpAny_bind (wpAny_mono (go n s hI) (fun r s1 h1 => ?_) fun _ _ q => q)))
  match r, h1 with
  | none, h1 => exact wpAny_pure h1
  | some v, h1 =>
    refine wpAny_bind (wpAny_mono h1 (fun _ s2 h2 => wpAny_bind (wpAny_mono h2 (fun _ s3 h3 => wpAny_bind (wpAny_mono h3 (fun x s4 h4 => ?_) fun _ _ q => q)) fun _ _ q => q)) fun _ _ q => q)
    refine wpAny_bind (wpAny_standAt (wpAny_bind (wpAny_of_eq (hs x) (wpAny_bind (wpAny_holding (wpAny_mono h4 (fun j s5 h5 => wpAny_bind (wpAny_runOwn ?_)) fun _ _ q => q))))))
    rw [Around.mark_none]
    refine codeAny_mono h5 fun r s6 h6 => ?_
    match r, h6 with
    | .ok f, h6 => first
        | exact wpAny_pure ⟨rfl, h6⟩
        | exact wpAny_bind (wpAny_pure (wpAny_pure ⟨rfl, h6⟩))
    | .error e, h6 => exact h6.elim
theorem loop1 (I : Nat → Shared → Prop) (go : ∀ n s, I n s → wpAny (model M w) A (pyNext it) (fun r s1 => match r with
    | none => R (.ok .next) s1
    | some v => wpAny (model M w) A (letOwnedTupleGo t1 it v) (fun _ s2 => wpAny (model M w) A (assign t1 env v) (fun _ s3 => wpAny (model M w) A (eval elt env) (fun x s4 =>
        wpAny (model M w) A (call (.builtin "set.add") [acc, x]) (fun _ s5 => ∃ m, m < n ∧ I m s5) (Er M w A env R) s4) (Er M w A env R) s3) (Er M w A env R) s2) (Er M w A env R) s1) (Er M w A env R) s) (n : Nat) (h : I n s) :
    codeAny (model M w) A (.compLoop (.SetComp elt (two t0 i0 t1 i1) scope pos) 1 it acc env) R s := by
  refine codeAny_loop rfl I (fun n s hI => ?_) n h
  show wpAny _ A ((compTurn (.SetComp elt (two t0 i0 t1 i1) scope pos) 1 it acc env).onRaise (fun x => do noteFrame x env; theTreesLotGoes x)) _ _ s
  refine wpAny_noted ?_
  rw [turn1]
  refine wpAny_bind (wpAny_standAt (wpAny_bind (wpAny_mono (go n s hI) (fun r s1 h1 => ?_) fun _ _ q => q)))
  match r, h1 with
  | none, h1 => exact wpAny_pure h1
  | some v, h1 =>
    refine wpAny_bind (wpAny_mono h1 (fun _ s2 h2 => wpAny_bind (wpAny_mono h2 (fun _ s3 h3 => ?_) fun _ _ q => q)) fun _ _ q => q)
    exact wpAny_bind (wpAny_bind (wpAny_mono h3 (fun x s4 h4 => wpAny_bind (wpAny_standAt (wpAny_bind (wpAny_mono h4 (fun _ s5 h5 => wpAny_pure (wpAny_pure ⟨rfl, h5⟩)) fun _ _ q => q)))) fun _ _ q => q))
theorem start1 (h0 : codeAny (model M w) A (.compLoop (.SetComp elt (two t0 i0 t1 i1) scope pos) 1 it acc env) R s)
    (h : wpAny (model M w) A (pyIter it) (fun j s' => codeAny (model M w) A (.compLoop (.SetComp elt (two t0 i0 t1 i1) scope pos) 1 j acc env) R s') (Er M w A env R) s) :
    codeAny (model M w) A (.compStart (.SetComp elt (two t0 i0 t1 i1) scope pos) 1 it acc env) R s := by
  refine codeAny_of_tree ?_
  show wpAny _ _ ((compStart (.SetComp elt (two t0 i0 t1 i1) scope pos) 1 it acc env).onRaise (fun x => do noteFrame x env; standAt theWindowsPlace)) _ _ s
  refine wpAny_notedAt ?_
  unfold compStart
  show wpAny _ _ (ask >>= _) _ _ s
  refine wpAny_bind (wpAny_askSetting (wpAny_ite ?_))
  split
  · first | exact wpAny_bind (wpAny_pure (wpAny_pure ⟨rfl, h0⟩)) | exact wpAny_pure ⟨rfl, h0⟩
  · refine wpAny_bind (wpAny_rule ?_)
    first
      | exact wpAny_bind (wpAny_standAt (wpAny_bind (wpAny_mono h (fun j s' q => wpAny_pure ⟨rfl, q⟩) fun _ _ x => x)))
      | (show wpAny _ _ (standAt i1.pos >>= _) _ _ s; exact wpAny_bind (wpAny_standAt (wpAny_bind (wpAny_mono h (fun j s' q => wpAny_pure ⟨rfl, q⟩) fun _ _ x => x))))
end
end Sx


set_option Elab.async false
set_option linter.all false
set_option maxRecDepth 100000
set_option maxHeartbeats 8000000
namespace Sx
open PySem PySem.Spec PyProof.Rows L2 PpSet
/-- {elt for tg in iter for tg1 in iter1}, elt a text; vs: the block's names, vs1: those of the second target -/
def tSc2 (w : World) (wi : TI) (g : TG) (wi1 : TI) (g1 : TG) (te : TE) (vs vs1 : List Nat) : TE := fun σ H Q => wi σ H fun J H1 => ∀ D, H1 D = none → ∃ W : Nat → Nat → Hp → Prop, (∃ m, W 0 m (upd H1 D (SetSO w D []))) ∧
  ∀ i m H, W i m H → (J.stop i H ∧ Q (.ref D) H) ∨ (J.go i H ∧ ∃ Nx : Hp → Prop, (∀ H', Nx H' → ∃ m', m' < m ∧ W (i + 1) m' H') ∧ ∀ x H', J.yld i H x H' → g x (wipe σ vs) H' fun σ2 H2 => wipe σ2 vs = wipe σ vs ∧
    wi1 σ2 H2 fun J1 H4 => ∃ W1 : Nat → Nat → Hp → Prop, (∃ m, W1 0 m H4) ∧ ∀ j k H, W1 j k H → (J1.stop j H ∧ Nx H) ∨ (J1.go j H ∧ ∃ Nx1 : Hp → Prop, (∀ H', Nx1 H' → ∃ k', k' < k ∧ W1 (j + 1) k' H') ∧
      ∀ x H', J1.yld j H x H' → g1 x (wipe σ2 vs1) H' fun σ3 H5 => wipe σ3 vs1 = wipe σ2 vs1 ∧ te σ3 H5 fun y H7 => ∃ (t : Str) (L : List Str), y = .str t ∧ H7 D = some (SetSO w D L) ∧ L.length + 1 < scanBound ∧ Nx1 (upd H7 D (SetSO w D (ins t L)))))
section
variable {X : Cx}
/-- what a rule of the block's is asked for -/
abbrev Blk (X : Cx) (scope : Scope) (F : Cx → Prop) : Prop := ∀ (s : Shared) (H : Hp) (C : Addr) (cl : List (Str × Addr)) (fp : List Addr), F (X.blk s H scope (compEnvC scope cl C X.env) fp)
theorem pe_sc2 {elt tg iter tg1 iter1 : Expr} {scope : Scope} {own : List (Str × Nat)} {vs1 : List Nat} {pos : Pos} {wi wi1 : TI} {g g1 : TG} {te : TE} (hc : X.calm = true) (hN : X.N.Nodup) (hi : PI X tg iter wi) (ok : BlkOk X.N X.env.scope scope own) (hv : ∀ i ∈ vs1, i ∈ own.map (·.2))
    (hg : Blk X scope fun Y => PG Y tg g) (hi1 : Blk X scope fun Y => PI Y tg1 iter1 wi1) (hg1 : Blk X scope fun Y => PG Y tg1 g1) (he : Blk X scope fun Y => PE Y elt te)
    (hs : ∀ x, foldedSetIterable iter X.env x = pure x := by intro _; rfl) (hs1 : ∀ env x, foldedSetIterable iter1 env x = pure x := by intro _ _; rfl) :
    PE X (.SetComp elt (two tg iter tg1 iter1) scope pos) (tSc2 X.w wi g wi1 g1 te (own.map (·.2)) vs1) := by
  refine ⟨fun pins s σ H Q I h => ?_⟩
  rw [PpSet.eval_SetComp]
  have fr : ∀ y ∈ scope.names, y.2 = .free → ∃ c, X.env.cells.lookup y.1 = some c := fun y hy e => (ok.free y hy e).elim (fun k => I.ok.has _ (.inl k)) fun k => I.ok.has _ (.inr k)
  refine wpAny_comprehension_free (use := none) rfl hs (closure_ok fr) ok.kind (fun y hy e => by rw [ok.uniq y hy, e]) (thn (hi.run pins s σ H _ I h) fun xv s1 hx => thn hx fun itv s2 h2 => ?_)
  obtain ⟨it, fp, tn, J, H2, rfl, I2, T, st2, f2, q⟩ := h2
  refine newSet_ok (newEnv_comp ?_)
  generalize hD : s2.heap.objs.size = D
  obtain ⟨W, ⟨m0, w0⟩, turn⟩ := q D (I2.hok.fresh (Nat.le_of_eq hD))
  -- the new set
  generalize hs3 : ({ s2 with heap := s2.heap.push { cls := .type "set", dict := none, data := .set #[] 0 (.fresh 0 0 (!X.w.params.followText "set-order")) } } : Shared) = s3
  have up : ∀ b o, s2.heap.get? b = some o → s3.heap.get? b = some o := fun b o e => by rw [← hs3]; exact Heap.get?_push_of_some _ e
  have sz3 : s3.heap.objs.size = s2.heap.objs.size + 1 := by rw [← hs3]; exact Heap.size_push ..
  have I3 : Inv X pins σ (upd H2 D (SetSO X.w D [])) s3 := by
    rw [← hs3]
    refine I2.laid (t' := s2.toks) (fun b o e => Heap.get?_push_of_some _ e) (Nat.le_of_eq hD) (setSO_ok ?_)
    rw [← hD]
    exact new_txt _
  have low : ∀ b ∈ fp, b < s2.heap.objs.size := fun b hb => let ⟨o, e, _⟩ := T.obj _ _ st2 b hb; Heap.lt_size e
  have f3 : ∀ b ∈ fp, FpOk X pins (upd H2 D (SetSO X.w D [])) b ∧ b < s3.heap.objs.size := fun b hb =>
    ⟨⟨by rw [upd_ne (by rw [← hD]; exact Nat.ne_of_lt (low b hb))]; exact (f2 b hb).1, (f2 b hb).2⟩, by rw [sz3]; exact Nat.lt_succ_of_lt (low b hb)⟩
  have st3 : tn 0 s3.heap := T.keep _ _ _ st2 fun b _ o e => up b o e
  have I4 := block_start I3 ok hN f3
  generalize hH3 : upd H2 D (SetSO X.w D []) = H3 at I3 I4 w0 f3
  have pg := hg s3 H3 s3.heap.objs.size (cellsFrom (s3.heap.objs.size + 1) scope.names (cloFrom X.env.cells scope.names [])) fp
  have pe := he s3 H3 s3.heap.objs.size (cellsFrom (s3.heap.objs.size + 1) scope.names (cloFrom X.env.cells scope.names [])) fp
  have pi1 := hi1 s3 H3 s3.heap.objs.size (cellsFrom (s3.heap.objs.size + 1) scope.names (cloFrom X.env.cells scope.names [])) fp
  have pg1 := hg1 s3 H3 s3.heap.objs.size (cellsFrom (s3.heap.objs.size + 1) scope.names (cloFrom X.env.cells scope.names [])) fp
  show codeAny _ _ (.compStart (.SetComp elt (two tg iter tg1 iter1) scope pos) 0 (.ref it) (.ref D) (compEnvC scope (cellsFrom (s3.heap.objs.size + 1) scope.names (cloFrom X.env.cells scope.names [])) s3.heap.objs.size X.env))
    (compPost (model X.prog X.w) X.A X.xe none (EP X pins σ Q) (.ref D) s3.heap.objs.size) { s3 with heap := pushCells (s3.heap.push { cls := .type "dict", data := .dict #[] }) scope.names }
  generalize hce : compEnvC scope (cellsFrom (s3.heap.objs.size + 1) scope.names (cloFrom X.env.cells scope.names [])) s3.heap.objs.size X.env = ce at I4 pg pe pi1 pg1 ⊢
  have cL : ce.locals = s3.heap.objs.size := by subst hce; rfl
  generalize hs4 : ({ s3 with heap := pushCells (s3.heap.push { cls := .type "dict", data := .dict #[] }) scope.names } : Shared) = s4 at I4 ⊢
  have st4 : tn 0 s4.heap := T.keep _ _ _ st3 fun b _ o e => by rw [← hs4]; exact pushCells_keeps _ _ _ _ (Heap.get?_push_of_some _ e)
  have stat : ∀ {σ' : L2.St} {H' : Hp} {s' : Shared}, Inv (X.blk s3 H3 scope ce fp) [] σ' H' s' → (∀ b ∈ fp, H' b = none) → ∀ b ∈ fp, FpOk (X.blk s3 H3 scope ce fp) [] H' b := fun {σ' H' s'} I' hn b hb =>
    ⟨hn b hb, (I'.ok.exf b hb).1, I'.ok.exfs b hb, .inl hb, fun x c e => (I'.ok.exf b hb).2 x c e, fun p hp => nomatch (show p ∈ ([] : List (Addr × Obj)) ++ [] from hp)⟩
  -- what holds ahead of each turn of the first clause
  let B : Nat → Shared → Prop := fun n s' => ∃ i H', Inv (X.blk s3 H3 scope ce fp) [] (wipe σ (own.map (·.2))) H' s' ∧ tn i s'.heap ∧ (∀ b ∈ fp, H' b = none) ∧ W i n H'
  have loop : codeAny (model X.prog X.w) X.A (.compLoop (.SetComp elt (two tg iter tg1 iter1) scope pos) 0 (.ref it) (.ref D) ce) (compPost (model X.prog X.w) X.A X.xe none (EP X pins σ Q) (.ref D) s3.heap.objs.size) s4 := by
    refine loop0 (hs1 ce) B ?_ m0 ⟨0, H3, I4, st4, fun b hb => (f3 b hb).1.1, w0⟩
    rintro n s5 ⟨i, H5, I5, st5, n5, w5⟩
    rcases turn i n H5 w5 with ⟨stop, qq⟩ | ⟨go, Nx, hNx, step⟩
    · refine thnF (T.done (X.blk s3 H3 scope ce fp) rfl rfl rfl hc i [] s5 _ H5 (fun _ _ => False) I5 (stat I5 n5) st5 stop) fun r s6 ⟨hr, I6⟩ => ?_
      subst hr
      have I7 : Inv X pins σ H5 s6 := I3.call' (ch := fp) I6.os I6.base I6.hok I6.bare fun b hb => let z := (f3 b hb).1.2; ⟨z.2.2.1, z.1, z.2.2.2.1, z.2.2.2.2⟩
      have nC : H5 s3.heap.objs.size = none := cL ▸ (show H5 ce.locals = none from I6.free)
      obtain ⟨m, hn, _⟩ := I6.loc
      have hn : s6.heap.Ns s3.heap.objs.size m := cL ▸ (show s6.heap.Ns ce.locals m from hn)
      obtain ⟨g0, g1, g2, g3, g4, g5⟩ := I3.fpOk (Nat.le_refl _) nC
      exact ⟨m, hn, fun h'' sb => ⟨.ref D, H5, I7.turned (t' := s6.toks) (fun b o hb e => (sb.2 b hb).trans e) g0 g1 g3 g4 g5, rfl, qq⟩⟩
    · refine thnF (T.item (X.blk s3 H3 scope ce fp) rfl rfl rfl hc i [] s5 _ H5 (fun _ _ => False) I5 (stat I5 n5) st5 go) fun r s6 ⟨u, hr, h6⟩ => ?_
      subst hr
      refine thnF h6 fun _ s7 ⟨x, H7, I7, r7, y7, st7, n7⟩ => ?_
      refine thnF (pg.run _ s7 _ H7 x u _ (I7.pinned (stat I7 n7) (T.obj _ _ st7)) r7 (step x H7 y7)) fun _ s8 ⟨σ8, H8, I8, hw8, q8⟩ => ?_
      have l8 : (wipe σ (own.map (·.2))).length = σ8.length := by rw [← hw8, wipe_length]
      have k8 : ∀ (j : Nat) v, (wipe σ (own.map (·.2)))[j]? = some (some v) → (wipe σ8 vs1)[j]? = some (some v) := fun j v e => by
        rw [← hw8] at e
        obtain ⟨e1, e2⟩ := wipe_some e
        rw [wipe_out fun z => e2 (hv j z), e1]
      -- from the second clause's end to the next turn
      have fin : ∀ {s' : Shared} {H' : Hp}, Inv (X.blk s3 H3 scope ce fp) ([] ++ pinsAt fp s7.heap) (wipe σ8 vs1) H' s' → Nx H' → ∃ m, m < n ∧ B m s' := fun {s' H'} I' nx => by
        obtain ⟨m', hm, w'⟩ := hNx H' nx
        have held : ∀ b ∈ fp, ∀ o, s7.heap.get? b = some o → s'.heap.get? b = some o ∧ H' b = none := fun b hb o e => (I'.pin (b, o) (List.mem_append_right _ (List.mem_append_right _ (mem_pinsAt hb e)))).imp id And.left
        exact ⟨m', hm, i + 1, H', (I'.unpinned (pins := [])).weak (l8.trans (wipe_length σ8 vs1).symm) k8, T.keep _ _ _ st7 fun b hb o e => (held b hb o e).1, fun b hb => let ⟨o, e, _⟩ := T.obj _ _ st7 b hb; (held b hb o e).2, w'⟩
      refine thnF (pi1.run _ s8 σ8 H8 _ I8 q8) fun xv s9 hx => thnF hx fun itv s11 h11 => ?_
      obtain ⟨it1, fp1, tn1, J1, H11, rfl, I11, T1, st11, f11, W1, ⟨m1, w1⟩, turn1⟩ := h11
      let B1 : Nat → Shared → Prop := fun k s' => ∃ j H', Inv (X.blk s3 H3 scope ce fp) ([] ++ pinsAt fp s7.heap) (wipe σ8 vs1) H' s' ∧ tn1 j s'.heap ∧ (∀ b ∈ fp1, H' b = none) ∧ W1 j k H'
      have stat1 : ∀ {H' : Hp}, (∀ b ∈ fp1, H' b = none) → ∀ b ∈ fp1, FpOk (X.blk s3 H3 scope ce fp) ([] ++ pinsAt fp s7.heap) H' b := fun hn b hb => ⟨hn b hb, (f11 b hb).2⟩
      have inner : codeAny (model X.prog X.w) X.A (.compLoop (.SetComp elt (two tg iter tg1 iter1) scope pos) 1 (.ref it1) (.ref D) ce) (fun r s' => match r with
          | .ok _ => ∃ m, m < n ∧ B m s'
          | .error _ => False) s11 := by
        refine loop1 B1 ?_ m1 ⟨0, H11, I11.weak (wipe_length _ _) (fun j v e => (wipe_some e).1), st11, fun b hb => (f11 b hb).1, w1⟩
        rintro k s12 ⟨j, H12, I12, st12, n12, w12⟩
        rcases turn1 j k H12 w12 with ⟨stop1, nx1⟩ | ⟨go1, Nx1, hNx1, step1⟩
        · refine thnF (T1.done (X.blk s3 H3 scope ce fp) rfl rfl rfl hc j _ s12 _ H12 (fun _ _ => False) I12 (stat1 n12) st12 stop1) fun r s13 ⟨hr, I13⟩ => ?_
          subst hr
          exact fin I13 nx1
        · refine thnF (T1.item (X.blk s3 H3 scope ce fp) rfl rfl rfl hc j _ s12 _ H12 (fun _ _ => False) I12 (stat1 n12) st12 go1) fun r s13 ⟨u1, hr, h13⟩ => ?_
          subst hr
          refine thnF h13 fun _ s14 ⟨x1, H14, I14, r14, y14, st14, n14⟩ => ?_
          refine thnF (pg1.run _ s14 _ H14 x1 u1 _ (I14.pinned (stat1 n14) (T1.obj _ _ st14)) r14 (step1 x1 H14 y14)) fun _ s15 ⟨σ15, H15, I15, hw15, q15⟩ => ?_
          refine thnF (pe.run _ s15 σ15 H15 _ I15 q15) fun z s17 ⟨yv, H17, I17, r17, t, L, ey, hD17, hz17, nx⟩ => ?_
          subst ey
          refine addS_ok (X := X.blk s3 H3 scope ce fp) I17 hD17 hz17 r17 fun s18 I18 => ?_
          obtain ⟨m', hm, w'⟩ := hNx1 _ nx
          have held : ∀ b ∈ fp1, ∀ o, s14.heap.get? b = some o → s18.heap.get? b = some o ∧ (upd H17 D (SetSO X.w D (ins t L))) b = none := fun b hb o e => (I18.pin (b, o) (List.mem_append_right _ (List.mem_append_right _ (mem_pinsAt hb e)))).imp id And.left
          exact ⟨m', hm, j + 1, _, I18.unpinned.weak (by rw [← hw15, wipe_length]) (fun j v e => (wipe_some (hw15 ▸ e)).1), T1.keep _ _ _ st14 fun b hb o e => (held b hb o e).1, fun b hb => let ⟨o, e, _⟩ := T1.obj _ _ st14 b hb; (held b hb o e).2, w'⟩
      exact start1 inner (T1.self X.A 0 _ _ _ st11 inner)
  exact codeAny_compStart_set loop (T.self X.A 0 _ _ _ st4 loop)
end
end Sx


set_option Elab.async false
set_option linter.all false
set_option maxRecDepth 100000
set_option maxHeartbeats 8000000
namespace K26
open PySem L2 Nd Bk Gd PySem.ExE
/-! tokens_of -/
theorem turns {J : It} {n : Nat} {G : Hp → Prop} {Y : Nat → Hp → V → Hp → Prop} (wk : Walk J n G Y) {H0 : Hp} {Qd : Hp → Prop} {St : (Hp → Prop) → V → Hp → Prop} (Pv : Nat → Hp → Prop) (h0 : Pv 0 H0) (hG : ∀ i H, i ≤ n → Pv i H → G H)
    (hs : ∀ i x H H', i < n → Pv i H → Y i H x H' → St (Pv (i + 1)) x H') (hd : ∀ H, Pv n H → Qd H) :
    ∃ W : Nat → Nat → Hp → Prop, (∃ m, W 0 m H0) ∧ ∀ i m H, W i m H → (J.stop i H ∧ Qd H) ∨ (J.go i H ∧ ∃ Nx : Hp → Prop, (∀ H', Nx H' → ∃ m', m' < m ∧ W (i + 1) m' H') ∧ ∀ x H', J.yld i H x H' → St Nx x H') := by
  refine ⟨fun i m H => m = n - i ∧ i ≤ n ∧ Pv i H, ⟨n, (Nat.sub_zero n).symm, Nat.zero_le _, h0⟩, fun i m H ⟨e, hi, p⟩ => ?_⟩
  have g := hG i H hi p
  rcases Nat.lt_or_eq_of_le hi with lt | rfl
  · exact .inr ⟨wk.goes i H lt g, Pv (i + 1), fun H' p' => ⟨n - (i + 1), by omega, rfl, lt, p'⟩, fun x H' y => hs i x H H' lt p (wk.yields i H x H' lt g y)⟩
  · exact .inl ⟨wk.stops H g, hd H p⟩
theorem ascK_ext {l m : List Str} (h1 : AscK l) (h2 : AscK m) (h : ∀ k, k ∈ l ↔ k ∈ m) : l = m := by
  have e : (l.map fun k => (k, (0 : Int))) = m.map fun k => (k, (0 : Int)) := by
    refine asc_ext (by unfold Asc; rw [List.pairwise_map]; exact h1) (by unfold Asc; rw [List.pairwise_map]; exact h2) fun p => ?_
    simp only [List.mem_map (f := fun k : Str => (k, (0 : Int)))]
    exact ⟨fun ⟨k, hk, q⟩ => ⟨k, (h k).mp hk, q⟩, fun ⟨k, hk, q⟩ => ⟨k, (h k).mpr hk, q⟩⟩
  have inv : ∀ l : List Str, (l.map fun k => (k, (0 : Int))).map (·.1) = l := fun l => by
    induction l with
    | nil => rfl
    | cons x r ih => rw [List.map_cons, List.map_cons, ih]
  have := congrArg (List.map (·.1)) e
  rwa [inv, inv] at this
theorem srtT_sortK {ks : List Str} (nd : ks.Nodup) : Sx.srtT ks = sortK ks := by
  have le : PySem.W.dataLe false PyData.str = fun a b : Str => !lt b a := rfl
  obtain ⟨h1, h2⟩ := sortK_ok ks [] (by simpa using nd) List.Pairwise.nil
  have tr : ∀ a b c : Str, (!lt b a) = true → (!lt c b) = true → (!lt c a) = true := fun a b c x y => by
    rw [Bool.not_eq_true'] at x y ⊢
    cases q : lt c a with
    | false => rfl
    | true =>
      cases z : lt a b with
      | true => rw [lt_trans q z] at y; exact absurd y (by decide)
      | false => rw [lt_total z x] at q; rw [q] at y; exact absurd y (by decide)
  have tot : ∀ a b : Str, ((!lt b a) || (!lt a b)) = true := fun a b => by
    cases q : lt b a with
    | false => rfl
    | true => rw [lt_asymm q]; rfl
  have p : (Sx.srtT ks).Perm ks := List.mergeSort_perm ..
  have s : (Sx.srtT ks).Pairwise fun a b => (!lt b a) = true := by
    unfold Sx.srtT
    rw [le]
    exact List.pairwise_mergeSort tr tot ks
  refine ascK_ext ?_ h1 fun k => by
    rw [p.mem_iff]
    have := h2.mem_iff (a := k)
    rw [List.nil_append] at this
    exact this.symm
  have nd' : (Sx.srtT ks).Nodup := p.nodup_iff.mpr nd
  refine List.Pairwise.imp (fun {a b} ⟨x, y⟩ => ?_) (List.Pairwise.and s nd')
  cases q : lt a b with
  | true => rfl
  | false => exact absurd (lt_total q (by simpa using x)) y
def toksP (p : Poly) : List Str := p.flatMap fun t => t.1.map (·.1)
def so (l : List Str) : List Str := (l.foldl dd []).reverse
theorem dd_up : ∀ (l acc : List Str), acc.length ≤ (l.foldl dd acc).length
  | [], _ => Nat.le_refl _
  | t :: l, acc => by
    refine Nat.le_trans ?_ (dd_up l (dd acc t))
    unfold dd
    split
    · exact Nat.le_refl _
    · rw [List.length_append]
      exact Nat.le_add_right _ _
theorem so_len (l r : List Str) : (so l).length ≤ ((l ++ r).foldl dd []).length := by
  unfold so
  rw [List.length_reverse, List.foldl_append]
  exact dd_up _ _
theorem so_snoc (l : List Str) (x : Str) : Sx.ins x (so l) = so (l ++ [x]) := by
  unfold so Sx.ins
  rw [List.foldl_append]
  show _ = (dd (l.foldl dd []) x).reverse
  generalize l.foldl dd [] = m
  unfold dd
  by_cases q : x ∈ m
  · rw [if_pos q, if_pos (List.mem_reverse.mpr q)]
  · rw [if_neg q, if_neg fun z => q (List.mem_reverse.mp z), List.reverse_append]
    rfl
theorem toksP_take {p : Poly} {i : Nat} {t : Mono × Int} (e : p[i]? = some t) : toksP (p.take (i + 1)) = toksP (p.take i) ++ t.1.map (·.1) := by
  unfold toksP
  rw [List.take_succ, e, List.flatMap_append]
  simp
theorem toksP_part {p : Poly} {i : Nat} {t : Mono × Int} (e : p[i]? = some t) (j : Nat) : ∃ r, toksP p = (toksP (p.take i) ++ (t.1.take j).map (·.1)) ++ r := by
  refine ⟨(t.1.drop j).map (·.1) ++ toksP (p.drop (i + 1)), ?_⟩
  have h1 : toksP p = toksP (p.take (i + 1)) ++ toksP (p.drop (i + 1)) := by
    unfold toksP
    rw [← List.flatMap_append, List.take_append_drop]
  have h2 : t.1.map (·.1) = (t.1.take j).map (·.1) ++ (t.1.drop j).map (·.1) := by rw [← List.map_append, List.take_append_drop]
  rw [h1, toksP_take e, h2]
  simp only [List.append_assoc]
theorem seq_goS {K : PySem.W.Frag} {tl : TE} {σ : L2.St} {H0 H : Hp} {a : Addr} {xs : List V} {R : It → Hp → Prop} (hv : ∀ Q : VK, Q (.ref a) H → tl σ H Q) (s : Same H0 H) (h : SqL K H0 a xs ∨ SqT K H0 a xs)
    (k : ∀ (J : It) (G : Hp → Prop), Walk J xs.length G (YAt xs) → (∀ H', Same H0 H' → G H') → R J H) : iSeq K tl σ H R := by
  rcases h with h | h
  · exact .inl (hv _ ⟨a, rfl, ⟨_, s.seq h⟩, k _ _ walk_list fun H' f => f.seq h⟩)
  · exact .inr (hv _ ⟨a, rfl, ⟨_, sqT_same s h⟩, k _ _ walk_tup fun H' f => sqT_same f h⟩)
section
variable {P : Program} {w : World} {K : PySem.W.Frag} {mg : Str → Option Value} {base : Heap}
theorem scTks : FnScope ["p", "term", "pair"] ["p"] (defScope sTokens) := ⟨rfl, rfl, rfl, by decide +kernel, rfl, by decide +kernel, by decide +kernel⟩
theorem ok_tks {f : Addr} {fd : FuncData} (F : Fun K "tokens_of" "tokens_of" sTokens f fd) (C : Cn K mg) : FnOk P w K mg base CX0 1 f fd ["p"] (spTks K) := by
  refine F.ok scTks (fun vs H Q E h => ?_) (fun cdv A outer s H vs Q E hr h => ?_)
  · obtain ⟨v, p, rfl, _⟩ := h
    rfl
  · obtain ⟨v, p, rfl, hd, okp, hz, hln, k⟩ := h
    refine ⟨_, pss_one (ps_ret (pe_callTy call_tuple_of (by rfl) C.N.tup (by rfl) (pa_cons (pe_callB (Sx.cr_sortS rfl (u64 hr)) (by rfl) C.srt (by rfl) (pa_cons
      (Sx.pe_sc2 (own := [("term", 1), ("pair", 2)]) (vs1 := [2]) (g := gName 1) (g1 := gName 2) rfl scTks.nd (pi_seq (pv 0)) (blkOk_by (N := ["p", "term", "pair"]) (sc := defScope sTokens) (by decide +kernel)) (by decide)
        (fun _ _ _ _ _ => pg_name (i := 1) scTks.nd rfl (Or.inl rfl)) (fun _ _ _ _ _ => show PI _ _ _ (iSeq K (tOp (rIx K) (tVar 1) (tC (.int 0)))) from pi_seq (pe_ix ix_seq (pv 1) pe_int (fun _ _ => rfl)))
        (fun _ _ _ _ _ => pg_name (i := 2) scTks.nd rfl (Or.inl rfl)) (fun _ _ _ _ _ => show PE _ _ (tOp (rIx K) (tVar 2) (tC (.int 0))) from pe_ix ix_seq (pv 2) pe_int (fun _ _ => rfl))) pa_nil)) pa_nil))), ?_⟩
    obtain ⟨a, xs, rfl, hs, hl, hget⟩ := fd_bag hd
    have lim : ∀ {l r : List Str}, toksP p = l ++ r → (so l).length ≤ 1000 := fun {l r} e => by
      refine Nat.le_trans (so_len l r) ?_
      rw [← e, ← sortK_len (dd_nodup _ [] List.nodup_nil)]
      exact hln
    refine seq_go rfl hs fun J G walk hG D nD => ?_
    refine turns walk (fun i H2 => Same H H2 ∧ H2 D = some (Sx.SetSO w D (so (toksP (p.take i))))) ⟨sm_new sm_refl nD, upd_same⟩ (fun i H2 _ ⟨s2, _⟩ => hG H2 s2.seq (sqT_same s2)) ?_ ?_
    · rintro i x _ H2 hi ⟨s2, hD⟩ ⟨rfl, hx⟩
      obtain ⟨t, ht, hxt⟩ := hget i x hx
      obtain ⟨T, kk, rfl, hT, hk⟩ := fd_pair hxt
      obtain ⟨b, zs, rfl, hb, hbl, hbget⟩ := fd_bag (κ := Str) hk
      refine ⟨rfl, ?_⟩
      refine seq_goS (a := b) (xs := zs) (fun Q q => ⟨_, rfl, (fd_ix (sq_same s2 hT) Q).2 q⟩) s2 hb fun J2 G2 walk2 hG2 => ?_
      refine turns walk2 (fun j H3 => Same H H3 ∧ H3 D = some (Sx.SetSO w D (so (toksP (p.take i) ++ (t.1.take j).map (·.1))))) ⟨s2, by simpa using hD⟩ (fun j H3 _ ⟨s3, _⟩ => hG2 H3 s3) ?_ ?_
      · rintro j y _ H3 hj ⟨s3, hD3⟩ ⟨rfl, hy⟩
        obtain ⟨q, hq, hyq⟩ := hbget j y hy
        obtain ⟨U, kk2, rfl, hU, hkk⟩ := fd_pair hyq
        cases fd_str (z := q.1) hkk
        obtain ⟨r, hr2⟩ := toksP_part ht j
        have := lim hr2
        refine ⟨rfl, _, rfl, (fd_ix (sq_same s3 hU) _).2 ⟨q.1, _, rfl, hD3, ?_, sm_new s3 nD, ?_⟩⟩
        · show _ < 4096
          omega
        · rw [upd_same, so_snoc, List.take_succ, hq, List.map_append, List.append_assoc]
          rfl
      · rintro H3 ⟨s3, hD3⟩
        rw [hbl, List.take_length, ← toksP_take ht] at hD3
        exact ⟨s3, hD3⟩
    · rintro H2 ⟨s2, hD⟩
      rw [hl, List.take_length] at hD
      refine ⟨D, _, rfl, hD, Nat.le_trans (lim (List.append_nil _).symm) (by decide), fun ks l pk nl => ?_⟩
      have pks : ks.Perm (seen p) := pk.trans (List.reverse_perm _)
      have e : Sx.srtT ks = tokK p := by
        rw [srtT_sortK (pks.nodup_iff.mpr (seen_nodup p)), tokK_seen]
        obtain ⟨a1, a2⟩ := sortK_ok ks [] (by simpa using pks.nodup_iff.mpr (seen_nodup p)) List.Pairwise.nil
        obtain ⟨b1, b2⟩ := sortK_ok (seen p) [] (by simpa using seen_nodup p) List.Pairwise.nil
        refine ascK_ext a1 b1 fun k => ?_
        have e1 := a2.mem_iff (a := k)
        have e2 := b2.mem_iff (a := k)
        rw [List.nil_append] at e1 e2
        exact e1.trans (pks.mem_iff.trans e2.symm)
      rw [e]
      have s3 : Same H2 (upd H2 l (.lst ((tokK p).map V.str))) := sm_new sm_refl nl
      have hl3 : upd H2 l (.lst ((tokK p).map V.str)) l = some (.lst ((tokK p).map V.str)) := upd_same
      generalize upd H2 l (.lst ((tokK p).map V.str)) = H3 at s3 hl3 ⊢
      refine ⟨l, _, rfl, .inl ⟨SqL.of hl3, fun T nT => ?_⟩⟩
      refine k _ _ (sm_new (s2.trans s3) ((s2.trans s3).free nT)) (.tup (SqT.of upd_same) ?_)
      exact strs_dp _
end
end K26


set_option Elab.async false
set_option linter.all false
set_option maxRecDepth 100000
set_option maxHeartbeats 8000000
namespace K26
open PySem L2 Nd Bk Gd
/-! the pool, from which the laws k07 to k13 draw: a dict -/
def kC : Str := Str.ofString "cells"
def kA : Str := Str.ofString "at"
def kR : Str := Str.ofString "rest"
def kL : Str := Str.ofString "left"
def kS : Str := Str.ofString "small"
def kD : Str := Str.ofString "seed"
def kT : Str := Str.ofString "turn"
def pk (c : Addr) (a r l : Int) (s : Bool) (d t : Int) : List (Key × V) := [(.inr kC, .ref c), (.inr kA, .int a), (.inr kR, .int r), (.inr kL, .int l), (.inr kS, .bl s), (.inr kD, .int d), (.inr kT, .int t)]
theorem pk_ne : ([kC, kA, kR, kL, kS, kD, kT] : List Str).Nodup := by decide +kernel
theorem nK {x y : Str} (h : decide (x = y) = false) : decide ((Sum.inr x : Key) = .inr y) = false := decide_eq_false fun e => (of_decide_eq_false h) (Sum.inr.inj e)
theorem yK (x : Str) : decide ((Sum.inr x : Key) = .inr x) = true := decide_eq_true rfl
theorem val_hit {k : Str} {v : V} {r : List (Key × V)} : valV ((.inr k, v) :: r) (.inr k) = some v := by
  unfold valV
  rw [List.find?_cons, yK]
  rfl
theorem val_miss {k j : Str} {v : V} {r : List (Key × V)} (h : decide (k = j) = false) : valV ((.inr k, v) :: r) (.inr j) = valV r (.inr j) := by
  unfold valV
  rw [List.find?_cons, nK h]
section
variable {c : Addr} {a r l d t : Int} {s : Bool}
theorem pk_C : valV (pk c a r l s d t) (.inr kC) = some (.ref c) := val_hit
theorem pk_A : valV (pk c a r l s d t) (.inr kA) = some (.int a) := (val_miss (by decide +kernel)).trans val_hit
theorem pk_R : valV (pk c a r l s d t) (.inr kR) = some (.int r) := (val_miss (by decide +kernel)).trans ((val_miss (by decide +kernel)).trans val_hit)
theorem pk_L : valV (pk c a r l s d t) (.inr kL) = some (.int l) := (val_miss (by decide +kernel)).trans ((val_miss (by decide +kernel)).trans ((val_miss (by decide +kernel)).trans val_hit))
theorem pk_S : valV (pk c a r l s d t) (.inr kS) = some (.bl s) := (val_miss (by decide +kernel)).trans ((val_miss (by decide +kernel)).trans ((val_miss (by decide +kernel)).trans ((val_miss (by decide +kernel)).trans val_hit)))
theorem pk_D : valV (pk c a r l s d t) (.inr kD) = some (.int d) := (val_miss (by decide +kernel)).trans ((val_miss (by decide +kernel)).trans ((val_miss (by decide +kernel)).trans ((val_miss (by decide +kernel)).trans ((val_miss (by decide +kernel)).trans val_hit))))
theorem pk_T : valV (pk c a r l s d t) (.inr kT) = some (.int t) := (val_miss (by decide +kernel)).trans ((val_miss (by decide +kernel)).trans ((val_miss (by decide +kernel)).trans ((val_miss (by decide +kernel)).trans ((val_miss (by decide +kernel)).trans ((val_miss (by decide +kernel)).trans val_hit)))))
theorem put_there {kvs : List (Key × V)} {k : Str} {v w : V} (h : valV kvs (.inr k) = some w) : putK kvs (.inr k) v = kvs.map fun kv => if kv.1 = (.inr k : Key) then (kv.1, v) else kv := by
  unfold putK
  have e : (kvs.any fun kv => decide (kv.1 = (.inr k : Key))) = true := by
    unfold valV at h
    obtain ⟨q, hq, _⟩ := Option.map_eq_some_iff.mp h
    have h1 := List.mem_of_find?_eq_some hq
    have h2' := List.find?_some hq
    have h2 : q.1 = (.inr k : Key) := of_decide_eq_true h2'
    exact List.any_eq_true.mpr ⟨q, h1, decide_eq_true h2⟩
  rw [if_pos e]
theorem inr_ne {x y : Str} (h : decide (x = y) = false) : ¬ ((Sum.inr x : Key) = .inr y) := fun e => (of_decide_eq_false h) (Sum.inr.inj e)
theorem up_A (x : Int) : putK (pk c a r l s d t) (.inr kA) (.int x) = pk c x r l s d t := by
  rw [put_there pk_A]
  simp only [pk, List.map_cons, List.map_nil, if_neg (inr_ne (show decide (kC = kA) = false by decide +kernel)), if_neg (inr_ne (show decide (kR = kA) = false by decide +kernel)), if_neg (inr_ne (show decide (kL = kA) = false by decide +kernel)), if_neg (inr_ne (show decide (kS = kA) = false by decide +kernel)), if_neg (inr_ne (show decide (kD = kA) = false by decide +kernel)), if_neg (inr_ne (show decide (kT = kA) = false by decide +kernel)), if_true]
theorem up_R (x : Int) : putK (pk c a r l s d t) (.inr kR) (.int x) = pk c a x l s d t := by
  rw [put_there pk_R]
  simp only [pk, List.map_cons, List.map_nil, if_neg (inr_ne (show decide (kC = kR) = false by decide +kernel)), if_neg (inr_ne (show decide (kA = kR) = false by decide +kernel)), if_neg (inr_ne (show decide (kL = kR) = false by decide +kernel)), if_neg (inr_ne (show decide (kS = kR) = false by decide +kernel)), if_neg (inr_ne (show decide (kD = kR) = false by decide +kernel)), if_neg (inr_ne (show decide (kT = kR) = false by decide +kernel)), if_true]
theorem up_L (x : Int) : putK (pk c a r l s d t) (.inr kL) (.int x) = pk c a r x s d t := by
  rw [put_there pk_L]
  simp only [pk, List.map_cons, List.map_nil, if_neg (inr_ne (show decide (kC = kL) = false by decide +kernel)), if_neg (inr_ne (show decide (kA = kL) = false by decide +kernel)), if_neg (inr_ne (show decide (kR = kL) = false by decide +kernel)), if_neg (inr_ne (show decide (kS = kL) = false by decide +kernel)), if_neg (inr_ne (show decide (kD = kL) = false by decide +kernel)), if_neg (inr_ne (show decide (kT = kL) = false by decide +kernel)), if_true]
theorem up_S (x : Bool) : putK (pk c a r l s d t) (.inr kS) (.bl x) = pk c a r l x d t := by
  rw [put_there pk_S]
  simp only [pk, List.map_cons, List.map_nil, if_neg (inr_ne (show decide (kC = kS) = false by decide +kernel)), if_neg (inr_ne (show decide (kA = kS) = false by decide +kernel)), if_neg (inr_ne (show decide (kR = kS) = false by decide +kernel)), if_neg (inr_ne (show decide (kL = kS) = false by decide +kernel)), if_neg (inr_ne (show decide (kD = kS) = false by decide +kernel)), if_neg (inr_ne (show decide (kT = kS) = false by decide +kernel)), if_true]
theorem up_T (x : Int) : putK (pk c a r l s d t) (.inr kT) (.int x) = pk c a r l s d x := by
  rw [put_there pk_T]
  simp only [pk, List.map_cons, List.map_nil, if_neg (inr_ne (show decide (kC = kT) = false by decide +kernel)), if_neg (inr_ne (show decide (kA = kT) = false by decide +kernel)), if_neg (inr_ne (show decide (kR = kT) = false by decide +kernel)), if_neg (inr_ne (show decide (kL = kT) = false by decide +kernel)), if_neg (inr_ne (show decide (kS = kT) = false by decide +kernel)), if_neg (inr_ne (show decide (kD = kT) = false by decide +kernel)), if_true]
end
structure PoolAt (H : Hp) (p c : Addr) (ns : List Int) : Prop where
  dct : ∃ (a r l : Int) (s : Bool) (d t : Int), 0 ≤ a ∧ H p = some (.dK (pk c a r l s d t))
  cells : H c = some (.lst (ns.map V.int))
  len : ns.length ≤ 1000
theorem PoolAt.ne {H : Hp} {p c : Addr} {ns : List Int} (x : PoolAt H p c ns) : c ≠ p := fun e => by
  obtain ⟨a, r, l, s, d, t, _, h⟩ := x.dct
  have h2 := x.cells
  rw [e, h] at h2
  cases h2
theorem PoolAt.put {H : Hp} {p c : Addr} {ns : List Int} (x : PoolAt H p c ns) {a r l d t : Int} {s : Bool} (h : 0 ≤ a) : PoolAt (upd H p (.dK (pk c a r l s d t))) p c ns := ⟨⟨a, r, l, s, d, t, h, upd_same⟩, by rw [upd_ne x.ne]; exact x.cells, x.len⟩
theorem PoolAt.same {H H' : Hp} {p c : Addr} {ns : List Int} (x : PoolAt H p c ns) (s : Same H H') : PoolAt H' p c ns := let ⟨a, r, l, q, d, t, h0, h⟩ := x.dct; ⟨⟨a, r, l, q, d, t, h0, s _ _ h⟩, s _ _ x.cells, x.len⟩
theorem PoolAt.notT {H : Hp} {p c : Addr} {ns : List Int} (x : PoolAt H p c ns) : NotT (H p) := by
  obtain ⟨a, r, l, s, d, t, _, h⟩ := x.dct
  rw [h]
  exact notT_dK
theorem PoolAt.off {H : Hp} {p c d : Addr} {ns : List Int} (x : PoolAt H p c ns) (n : H d = none) : d ≠ p := by
  obtain ⟨a, r, l, s, e, t, _, h⟩ := x.dct
  exact Ne.symm (ne_of_none h n)
theorem PoolAt.mine {H : Hp} {p c d : Addr} {ns : List Int} {o : HO} (x : PoolAt H p c ns) (h1 : p ≠ d) (h2 : c ≠ d) : PoolAt (upd H d o) p c ns := by
  obtain ⟨a, r, l, s, e, t, h0, h⟩ := x.dct
  exact ⟨⟨a, r, l, s, e, t, h0, by rw [upd_ne h1]; exact h⟩, by rw [upd_ne h2]; exact x.cells, x.len⟩
def spMixd : Sp := fun vs H Q _ => ∃ n t m : Int, vs = [.int n, .int t, .int m] ∧ 0 < m ∧ m < 10000000 ∧ ∀ r : Int, 0 ≤ r → r < m → Q (.int r) H
section
variable {P : Program} {w : World} {K : PySem.W.Frag} {mg : Str → Option Value} {base : Heap}
end
end K26


set_option Elab.async false
set_option linter.all false
set_option maxRecDepth 100000
set_option maxHeartbeats 8000000
namespace K26
open PySem L2 Nd Bk Gd
theorem getK {H : Hp} {p : Addr} {kvs : List (Key × V)} {k : Str} {v : V} (h : H p = some (.dK kvs)) (e : valV kvs (.inr k) = some v) : DGet H p (.str k) (some v) := e ▸ DGet.k (k := .inr k) h
theorem putD {H : Hp} {p : Addr} {kvs kvs' : List (Key × V)} {k : Str} {v : V} (h : H p = some (.dK kvs)) (l : kvs.length ≤ 1000) (e : putK kvs (.inr k) v = kvs') : DPut H p (.str k) v (upd H p (.dK kvs')) := e ▸ DPut.k (k := .inr k) h (small1000 l)
def spTake : Sp := fun vs H Q _ => ∃ (p c : Addr) (ns : List Int) (many : Int), vs = [.ref p, .int many] ∧ 0 < many ∧ many < 10000000 ∧ PoolAt H p c ns ∧ ∀ (r : Int) (H' : Hp), 0 ≤ r → r < many → PoolAt H' p c ns → But p H H' → Q (.int r) H'
section
variable {P : Program} {w : World} {K : PySem.W.Frag} {mg : Str → Option Value} {base : Heap}
end
end K26


set_option Elab.async false
set_option linter.all false
set_option maxRecDepth 100000
set_option maxHeartbeats 8000000
namespace K26
open PySem L2 Nd Bk Gd
theorem pk_mer {c : Addr} {a r l d t : Int} {s : Bool} : mergeK [] (pk c a r l s d t) = pk c a r l s d t := by
  have ne : ∀ {x y : Str}, decide (x = y) = false → ¬ ((Sum.inr x : Key) = .inr y) := fun h => inr_ne h
  have st : ∀ (kvs : List (Key × V)) (k : Str) (v : V), valV kvs (.inr k) = none → putK kvs (.inr k) v = kvs ++ [(.inr k, v)] := fun kvs k v h => putK_new v h
  have ms : ∀ {k j : Str} {v : V} {r : List (Key × V)}, decide (k = j) = false → valV r (.inr j) = none → valV ((.inr k, v) :: r) (.inr j) = none := fun h e => (val_miss h).trans e
  unfold mergeK pk
  simp only [List.foldl_cons, List.foldl_nil]
  rw [st [] kC _ rfl]
  rw [st ([] ++ [_]) kA _ (ms (by decide +kernel) rfl)]
  rw [st ([] ++ [_] ++ [_]) kR _ (ms (by decide +kernel) (ms (by decide +kernel) rfl))]
  rw [st ([] ++ [_] ++ [_] ++ [_]) kL _ (ms (by decide +kernel) (ms (by decide +kernel) (ms (by decide +kernel) rfl)))]
  rw [st ([] ++ [_] ++ [_] ++ [_] ++ [_]) kS _ (ms (by decide +kernel) (ms (by decide +kernel) (ms (by decide +kernel) (ms (by decide +kernel) rfl))))]
  rw [st ([] ++ [_] ++ [_] ++ [_] ++ [_] ++ [_]) kD _ (ms (by decide +kernel) (ms (by decide +kernel) (ms (by decide +kernel) (ms (by decide +kernel) (ms (by decide +kernel) rfl)))))]
  rw [st ([] ++ [_] ++ [_] ++ [_] ++ [_] ++ [_] ++ [_]) kT _ (ms (by decide +kernel) (ms (by decide +kernel) (ms (by decide +kernel) (ms (by decide +kernel) (ms (by decide +kernel) (ms (by decide +kernel) rfl))))))]
  rfl
def spPool (K : PySem.W.Frag) : Sp := fun vs H Q _ => ∃ (a : Addr) (ns : List Int), vs = [.ref a] ∧ (SqL K H a (ns.map V.int) ∨ SqT K H a (ns.map V.int)) ∧ ns.length ≤ 1000 ∧
  ∀ (p c : Addr) (H' : Hp) (ms : List Int), H p = none → H c = none → Same H H' → PoolAt H' p c ms → Q (.ref p) H'
section
variable {P : Program} {w : World} {K : PySem.W.Frag} {mg : Str → Option Value} {base : Heap}
end
end K26


set_option Elab.async false
set_option linter.all false
set_option maxRecDepth 100000
set_option maxHeartbeats 8000000
namespace K26
open PySem L2 Nd Bk Gd
theorem butp_free {p a : Addr} {H H1 : Hp} (k : But p H H1) (n : H1 a = none) (ne : a ≠ p) : H a = none := by
  cases e : H a with
  | none => rfl
  | some u =>
    have := k a u e ne
    rw [n] at this
    cases this
theorem nd_le {α : Type} [DecidableEq α] : ∀ {l m : List α}, l.Nodup → (∀ x ∈ l, x ∈ m) → l.length ≤ m.length
  | [], m, _, _ => Nat.zero_le _
  | x :: l, m, n, h => by
    obtain ⟨n1, n2⟩ := List.nodup_cons.mp n
    have hx := h x List.mem_cons_self
    have := nd_le (l := l) (m := m.erase x) n2 fun y hy => (List.mem_erase_of_ne (fun e : y = x => n1 (by rw [← e]; exact hy))).mpr (h y (List.mem_cons_of_mem _ hy))
    rw [List.length_erase_of_mem hx] at this
    have := List.length_pos_of_mem hx
    rw [List.length_cons]
    omega
/-- the figures of 1 to 39 -/
def fig39 : List Str := (List.range 39).map fun n : Nat => Str.ofString (toString (1 + (n : Int)))
theorem fig39_nd : fig39.Nodup := by decide +kernel
theorem str_cancel {x a b : Str} (h : x ++ a = x ++ b) : a = b := by
  have e : (x ++ a).cps.toList = (x ++ b).cps.toList := by rw [h]
  rw [PySem.W.KT.app_list, PySem.W.KT.app_list] at e
  have e2 := List.append_cancel_left e
  cases a; cases b
  simp only [Str.mk.injEq] at *
  exact Array.toList_inj.mp e2
theorem filter_one {fs : List Str} {u : Str} : List.filter (fun t => decide (t ∉ fs)) [u] = if u ∈ fs then [] else [u] := by
  by_cases z : u ∈ fs <;> simp [z]
/-- one of 39 tokens isn't there yet -/
theorem free39 {fs : List Str} (x : Str) (h : fs.length ≤ 38) : ((fig39.map (x ++ ·)).filter fun t => decide (t ∉ fs)) ≠ [] := fun e => by
  have al : ∀ t ∈ fig39.map (x ++ ·), t ∈ fs := fun t ht => by
    have := List.filter_eq_nil_iff.mp e t ht
    simpa using this
  have nd : (fig39.map (x ++ ·)).Nodup := by
    rw [List.nodup_iff_pairwise_ne, List.pairwise_map]
    exact List.Pairwise.imp (fun hne hc => hne (str_cancel hc)) fig39_nd
  have := nd_le nd al
  rw [List.length_map] at this
  have e39 : fig39.length = 39 := by decide +kernel
  omega
/-- a token as it is drawn: short, and of signs that there are -/
def shU (z : Str) : Bool := shT z && PyData.strOk z
theorem shU_T {z : Str} (h : shU z = true) : shT z = true := (Bool.and_eq_true_iff.mp h).1
theorem shU_K {z : Str} (h : shU z = true) : SeqAt.shaped (Ky.enc z) = true := by
  have := (Bool.and_eq_true_iff.mp h).2
  show SeqAt.shaped (.str z) = true
  unfold SeqAt.shaped
  simp [PyData.canLay0, PyData.depth, this]
theorem ofString_uni (t : String) : ∀ c ∈ (Str.ofString t).cps.toList, c < 0x110000 := by
  rw [Str.ofString_eq_toList]
  intro c hc
  obtain ⟨x, _, rfl⟩ := List.mem_map.mp hc
  have h := x.valid
  have h2 : x.val.toNat < 0xd800 ∨ 0xdfff < x.val.toNat ∧ x.val.toNat < 0x110000 := h
  show x.val.toNat < 0x110000
  omega
def spPTok : Sp := fun vs H Q _ => ∃ (p c : Addr) (ns : List Int) (many : Int), vs = [.ref p, .int many] ∧ 0 ≤ many ∧ many ≤ 38 ∧ PoolAt H p c ns ∧
  ∀ (fo : Addr) (fs : List Str) (H' : Hp), H fo = none → But p H H' → PoolAt H' p c ns → H' fo = some (.lst (fs.map V.str)) → fs.Nodup → fs.length = many.toNat → (∀ z ∈ fs, shU z = true) → Q (.ref fo) H'
theorem tok_sh {x : Str} {n : Int} (hx : x.length = 1) (hc : ∀ c ∈ x.cps.toList, c < 0x110000) (h0 : 0 ≤ n) (h1 : n ≤ 99999) : shU (x ++ Str.ofString (toString n)) = true := by
  have l4 : (Str.ofString (toString n)).length ≤ 5 := PyProof.Rows.toString_length_le h0 (by decide) (by omega)
  have all : ∀ c ∈ (x ++ Str.ofString (toString n)).cps.toList, c < 0x110000 := by
    intro c h
    rw [PySem.W.KT.app_list] at h
    rcases List.mem_append.mp h with q | q
    · exact hc c q
    · exact ofString_uni _ c q
  unfold shU
  rw [Bool.and_eq_true]
  refine ⟨shT_mk ?_ ?_ fun c h => Nat.lt_trans (all c h) (by decide), ?_⟩
  · rw [Str.length_append, hx]; omega
  · rw [Str.length_append, hx]; omega
  · unfold PyData.strOk
    rw [← Array.all_toList, List.all_eq_true]
    exact fun c h => decide_eq_true (all c h)
section
variable {P : Program} {w : World} {K : PySem.W.Frag} {mg : Str → Option Value} {base : Heap}
abbrev ptokN : List Str := ["pool", "many", "letters", "letter", "found", "k", "first", "most", "token", "n"]
abbrev abc : Str := "abcdefghijklmnopqrstuvwxyz"
def One (x : Str) : Prop := x.length = 1 ∧ ∀ c ∈ x.cps.toList, c < 0x110000
theorem one_abc {j : Nat} (h : j < (Str.cps abc).toList.length) : One ⟨#[(Str.cps abc).toList[j]]⟩ := ⟨rfl, fun c hc => by
  rw [List.mem_singleton.mp hc]
  exact (by decide +kernel : ∀ y ∈ (Str.cps abc).toList, y < 0x110000) _ (List.getElem_mem h)⟩
end
end K26


set_option Elab.async false
set_option linter.all false
set_option maxRecDepth 100000
set_option maxHeartbeats 8000000
namespace K26
open PySem L2 Nd Bk Gd
section
variable {κ : Type} [DecidableEq κ] [Ky κ]
def insU (f : List κ) (k : κ) : List κ := if k ∈ f then f else insK f k
def sortU (ks : List κ) : List κ := ks.foldl insU []
theorem insU_asc {f : List κ} {k : κ} (h : AscK f) : AscK (insU f k) := by
  unfold insU
  by_cases e : k ∈ f
  · rw [if_pos e]; exact h
  · rw [if_neg e]; exact insK_asc h e
theorem insU_mem {f : List κ} {k x : κ} : x ∈ insU f k ↔ x = k ∨ x ∈ f := by
  unfold insU
  by_cases e : k ∈ f
  · rw [if_pos e]
    exact ⟨.inr, fun h => h.elim (fun h => h ▸ e) id⟩
  · rw [if_neg e, (insK_perm f k).mem_iff, List.mem_cons]
theorem insU_len {f : List κ} {k : κ} : (insU f k).length ≤ f.length + 1 := by
  unfold insU
  by_cases e : k ∈ f
  · rw [if_pos e]; omega
  · rw [if_neg e, (insK_perm f k).length_eq, List.length_cons]; omega
theorem sortU_foldl : ∀ (ks f : List κ), AscK f → AscK (ks.foldl insU f) ∧ (∀ x, x ∈ ks.foldl insU f ↔ x ∈ ks ∨ x ∈ f) ∧ (ks.foldl insU f).length ≤ f.length + ks.length
  | [], f, h => ⟨h, fun x => ⟨.inr, fun q => q.elim (fun q => nomatch q) id⟩, Nat.le_refl _⟩
  | k :: r, f, h => by
    obtain ⟨h1, h2, h3⟩ := sortU_foldl r (insU f k) (insU_asc h)
    refine ⟨h1, fun x => ?_, ?_⟩
    · rw [List.foldl_cons, h2, insU_mem, List.mem_cons]
      constructor
      · rintro (q | q | q)
        · exact .inl (.inr q)
        · exact .inl (.inl q)
        · exact .inr q
      · rintro ((q | q) | q)
        · exact .inr (.inl q)
        · exact .inl q
        · exact .inr (.inr q)
    · rw [List.foldl_cons]
      have := insU_len (f := f) (k := k)
      rw [List.length_cons]
      omega
theorem sortU_asc (ks : List κ) : AscK (sortU ks) := (sortU_foldl ks [] List.Pairwise.nil).1
theorem sortU_mem {ks : List κ} {x : κ} : x ∈ sortU ks ↔ x ∈ ks := by
  rw [show sortU ks = ks.foldl insU [] from rfl, (sortU_foldl ks [] List.Pairwise.nil).2.1 x]
  exact ⟨fun h => h.elim id (fun q => nomatch q), fun h => Or.inl h⟩
theorem sortU_len (ks : List κ) : (sortU ks).length ≤ ks.length := by
  have := (sortU_foldl ks [] List.Pairwise.nil).2.2
  rw [List.length_nil, Nat.zero_add] at this
  exact this
theorem sortU_take {ks : List κ} {i : Nat} {k : κ} (h : ks[i]? = some k) : sortU (ks.take (i + 1)) = insU (sortU (ks.take i)) k := by
  rw [List.take_succ, h]
  simp [sortU]
theorem sortU_nd : ∀ (ks f : List κ), (f ++ ks).Nodup → ks.foldl insU f = ks.foldl insK f
  | [], f, _ => rfl
  | k :: r, f, hn => by
    have hk : k ∉ f := fun q => by
      rw [List.nodup_append] at hn
      exact hn.2.2 k q k List.mem_cons_self rfl
    have p1 : (insK f k ++ r).Perm (f ++ k :: r) := ((insK_perm f k).append_right r).trans (by rw [List.cons_append]; exact List.perm_middle.symm)
    rw [List.foldl_cons, List.foldl_cons, show insU f k = insK f k from if_neg hk]
    exact sortU_nd r (insK f k) (p1.nodup_iff.mpr hn)
theorem sortU_sortK {ks : List κ} (h : ks.Nodup) : sortU ks = sortK ks := sortU_nd ks [] (by simpa using h)
theorem cnt_le (f : List κ) (k : κ) : cnt f k ≤ f.length := List.length_filter_le _ _
/-- where it would stand tells whether it is there -/
theorem at_in : ∀ {f : List κ} {k : κ}, AscK f → (k ∈ f ↔ f[cnt f k]? = some k)
  | [], k, _ => ⟨fun h => (nomatch h), fun h => by simp at h⟩
  | x :: r, k, h => by
    obtain ⟨h1, h2⟩ := List.pairwise_cons.mp h
    cases e : lt x k with
    | true =>
      have ec : cnt (x :: r) k = cnt r k + 1 := by simp [cnt, List.filter_cons, e]
      have ne : k ≠ x := fun q => by rw [q, lt_irrefl] at e; cases e
      rw [ec, List.getElem?_cons_succ, ← at_in h2, List.mem_cons]
      exact ⟨fun q => q.elim (fun q => absurd q ne) id, .inr⟩
    | false =>
      have hr : ∀ o ∈ r, lt o k = false := fun o ho => by
        cases q : lt o k with
        | false => rfl
        | true => rw [lt_trans (h1 o ho) q] at e; cases e
      have ec : cnt (x :: r) k = 0 := by
        unfold cnt
        rw [List.filter_cons, e, if_neg Bool.false_ne_true, List.filter_eq_nil_iff.mpr (fun o ho => by rw [hr o ho]; exact Bool.false_ne_true)]
        rfl
      rw [ec, List.getElem?_cons_zero, List.mem_cons]
      constructor
      · rintro (q | q)
        · rw [q]
        · rw [h1 k q] at e; cases e
      · intro q
        exact .inl (Option.some.inj q).symm
end
theorem cut_take {ys : List V} {n : Nat} (h : n ≤ ys.length) : cutV ys none (some (n : Int)) = ys.take n := by
  unfold cutV
  rw [HT.sIx_none, HT.sIx_nat, List.drop_zero, Nat.sub_zero, Nat.min_eq_left h]
theorem cut_drop {ys : List V} {n : Nat} (h : n ≤ ys.length) : cutV ys (some (n : Int)) none = ys.drop n := by
  unfold cutV
  rw [HT.sIx_none, HT.sIx_nat, Nat.min_eq_left h]
  exact List.take_of_length_le (by rw [List.length_drop]; omega)
def spPSort (K : PySem.W.Frag) (κ : Type) [DecidableEq κ] [Ky κ] : Sp := fun vs H Q _ => ∃ (a : Addr) (xs : List V) (ks : List κ), vs = [.ref a] ∧ SqL K H a xs ∧ DpAll K H xs (ks.map Ky.enc) ∧ (∀ k ∈ ks, SeqAt.shaped (Ky.enc k) = true) ∧ ks.length ≤ 1000 ∧
  ∀ (l : Addr) (ys : List V) (H' : Hp), H l = none → Same H H' → H' l = some (.lst ys) → DpAll K H' ys ((sortU ks).map Ky.enc) → Q (.ref l) H'
section
variable {P : Program} {w : World} {K : PySem.W.Frag} {mg : Str → Option Value} {base : Heap}
abbrev psortN : List Str := ["rows", "found", "row", "at", "one"]
end
end K26


set_option Elab.async false
set_option linter.all false
set_option maxRecDepth 100000
set_option maxHeartbeats 8000000
namespace K26
open PySem L2 Nd Bk Gd
def spPProd (K : PySem.W.Frag) : Sp := fun vs H Q _ => ∃ (x y : V) (m n : Mono), vs = [x, y] ∧ Dp K H x (mD m) ∧ Dp K H y (mD n) ∧ MOk m ∧ MOk n ∧ (∀ t ∈ m ++ n, SeqAt.shaped (Ky.enc t.1) = true) ∧ m.length + n.length ≤ 1000 ∧ ∀ (a : Addr) (H' : Hp), Same H H' → Dp K H' (.ref a) (mD (mulM m n)) → Q (.ref a) H'
section
variable {P : Program} {w : World} {K : PySem.W.Frag} {mg : Str → Option Value} {base : Heap}
abbrev pprodN : List Str := ["one", "other", "powers", "token", "number", "key"]
end
end K26


set_option Elab.async false
set_option linter.all false
set_option maxRecDepth 100000
set_option maxHeartbeats 8000000
namespace K26
open PySem L2 Nd Bk Gd
def spPPoly (K : PySem.W.Frag) : Sp := fun vs H Q _ => ∃ (a : Addr) (xs : List V) (ts : Poly), vs = [.ref a] ∧ SqL K H a xs ∧ DpAll K H xs (ts.map encP) ∧ (∀ t ∈ ts, SeqAt.shaped (Ky.enc t.1) = true) ∧ ts.length ≤ 1000 ∧
  ∀ (v : V) (H' : Hp), Same H H' → Dp K H' v (bD (nf ts)) → Q v H'
section
variable {P : Program} {w : World} {K : PySem.W.Frag} {mg : Str → Option Value} {base : Heap}
abbrev ppolyN : List Str := ["terms", "many", "monomial", "number", "key"]
end
end K26


set_option Elab.async false
set_option linter.all false
set_option maxRecDepth 100000
set_option maxHeartbeats 8000000
namespace K26
open PySem L2 Nd Bk Gd
/-- the tokens, term by term -/
def fk (p : Poly) : List Str := p.flatMap fun t => t.1.map (·.1)
theorem fk_take {p : Poly} {i : Nat} {t : Mono × Int} (h : p[i]? = some t) : fk (p.take (i + 1)) = fk (p.take i) ++ t.1.map (·.1) := by
  unfold fk
  rw [List.take_succ, h, List.flatMap_append]
  congr 1
  exact List.append_nil _
theorem fk_le (p : Poly) (i : Nat) : (fk (p.take i)).length ≤ (fk p).length := by
  have e : fk p = fk (p.take i) ++ fk (p.drop i) := by
    unfold fk
    rw [← List.flatMap_append, List.take_append_drop]
  rw [e, List.length_append]
  omega
def spPTokOf (K : PySem.W.Frag) : Sp := fun vs H Q _ => ∃ (v : V) (p : Poly), vs = [v] ∧ Dp K H v (bD p) ∧ (∀ k ∈ fk p, SeqAt.shaped (Ky.enc k) = true) ∧ (fk p).length ≤ 1000 ∧ (∀ t ∈ p, t.1.length ≤ 1000) ∧
  ∀ (l : Addr) (H' : Hp), H l = none → Same H H' → (∃ ys, H' l = some (.lst ys) ∧ DpAll K H' ys ((sortU (fk p)).map Ky.enc)) → Q (.ref l) H'
section
variable {P : Program} {w : World} {K : PySem.W.Frag} {mg : Str → Option Value} {base : Heap}
abbrev ptofN : List Str := ["p", "found", "monomial", "number", "pair"]
end
end K26


set_option Elab.async false
set_option linter.all false
set_option maxRecDepth 100000
set_option maxHeartbeats 8000000
namespace K26
open PySem L2 Nd Bk Gd
def spPLs (K : PySem.W.Frag) (n : Nat) : Sp := fun vs H Q _ => ∃ (av : List Addr) (v : V) (d : PyData), vs = [v] ∧ Dp K H v d ∧ Okd n d ∧ (∀ x ∈ av, H x ≠ none) ∧
  ∀ (v' : V) (d' : PyData) (H' : Hp), flat d' = d → Same H H' → Fp K H' av v' d' → Top H' v' d' → Q v' H'
def spPs (K : PySem.W.Frag) : Nat → Sp
  | 0 => fun _ _ _ _ => False
  | n + 1 => spPLs K n
def spPListed (K : PySem.W.Frag) (n : Nat) : Sp := fun vs H Q _ => ∃ (p c : Addr) (ns : List Int) (av : List Addr) (v : V) (d : PyData) (tp : Bool), vs = [.ref p, v] ∧ PoolAt H p c ns ∧ Dp K H v d ∧ Okd n d ∧ p ∈ av ∧ (∀ x ∈ av, H x ≠ none) ∧ (tp = true → Top H v d) ∧
  ∀ (v' : V) (d' : PyData) (H' : Hp), flat d' = d → PoolAt H' p c ns → But p H H' → Fp K H' av v' d' → (tp = true → Top H' v' d') → Q v' H'
section
variable {P : Program} {w : World} {K : PySem.W.Frag} {mg : Str → Option Value} {base : Heap}
end
end K26


set_option Elab.async false
set_option linter.all false
set_option maxRecDepth 100000
set_option maxHeartbeats 8000000
namespace K26
open PySem L2 Nd Bk Gd
theorem S_nil0 : S ([] : Mono) = 0 := by unfold S; rw [pr_nil]
theorem S_one0 (t : Str) (e : Int) : S ([(t, e)] : Mono) = e := by unfold S; rw [pr_cons, pr_nil]; omega
structure PMd (fs : List Str) (j : Nat) (m : Mono) : Prop where
  ok : MOk m
  len : m.length ≤ j
  sz : S m ≤ 3 * j
  keys : ∀ x ∈ m, x.1 ∈ fs
theorem pmd_nil (fs : List Str) : PMd fs 0 [] := ⟨⟨List.Pairwise.nil, fun _ h => nomatch h⟩, Nat.le_refl _, by show S [] ≤ 0; rw [S_nil0]; decide, fun _ h => nomatch h⟩
theorem PMd.more {fs : List Str} {i j : Nat} {m : Mono} (h : PMd fs i m) (l : i ≤ j) : PMd fs j m := ⟨h.ok, Nat.le_trans h.len l, by have := h.sz; omega, h.keys⟩
theorem one_mok {t : Str} {e : Int} (h : 0 < e) : MOk [(t, e)] := ⟨asc_one _, pos_one h⟩
theorem PMd.mul {fs : List Str} {j : Nat} {m : Mono} {t : Str} {e : Int} (h : PMd fs j m) (ht : t ∈ fs) (e0 : 0 < e) (e1 : e ≤ 3) : PMd fs (j + 1) (mulM m [(t, e)]) := by
  refine ⟨mulM_ok h.ok (one_mok e0), ?_, ?_, ?_⟩
  · refine Nat.le_trans (nf_len _) ?_
    rw [List.length_append]
    have := h.len
    show _ + 1 ≤ _
    omega
  · rw [S_mulM, S_one0]
    have := h.sz
    omega
  · refine nf_key (Pk := fun z : Str => z ∈ fs) fun x hx => ?_
    rcases List.mem_append.mp hx with q | q
    · exact h.keys x q
    · rw [List.mem_singleton.mp q]; exact ht
theorem lay_keys : ∀ {m : Mono}, (∀ x ∈ m, shU x.1 = true) → PyData.canLayAll0 (m.map encP) = true
  | [], _ => rfl
  | x :: m, h => by
    have h1 := (Bool.and_eq_true_iff.mp (h x List.mem_cons_self)).2
    have h2 := lay_keys (m := m) fun y hy => h y (List.mem_cons_of_mem _ hy)
    rw [List.map_cons]
    show (PyData.canLay0 (.tuple [.str x.1, .int x.2]) && _) = true
    simp [PyData.canLay0, PyData.canLayAll0, h1, h2]
theorem mono_K {m : Mono} (h : ∀ x ∈ m, shU x.1 = true) : SeqAt.shaped (Ky.enc m) = true := by
  unfold SeqAt.shaped
  rw [Bool.and_eq_true]
  refine ⟨?_, decide_eq_true (Nat.le_trans (Ky.dep m) (by decide))⟩
  show PyData.canLay0 (.tuple (m.map encP)) = true
  simp [PyData.canLay0, lay_keys h]
def spPDrawn (K : PySem.W.Frag) : Sp := fun vs H Q _ => ∃ (p c : Addr) (ns : List Int) (fo : Addr) (fs : List Str) (most : Int), vs = [.ref p, .ref fo, .int most] ∧ PoolAt H p c ns ∧ H fo = some (.lst (fs.map V.str)) ∧ fo ≠ p ∧ (∀ z ∈ fs, shU z = true) ∧ fs.length ≤ 38 ∧ 0 ≤ most ∧ most ≤ 30 ∧
  ∀ (v : V) (ts : Poly) (H' : Hp), But p H H' → PoolAt H' p c ns → Dp K H' v (bD (nf ts)) → (ts.length : Int) ≤ most + 2 → (∀ t ∈ ts, (0 < t.2 ∧ t.2 ≤ 4) ∧ PMd fs 3 t.1) → Q v H'
section
variable {P : Program} {w : World} {K : PySem.W.Frag} {mg : Str → Option Value} {base : Heap}
abbrev pdrN : List Str := ["pool", "tokens", "most", "terms", "k", "monomial", "j"]
end
end K26


set_option Elab.async false
set_option linter.all false
set_option maxRecDepth 100000
set_option maxHeartbeats 8000000
namespace K26
open PySem L2 Nd Bk Gd
/-! the same data at both: numbers, texts, none, truth values, tuples -/
def spSm (K : PySem.W.Frag) (n : Nat) : Sp := fun vs H Q _ => ∃ (x y : V) (d : PyData), vs = [x, y] ∧ Dp K H x d ∧ Dp K H y d ∧ Okd n d ∧ ∀ H', Same H H' → Q (.bl true) H'
def spSms (K : PySem.W.Frag) : Nat → Sp
  | 0 => fun _ _ _ _ => False
  | n + 1 => spSm K n
theorem okd_two {n : Nat} {d : PyData} (h : Okd n d) : (Sc d ∨ ∃ z, d = .str z) ∨ ∃ (m : Nat) (ds : List PyData), n = m + 1 ∧ d = .tuple ds ∧ ds.length ≤ 1000 ∧ ∀ e ∈ ds, Okd m e := by
  cases n with
  | zero => exact .inl h
  | succ m =>
    rcases h with h | h | ⟨ds, h1, h2, h3⟩
    · exact .inl (.inl h)
    · exact .inl (.inr h)
    · exact .inr ⟨m, ds, rfl, h1, h2, h3⟩
section
variable {P : Program} {w : World} {K : PySem.W.Frag} {mg : Str → Option Value} {base : Heap}
end
end K26


set_option Elab.async false
set_option linter.all false
set_option maxRecDepth 100000
set_option maxHeartbeats 8000000
/-! the state: how it is made, what is taken of it -/
namespace K26
open PySem L2 Nd Bk Gd
/-- l[i], with i from the front, as it is set anew -/
def rGetL (K : PySem.W.Frag) : V → V → Hp → VK → Prop := fun x y H Q => ∃ p xs, ∃ i : Nat, ∃ v, x = .ref p ∧ y = .int (i : Int) ∧ SqL K H p xs ∧ xs[i]? = some v ∧ Q v H
theorem get_listN {X : Cx} : PGet X (rGetL X.K) := by
  intro pins s σ H x y v u Q I rx ry h
  obtain ⟨p, xs, i, z, rfl, rfl, hq, he, q⟩ := h
  cases rx
  obtain ⟨t, rfl⟩ := ry
  obtain ⟨its, r, pl, hz⟩ := I.list hq
  obtain ⟨w, ew, rw'⟩ := r.get he
  have hl := r.length
  have hn := line63
  have hi := (List.getElem?_eq_some_iff.mp he).1
  exact wpAny_getItem_list pl.isList (by omega) (by omega) (by rw [Int.toNat_natCast]; simpa using ew) ⟨z, H, I, rw', q⟩
def stL (d0 d1 d2 d3 d5 : Int) (c : Addr) : List V := [.int d0, .int d1, .int d2, .int d3, .ref c, .int d5]
/-- a state at p, its cells at c -/
structure StAt (H : Hp) (p c : Addr) (ns : List Int) : Prop where
  lst : ∃ d0 d1 d2 d3 d5 : Int, 0 ≤ d1 ∧ H p = some (.lst (stL d0 d1 d2 d3 d5 c))
  cells : H c = some (.lst (ns.map V.int))
  len : ns.length ≤ 1000
theorem stL_ne {d0 d1 d2 d3 d5 : Int} {c : Addr} {ns : List Int} : HO.lst (ns.map V.int) ≠ HO.lst (stL d0 d1 d2 d3 d5 c) := by
  intro z
  have z' := HO.lst.inj z
  have h5 := congrArg (fun l => l[4]?) z'
  simp only [stL, List.getElem?_map] at h5
  cases e : ns[4]? with
  | none => rw [e] at h5; simp at h5
  | some y => rw [e] at h5; simp at h5
section
variable {H H' : Hp} {p c d : Addr} {ns : List Int}
theorem StAt.ne (x : StAt H p c ns) : c ≠ p := by
  obtain ⟨d0, d1, d2, d3, d5, _, h⟩ := x.lst
  exact ne_of x.cells h stL_ne
theorem StAt.put (x : StAt H p c ns) {d0 d1 d2 d3 d5 : Int} (h : 0 ≤ d1) : StAt (upd H p (.lst (stL d0 d1 d2 d3 d5 c))) p c ns :=
  ⟨⟨d0, d1, d2, d3, d5, h, upd_same⟩, by rw [upd_ne x.ne]; exact x.cells, x.len⟩
theorem StAt.same (x : StAt H p c ns) (s : Same H H') : StAt H' p c ns := by
  obtain ⟨d0, d1, d2, d3, d5, h0, h⟩ := x.lst
  exact ⟨⟨d0, d1, d2, d3, d5, h0, s _ _ h⟩, s _ _ x.cells, x.len⟩
theorem StAt.notT (x : StAt H p c ns) : NotT (H p) := by
  obtain ⟨d0, d1, d2, d3, d5, _, h⟩ := x.lst
  rw [h]
  exact notT_lst
theorem StAt.off (x : StAt H p c ns) (n : H d = none) : d ≠ p := by
  obtain ⟨d0, d1, d2, d3, d5, _, h⟩ := x.lst
  exact Ne.symm (ne_of_none h n)
theorem StAt.mine {o : HO} (x : StAt H p c ns) (h1 : p ≠ d) (h2 : c ≠ d) : StAt (upd H d o) p c ns := by
  obtain ⟨d0, d1, d2, d3, d5, h0, h⟩ := x.lst
  exact ⟨⟨d0, d1, d2, d3, d5, h0, by rw [upd_ne h1]; exact h⟩, by rw [upd_ne h2]; exact x.cells, x.len⟩
end
def spMx : Sp := fun vs H Q _ => ∃ n k : Int, vs = [.int n, .int k] ∧ ∀ r : Int, 0 ≤ r → r < 2147483587 → Q (.int r) H
def spStart (K : PySem.W.Frag) : Sp := fun vs H Q _ => ∃ (a : Addr) (ns : List Int), vs = [.ref a] ∧ (SqL K H a (ns.map V.int) ∨ SqT K H a (ns.map V.int)) ∧ ns.length ≤ 1000 ∧
  ∀ (p c : Addr) (H' : Hp), H p = none → H c = none → Same H H' → StAt H' p c ns → Q (.ref p) H'
def spTk : Sp := fun vs H Q _ => ∃ (p c : Addr) (ns : List Int) (many : Int), vs = [.ref p, .int many] ∧ 0 < many ∧ many < 10000000 ∧ StAt H p c ns ∧ ∀ (r : Int) (H' : Hp), 0 ≤ r → r < many → StAt H' p c ns → But p H H' → Q (.int r) H'
section
variable {P : Program} {w : World} {K : PySem.W.Frag} {mg : Str → Option Value} {base : Heap}
theorem scMx : FnScope ["number", "k", "first", "second"] ["number", "k"] (defScope yMix) := ⟨rfl, rfl, rfl, by decide +kernel, rfl, by decide +kernel, by decide +kernel⟩
theorem ok_mx {f : Addr} {fd : FuncData} (F : Fun K "_law_mixed" "_law_mixed" yMix f fd) (mI : mg "int" = none) : FnOk P w K mg base CX0 1 f fd ["number", "k"] spMx := by
  refine F.ok scMx (fun vs H Q E h => ?_) (fun cdv A outer s H vs Q E hr h => ?_)
  · obtain ⟨n, k, rfl, _⟩ := h
    rfl
  · obtain ⟨n, m, rfl, k⟩ := h
    --BODYA
    refine ⟨_, pss_cons (ps_set (i := 2) scMx.nd rfl (Or.inl rfl) (pe_op op_modN (pe_callTy call_int1 (by rfl) mI (by decide +kernel) (pa_cons (pe_op op_add (pe_op op_add (pe_op op_mul (pv 0) pe_int) (pe_op op_mul (pv 1) pe_int)) pe_int) pa_nil)) pe_int))
      (pss_cons (ps_set (i := 3) scMx.nd rfl (Or.inl rfl) (pe_op op_modN (pe_callTy call_int1 (by rfl) mI (by decide +kernel) (pa_cons (pe_op op_add (pe_op op_add (pe_op op_mul (pv 2) (pe_op op_add (pe_op op_add (pv 2) (pe_op op_mul pe_int (pv 1))) pe_int)) (pe_op op_mul (pv 1) pe_int)) pe_int) pa_nil)) pe_int))
      (pss_one (ps_ret (pe_op op_modN (pe_callTy call_int1 (by rfl) mI (by decide +kernel) (pa_cons (pe_op op_add (pe_op op_mul (pv 3) pe_int) (pv 2)) pa_nil)) pe_int)))), ?_⟩
    --END
    refine ⟨_, rfl, _, _, rfl, rfl, .inr ⟨by decide, by decide⟩, _, rfl, _, _, rfl, rfl, .inr ⟨by decide, by decide⟩, _, _, rfl, rfl, _, _, rfl, rfl, .inl ⟨_, rfl, _, _, rfl, rfl, (by show (2147483647 : Int) ≠ 0; decide), ?_⟩⟩
    have h0 := Int.fmod_nonneg_of_pos (n * 48271 + m * 69621 + 97) (show (0 : Int) < 2147483647 by decide)
    have h1 := Int.fmod_lt_of_pos (n * 48271 + m * 69621 + 97) (show (0 : Int) < 2147483647 by decide)
    refine ⟨_, rfl, _, rfl, _, rfl, _, _, rfl, rfl, .inl ⟨by decide, by decide⟩, _, _, rfl, rfl, _, _, rfl, rfl, _, _, rfl, rfl, .inl ⟨Int.lt_of_lt_of_le (by decide) h0, Int.lt_trans h1 (by decide)⟩, _, rfl, _, _, rfl, rfl, .inr ⟨by decide, by decide⟩, _, _, rfl, rfl, _, _, rfl, rfl, .inl ⟨_, rfl, _, _, rfl, rfl, (by show (2147483629 : Int) ≠ 0; decide), ?_⟩⟩
    refine ⟨_, rfl, _, _, rfl, rfl, .inr ⟨by decide, by decide⟩, _, rfl, _, _, rfl, rfl, .inl ⟨_, rfl, _, _, rfl, rfl, (by show (2147483587 : Int) ≠ 0; decide), ?_⟩⟩
    exact k _ (Int.fmod_nonneg_of_pos _ (by decide)) (Int.fmod_lt_of_pos _ (by decide))
theorem scStart : FnScope ["script", "seed", "cell"] ["script"] (defScope yStart) := ⟨rfl, rfl, rfl, by decide +kernel, rfl, by decide +kernel, by decide +kernel⟩
theorem ok_start {f : Addr} {fd : FuncData} (F : Fun K "_law_start" "_law_start" yStart f fd) (N : Nm mg) (Gm : Df P w K mg base 1 "_law_mixed" ["number", "k"] spMx) : FnOk P w K mg base CX0 2 f fd ["script"] (spStart K) := by
  obtain ⟨fm, fdm, gM, kM, bM, GM⟩ := Gm.ok
  refine F.ok scStart (fun vs H Q E h => ?_) (fun cdv A outer s H vs Q E hr h => ?_)
  · obtain ⟨a, ns, rfl, _⟩ := h
    rfl
  · obtain ⟨a, ns, rfl, hS, hl, k⟩ := h
    have hr1 : Room 1 _ := hr
    --BODYB
    refine ⟨_, pss_cons (ps_set (i := 1) scStart.nd rfl (Or.inl rfl) (pe_callB call_len_seq (by rfl) N.len PySem.boot_len (pa_cons (pv 0) pa_nil)))
      (pss_cons (ps_for PassesOwn.never rfl (pi_seq (pv 0)) (pg_name (i := 2) scStart.nd rfl (Or.inl rfl))
      (pss_one (ps_set (i := 1) scStart.nd rfl (Or.inl rfl) (pe_call GM hr1 rfl gM kM bM .nil pass0 (pa_cons (pe_op op_add (pv 1) (pv 2)) (pa_cons pe_int pa_nil))))))
      (pss_one (ps_ret (pe_lst (pa_cons pe_int (pa_cons pe_int (pa_cons pe_int (pa_cons (pv 1) (pa_cons (pe_callTy call_list_of (by rfl) N.lst (by decide +kernel) (pa_cons (pv 0) pa_nil)) (pa_cons pe_int pa_nil)))))))))), ?_⟩
    --END
    refine ⟨_, rfl, a, _, rfl, hS, ?_⟩
    refine seq_go rfl hS fun J G walk hG => ?_
    refine for_it walk (fun i σ H2 => (∃ (d : Int) (u2 : Option V), σ = [some (.ref a), some (.int d), u2]) ∧ H2 = H) ⟨⟨_, _, rfl⟩, rfl⟩ (fun i σ H2 _ ⟨_, e⟩ => e ▸ hG H id id) ?_ ?_
    · rintro i x σ H2 Hx hi ⟨⟨d, u2, rfl⟩, rfl⟩ ⟨rfl, hx⟩
      obtain ⟨z, hz, rfl⟩ : ∃ z, ns[i]? = some z ∧ x = V.int z := by
        rw [List.getElem?_map] at hx
        cases e : ns[i]? with
        | none => rw [e] at hx; cases hx
        | some z => rw [e] at hx; exact ⟨z, rfl, (Option.some.inj hx).symm⟩
      exact ⟨_, rfl, _, rfl, _, _, rfl, rfl, _, _, rfl, fun r _ _ => ⟨⟨_, _, rfl⟩, rfl⟩⟩
    · rintro σ H2 ⟨⟨d, u2, rfl⟩, rfl⟩
      refine ⟨_, rfl, _, rfl, a, _, rfl, hS, fun L nL => ?_⟩
      have s1 : Same H2 (upd H2 L (.lst (ns.map V.int))) := sm_new sm_refl nL
      have hL : upd H2 L (.lst (ns.map V.int)) L = some (.lst (ns.map V.int)) := upd_same
      generalize upd H2 L (.lst (ns.map V.int)) = H3 at s1 hL ⊢
      refine ⟨(by show 6 ≤ sizeLine; decide), fun p np => ?_⟩
      have s2 : Same H3 (upd H3 p (.lst (stL 0 0 0 d 0 L))) := sm_new sm_refl np
      exact k p L _ (s1.free np) nL (s1.trans s2) ⟨⟨_, _, _, _, _, Int.le_refl 0, upd_same⟩, s2 _ _ hL, hl⟩
theorem scTk : FnScope ["state", "limit", "cells", "cell", "value"] ["state", "limit"] (defScope yTake) := ⟨rfl, rfl, rfl, by decide +kernel, rfl, by decide +kernel, by decide +kernel⟩
theorem ok_tk {f : Addr} {fd : FuncData} (F : Fun K "_law_take" "_law_take" yTake f fd) (N : Nm mg) (ab : mg "abs" = none) (Gm : Df P w K mg base 1 "_law_mixed" ["number", "k"] spMx) : FnOk P w K mg base CX0 2 f fd ["state", "limit"] spTk := by
  obtain ⟨fm, fdm, gM, kM, bM, GM⟩ := Gm.ok
  refine F.ok scTk (fun vs H Q E h => ?_) (fun cdv A outer s H vs Q E hr h => ?_)
  · obtain ⟨p, c, ns, many, rfl, _⟩ := h
    rfl
  · obtain ⟨p, c, ns, many, rfl, m0, m1, hP, k⟩ := h
    have hr1 : Room 1 _ := hr
    --BODYC
    refine ⟨_, pss_cons (ps_set (i := 2) scTk.nd rfl (Or.inl rfl) (pe_ix ix_list (pv 0) pe_int (fun _ _ => rfl))) (pss_cons (ps_augS (pv 0) pe_int get_listN pe_int ip_add set_list) (C8.pss_cut (ps_if (PW.pt (pw_and (pt_cmpR op_eq (pe_ix ix_list (pv 0) pe_int (fun _ _ => rfl)) pe_int (nomark _)) (pw_and1 (pt_cmpR op_lt (pe_ix ix_list (pv 0) pe_int (fun _ _ => rfl)) (pe_callB call_len_seq (by rfl) N.len PySem.boot_len (pa_cons (pv 2) pa_nil)) (nomark _))))) (pss_cons (ps_set (i := 3) scTk.nd rfl (Or.inl rfl) (pe_ix ix_list (pv 2) (pe_ix ix_list (pv 0) pe_int (fun _ _ => rfl)) (fun _ _ => rfl)))
      (pss_cons (ps_augS (pv 0) pe_int get_listN pe_int ip_add set_list)
      (pss_cons (ps_if (PW.pt (pw_or (pt_cmpR op_eq (pe_op op_modN (pe_callB call_len_seq (by rfl) N.len PySem.boot_len (pa_cons (pv 2) pa_nil)) pe_int) pe_int (nomark _)) (pw_or1 (pt_cmpR op_lt (pe_callB call_abs (by rfl) ab (by decide +kernel) (pa_cons (pv 3) pa_nil)) (pe_op op_pow pe_int pe_int) (nomark _))))) (pss_one (ps_ret (pe_op op_modN (pe_callTy call_int1 (by rfl) N.int (by decide +kernel) (pa_cons (pe_call GM hr1 rfl gM kM bM .nil pass0 (pa_cons (pv 3) (pa_cons (pe_ix ix_list (pv 0) pe_int (fun _ _ => rfl)) pa_nil))) pa_nil)) (pv 1)))) pss_nil)
      (pss_cons (ps_asg (pe_callB call_abs (by rfl) ab (by decide +kernel) (pa_cons (pv 3) pa_nil)) (pg_sub (pv 0) pe_int set_list))
      (pss_one (ps_asg pe_int (pg_sub (pv 0) pe_int set_list))))))) pss_nil) (pss_cons (ps_if (pt_cmpR op_eq (pe_ix ix_list (pv 0) pe_int (fun _ _ => rfl)) pe_int (nomark _)) (pss_one (ps_ret (pe_op op_modN (pe_callTy call_int1 (by rfl) N.int (by decide +kernel) (pa_cons (pe_call GM hr1 rfl gM kM bM .nil pass0 (pa_cons (pe_ix ix_list (pv 0) pe_int (fun _ _ => rfl)) (pa_cons (pe_ix ix_list (pv 0) pe_int (fun _ _ => rfl)) pa_nil))) pa_nil)) (pv 1)))) pss_nil)
      (pss_cons (ps_set (i := 4) scTk.nd rfl (Or.inl rfl) (pe_op op_modN (pe_callTy call_int1 (by rfl) N.int (by decide +kernel) (pa_cons (pe_ix ix_list (pv 0) pe_int (fun _ _ => rfl)) pa_nil)) (pv 1)))
      (pss_cons (ps_augS (pv 0) pe_int get_listN pe_int ip_sub set_list)
      (pss_cons (ps_asg (pe_op op_mul (pe_op op_fdivN (pe_ix ix_list (pv 0) pe_int (fun _ _ => rfl)) (pv 1)) (pe_callTy call_int1 (by rfl) N.int (by decide +kernel) (pa_cons (pe_cmpR op_gt (pe_ix ix_list (pv 0) pe_int (fun _ _ => rfl)) pe_int (nomark _)) pa_nil))) (pg_sub (pv 0) pe_int set_list))
      (pss_one (ps_ret (pv 4))))))))), ?_⟩
    --END
    have at0 : ∀ {d0 d1 d2 d3 d5 : Int}, atI (stL d0 d1 d2 d3 d5 c) 0 = some (.int d0) := rfl
    have at1 : ∀ {d0 d1 d2 d3 d5 : Int}, atI (stL d0 d1 d2 d3 d5 c) 1 = some (.int d1) := rfl
    have at2 : ∀ {d0 d1 d2 d3 d5 : Int}, atI (stL d0 d1 d2 d3 d5 c) 2 = some (.int d2) := rfl
    have at3 : ∀ {d0 d1 d2 d3 d5 : Int}, atI (stL d0 d1 d2 d3 d5 c) 3 = some (.int d3) := rfl
    have at4 : ∀ {d0 d1 d2 d3 d5 : Int}, atI (stL d0 d1 d2 d3 d5 c) 4 = some (.ref c) := rfl
    have at5 : ∀ {d0 d1 d2 d3 d5 : Int}, atI (stL d0 d1 d2 d3 d5 c) 5 = some (.int d5) := rfl
    obtain ⟨d0, d1, d2, d3, d5, h1, hp⟩ := id hP.lst
    refine ⟨_, rfl, p, _, _, _, rfl, rfl, SqL.of hp, at4, _, rfl, p, _, 2, _, rfl, rfl, SqL.of hp, rfl, _, _, rfl, rfl, p, _, 2, 2, rfl, rfl, hp, rfl, ?_⟩
    show C8.tCut _ _ _ _ (upd H p (.lst (stL d0 d1 (d2 + 1) d3 d5 c)))
    have hP1 : StAt (upd H p (.lst (stL d0 d1 (d2 + 1) d3 d5 c))) p c ns := hP.put h1
    have hp1 : upd H p (.lst (stL d0 d1 (d2 + 1) d3 d5 c)) p = some (.lst (stL d0 d1 (d2 + 1) d3 d5 c)) := upd_same
    have k1 : But p H (upd H p (.lst (stL d0 d1 (d2 + 1) d3 d5 c))) := But.upd
    generalize upd H p (.lst (stL d0 d1 (d2 + 1) d3 d5 c)) = H1 at hP1 hp1 k1 ⊢
    refine ⟨fun σ H2 => (∃ u3, σ = [some (.ref p), some (.int many), some (.ref c), u3, none]) ∧ StAt H2 p c ns ∧ But p H H2, ?_, ?_⟩
    · refine ⟨_, rfl, p, _, _, _, rfl, rfl, SqL.of hp1, at0, rfl, _, rfl, ?_⟩
      refine ite2 (fun _ => ?_) (fun _ => ⟨⟨_, rfl⟩, hP1, k1⟩)
      refine ⟨_, rfl, p, _, _, _, rfl, rfl, SqL.of hp1, at1, _, rfl, c, _, rfl, .inl (SqL.of hP1.cells), _, _, rfl, rfl, _, rfl, ?_⟩
      refine ite2 (fun hlt => ?_) (fun _ => ⟨⟨_, rfl⟩, hP1, k1⟩)
      have hlt' : d1 < ((ns.map V.int).length : Int) := of_decide_eq_true hlt
      rw [List.length_map] at hlt'
      obtain ⟨j, rfl⟩ := Int.eq_ofNat_of_zero_le h1
      have hj : j < ns.length := by omega
      have hget : (ns.map V.int)[j]? = some (V.int ns[j]) := by rw [List.getElem?_map, List.getElem?_eq_getElem hj]; rfl
      refine ⟨_, rfl, _, rfl, p, _, _, _, rfl, rfl, SqL.of hp1, at1, c, _, _, _, rfl, rfl, SqL.of hP1.cells, atI_nat hget, ?_⟩
      generalize ns[j] = z at hget ⊢
      refine ⟨_, rfl, p, _, 1, _, rfl, rfl, SqL.of hp1, rfl, _, _, rfl, rfl, p, _, 1, 1, rfl, rfl, hp1, rfl, ?_⟩
      have hP2 : StAt (upd H1 p (.lst (stL d0 ((j : Int) + 1) (d2 + 1) d3 d5 c))) p c ns := hP1.put (by omega)
      have hp2 : upd H1 p (.lst (stL d0 ((j : Int) + 1) (d2 + 1) d3 d5 c)) p = some (.lst (stL d0 ((j : Int) + 1) (d2 + 1) d3 d5 c)) := upd_same
      have k2 : But p H1 (upd H1 p (.lst (stL d0 ((j : Int) + 1) (d2 + 1) d3 d5 c))) := But.upd
      show tSeq _ _ _ _ (upd H1 p (.lst (stL d0 ((j : Int) + 1) (d2 + 1) d3 d5 c)))
      generalize upd H1 p (.lst (stL d0 ((j : Int) + 1) (d2 + 1) d3 d5 c)) = H2 at hP2 hp2 k2 ⊢
      refine ⟨_, rfl, c, _, rfl, .inl (SqL.of hP2.cells), _, _, rfl, rfl, (by show (2 : Int) ≠ 0; decide), rfl, _, rfl, ?_⟩
      refine ite2 (fun _ => ?_) (fun _ => ?_)
      · exact iteT ⟨_, rfl, _, rfl, p, _, _, _, rfl, rfl, SqL.of hp2, at2, _, _, rfl, fun r q0 q1 => .inl ⟨_, rfl, _, rfl, _, _, rfl, rfl, (show many ≠ 0 by omega), k _ H2 (Int.fmod_nonneg_of_pos _ m0) (Int.fmod_lt_of_pos _ m0) hP2 (k1.trans k2)⟩⟩
      refine ⟨_, rfl, _, rfl, _, _, rfl, rfl, ⟨by decide, by decide, by decide⟩, _, _, rfl, rfl, _, rfl, ?_⟩
      refine ite2 (fun _ => ?_) (fun _ => ?_)
      · exact ⟨_, rfl, _, rfl, p, _, _, _, rfl, rfl, SqL.of hp2, at2, _, _, rfl, fun r q0 q1 => .inl ⟨_, rfl, _, rfl, _, _, rfl, rfl, (show many ≠ 0 by omega), k _ H2 (Int.fmod_nonneg_of_pos _ m0) (Int.fmod_lt_of_pos _ m0) hP2 (k1.trans k2)⟩⟩
      refine ⟨_, rfl, _, rfl, _, rfl, p, _, 0, 0, rfl, rfl, hp2, rfl, ?_⟩
      generalize (if z < 0 then -z else z) = z'
      have hP3 : StAt (upd H2 p (.lst (stL z' ((j : Int) + 1) (d2 + 1) d3 d5 c))) p c ns := hP2.put (by omega)
      have hp3 : upd H2 p (.lst (stL z' ((j : Int) + 1) (d2 + 1) d3 d5 c)) p = some (.lst (stL z' ((j : Int) + 1) (d2 + 1) d3 d5 c)) := upd_same
      have k3 : But p H2 (upd H2 p (.lst (stL z' ((j : Int) + 1) (d2 + 1) d3 d5 c))) := But.upd
      exact ⟨_, rfl, p, _, 5, 5, rfl, rfl, hp3, rfl, ⟨⟨_, rfl⟩, hP3.put (by omega), ((k1.trans k2).trans k3).trans But.upd⟩⟩
    · rintro σ H2 ⟨⟨u3, rfl⟩, hP2, k2⟩
      obtain ⟨e0, e1, e2, e3, e5, g1, hp2⟩ := id hP2.lst
      refine ⟨_, rfl, p, _, _, _, rfl, rfl, SqL.of hp2, at0, rfl, _, rfl, ?_⟩
      refine ite2 (fun _ => ?_) (fun _ => ?_)
      · refine ⟨_, rfl, p, _, _, _, rfl, rfl, SqL.of hp2, at3, _, rfl, p, _, _, _, rfl, rfl, SqL.of hp2, at2, _, _, rfl, fun r q0 q1 => .inl ⟨_, rfl, _, rfl, _, _, rfl, rfl, (show many ≠ 0 by omega), ?_⟩⟩
        exact k _ H2 (Int.fmod_nonneg_of_pos _ m0) (Int.fmod_lt_of_pos _ m0) hP2 k2
      refine ⟨_, rfl, p, _, _, _, rfl, rfl, SqL.of hp2, at0, .inl ⟨_, rfl, _, rfl, _, _, rfl, rfl, (show many ≠ 0 by omega), ?_⟩⟩
      refine ⟨_, rfl, p, _, 5, _, rfl, rfl, SqL.of hp2, rfl, _, _, rfl, rfl, p, _, 5, 5, rfl, rfl, hp2, rfl, ?_⟩
      have hP3 : StAt (upd H2 p (.lst (stL e0 e1 e2 e3 (e5 - 1) c))) p c ns := hP2.put g1
      have hp3 : upd H2 p (.lst (stL e0 e1 e2 e3 (e5 - 1) c)) p = some (.lst (stL e0 e1 e2 e3 (e5 - 1) c)) := upd_same
      have k3 : But p H2 (upd H2 p (.lst (stL e0 e1 e2 e3 (e5 - 1) c))) := But.upd
      show tSeq _ _ _ _ (upd H2 p (.lst (stL e0 e1 e2 e3 (e5 - 1) c)))
      generalize upd H2 p (.lst (stL e0 e1 e2 e3 (e5 - 1) c)) = H3 at hP3 hp3 k3 ⊢
      refine ⟨_, rfl, p, _, _, _, rfl, rfl, SqL.of hp3, at0, _, rfl, _, _, rfl, rfl, ⟨by omega, by omega⟩, _, rfl, p, _, _, _, rfl, rfl, SqL.of hp3, at5, _, _, rfl, rfl, .inr ⟨_, rfl, _, _, rfl, rfl, .inr ?_, ?_⟩⟩
      · split <;> exact ⟨by decide, by decide⟩
      refine ⟨_, rfl, p, _, 0, 0, rfl, rfl, hp3, rfl, _, rfl, ?_⟩
      exact k _ _ (Int.fmod_nonneg_of_pos _ m0) (Int.fmod_lt_of_pos _ m0) (hP3.put g1) ((k2.trans k3).trans But.upd)
end
end K26


set_option Elab.async false
set_option linter.all false
set_option maxRecDepth 100000
set_option maxHeartbeats 8000000
/-! the same data at both -/
namespace K26
open PySem L2 Nd Bk Gd
section
variable {P : Program} {w : World} {K : PySem.W.Frag} {mg : Str → Option Value} {base : Heap}
theorem scYSame : FnScope ["actual", "due", "k"] ["actual", "due"] (defScope ySame) := ⟨rfl, rfl, rfl, by decide +kernel, rfl, by decide +kernel, by decide +kernel⟩
theorem ok_ysame {f : Addr} {fd : FuncData} (F : Fun K "_law_same" "_law_same" ySame f fd) (b : Binds K fd ["actual", "due"] []) (g : mg "_law_same" = some (.ref f)) (kp : PySem.W.keepIn K (.ref f) = true) (N : Nm mg) :
    ∀ n : Nat, FnOk P w K mg base CX0 n f fd ["actual", "due"] (spSms K n) := by
  intro n
  induction n with
  | zero => exact ⟨fun _ _ _ _ h => h.elim, fun _ _ _ _ _ _ _ _ _ _ _ _ _ h => h.elim⟩
  | succ n ih =>
    refine F.ok scYSame (fun vs H Q E h => ?_) (fun cdv A outer s H vs Q E hr h => ?_)
    · obtain ⟨x, y, d, rfl, _⟩ := h
      rfl
    obtain ⟨x, y, d, rfl, dx, dy', okd, k⟩ := h
    --BODYA
    refine ⟨_, pss_cons (ps_if (pt_cmpR op_isN (pv 1) pe_non (nomark _)) (pss_one (ps_ret (pe_cmpR op_isN (pv 0) pe_non (nomark _)))) pss_nil)
      (pss_cons (ps_if (pt_val (pe_callB call_isi (by rfl) N.isi (by decide +kernel) (pa_cons (pv 1) (pa_cons (pe_bltn (v := .ty "bool") (by rfl) N.bool (by decide +kernel) rfl) pa_nil)))) (pss_one (ps_ret (pe_and (pe_callB call_isi (by rfl) N.isi (by decide +kernel) (pa_cons (pv 0) (pa_cons (pe_bltn (v := .ty "bool") (by rfl) N.bool (by decide +kernel) rfl) pa_nil))) (pe_one (pe_cmpR op_eq (pv 0) (pv 1) (nomark _)))))) pss_nil)
      (pss_cons (ps_if (pt_val (pe_callB call_isi (by rfl) N.isi (by decide +kernel) (pa_cons (pv 1) (pa_cons (pe_bltn (v := .ty "int") (by rfl) N.int (by decide +kernel) rfl) pa_nil)))) (pss_one (ps_ret (pe_and (pe_callB call_isi (by rfl) N.isi (by decide +kernel) (pa_cons (pv 0) (pa_cons (pe_bltn (v := .ty "int") (by rfl) N.int (by decide +kernel) rfl) pa_nil))) (pe_and (pe_not (pe_callB call_isi (by rfl) N.isi (by decide +kernel) (pa_cons (pv 0) (pa_cons (pe_bltn (v := .ty "bool") (by rfl) N.bool (by decide +kernel) rfl) pa_nil)))) (pe_one (pe_cmpR op_eq (pv 0) (pv 1) (nomark _))))))) pss_nil)
      (pss_cons (ps_if (pt_val (pe_callB call_isi (by rfl) N.isi (by decide +kernel) (pa_cons (pv 1) (pa_cons (pe_bltn (v := .ty "str") (by rfl) N.str (by decide +kernel) rfl) pa_nil)))) (pss_one (ps_ret (pe_and (pe_callB call_isi (by rfl) N.isi (by decide +kernel) (pa_cons (pv 0) (pa_cons (pe_bltn (v := .ty "str") (by rfl) N.str (by decide +kernel) rfl) pa_nil))) (pe_one (pe_cmpR op_eq (pv 0) (pv 1) (nomark _)))))) pss_nil)
      (pss_cons (ps_if (PW.pt (pw_or (pt_cmpR op_ne (pe_callB call_isi (by rfl) N.isi (by decide +kernel) (pa_cons (pv 1) (pa_cons (pe_bltn (v := .ty "list") (by rfl) N.lst (by decide +kernel) rfl) pa_nil))) (pe_callB call_isi (by rfl) N.isi (by decide +kernel) (pa_cons (pv 0) (pa_cons (pe_bltn (v := .ty "list") (by rfl) N.lst (by decide +kernel) rfl) pa_nil))) (nomark _)) (pw_or1 (pt_cmpR op_ne (pe_callB call_isi (by rfl) N.isi (by decide +kernel) (pa_cons (pv 1) (pa_cons (pe_bltn (v := .ty "tuple") (by rfl) N.tup (by decide +kernel) rfl) pa_nil))) (pe_callB call_isi (by rfl) N.isi (by decide +kernel) (pa_cons (pv 0) (pa_cons (pe_bltn (v := .ty "tuple") (by rfl) N.tup (by decide +kernel) rfl) pa_nil))) (nomark _))))) (pss_one (ps_ret pe_bl)) pss_nil)
      (pss_cons (ps_if (pt_cmpR op_ne (pe_callB call_len_seq (by rfl) N.len PySem.boot_len (pa_cons (pv 0) pa_nil)) (pe_callB call_len_seq (by rfl) N.len PySem.boot_len (pa_cons (pv 1) pa_nil)) (nomark _)) (pss_one (ps_ret pe_bl)) pss_nil)
      (pss_cons (ps_for PassesOwn.never rfl (pi_range1 rfl N.rng (pa_cons (pe_callB call_len_seq (by rfl) N.len PySem.boot_len (pa_cons (pv 1) pa_nil)) pa_nil)) (pg_name (i := 2) scYSame.nd rfl (Or.inl rfl))
      (pss_one (ps_if (pt_not (pt_val (pe_call ih hr rfl g kp b .nil pass0 (pa_cons (pe_ix ix_seq (pv 0) (pv 2) (fun _ _ => rfl)) (pa_cons (pe_ix ix_seq (pv 1) (pv 2) (fun _ _ => rfl)) pa_nil))))) (pss_one (ps_ret pe_bl)) pss_nil)))
      (pss_one (ps_ret pe_bl)))))))), ?_⟩
    --END
    have kk := k _ sm_refl
    rcases okd_two okd with (hs | ⟨z, rfl⟩) | ⟨m, ds, rfl, rfl, h1, h2⟩
    · cases hs with
      | non =>
        cases dx
        cases dy'
        exact ⟨_, rfl, rfl, _, rfl, iteT ⟨_, rfl, rfl, kk⟩⟩
      | bl z =>
        cases dx
        cases dy'
        refine ⟨_, rfl, rfl, _, rfl, iteF ?_⟩
        refine ⟨_, rfl, _, _, _, _, true, rfl, .ty _, .base (.bl z), kit_ty (by decide +kernel), true, rfl, iteT ?_⟩
        refine ⟨_, rfl, _, _, _, _, true, rfl, .ty _, .base (.bl z), kit_ty (by decide +kernel), true, rfl, ?_⟩
        refine iteT ⟨_, rfl, _, rfl, rfl, ?_⟩
        rw [decide_eq_true rfl]
        exact kk
      | int z =>
        cases dp_int dx
        cases dp_int dy'
        refine ⟨_, rfl, rfl, _, rfl, iteF ?_⟩
        refine ⟨_, rfl, _, _, _, _, false, rfl, .ty _, .base (.int z), kit_ty (by decide +kernel), false, rfl, iteF ?_⟩
        refine ⟨_, rfl, _, _, _, _, true, rfl, .ty _, .base (.int z), kit_ty (by decide +kernel), true, rfl, iteT ?_⟩
        refine ⟨_, rfl, _, _, _, _, true, rfl, .ty _, .base (.int z), kit_ty (by decide +kernel), true, rfl, ?_⟩
        refine iteT ⟨_, rfl, _, _, _, _, false, rfl, .ty _, .base (.int z), kit_ty (by decide +kernel), false, rfl, true, rfl, ?_⟩
        refine iteT ⟨_, rfl, _, rfl, rfl, ?_⟩
        rw [decide_eq_true rfl]
        exact kk
    · cases dp_str dx
      cases dp_str dy'
      refine ⟨_, rfl, rfl, _, rfl, iteF ?_⟩
      refine ⟨_, rfl, _, _, _, _, false, rfl, .ty _, .base (.str z), kit_ty (by decide +kernel), false, rfl, iteF ?_⟩
      refine ⟨_, rfl, _, _, _, _, false, rfl, .ty _, .base (.str z), kit_ty (by decide +kernel), false, rfl, iteF ?_⟩
      refine ⟨_, rfl, _, _, _, _, true, rfl, .ty _, .base (.str z), kit_ty (by decide +kernel), true, rfl, iteT ?_⟩
      refine ⟨_, rfl, _, _, _, _, true, rfl, .ty _, .base (.str z), kit_ty (by decide +kernel), true, rfl, ?_⟩
      refine iteT ⟨_, rfl, _, rfl, rfl, ?_⟩
      rw [decide_eq_true rfl]
      exact kk
    · obtain ⟨a, xs, rfl, sa, da⟩ := dp_tup dx
      obtain ⟨c, ys, rfl, sc, dc⟩ := dp_tup dy'
      have la := dpAll_len da
      have lc := dpAll_len dc
      refine ⟨_, rfl, rfl, _, rfl, iteF ?_⟩
      refine ⟨_, rfl, _, _, _, _, false, rfl, .ty _, tyX_T sc, kit_ty (by decide +kernel), false, rfl, iteF ?_⟩
      refine ⟨_, rfl, _, _, _, _, false, rfl, .ty _, tyX_T sc, kit_ty (by decide +kernel), false, rfl, iteF ?_⟩
      refine ⟨_, rfl, _, _, _, _, false, rfl, .ty _, tyX_T sc, kit_ty (by decide +kernel), false, rfl, iteF ?_⟩
      refine ⟨_, rfl, _, _, _, _, false, rfl, .ty _, tyX_T sc, kit_ty (by decide +kernel), _, rfl, _, _, _, _, false, rfl, .ty _, tyX_T sa, kit_ty (by decide +kernel), rfl, _, rfl, iteF ?_⟩
      refine ⟨_, rfl, _, _, _, _, true, rfl, .ty _, tyX_T sc, kit_ty (by decide +kernel), _, rfl, _, _, _, _, true, rfl, .ty _, tyX_T sa, kit_ty (by decide +kernel), rfl, _, rfl, iteF ?_⟩
      refine ⟨_, rfl, a, xs, rfl, .inr sa, _, rfl, c, ys, rfl, .inr sc, rfl, _, rfl, ?_⟩
      rw [la, lc, show (!decide (V.int (ds.length : Int) = V.int (ds.length : Int))) = false by simp]
      refine iteF ⟨_, rfl, c, ys, rfl, .inr sc, _, rfl, (by omega), (by omega), ?_⟩
      rw [lc]
      refine for_range (n := ds.length) (fun i σ H2 => (∃ v, σ = [some (.ref a), some (.ref c), v]) ∧ Same H H2) ⟨⟨none, rfl⟩, sm_refl⟩ ?_ ?_
      · rintro i σ H2 hi ⟨⟨v, rfl⟩, s2⟩
        have ha : i < xs.length := by omega
        have hc : i < ys.length := by omega
        obtain ⟨e1, q1, p1⟩ := dpAll_get da (List.getElem?_eq_getElem ha)
        obtain ⟨e2, q2, p2⟩ := dpAll_get dc (List.getElem?_eq_getElem hc)
        rw [q1] at q2
        cases q2
        have em := h2 e1 (List.mem_of_getElem? q1)
        exact ⟨_, rfl, _, rfl, .inr (.inl ⟨a, xs, _, _, rfl, rfl, sqT_same s2 sa, atI_some ha, _, rfl, _, rfl, .inr (.inl ⟨c, ys, _, _, rfl, rfl, sqT_same s2 sc, atI_some hc,
          _, _, e1, rfl, dp_same s2 p1, dp_same s2 p2, em, fun H3 s3 => ⟨_, rfl, iteF ⟨⟨_, rfl⟩, s2.trans s3⟩⟩⟩)⟩)⟩
      · rintro σ H2 ⟨_, s2⟩
        exact k _ s2
end
end K26


set_option Elab.async false
set_option linter.all false
set_option maxRecDepth 100000
set_option maxHeartbeats 8000000
/-! _law_tokens -/
namespace K26
open PySem L2 Nd Bk Gd
def itn (a : Int) (t : Nat) : Int := 1 + (a - 1 + t) % 9999
theorem itn_rng (a : Int) (t : Nat) : 1 ≤ itn a t ∧ itn a t ≤ 9999 := by unfold itn; omega
theorem itn_zero {a : Int} (h0 : 1 ≤ a) (h1 : a ≤ 9999) : itn a 0 = a := by unfold itn; omega
theorem itn_succ (a : Int) (t : Nat) : 1 + (itn a t).fmod 9999 = itn a (t + 1) := by
  rw [Int.fmod_eq_emod_of_nonneg _ (by decide)]
  unfold itn
  omega
theorem itn_inj {a : Int} {s t : Nat} (hs : s < 9999) (ht : t < 9999) (h : itn a s = itn a t) : s = t := by unfold itn at h; omega
def tokN (x : Str) (n : Int) : Str := x ++ Str.ofString (toString n)
theorem tokN_inj {x : Str} {m n : Int} (m0 : 0 ≤ m) (m1 : m < 10 ^ 10) (n0 : 0 ≤ n) (n1 : n < 10 ^ 10) (h : tokN x m = tokN x n) : m = n := by
  have e := str_cancel h
  have a := PySem.W.KIN.num_reads m0 m1
  rw [e, PySem.W.KIN.num_reads n0 n1] at a
  exact (Option.some.inj a).symm
theorem free_it {fs : List Str} {x : Str} {a : Int} {t : Nat} (ht : t ≤ 9999) (h : ∀ s, s < t → tokN x (itn a s) ∈ fs) : t ≤ fs.length := by
  have nd : ((List.range t).map fun s => tokN x (itn a s)).Nodup := by
    rw [List.nodup_iff_pairwise_ne, List.pairwise_map]
    refine List.Pairwise.imp_of_mem (fun {i j} hi hj ne e => ne ?_) (List.nodup_iff_pairwise_ne.mp List.nodup_range)
    have hi' := List.mem_range.mp hi
    have hj' := List.mem_range.mp hj
    have a1 := itn_rng a i
    have a2 := itn_rng a j
    exact itn_inj (by omega) (by omega) (tokN_inj (by omega) (by omega) (by omega) (by omega) e)
  have := nd_le nd fun y hy => by
    obtain ⟨s, hs, rfl⟩ := List.mem_map.mp hy
    exact h s (List.mem_range.mp hs)
  rw [List.length_map, List.length_range] at this
  exact this
abbrev abz : Str := "abz"
theorem one_abz {j : Nat} (h : j < (Str.cps abz).toList.length) : One ⟨#[(Str.cps abz).toList[j]]⟩ := ⟨rfl, fun c hc => by
  rw [List.mem_singleton.mp hc]
  exact (by decide +kernel : ∀ y ∈ (Str.cps abz).toList, y < 0x110000) _ (List.getElem_mem h)⟩
theorem inV_in {x : Str} {fs : List Str} : inV (.str x) (fs.map V.str) = decide (x ∈ fs) := by
  have := inV_strs x fs
  by_cases hm : x ∈ fs <;> simp [hm] at this ⊢ <;> exact this
def spYTok : Sp := fun vs H Q _ => ∃ (p c : Addr) (ns : List Int) (many : Int), vs = [.ref p, .int many] ∧ 0 ≤ many ∧ many ≤ 100 ∧ StAt H p c ns ∧
  ∀ (fo : Addr) (fs : List Str) (H' : Hp), H fo = none → But p H H' → StAt H' p c ns → H' fo = some (.lst (fs.map V.str)) → fs.Nodup → fs.length = many.toNat → (∀ z ∈ fs, shU z = true) → Q (.ref fo) H'
section
variable {P : Program} {w : World} {K : PySem.W.Frag} {mg : Str → Option Value} {base : Heap}
abbrev ytokN : List Str := ["state", "many", "tokens", "letters", "k", "number", "letter", "turn"]
theorem scYTok : FnScope ytokN ["state", "many"] (defScope yTok) := ⟨rfl, rfl, rfl, by decide +kernel, rfl, by decide +kernel, by decide +kernel⟩
theorem ok_ytok {f : Addr} {fd : FuncData} (F : Fun K "_law_tokens" "_law_tokens" yTok f fd) (N : Nm mg) (Gt : Df P w K mg base 2 "_law_take" ["state", "limit"] spTk) : FnOk P w K mg base CX0 3 f fd ["state", "many"] spYTok := by
  obtain ⟨ft, fdt, gT, kT, bT, GT⟩ := Gt.ok
  refine F.ok scYTok (fun vs H Q E h => ?_) (fun cdv A outer s H vs Q E hr h => ?_)
  · obtain ⟨p, c, ns, many, rfl, _⟩ := h
    rfl
  · obtain ⟨p, c, ns, many, rfl, m0, m1, hP, k⟩ := h
    have hr2 : Room 2 _ := hr
    --BODYA
    refine ⟨_, pss_cons (ps_set (i := 2) scYTok.nd rfl (Or.inl rfl) (pe_lst pa_nil))
      (pss_cons (ps_set (i := 3) scYTok.nd rfl (Or.inl rfl) pe_str)
      (pss_cons (ps_for PassesOwn.never rfl (pi_range1 rfl N.rng (pa_cons (pv 1) pa_nil)) (pg_name (i := 4) scYTok.nd rfl (Or.inl rfl))
      (pss_cons (ps_set (i := 5) scYTok.nd rfl (Or.inl rfl) (pe_ix ix_list (pe_lst (pa_cons pe_int (pa_cons pe_int (pa_cons pe_int (pa_cons pe_int (pa_cons pe_int (pa_cons pe_int (pa_cons pe_int (pa_cons pe_int (pa_cons (pe_op op_add pe_int (pe_call GT hr2 rfl gT kT bT .nil pass0 (pa_cons (pv 0) (pa_cons pe_int pa_nil)))) pa_nil)))))))))) (pe_call GT hr2 rfl gT kT bT .nil pass0 (pa_cons (pv 0) (pa_cons pe_int pa_nil))) (fun _ _ => rfl)))
      (pss_cons (ps_set (i := 6) scYTok.nd rfl (Or.inl rfl) (pe_ix ix_str (pv 3) (pe_call GT hr2 rfl gT kT bT .nil pass0 (pa_cons (pv 0) (pa_cons pe_int pa_nil))) (fun _ _ => rfl)))
      (pss_cons (ps_for PassesOwn.never rfl (pi_range1 rfl N.rng (pa_cons (pe_op op_add (pv 1) pe_int) pa_nil)) (pg_name (i := 7) scYTok.nd rfl (Or.inl rfl))
      (pss_one (ps_if (pt_cmpR (show OpR _ _ (rIn K false) from op_in_seq) (pe_op op_add_str (pv 6) (pe_callTy call_str_int (by rfl) N.str (by rfl) (pa_cons (pv 5) pa_nil))) (pv 2) (by rfl)) (pss_one (ps_set (i := 5) scYTok.nd rfl (Or.inl rfl) (pe_op op_add pe_int (pe_op op_modN (pe_callTy call_int1 (by rfl) N.int (by decide +kernel) (pa_cons (pv 5) pa_nil)) pe_int)))) pss_nil)))
      (pss_one (ps_expr (pe_bm PySem.F.plainAttrs_list PySem.F.slot_list_append PySem.F.type_list_append mt_append (pv 2) (pa_cons (pe_op op_add_str (pv 6) (pe_callTy call_str_int (by rfl) N.str (by rfl) (pa_cons (pv 5) pa_nil))) pa_nil))))))))
      (pss_one (ps_ret (pv 2))))), ?_⟩
    --END
    refine ⟨(by show 0 ≤ sizeLine; decide), fun fo nfo => ?_⟩
    have s2 : Same H (upd H fo (.lst [])) := sm_new sm_refl nfo
    have h2 : upd H fo (.lst []) fo = some (.lst (([] : List Str).map V.str)) := upd_same
    have fp : fo ≠ p := hP.off nfo
    have fc : c ≠ fo := ne_of_none hP.cells nfo
    have P2 := hP.same s2
    have k2 : But p H (upd H fo (.lst [])) := But.refl.same s2
    generalize upd H fo (.lst []) = H2 at h2 P2 k2 ⊢
    refine ⟨_, rfl, _, rfl, by omega, by omega, ?_⟩
    refine for_range (n := many.toNat) (fun i σ H4 => (∃ u4 u5 u6 u7, σ = [some (.ref p), some (.int many), some (.ref fo), some (.str abz), u4, u5, u6, u7]) ∧ StAt H4 p c ns ∧ But p H H4 ∧ ∃ fs : List Str, H4 fo = some (.lst (fs.map V.str)) ∧ fs.Nodup ∧ fs.length = i ∧ ∀ z ∈ fs, shU z = true)
      ⟨⟨_, _, _, _, rfl⟩, P2, k2, [], h2, List.nodup_nil, rfl, fun z h => nomatch h⟩ ?_ ?_
    · rintro i σ H4 hi ⟨⟨u4, u5, u6, u7, rfl⟩, P4, k4, fs, hfs, fnd, fl, fsh⟩
      -- number
      refine ⟨_, rfl, p, c, ns, _, rfl, by decide, by decide, P4, fun r5 H5 a0 a1 P5 k5 => ⟨_, _, rfl, rfl, (by show 9 ≤ sizeLine; decide), fun q nq => ?_⟩⟩
      have s6 : Same H5 (upd H5 q (.lst [.int 1, .int 2, .int 9, .int 10, .int 11, .int 99, .int 100, .int 9999, .int (1 + r5)])) := sm_new sm_refl nq
      have hq : upd H5 q (.lst [.int 1, .int 2, .int 9, .int 10, .int 11, .int 99, .int 100, .int 9999, .int (1 + r5)]) q = some (.lst (([1, 2, 9, 10, 11, 99, 100, 9999, 1 + r5] : List Int).map V.int)) := upd_same
      have qp := P5.off nq
      have P6 := P5.same s6
      refine ⟨_, rfl, p, c, ns, _, rfl, by decide, by decide, P6, fun r7 H7 b0 b1 P7 k7 => ?_⟩
      have k47 : But p H4 H7 := (k5.same s6).trans k7
      obtain ⟨j7, rfl⟩ := Int.eq_ofNat_of_zero_le b0
      obtain ⟨n0, hn, hnm⟩ := pick_int (zs := [1, 2, 9, 10, 11, 99, 100, 9999, 1 + r5]) (j := j7) (by show j7 < 9; omega)
      have hn9 : 1 ≤ n0 ∧ n0 ≤ 9999 := by
        simp only [List.mem_cons, List.not_mem_nil, or_false] at hnm
        omega
      refine ⟨q, _, _, _, rfl, rfl, SqL.of (k7 _ _ hq qp), atI_nat hn, ?_⟩
      clear hn hnm
      -- letter
      refine ⟨_, rfl, _, rfl, p, c, ns, _, rfl, by decide, by decide, P7, fun r8 H8 c0 c1 P8 k8 => ?_⟩
      obtain ⟨j8, rfl⟩ := Int.eq_ofNat_of_zero_le c0
      have hj8 : j8 < (Str.cps abz).toList.length := by show j8 < 3; omega
      refine ⟨_, _, _, rfl, rfl, by decide +kernel, atI_nat (List.getElem?_eq_getElem hj8), ?_⟩
      have ox := one_abz hj8
      generalize (⟨#[(Str.cps abz).toList[j8]]⟩ : Str) = x at ox ⊢
      have k48 : But p H4 H8 := k47.trans k8
      have kH8 : But p H H8 := k4.trans k48
      have hf8 := k48 _ _ hfs fp
      have szx : ∀ n : Int, 0 ≤ n → n ≤ 99999 → x.length + (Str.ofString (toString n)).length ≤ sizeLine := fun n h0 h1 => by
        have l4 : (Str.ofString (toString n)).length ≤ 5 := PyProof.Rows.toString_length_le h0 (by decide) (by omega)
        rw [sizeLine_eq, ox.1]
        omega
      have nlog : ∀ n : Int, 0 ≤ n → n ≤ 99999 → Nat.log2 n.natAbs < 17 := fun n h0 h1 => by
        by_cases e : n.natAbs = 0
        · rw [e]; decide
        · exact (Nat.log2_lt e).mpr (by omega)
      -- till it is a new one
      refine ⟨_, rfl, _, _, rfl, rfl, _, rfl, by omega, by omega, ?_⟩
      refine for_range (n := (many + 1).toNat) (fun t σ H9 => (∃ u7 n, σ = [some (.ref p), some (.int many), some (.ref fo), some (.str abz), some (.int (0 + (i : Int))), some (.int n), some (.str x), u7] ∧ 1 ≤ n ∧ n ≤ 9999 ∧ (tokN x n ∉ fs ∨ (n = itn n0 t ∧ ∀ s, s < t → tokN x (itn n0 s) ∈ fs))) ∧ H9 = H8) ⟨⟨_, n0, rfl, hn9.1, hn9.2, .inr ⟨(itn_zero hn9.1 hn9.2).symm, fun s hs => absurd hs (Nat.not_lt_zero s)⟩⟩, rfl⟩ ?_ ?_
      · rintro t σ H9 ht ⟨⟨u7, n, rfl, n1, n2, inv⟩, rfl⟩
        refine ⟨_, rfl, _, rfl, _, rfl, Nat.lt_trans (nlog _ (by omega) (by omega)) (by decide), _, _, rfl, rfl, szx _ (by omega) (by omega), _, rfl, fo, _, rfl, .inl (SqL.of hf8), rfl, flat_strs' _, _, rfl, ?_⟩
        show if inV (V.str (tokN x n)) (fs.map V.str) = true then _ else _
        rw [inV_in]
        by_cases hm : tokN x n ∈ fs
        · rw [decide_eq_true hm]
          refine iteT ⟨_, rfl, .inl ⟨_, rfl, _, _, rfl, rfl, (by show (9999 : Int) ≠ 0; decide), _, _, rfl, rfl, ?_⟩⟩
          rcases inv with h | ⟨e, all⟩
          · exact absurd hm h
          · have rg := itn_rng n0 (t + 1)
            have es := itn_succ n0 t
            rw [← e] at es
            refine ⟨⟨_, itn n0 (t + 1), by rw [← es]; rfl, rg.1, rg.2, .inr ⟨rfl, fun s hs => ?_⟩⟩, rfl⟩
            rcases Nat.lt_succ_iff_lt_or_eq.mp hs with h | h
            · exact all s h
            · rw [h, ← e]; exact hm
        · rw [decide_eq_false hm]
          exact iteF ⟨⟨_, n, rfl, n1, n2, .inl hm⟩, rfl⟩
      rintro σ H9 ⟨⟨u7, n, rfl, n1, n2, inv⟩, rfl⟩
      have nin : tokN x n ∉ fs := by
        rcases inv with h | ⟨e, all⟩
        · exact h
        · have := free_it (by omega) all
          omega
      have sh' : shU (tokN x n) = true := tok_sh ox.1 ox.2 (by omega) (by omega)
      refine ⟨_, rfl, .inl ⟨rfl, _, SqL.of hf8⟩, _, rfl, _, rfl, _, rfl, Nat.lt_trans (nlog _ (by omega) (by omega)) (by decide), _, _, rfl, rfl, szx _ (by omega) (by omega), fo, _, _, rfl, rfl, hf8, ?_, ⟨_, _, _, _, rfl⟩, P8.mine (Ne.symm fp) fc, but_mine kH8 nfo, fs ++ [tokN x n], ?_, ?_, ?_, ?_⟩
      · rw [List.length_map, sizeLine_eq]
        omega
      · rw [upd_same, List.map_append]; rfl
      · rw [List.nodup_append]
        exact ⟨fnd, List.nodup_cons.mpr ⟨by simp, List.nodup_nil⟩, fun a ha y hy => by
          rw [List.mem_singleton.mp hy]
          exact fun e => nin (e ▸ ha)⟩
      · rw [List.length_append, fl]; rfl
      · intro y hy
        rcases List.mem_append.mp hy with q | q
        · exact fsh y q
        · rw [List.mem_singleton.mp q]
          exact sh'
    · rintro σ H4 ⟨⟨u4, u5, u6, u7, rfl⟩, P4, k4, fs, hfs, fnd, fl, fsh⟩
      exact ⟨_, rfl, k fo fs H4 nfo k4 P4 hfs fnd fl fsh⟩
end
end K26


set_option Elab.async false
set_option linter.all false
set_option maxRecDepth 100000
set_option maxHeartbeats 2000000
/-! more keys: a pair of a token and a number, a tuple of tokens, such a tuple behind its length -/
namespace Bk
open PySem Nd
instance : Ky (Str × Int) where
  enc := tkD
  al := al_tk
  inj := fun a b h => by
    rw [toks_tk, toks_tk] at h
    simp only [List.cons.injEq, Sum.inl.injEq, Sum.inr.injEq, true_and, and_true] at h
    obtain ⟨a1, a2⟩ := a
    obtain ⟨b1, b2⟩ := b
    simp only at h
    rw [PySem.W.str_of_cps h.1, h.2]
  eqv := eqv_tk
  nn := fun a h => nomatch h
  dep := fun a => by simp [tkD, PyData.depth, PyData.depthAll]
def sD (ts : List Str) : PyData := .tuple (ts.map .str)
theorem al_ss : ∀ m n : List Str, PySem.W.alikeAll (m.map PyData.str) (n.map PyData.str) = true
  | [], _ => by simp [PySem.W.alikeAll]
  | _ :: _, [] => by simp [PySem.W.alikeAll]
  | p :: m, q :: n => by
    rw [List.map_cons, List.map_cons, PySem.W.alikeAll, al_ss m n]
    simp [PySem.W.alike]
theorem toks_ss : ∀ m n : List Str, PySem.W.keyToksAll (m.map PyData.str) = PySem.W.keyToksAll (n.map PyData.str) → m = n
  | [], [], _ => rfl
  | [], q :: n, h => by simp [PySem.W.keyToksAll] at h
  | p :: m, [], h => by simp [PySem.W.keyToksAll] at h
  | p :: m, q :: n, h => by
    rw [List.map_cons, List.map_cons, PySem.W.toks_all_cons, PySem.W.toks_all_cons] at h
    simp only [PySem.W.keyToks, List.cons_append, List.nil_append, List.cons.injEq, Sum.inr.injEq, true_and] at h
    rw [toks_ss m n h.2, PySem.W.str_of_cps h.1]
theorem eqv_ss : ∀ m n : List Str, PyData.eqvAll (m.map PyData.str) (n.map PyData.str) = decide (m = n)
  | [], [] => by simp [PyData.eqvAll]
  | [], q :: n => by simp [PyData.eqvAll]
  | p :: m, [] => by simp [PyData.eqvAll]
  | p :: m, q :: n => by
    rw [List.map_cons, List.map_cons, PySem.W.eqv_all_cons, show PyData.eqv (.str p) (.str q) = decide (p = q) from Ky.eqv (κ := Str) p q, eqv_ss m n]
    by_cases h1 : p = q
    · by_cases h2 : m = n
      · simp [h1, h2]
      · simp [h2]
    · simp [h1]
theorem dep_ss : ∀ m : List Str, PyData.depthAll (m.map PyData.str) = 0
  | [] => by simp [PyData.depthAll]
  | p :: m => by
    have := dep_ss m
    simp only [List.map_cons, PyData.depthAll, PyData.depth]
    omega
theorem dep_sD (a : List Str) : (sD a).depth ≤ 1 := by
  have := dep_ss a
  rw [sD, PyData.depth]
  omega
instance : Ky (List Str) where
  enc := sD
  al := fun a b => by
    rw [sD, sD, PySem.W.alike]
    exact al_ss a b
  inj := fun a b h => by
    rw [sD, sD, PySem.W.keyToks, PySem.W.keyToks] at h
    exact toks_ss a b (by simpa using h)
  eqv := fun a b => by
    rw [sD, sD, PyData.eqv]
    exact eqv_ss a b
  nn := fun a h => nomatch h
  dep := fun a => Nat.le_trans (dep_sD a) (by decide)
def lsD (p : Int × List Str) : PyData := .tuple [.int p.1, sD p.2]
instance : Ky (Int × List Str) where
  enc := lsD
  al := fun a b => by
    simp only [lsD, PySem.W.alike, PySem.W.alikeAll, Bool.and_true, Bool.and_eq_true]
    exact ⟨trivial, Ky.al (κ := List Str) a.2 b.2⟩
  inj := fun a b h => by
    obtain ⟨a1, a2⟩ := a
    obtain ⟨b1, b2⟩ := b
    simp only [lsD, sD, PySem.W.keyToks, PySem.W.keyToksAll, List.cons_append, List.nil_append, List.cons.injEq, Sum.inl.injEq, true_and, List.append_cancel_right_eq] at h
    rw [h.1, toks_ss a2 b2 h.2]
  eqv := fun a b => by
    obtain ⟨a1, a2⟩ := a
    obtain ⟨b1, b2⟩ := b
    have := Ky.eqv (κ := List Str) a2 b2
    simp only [lsD, PyData.eqv, PyData.eqvAll]
    rw [show PyData.eqv (sD a2) (sD b2) = decide (a2 = b2) from this]
    by_cases h1 : a1 = b1
    · by_cases h2 : a2 = b2
      · simp [h1, h2]
      · simp [h2]
    · simp [h1]
  nn := fun a h => nomatch h
  dep := fun a => by
    have := dep_sD a.2
    simp only [lsD, PyData.depth, PyData.depthAll]
    omega
end Bk


set_option Elab.async false
set_option linter.all false
set_option maxRecDepth 100000
set_option maxHeartbeats 8000000
/-! _law_rising -/
namespace K26
open PySem L2 Nd Bk Gd
section
variable {κ : Type} [DecidableEq κ] [Ky κ]
theorem lay_all : ∀ {ks : List κ}, (∀ k ∈ ks, SeqAt.shaped (Ky.enc k) = true) → PyData.canLayAll0 (ks.map Ky.enc) = true ∧ PyData.depthAll (ks.map Ky.enc) ≤ 10
  | [], _ => ⟨by simp [PyData.canLayAll0], by simp [PyData.depthAll]⟩
  | k :: r, h => by
    obtain ⟨h1, h2⟩ := lay_all fun q hq => h q (List.mem_cons_of_mem _ hq)
    have c := SeqAt.canLay_of_shaped (h k List.mem_cons_self)
    have d := Ky.dep k
    rw [List.map_cons, PyData.canLayAll0, PyData.depthAll, c, h1]
    exact ⟨rfl, by omega⟩
theorem shaped_keys {ks : List κ} (h : ∀ k ∈ ks, SeqAt.shaped (Ky.enc k) = true) : SeqAt.shaped (.list (ks.map Ky.enc)) = true := by
  obtain ⟨h1, h2⟩ := lay_all h
  unfold SeqAt.shaped
  rw [PyData.canLay0, PyData.depth, h1]
  simp only [Bool.true_and, decide_eq_true_eq]
  omega
theorem any_key {ks : List κ} {k : κ} : ((ks.map Ky.enc).any fun z => PyData.eqv z (Ky.enc k)) = decide (k ∈ ks) := by
  rw [List.any_map, Bool.eq_iff_iff, List.any_eq_true, decide_eq_true_eq]
  constructor
  · rintro ⟨o, ho, e⟩
    have e' : PyData.eqv (Ky.enc o) (Ky.enc k) = true := e
    rw [Ky.eqv] at e'
    rw [← of_decide_eq_true e']
    exact ho
  · intro h
    exact ⟨k, h, by show PyData.eqv (Ky.enc k) (Ky.enc k) = true; rw [Ky.eqv]; exact decide_eq_true rfl⟩
end
/-- the two at one place -/
def AtB {α β : Type} (xs : List α) (ks : List β) (y : α) (k : β) : Prop := ∃ i : Nat, xs[i]? = some y ∧ ks[i]? = some k
section
variable {α β : Type} {R : α → β → Prop}
theorem pd_app {a a' : List α} {b b' : List β} (h : Paired R a b) (h' : Paired R a' b') : Paired R (a ++ a') (b ++ b') := by
  induction h with
  | nil => exact h'
  | cons x _ ih => exact .cons x ih
theorem pd_take : ∀ {a : List α} {b : List β} (n : Nat), Paired R a b → Paired R (a.take n) (b.take n)
  | _, _, 0, _ => by rw [List.take_zero, List.take_zero]; exact .nil
  | _, _, n + 1, .nil => by rw [List.take_nil, List.take_nil]; exact .nil
  | _, _, n + 1, .cons x r => by rw [List.take_succ_cons, List.take_succ_cons]; exact .cons x (pd_take n r)
theorem pd_drop : ∀ {a : List α} {b : List β} (n : Nat), Paired R a b → Paired R (a.drop n) (b.drop n)
  | _, _, 0, h => by rw [List.drop_zero, List.drop_zero]; exact h
  | _, _, n + 1, .nil => by rw [List.drop_nil, List.drop_nil]; exact .nil
  | _, _, n + 1, .cons x r => by rw [List.drop_succ_cons, List.drop_succ_cons]; exact pd_drop n r
end
theorem u65 {k : Nat} {A : Around} (hr : Room k A) : A.units + 65 < cLine := by
  have := hr.un
  omega
def spRis (K : PySem.W.Frag) (κ : Type) [DecidableEq κ] [Ky κ] : Sp := fun vs H Q _ => ∃ (a : Addr) (xs : List V) (ks : List κ), vs = [.ref a] ∧ SqL K H a xs ∧ DpAll K H xs (ks.map Ky.enc) ∧ (∀ k ∈ ks, tupOnly (Ky.enc k) = true) ∧ (∀ k ∈ ks, SeqAt.shaped (Ky.enc k) = true) ∧ ks.length ≤ 1000 ∧
  ∀ (l : Addr) (ys : List V) (H' : Hp), H l = none → Same H H' → H' l = some (.lst ys) → DpAll K H' ys ((sortU ks).map Ky.enc) → Paired (AtB xs ks) ys (sortU ks) → Q (.ref l) H'
section
variable {P : Program} {w : World} {K : PySem.W.Frag} {mg : Str → Option Value} {base : Heap}
abbrev risN : List Str := ["rows", "found", "row", "other"]
theorem scRis : FnScope risN ["rows"] (defScope yRis) := ⟨rfl, rfl, rfl, by decide +kernel, rfl, by decide +kernel, by decide +kernel⟩
theorem ok_ris (κ : Type) [DecidableEq κ] [Ky κ] {f : Addr} {fd : FuncData} (F : Fun K "_law_rising" "_law_rising" yRis f fd) (N : Nm mg) : FnOk P w K mg base CX0 1 f fd ["rows"] (spRis K κ) := by
  refine F.ok scRis (fun vs H Q E h => ?_) (fun cdv A outer s H vs Q E hr h => ?_)
  · obtain ⟨a, xs, ks, rfl, _⟩ := h
    rfl
  · obtain ⟨a, xs, ks, rfl, hs, hd, tuk, hsh, hl, k⟩ := h
    --BODYA
    refine ⟨_, pss_cons (ps_set (i := 1) scRis.nd rfl (Or.inl rfl) (pe_lst pa_nil))
      (pss_cons (ps_for PassesOwn.never rfl (pi_list (pv 0)) (pg_name (i := 2) scRis.nd rfl (Or.inr rfl))
      (pss_one (ps_if (pt_cmpR (show OpR _ _ (rNotInD K) from op_notInD (u65 hr)) (pv 2) (pv 1) (by rfl)) (pss_one (ps_expr (pe_bm PySem.F.plainAttrs_list PySem.F.slot_list_insert PySem.F.type_list_insert mt_insert (pv 1) (pa_cons (pe_callB call_len_seq (by rfl) N.len PySem.boot_len (pa_cons (pe_lc (own := [("other", 3)]) (g := gName 3) (tt := tTest (tOp (rLtD K) (tVar 3) (tVar 2))) rfl scRis.nd (pi_list (pv 1)) (blkOk_by (N := risN) (sc := defScope yRis) (by decide +kernel)) (fun _ _ _ _ _ => pg_name (i := 3) scRis.nd rfl (Or.inl rfl)) (fun _ _ _ _ _ => pts_one (pt_cmpR (show OpR _ _ (rLtD K) from op_ltD (u64 hr)) (pv 3) (pv 2) (nomark _))) (fun _ _ _ _ _ => pv 3)) pa_nil)) (pa_cons (pv 2) pa_nil))))) pss_nil)))
      (pss_one (ps_ret (pv 1)))), ?_⟩
    --END
    refine ⟨(by show 0 ≤ sizeLine; decide), fun l nl => ?_⟩
    have s0 : Same H (upd H l (.lst [])) := sm_new sm_refl nl
    have h0 : upd H l (.lst []) l = some (.lst []) := upd_same
    generalize upd H l (.lst []) = H0 at s0 h0 ⊢
    refine ⟨_, rfl, a, rfl, ⟨_, s0.seq hs⟩, ?_⟩
    refine for_list (K := K) (a := a) (xs := xs) (fun i σ H4 => ∃ (v2 : Option V) (ys : List V), σ = [some (.ref a), some (.ref l), v2, none] ∧ Same H H4 ∧ H4 l = some (.lst ys) ∧ DpAll K H4 ys ((sortU (ks.take i)).map Ky.enc) ∧ Paired (AtB xs ks) ys (sortU (ks.take i))) ⟨none, [], rfl, s0, h0, .nil, .nil⟩
      (fun i σ H4 _ ⟨_, _, _, s4, _⟩ => s4.seq hs) ?_ ?_
    · rintro i x σ H4 hi ⟨v2, ys, rfl, s4, h4, d4, pd⟩
      obtain ⟨k1, hk, hx⟩ := enc_get hd hi
      have k1m := List.mem_of_getElem? hk
      have lks : (sortU (ks.take i)).length ≤ 1000 := by
        have := sortU_len (ks.take i)
        rw [List.length_take] at this
        omega
      have lk : (sortU (ks.take i)).length = ys.length := by rw [dpAll_len d4, List.length_map]
      have asc := sortU_asc (ks.take i)
      have shp : ∀ o ∈ sortU (ks.take i), SeqAt.shaped (Ky.enc o) = true := fun o ho => hsh o (List.mem_of_mem_take (sortU_mem.mp ho))
      refine ⟨_, rfl, _, rfl, _, _, dp_same s4 hx, .lst (SqL.of h4) d4, hsh k1 k1m, shaped_keys shp, _, rfl, ?_⟩
      rw [any_key]
      by_cases inn : k1 ∈ sortU (ks.take i)
      · rw [decide_eq_true inn]
        refine iteF ⟨_, ys, rfl, s4, h4, ?_⟩
        rw [sortU_take hk, show insU (sortU (ks.take i)) k1 = sortU (ks.take i) from if_pos inn]
        exact ⟨d4, pd⟩
      rw [decide_eq_false inn]
      refine iteT ⟨_, rfl, .inl ⟨rfl, _, SqL.of h4⟩, _, rfl, l, rfl, ⟨_, SqL.of h4⟩, fun D nD => ?_⟩
      refine lc_list (K := K) (a := l) (xs := ys) (fun j H5 => Same H4 H5 ∧ ∃ acc, H5 D = some (.lst acc) ∧ acc.length = (((sortU (ks.take i)).take j).filter fun o => lt o k1).length) ⟨sm_new sm_refl nD, [], upd_same, rfl⟩ (fun j H5 _ ⟨s5, _⟩ => s5.seq (SqL.of h4)) ?_ ?_
      · rintro j y H5 hj ⟨s5, acc, hD, hlen⟩
        obtain ⟨o, ho, hy⟩ := enc_get d4 hj
        have hd1 := Ky.dep o
        refine ⟨rfl, _, rfl, _, rfl, _, _, dp_same s5 hy, dp_same (s4.trans s5) hx, Ky.al _ _, Ky.nn _, by omega, _, rfl, ?_⟩
        have hacc : acc.length ≤ 1000 := by
          rw [hlen]
          refine Nat.le_trans (List.length_filter_le _ _) ?_
          rw [List.length_take]
          omega
        show if lt o k1 = true then _ else _
        cases e : lt o k1 with
        | true =>
          refine iteT ⟨_, rfl, acc, hD, small1000 hacc, sm_new s5 nD, _, upd_same, ?_⟩
          rw [List.length_append, hlen, List.take_succ, ho, List.filter_append, List.length_append]
          simp [e]
        | false =>
          refine iteF ⟨s5, acc, hD, ?_⟩
          rw [hlen, List.take_succ, ho, List.filter_append, List.length_append]
          simp [e]
      · rintro H5 ⟨s5, acc, hD, hlen⟩
        rw [← lk, List.take_length] at hlen
        have hcnt : acc.length = cnt (sortU (ks.take i)) k1 := hlen
        have h5 := s5 _ _ h4
        have hle : acc.length ≤ ys.length := by rw [hcnt, ← lk]; exact cnt_le _ _
        refine ⟨D, acc, rfl, .inl (SqL.of hD), _, rfl, l, ys, _, _, rfl, rfl, h5, by rw [sizeLine_eq]; omega, by omega, by omega, ?_⟩
        have nt : NotT (H5 l) := by rw [h5]; exact notT_lst
        refine ⟨_, _, rfl, ?_, upd_same, ?_⟩
        · exact fun b o e => by rw [upd_ne (ne_of_none e nl)]; exact (s4.trans s5) b o e
        rw [sortU_take hk, show insU (sortU (ks.take i)) k1 = insK (sortU (ks.take i)) k1 from if_neg inn, Int.toNat_natCast, hcnt]
        unfold insK
        have tu : ∀ d ∈ (sortU (ks.take i)).map Ky.enc, tupOnly d = true := fun d hd => by
          obtain ⟨o, ho, rfl⟩ := List.mem_map.mp hd
          exact tuk o (List.mem_of_mem_take (sortU_mem.mp ho))
        have d9 := dpAll_put (o := .lst (ys.take (cnt (sortU (ks.take i)) k1) ++ [x] ++ ys.drop (cnt (sortU (ks.take i)) k1))) nt (tupOnlyAll_of tu) (dpAll_same s5 d4)
        have dx := dp_put (o := .lst (ys.take (cnt (sortU (ks.take i)) k1) ++ [x] ++ ys.drop (cnt (sortU (ks.take i)) k1))) nt (tuk k1 k1m) (dp_same (s4.trans s5) hx)
        rw [List.map_append, List.map_append, List.map_take, List.map_drop]
        exact ⟨dpAll_append (dpAll_append (dpAll_take _ d9) (.cons dx .nil)) (dpAll_drop _ d9), pd_app (pd_app (pd_take _ pd) (.cons ⟨i, hi, hk⟩ .nil)) (pd_drop _ pd)⟩
    · rintro σ H4 ⟨v2, ys, rfl, s4, h4, d4, pd⟩
      have e : xs.length = ks.length := by rw [dpAll_len hd, List.length_map]
      rw [e, List.take_length] at d4 pd
      exact ⟨_, rfl, k l ys H4 nl s4 h4 d4 pd⟩
end
end K26


set_option Elab.async false
set_option linter.all false
set_option maxRecDepth 100000
set_option maxHeartbeats 4000000
/-! list(d): the keys of a dict of either kind, in a new list -/
namespace Nd
open PySem PySem.Spec PyProof.Rows L2
def rListEnt (K : PySem.W.Frag) (P : Program) (w : World) : List V → Hp → VK → Prop := fun xs H Q => ∃ (d : Addr) (prs : List (V × V)), xs = [V.ref d] ∧ DEnt K P w H d prs ∧ ∀ p, H p = none → Q (.ref p) (upd H p (.lst (prs.map (·.1))))
theorem call_list_ent {X : Cx} (hc : X.calm = true) : CallR X (.type "list") (rListEnt X.K X.prog X.w) := by
  intro pins s σ H xs us Q I r h
  obtain ⟨d, prs, rfl, hd, q⟩ := h
  obtain ⟨u, rfl, rx⟩ := r.one
  cases rx
  obtain ⟨hs, z, ds, ep, ⟨o, ho, hx, hdt⟩, l1, rel⟩ := hd.raw I
  refine PySem.W.kdl_call (kdl_raw hs hx hdt) (I.ok.hd hc) ho (by omega) fun h' tk acc' c' kp e it => ?_
  have el : acc'.toList.length = acc'.size := by simp
  have rv : Vals (prs.map (·.1)) acc'.toList := vals_of_at (by rw [List.length_map, el, it.1, l1]) fun j x v h1 h2 => by
    rw [List.getElem?_map] at h1
    obtain ⟨pr, hpr, rfl⟩ := Option.map_eq_some_iff.mp h1
    obtain ⟨en, hen, hv⟩ := it.2 j v (by rw [← Array.getElem?_toList]; exact h2)
    obtain ⟨en', hen', rk, _⟩ := rel j pr hpr
    rw [hen] at hen'
    cases hen'
    rw [hv]
    exact rk
  refine ⟨.ref s.heap.objs.size, _, I.laid (t' := tk) (o := .lst (prs.map (·.1))) kp (Nat.le_refl _) ?_, rfl, q _ (I.hok.fresh (Nat.le_refl _))⟩
  exact ⟨by rw [List.length_map]; exact z, acc'.toList, c', rv, by rw [Array.toArray_toList]; exact e⟩
end Nd


set_option Elab.async false
set_option linter.all false
set_option maxRecDepth 100000
set_option maxHeartbeats 8000000
/-! _law_poly_of -/
namespace K26
open PySem L2 Nd Bk Gd
def spPOf (K : PySem.W.Frag) (P : Program) (w : World) : Sp := fun vs H Q _ => ∃ (d : Addr) (es : List Ent), vs = [.ref d] ∧ NdAt K P w H d es ∧ ((bagOf es).map (·.1)).Nodup ∧ (∀ t ∈ bagOf es, SeqAt.shaped (Ky.enc t.1) = true) ∧ es.length ≤ 1000 ∧
  ∀ (v : V) (H' : Hp), Same H H' → Dp K H' v (bD (srt (bagOf es))) → Q v H'
section
variable {P : Program} {w : World} {K : PySem.W.Frag} {mg : Str → Option Value} {base : Heap}
theorem scPOf : FnScope ["book", "monomial"] ["book"] (defScope yPolyOf) := ⟨rfl, rfl, rfl, by decide +kernel, rfl, by decide +kernel, by decide +kernel⟩
theorem ok_pof {f : Addr} {fd : FuncData} (F : Fun K "_law_poly_of" "_law_poly_of" yPolyOf f fd) (N : Nm mg) (Gs : Df P w K mg base 1 "_law_rising" ["rows"] (spRis K Mono)) : FnOk P w K mg base CX0 2 f fd ["book"] (spPOf K P w) := by
  obtain ⟨fs, fds, gS, kS, bS, GS⟩ := Gs.ok
  refine F.ok scPOf (fun vs H Q E h => ?_) (fun cdv A outer s H vs Q E hr h => ?_)
  · obtain ⟨d, es, rfl, _⟩ := h
    rfl
  · obtain ⟨d, es, rfl, n, nd, shp, hl, k⟩ := h
    have hr1 : Room 1 _ := hr
    refine ⟨_, pss_one (ps_ret (pe_callTy call_tuple_of (by rfl) N.tup (by rfl) (pa_cons
      (pe_lc (own := [("monomial", 1)]) (g := gName 1) (tt := tYes) rfl scPOf.nd
        (pi_list (pe_call GS hr1 rfl gS kS bS .nil pass0 (pa_cons (pe_callTy (show CallR _ _ (rListEnt K P w) from call_list_ent rfl) (by rfl) N.lst (by decide +kernel) (pa_cons (pv 0) pa_nil)) pa_nil)))
        (blkOk_by (N := ["book", "monomial"]) (sc := defScope yPolyOf) (by decide +kernel))
        (fun _ _ _ _ _ => pg_name (i := 1) scPOf.nd rfl (Or.inl rfl)) (fun _ _ _ _ _ => pts_nil)
        (fun _ _ _ _ _ => pe_tup (pa_cons (pv 1) (pa_cons (show PE _ _ (tNdGet K P w (tVar 0) (tVar 1)) from pe_ndGet (u9 hr) (pv 0) (pv 1) (fun _ _ => rfl)) pa_nil)))) pa_nil))), ?_⟩
    refine ⟨_, rfl, d, _, rfl, DEnt.n n, fun D nD => ?_⟩
    have eD : (es.map fun e => (V.ref e.2.1, V.int e.2.2)).map (·.1) = es.map fun e => V.ref e.2.1 := by rw [List.map_map]; rfl
    rw [eD]
    have sb : Same H (upd H D (.lst (es.map fun e => V.ref e.2.1))) := sm_new sm_refl nD
    have hD3 : upd H D (.lst (es.map fun e => V.ref e.2.1)) D = some (.lst (es.map fun e => V.ref e.2.1)) := upd_same
    generalize upd H D (.lst (es.map fun e => V.ref e.2.1)) = H3 at sb hD3 ⊢
    have n3 := nd_back n sb
    have shk : ∀ k ∈ (bagOf es).map (·.1), SeqAt.shaped (Ky.enc k) = true := fun k hk => by
      obtain ⟨t, ht, rfl⟩ := List.mem_map.mp hk
      exact shp t ht
    refine ⟨D, _, (bagOf es).map (·.1), rfl, SqL.of hD3, keys_dp n3.keys, fun k _ => Tu.tu k, shk, by rw [List.length_map, bagOf_len]; exact hl, fun l ys H4 nl s4 hys hd4 _ => ?_⟩
    have n4 := nd_back n3 s4
    have lsrt : (srt (bagOf es)).length ≤ 1000 := by
      rw [(srt_perm _).length_eq, bagOf_len]
      exact hl
    rw [sortU_sortK nd, ← srt_keys nd] at hd4
    have ly : ys.length = (srt (bagOf es)).length := by rw [dpAll_len hd4, List.length_map, List.length_map]
    refine ⟨l, rfl, ⟨_, SqL.of hys⟩, fun D2 nD2 => ?_⟩
    refine lc_list (K := K) (a := l) (xs := ys) (fun j H5 => AccI K H4 D2 ((srt (bagOf es)).map encP) j H5) (acc_zero nD2) (fun j H5 _ a5 => a5.sm.seq (SqL.of hys)) ?_ ?_
    · rintro j y H5 hj a5
      obtain ⟨key, hk, hy⟩ := enc_get hd4 hj
      rw [List.getElem?_map] at hk
      obtain ⟨t, ht, rfl⟩ := Option.map_eq_some_iff.mp hk
      obtain ⟨a, zs, rfl, _⟩ := dp_bag (κ := Str) hy
      have tm : t ∈ bagOf es := (srt_perm _).mem_iff.mp (List.mem_of_getElem? ht)
      have hg : getN es t.1 = some t.2 := by
        rw [← look_bagOf]
        exact look_of_mem nd tm
      have n5 := nd_back n4 a5.sm
      have hm5 : Dp K H5 (.ref a) (mD t.1) := dp_same a5.sm hy
      refine ⟨rfl, _, rfl, _, rfl, _, rfl, d, a, es, t.1, t.2, rfl, rfl, n5, hm5, hg, (by show 2 ≤ sizeLine; decide), fun W nW => ?_⟩
      exact acc_step a5 nD2 (by rw [List.length_map]; exact list1000 lsrt) (tu_encPs _) (sm_new sm_refl nW) (by rw [List.getElem?_map, ht]; rfl) (dp_mk (κ := Mono) (x := t.1) (SqT.of upd_same) (dp_same (sm_new sm_refl nW) hm5))
    · rintro H5 a5
      obtain ⟨s5, zs, hz, hd5⟩ := acc_end a5 (by rw [ly, List.length_map])
      refine ⟨D2, zs, rfl, .inl ⟨SqL.of hz, fun v nv => ?_⟩⟩
      have s05 : Same H H5 := (sb.trans s4).trans s5
      exact k _ _ (sm_new s05 (s05.free nv)) (.tup (SqT.of upd_same) (dpAll_put (by rw [nv]; exact notT_none) (tupOnlyAll_of (tu_encPs _)) hd5))
end
end K26


set_option Elab.async false
set_option linter.all false
set_option maxRecDepth 100000
set_option maxHeartbeats 8000000
/-! _law_poly -/
namespace K26
open PySem L2 Nd Bk Gd
theorem lt_tk {a b : Str × Int} (h : a.1 ≠ b.1) : lt a b = lt a.1 b.1 := by
  show PySem.W.dataLt (Bk.tkD a) (Bk.tkD b) = PySem.W.dataLt (.str a.1) (.str b.1)
  unfold PySem.W.dataLt
  rw [toks_tk, toks_tk, PyProof.Rows.lex_self (O := PyProof.Rows.itemOrd)]
  have ne : (Sum.inr a.1.cps.toList : Int ⊕ List Nat) ≠ .inr b.1.cps.toList := fun e => h (PySem.W.str_of_cps (Sum.inr.inj e))
  rw [PySem.W.lex_atom ne]
  rfl
theorem inj_nd {α β : Type} {f : α → β} : ∀ {l : List α}, (l.map f).Nodup → ∀ a ∈ l, ∀ b ∈ l, f a = f b → a = b
  | x :: l, h, a, ha, b, hb, e => by
    obtain ⟨h1, h2⟩ := List.nodup_cons.mp h
    rcases List.mem_cons.mp ha with e1 | ha1
    · rcases List.mem_cons.mp hb with e2 | hb1
      · rw [e1, e2]
      · exact absurd (List.mem_map.mpr ⟨b, hb1, by rw [← e, e1]⟩) h1
    · rcases List.mem_cons.mp hb with e2 | hb1
      · exact absurd (List.mem_map.mpr ⟨a, ha1, by rw [e, e2]⟩) h1
      · exact inj_nd h2 a ha1 b hb1 e
/-- pairs of unlike tokens, rising: a monomial -/
theorem mono_of {sm : List (Str × Int)} (nd : (sm.map (·.1)).Nodup) (pos : ∀ x ∈ sm, 0 < x.2) : MOk (sortU sm) := by
  refine ⟨?_, fun x hx => pos x (sortU_mem.mp hx)⟩
  have asc := sortU_asc sm
  have ndu : (sortU sm).Nodup := asc.imp fun h => lt_ne h
  refine List.Pairwise.imp_of_mem (fun {a b} ha hb h => ?_) asc
  have ne : a.1 ≠ b.1 := fun e => lt_ne h (inj_nd nd a (sortU_mem.mp ha) b (sortU_mem.mp hb) e)
  rw [← lt_tk ne]
  exact h
end K26


set_option Elab.async false
set_option linter.all false
set_option maxRecDepth 100000
set_option maxHeartbeats 8000000
/-! _law_poly -/
namespace K26
open PySem L2 Nd Bk Gd
/-- a polynomial as it is drawn -/
structure YP (fs : List Str) (n : Nat) (P : Poly) : Prop where
  ok : POk P
  len : P.length ≤ n
  keys : ∀ t ∈ P, ∀ x ∈ t.1, x.1 ∈ fs
  ex : ∀ t ∈ P, ∀ x ∈ t.1, x.2 ≤ 3
  co : ∀ t ∈ P, t.2 ≤ 100 * (n : Int)
def spYPoly (K : PySem.W.Frag) : Sp := fun vs H Q _ => ∃ (p c fo : Addr) (ns : List Int) (fs : List Str) (most : Int), vs = [.ref p, .ref fo, .int most] ∧ StAt H p c ns ∧ H fo = some (.lst (fs.map V.str)) ∧ fo ≠ p ∧ fs.Nodup ∧ (∀ z ∈ fs, shU z = true) ∧ fs.length ≤ 100 ∧ 0 ≤ most ∧ most ≤ 900 ∧
  ∀ (v : V) (P : Poly) (H' : Hp), But p H H' → StAt H' p c ns → Dp K H' v (bD P) → YP fs most.toNat P → Q v H'
/-- what is picked of the tokens -/
structure PkI (K : PySem.W.Frag) (fs : List Str) (R S : Addr) (i : Nat) (sm : List (Str × Int)) (rs : List Str) (ys : List V) (H : Hp) : Prop where
  rest : H R = some (.lst (rs.map V.str))
  some_ : H S = some (.lst ys)
  dps : DpAll K H ys (sm.map Bk.tkD)
  perm : (sm.map (·.1) ++ rs).Perm fs
  len : sm.length = i
  ex : ∀ x ∈ sm, 0 < x.2 ∧ x.2 ≤ 3
theorem erase_map {α β : Type} {f : α → β} : ∀ (l : List α) (i : Nat), (l.map f).eraseIdx i = (l.eraseIdx i).map f
  | [], _ => rfl
  | _ :: _, 0 => rfl
  | x :: l, i + 1 => by
    show f x :: (l.map f).eraseIdx i = f x :: (l.eraseIdx i).map f
    rw [erase_map l i]
theorem erase_perm {α : Type} : ∀ {l : List α} {i : Nat} {y : α}, l[i]? = some y → (y :: l.eraseIdx i).Perm l
  | [], i, y, h => by simp at h
  | x :: l, 0, y, h => by
    have e : x = y := by simpa using h
    rw [e]
    exact List.Perm.refl _
  | x :: l, i + 1, y, h => by
    have := erase_perm (l := l) (i := i) (y := y) (by simpa using h)
    exact (List.Perm.swap x y _).trans (this.cons x)
theorem iff_join {t : TT} {ts : TS} {D : Ends} {σ : St} {H : Hp} (B : Hp → Prop) (h : ∀ Q : Bool → Hp → Prop, (∀ b H1, B H1 → Q b H1) → t σ H Q) (n1 : ∀ H1, B H1 → ts D σ H1) (n2 : ∀ H1, B H1 → D.nx σ H1) : tIfS t ts tNext D σ H := h _ fun b H1 q => by
  cases b with
  | true => exact iteT (n1 H1 q)
  | false => exact iteF (n2 H1 q)
theorem set_if_join {i : Nat} {v : V} {t : TT} {ts : TS} {D : Ends} {r : VK} {b c : St → Hp → Prop} {σ : St} {H : Hp} (B : Hp → Prop) (h : ∀ Q : Bool → Hp → Prop, (∀ b H1, B H1 → Q b H1) → t (σ.set i (some v)) H Q) (n1 : ∀ H1, B H1 → ts D (σ.set i (some v)) H1) (n2 : ∀ H1, B H1 → D.nx (σ.set i (some v)) H1) : gName i v σ H (Ends.nx { nx := tIfS t ts tNext D, rt := r, bk := b, ct := c }) := iff_join B h n1 n2
theorem shaped_tk {x : Str × Int} (h : shU x.1 = true) : SeqAt.shaped (Ky.enc x) = true := by
  have := SeqAt.canLay_of_shaped (shU_K h)
  have e : PyData.canLay0 (.str x.1) = true := this
  show SeqAt.shaped (.tuple [.str x.1, .int x.2]) = true
  unfold SeqAt.shaped
  simp [PyData.canLay0, PyData.canLayAll0, PyData.depth, PyData.depthAll] at e ⊢
  exact e
theorem tu_tk (sm : List (Str × Int)) : ∀ d ∈ sm.map Bk.tkD, tupOnly d = true := fun d hd => by
  obtain ⟨x, _, rfl⟩ := List.mem_map.mp hd
  rfl
section
variable {P : Program} {w : World} {K : PySem.W.Frag} {mg : Str → Option Value} {base : Heap}
abbrev ypN : List Str := ["state", "tokens", "most", "book", "turn", "size", "rest", "some", "k", "token", "monomial"]
theorem scYPoly : FnScope ypN ["state", "tokens", "most"] (defScope yPoly) := ⟨rfl, rfl, rfl, by decide +kernel, rfl, by decide +kernel, by decide +kernel⟩
theorem ok_ypoly {f : Addr} {fd : FuncData} (F : Fun K "_law_poly" "_law_poly" yPoly f fd) (N : Nm mg) (mn : mg "min" = none) (Gt : Df P w K mg base 2 "_law_take" ["state", "limit"] spTk) (Gr : Df P w K mg base 1 "_law_rising" ["rows"] (spRis K (Str × Int)))
    (Go : Df P w K mg base 2 "_law_poly_of" ["book"] (spPOf K P w)) : FnOk P w K mg base CX0 3 f fd ["state", "tokens", "most"] (spYPoly K) := by
  obtain ⟨ft, fdt, gT, kT, bT, GT⟩ := Gt.ok
  obtain ⟨fr, fdr, gR, kR, bR, GR⟩ := Gr.ok
  obtain ⟨fo', fdo, gO, kO, bO, GO⟩ := Go.ok
  refine F.ok scYPoly (fun vs H Q E h => ?_) (fun cdv A outer s H vs Q E hr h => ?_)
  · obtain ⟨p, c, fo, ns, fs, most, rfl, _⟩ := h
    rfl
  · obtain ⟨p, c, fo, ns, fs, most, rfl, hP, hfo, fop, fnd, fsh, fl, m0, m1, k⟩ := h
    have hr1 : Room 1 _ := hr.mono (by decide)
    have hr2 : Room 2 _ := hr
    --BODYA
    refine ⟨_, pss_cons (ps_set (i := 3) scYPoly.nd rfl (Or.inl rfl) (show PE _ _ (tNdNew P w) from pe_ndNew))
      (pss_cons (ps_for PassesOwn.never rfl (pi_range1 rfl N.rng (pa_cons (pe_call GT hr2 rfl gT kT bT .nil pass0 (pa_cons (pv 0) (pa_cons (pe_op op_add (pv 2) pe_int) pa_nil))) pa_nil)) (pg_name (i := 4) scYPoly.nd rfl (Or.inl rfl))
      (pss_cons (ps_set (i := 5) scYPoly.nd rfl (Or.inl rfl) (pe_ix ix_list (pe_lst (pa_cons pe_int (pa_cons pe_int (pa_cons pe_int (pa_cons pe_int (pa_cons pe_int (pa_cons (pe_call GT hr2 rfl gT kT bT .nil pass0 (pa_cons (pv 0) (pa_cons (pe_op op_add (pe_callB call_len_seq (by rfl) N.len PySem.boot_len (pa_cons (pv 1) pa_nil)) pe_int) pa_nil))) pa_nil))))))) (pe_call GT hr2 rfl gT kT bT .nil pass0 (pa_cons (pv 0) (pa_cons pe_int pa_nil))) (fun _ _ => rfl)))
      (pss_cons (ps_set (i := 6) scYPoly.nd rfl (Or.inl rfl) (pe_callTy call_list_of (by rfl) N.lst (by decide +kernel) (pa_cons (pv 1) pa_nil)))
      (pss_cons (ps_set (i := 7) scYPoly.nd rfl (Or.inl rfl) (pe_lst pa_nil))
      (pss_cons (ps_for PassesOwn.never rfl (pi_range1 rfl N.rng (pa_cons (pe_callB (call_min2 rfl) (by rfl) mn (by decide +kernel) (pa_cons (pe_callTy call_int1 (by rfl) N.int (by decide +kernel) (pa_cons (pv 5) pa_nil)) (pa_cons (pe_callB call_len_seq (by rfl) N.len PySem.boot_len (pa_cons (pv 6) pa_nil)) pa_nil))) pa_nil)) (pg_name (i := 8) scYPoly.nd rfl (Or.inl rfl))
      (pss_cons (ps_set (i := 9) scYPoly.nd rfl (Or.inl rfl) (pe_bm PySem.F.plainAttrs_list PySem.F.slot_list_pop PySem.F.type_list_pop mt_popAt (pv 6) (pa_cons (pe_call GT hr2 rfl gT kT bT .nil pass0 (pa_cons (pv 0) (pa_cons (pe_callB call_len_seq (by rfl) N.len PySem.boot_len (pa_cons (pv 6) pa_nil)) pa_nil))) pa_nil)))
      (pss_one (ps_expr (pe_bm PySem.F.plainAttrs_list PySem.F.slot_list_append PySem.F.type_list_append mt_append (pv 7) (pa_cons (pe_tup (pa_cons (pv 9) (pa_cons (pe_ix ix_list (pe_lst (pa_cons pe_int (pa_cons pe_int (pa_cons pe_int (pa_cons pe_int (pa_cons pe_int pa_nil)))))) (pe_call GT hr2 rfl gT kT bT .nil pass0 (pa_cons (pv 0) (pa_cons pe_int pa_nil))) (fun _ _ => rfl)) pa_nil))) pa_nil))))))
      (pss_cons (ps_set (i := 10) scYPoly.nd rfl (Or.inl rfl) (pe_callTy (show CallR _ _ (rTupF K) from call_tupleF) (by rfl) N.tup (by rfl) (pa_cons (pe_call GR hr1 rfl gR kR bR .nil pass0 (pa_cons (pv 7) pa_nil)) pa_nil)))
      (pss_one (ps_if (PW.pt (pw_or (pt_cmpR op_gt (pe_callB call_len_seq (by rfl) N.len PySem.boot_len (pa_cons (pv 7) pa_nil)) pe_int (nomark _)) (pw_or1 (pt_cmpR op_eq (pe_call GT hr2 rfl gT kT bT .nil pass0 (pa_cons (pv 0) (pa_cons pe_int pa_nil))) pe_int (nomark _))))) (pss_one (ps_asg (pe_op op_add (pe_ndGetOr (u9 hr) (pv 3) (pv 10) pe_int ⟨rfl, rfl, rfl, rfl⟩) (pe_ix ix_list (pe_lst (pa_cons pe_int (pa_cons pe_int (pa_cons pe_int (pa_cons (pe_op op_add pe_int (pe_call GT hr2 rfl gT kT bT .nil pass0 (pa_cons (pv 0) (pa_cons pe_int pa_nil)))) pa_nil))))) (pe_call GT hr2 rfl gT kT bT .nil pass0 (pa_cons (pv 0) (pa_cons pe_int pa_nil))) (fun _ _ => rfl))) (pg_sub (pv 3) (pv 10) (set_nd (u9 hr))))) pss_nil))))))))
      (pss_one (ps_ret (pe_call GO hr2 rfl gO kO bO .nil pass0 (pa_cons (pv 3) pa_nil))))), ?_⟩
    --END
    intro d nd
    have s0 : Same H (upd H d (ndO P w d [])) := sm_new sm_refl nd
    have n0 : NdAt K P w (upd H d (ndO P w d [])) d [] := ⟨upd_same, fun e he => nomatch he⟩
    have dp : d ≠ p := hP.off nd
    have dc : c ≠ d := ne_of_none hP.cells nd
    have hP0 := hP.same s0
    generalize upd H d (ndO P w d []) = H0 at s0 n0 hP0 ⊢
    have k0 : But p H H0 := But.refl.same s0
    refine ⟨_, rfl, _, rfl, _, _, rfl, rfl, p, c, ns, _, rfl, by omega, by omega, hP0, fun r H1 h0 h1 P1 k1 => ?_⟩
    have nd_but : ∀ {H2 H3 : Hp} {es : List Ent}, StAt H2 p c ns → But p H2 H3 → NdAt K P w H2 d es → NdAt K P w H3 d es := fun {H2 H3 es} hb kb n => ⟨kb _ _ n.at_ dp, fun e he => bD_kt (κ := Str) (KeepT.but hb.notT kb) (n.keys e he)⟩
    refine ⟨_, rfl, by omega, by omega, ?_⟩
    refine for_range (n := r.toNat) (fun i σ H4 => (∃ u4 u5 u6 u7 u8 u9 u10, σ = [some (.ref p), some (.ref fo), some (.int most), some (.ref d), u4, u5, u6, u7, u8, u9, u10]) ∧ StAt H4 p c ns ∧ But p H H4 ∧ ∃ es, NdAt K P w H4 d es ∧ ((bagOf es).map (·.1)).Nodup ∧ es.length ≤ i ∧ ∀ t ∈ bagOf es, (0 < t.2 ∧ t.2 ≤ 100 * (i : Int)) ∧ MOk t.1 ∧ ∀ x ∈ t.1, x.1 ∈ fs ∧ x.2 ≤ 3)
      ⟨⟨_, _, _, _, _, _, _, rfl⟩, P1, k0.trans k1, [], nd_but hP0 k1 n0, List.nodup_nil, Nat.le_refl _, fun t ht => nomatch ht⟩ ?_ ?_
    · rintro i σ H4 hi ⟨⟨u4, u5, u6, u7, u8, u9, u10, rfl⟩, P4, k4, es, n4, hn, hl, hm⟩
      have hfo4 := k4 _ _ hfo fop
      -- size
      refine ⟨_, rfl, _, rfl, fo, _, rfl, .inl (SqL.of hfo4), _, _, rfl, rfl, p, c, ns, _, rfl, by omega, by rw [List.length_map]; omega, P4, fun r5 H5 a0 a1 P5 k5 => ⟨(by show 6 ≤ sizeLine; decide), fun q nq => ?_⟩⟩
      have s6 : Same H5 (upd H5 q (.lst [.int 1, .int 1, .int 2, .int 2, .int 3, .int r5])) := sm_new sm_refl nq
      have hq : upd H5 q (.lst [.int 1, .int 1, .int 2, .int 2, .int 3, .int r5]) q = some (.lst (([1, 1, 2, 2, 3, r5] : List Int).map V.int)) := upd_same
      have qp := P5.off nq
      have P6 := P5.same s6
      refine ⟨_, rfl, p, c, ns, _, rfl, by decide, by decide, P6, fun r7 H7 b0 b1 P7 k7 => ?_⟩
      have k47 : But p H4 H7 := (k5.same s6).trans k7
      obtain ⟨j7, rfl⟩ := Int.eq_ofNat_of_zero_le b0
      obtain ⟨sz, hsz, hszm⟩ := pick_int (zs := [1, 1, 2, 2, 3, r5]) (j := j7) (by show j7 < 6; omega)
      have sz0 : 0 ≤ sz ∧ sz ≤ 200 := by
        rw [List.length_map] at a1
        simp only [List.mem_cons, List.not_mem_nil, or_false] at hszm
        omega
      refine ⟨q, _, _, _, rfl, rfl, SqL.of (k7 _ _ hq qp), atI_nat hsz, ?_⟩
      clear hsz hszm
      have hfo7 := k47 _ _ hfo4 fop
      -- rest, some
      refine ⟨_, rfl, fo, _, rfl, .inl (SqL.of hfo7), fun R nR => ?_⟩
      have s8 : Same H7 (upd H7 R (.lst (fs.map V.str))) := sm_new sm_refl nR
      have h8 : upd H7 R (.lst (fs.map V.str)) R = some (.lst (fs.map V.str)) := upd_same
      have Rp := P7.off nR
      have Rc : c ≠ R := ne_of_none P7.cells nR
      have P8 := P7.same s8
      have nR4 : H4 R = none := butp_free k47 nR Rp
      generalize upd H7 R (.lst (fs.map V.str)) = H8 at s8 h8 P8 ⊢
      refine ⟨(by show 0 ≤ sizeLine; decide), fun S nS => ?_⟩
      have s9 : Same H8 (upd H8 S (.lst [])) := sm_new sm_refl nS
      have h9 : upd H8 S (.lst []) S = some (.lst []) := upd_same
      have Sp := P8.off nS
      have Sc : c ≠ S := ne_of_none P8.cells nS
      have P9 := P8.same s9
      have nS4 : H4 S = none := butp_free (k47.same s8) nS Sp
      have RS : R ≠ S := ne_of_none h8 nS
      have h8' := s9 _ _ h8
      generalize upd H8 S (.lst []) = H9 at s9 h9 P9 h8' ⊢
      have k49 : But p H4 H9 := (k47.same s8).same s9
      refine ⟨_, rfl, .inl ⟨_, rfl, _, rfl, R, _, rfl, .inl (SqL.of h8'), _, _, rfl, ?_⟩⟩
      have mm : 0 ≤ (if (((fs.map V.str).length : Nat) : Int) < sz then (((fs.map V.str).length : Nat) : Int) else sz) ∧ (if (((fs.map V.str).length : Nat) : Int) < sz then (((fs.map V.str).length : Nat) : Int) else sz) ≤ fs.length := by
        rw [List.length_map]
        split <;> omega
      generalize (if (((fs.map V.str).length : Nat) : Int) < sz then (((fs.map V.str).length : Nat) : Int) else sz) = mi at mm ⊢
      obtain ⟨mm0, mm1⟩ := mm
      refine ⟨_, rfl, by omega, by omega, ?_⟩
      refine for_range (n := mi.toNat) (fun j σ HB => (∃ u8 u9, σ = [some (.ref p), some (.ref fo), some (.int most), some (.ref d), some (.int (0 + (i : Int))), some (.int sz), some (.ref R), some (.ref S), u8, u9, u10]) ∧ StAt HB p c ns ∧ But p H4 HB ∧ ∃ sm rs ys, PkI K fs R S j sm rs ys HB)
        ⟨⟨_, _, rfl⟩, P9, k49, [], fs, [], ⟨h8', h9, .nil, List.Perm.refl _, rfl, fun x hx => nomatch hx⟩⟩ ?_ ?_
      · rintro j σ HB hj ⟨⟨u8, u9, rfl⟩, PB, kB, sm, rs, ys, I⟩
        have rl : rs.length + j = fs.length := by
          have := I.perm.length_eq
          rw [List.length_append, List.length_map, I.len] at this
          omega
        have yl : ys.length = j := by rw [dpAll_len I.dps, List.length_map, I.len]
        have rl0 : 0 < rs.length := by omega
        refine ⟨_, rfl, .inl ⟨rfl, _, SqL.of I.rest⟩, _, rfl, _, rfl, R, _, rfl, .inl (SqL.of I.rest), p, c, ns, _, rfl, by rw [List.length_map]; omega, by rw [List.length_map]; omega, PB, fun r9 HC c0 c1 PC kC => ?_⟩
        rw [List.length_map] at c1
        have hRC := kC _ _ I.rest Rp
        have hSC := kC _ _ I.some_ Sp
        obtain ⟨y, hy⟩ : ∃ y, rs[r9.toNat]? = some y := ⟨_, List.getElem?_eq_getElem (by omega)⟩
        refine ⟨R, _, _, r9.toNat, .str y, rfl, rfl, hRC, by omega, by omega, seqIndex_of c0 (by rw [List.length_map]; omega), by rw [List.getElem?_map, hy]; rfl, ?_⟩
        have kt1 : KeepT HB HC := .but PB.notT kC
        have ntR : NotT (HC R) := by rw [hRC]; exact notT_lst
        have hRD : upd HC R (.lst ((rs.map V.str).eraseIdx r9.toNat)) R = some (.lst ((rs.map V.str).eraseIdx r9.toNat)) := upd_same
        have hSD : upd HC R (.lst ((rs.map V.str).eraseIdx r9.toNat)) S = some (.lst ys) := by rw [upd_ne (Ne.symm RS)]; exact hSC
        have PD : StAt (upd HC R (.lst ((rs.map V.str).eraseIdx r9.toNat))) p c ns := PC.mine (Ne.symm Rp) Rc
        have kD : But p H4 (upd HC R (.lst ((rs.map V.str).eraseIdx r9.toNat))) := but_mine (kB.trans kC) nR4
        have dD := dpAll_put (o := .lst ((rs.map V.str).eraseIdx r9.toNat)) ntR (tupOnlyAll_of (tu_tk sm)) (dpAll_kt0 kt1 I.dps (tupOnlyAll_of (tu_tk sm)))
        rw [show (rs.map V.str).eraseIdx r9.toNat = (rs.eraseIdx r9.toNat).map V.str from erase_map rs r9.toNat] at hRD hSD PD kD dD ⊢
        generalize upd HC R (.lst ((rs.eraseIdx r9.toNat).map V.str)) = HD at hRD hSD PD kD dD ⊢
        -- some
        refine ⟨_, rfl, .inl ⟨rfl, _, SqL.of hSD⟩, _, rfl, (by show 5 ≤ sizeLine; decide), fun q nq => ?_⟩
        have sE : Same HD (upd HD q (.lst [.int 1, .int 1, .int 1, .int 2, .int 3])) := sm_new sm_refl nq
        have hqE : upd HD q (.lst [.int 1, .int 1, .int 1, .int 2, .int 3]) q = some (.lst (([1, 1, 1, 2, 3] : List Int).map V.int)) := upd_same
        have qp := PD.off nq
        have PE := PD.same sE
        generalize upd HD q (.lst [.int 1, .int 1, .int 1, .int 2, .int 3]) = HE at sE hqE PE ⊢
        refine ⟨_, rfl, p, c, ns, _, rfl, by decide, by decide, PE, fun r8 HF e0 e1 PF kF => ?_⟩
        obtain ⟨j8, rfl⟩ := Int.eq_ofNat_of_zero_le e0
        obtain ⟨e, he, hem⟩ := pick_int (zs := [1, 1, 1, 2, 3]) (j := j8) (by show j8 < 5; omega)
        have e3 : 0 < e ∧ e ≤ 3 := by
          simp only [List.mem_cons, List.not_mem_nil, or_false] at hem
          omega
        refine ⟨q, _, _, _, rfl, rfl, SqL.of (kF _ _ hqE qp), atI_nat he, (by show 2 ≤ sizeLine; decide), fun U nU => ?_⟩
        have sG : Same HF (upd HF U (.tup [.str y, .int e])) := sm_new sm_refl nU
        have gU : SqT K (upd HF U (.tup [.str y, .int e])) U [.str y, .int e] := SqT.of upd_same
        generalize upd HF U (.tup [.str y, .int e]) = HG at sG gU ⊢
        have kDF : But p HD HF := (But.refl.same sE).trans kF
        have kDG : But p HD HG := kDF.same sG
        have hSG := kDG _ _ hSD Sp
        have hRG := kDG _ _ hRD Rp
        have PG := PF.same sG
        have ntS : NotT (HG S) := by rw [hSG]; exact notT_lst
        refine ⟨S, _, _, rfl, rfl, hSG, small1000 (by omega), ?_⟩
        refine ⟨⟨_, _, rfl⟩, PG.mine (Ne.symm Sp) Sc, but_mine (kD.trans kDG) nS4, sm ++ [(y, e)], rs.eraseIdx r9.toNat, _, ⟨by rw [upd_ne RS]; exact hRG, upd_same, ?_, ?_, by rw [List.length_append, I.len]; rfl, fun x hx => ?_⟩⟩
        · rw [List.map_append]
          refine dpAll_append (dpAll_put ntS (tupOnlyAll_of (tu_tk sm)) (dpAll_kt0 (.but PD.notT kDG) dD (tupOnlyAll_of (tu_tk sm)))) (.cons ?_ .nil)
          exact dp_put ntS rfl (.tup gU (.cons (.str _) (.cons (.int _) .nil)))
        · refine List.Perm.trans ?_ I.perm
          rw [List.map_append, List.append_assoc]
          refine List.Perm.append_left _ ?_
          have this := erase_perm hy
          exact this
        · rcases List.mem_append.mp hx with h | h
          · exact I.ex x h
          · rw [List.mem_singleton.mp h]; exact e3
      rintro σ HB ⟨⟨u8, u9, rfl⟩, PB, kB, sm, rs, ys, I⟩
      have ndA : (sm.map (·.1) ++ rs).Nodup := I.perm.nodup_iff.mpr fnd
      have ndS : (sm.map (·.1)).Nodup := (List.nodup_append.mp ndA).1
      have inS : ∀ x ∈ sm, x.1 ∈ fs := fun x hx => I.perm.mem_iff.mp (List.mem_append_left _ (List.mem_map.mpr ⟨x, hx, rfl⟩))
      have sml : sm.length ≤ 100 := by
        have := I.perm.length_eq
        rw [List.length_append, List.length_map] at this
        omega
      have shs : ∀ x ∈ sm, SeqAt.shaped (Ky.enc x) = true := fun x hx => shaped_tk (fsh _ (inS x hx))
      refine ⟨_, rfl, S, ys, sm, rfl, SqL.of I.some_, I.dps, fun x _ => rfl, shs, by omega, fun l zs HC nl sC hlz dl _ => ⟨l, zs, rfl, SqL.of hlz, fun M oM nM hoM => ?_⟩⟩
      have mok : MOk (sortU sm) := mono_of ndS fun x hx => (I.ex x hx).1
      have mks : ∀ x ∈ sortU sm, x.1 ∈ fs ∧ x.2 ≤ 3 := fun x hx => ⟨inS x (sortU_mem.mp hx), (I.ex x (sortU_mem.mp hx)).2⟩
      have sM : Same HC (upd HC M (.frz oM (.tup zs))) := sm_new sm_refl nM
      have dM : Dp K (upd HC M (.frz oM (.tup zs))) (.ref M) (mD (sortU sm)) := .tup (.inl (.inr ⟨oM, upd_same⟩)) (dpAll_same sM dl)
      have sBM := sC.trans sM
      generalize upd HC M (.frz oM (.tup zs)) = HM at sM dM sBM ⊢
      have PM' := PB.same sBM
      have kM : But p H4 HM := kB.same sBM
      have hSM := sBM _ _ I.some_
      generalize sortU sm = mo at mok mks dM
      show gName 10 (.ref M) _ HM _
      refine set_if_join (fun HX => StAt HX p c ns ∧ But p HM HX) (fun Q q => ?_) (fun HX ⟨PX, kX⟩ => ?_) (fun HX ⟨PX, kX⟩ => ?_)
      · refine ⟨_, rfl, S, _, rfl, .inl (SqL.of hSM), _, _, rfl, rfl, _, rfl, ?_⟩
        refine ite2 (fun _ => q _ _ ⟨PM', But.refl⟩) (fun _ => ?_)
        exact ⟨_, rfl, p, c, ns, _, rfl, by decide, by decide, PM', fun r8 HF e0 e1 PF kF => ⟨rfl, decide (r8 = 0), congrArg V.bl (decide_eq_decide.mpr ⟨fun h => V.int.inj h, fun h => by rw [h]⟩), q _ _ ⟨PF, kF⟩⟩⟩
      · have kHX : But p H4 HX := kM.trans kX
        have nX := nd_but P4 kHX n4
        have dX : Dp K HX (.ref M) (mD mo) := bD_kt (κ := Str) (.but PM'.notT kX) dM
        refine ⟨_, rfl, d, es, rfl, nX, _, rfl, M, mo, 0, rfl, rfl, nX, dX, _, rfl, p, c, ns, _, rfl, by decide, by decide, PX, fun r9 HF e0 e1 PF kF => ⟨_, _, rfl, rfl, (by show 4 ≤ sizeLine; decide), fun q nq => ?_⟩⟩
        have sE : Same HF (upd HF q (.lst [.int 1, .int 1, .int 2, .int (1 + r9)])) := sm_new sm_refl nq
        have hqE : upd HF q (.lst [.int 1, .int 1, .int 2, .int (1 + r9)]) q = some (.lst (([1, 1, 2, 1 + r9] : List Int).map V.int)) := upd_same
        have qp := PF.off nq
        have PE := PF.same sE
        refine ⟨_, rfl, p, c, ns, _, rfl, by decide, by decide, PE, fun r8 HG g0 g1 PG kG => ?_⟩
        obtain ⟨j8, rfl⟩ := Int.eq_ofNat_of_zero_le g0
        obtain ⟨e, he, hem⟩ := pick_int (zs := [1, 1, 2, 1 + r9]) (j := j8) (by show j8 < 4; omega)
        have e3 : 0 < e ∧ e ≤ 100 := by
          simp only [List.mem_cons, List.not_mem_nil, or_false] at hem
          omega
        have kXG : But p HX HG := (kF.same sE).trans kG
        have nG := nd_but PX kXG nX
        have dG : Dp K HG (.ref M) (mD mo) := bD_kt (κ := Str) (.but PX.notT kXG) dX
        refine ⟨q, _, _, _, rfl, rfl, SqL.of (kG _ _ hqE qp), atI_nat he, _, _, rfl, rfl, ?_⟩
        have gpos : 0 ≤ (getN es mo).getD 0 := by
          rw [← look_bagOf]
          cases e : look (bagOf es) mo with
          | none => exact Int.le_refl 0
          | some z => exact Int.le_of_lt (hm _ (look_mem e)).1.1
        have gle : (getN es mo).getD 0 ≤ 100 * (i : Int) := by
          rw [← look_bagOf]
          cases e : look (bagOf es) mo with
          | none => show (0 : Int) ≤ _; omega
          | some z => exact (hm _ (look_mem e)).1.2
        refine ⟨_, rfl, _, rfl, d, M, es, mo, _, rfl, rfl, rfl, nG, dG, small1000 (by omega), ⟨_, _, _, _, _, _, _, rfl⟩, PG.mine (Ne.symm dp) dc, but_mine ((k4.trans kHX).trans kXG) nd, _, nd_put nG dG, ?_, ?_, ?_⟩
        · rw [bagOf_put]
          exact nodup_put hn _ _
        · have := putN_len es mo M ((getN es mo).getD 0 + e)
          omega
        · rw [bagOf_put]
          exact put_all (R := fun t => (0 < t.2 ∧ t.2 ≤ 100 * ((i + 1 : Nat) : Int)) ∧ MOk t.1 ∧ ∀ x ∈ t.1, x.1 ∈ fs ∧ x.2 ≤ 3) (fun t ht => ⟨⟨(hm t ht).1.1, by have := (hm t ht).1.2; omega⟩, (hm t ht).2⟩) ⟨⟨by show 0 < (getN es mo).getD 0 + e; omega, by show (getN es mo).getD 0 + e ≤ _; omega⟩, mok, mks⟩
      · exact ⟨⟨_, _, _, _, _, _, _, rfl⟩, PX, k4.trans (kM.trans kX), es, nd_but P4 (kM.trans kX) n4, hn, by omega, fun t ht => ⟨⟨(hm t ht).1.1, by have := (hm t ht).1.2; omega⟩, (hm t ht).2⟩⟩
    · rintro σ H4 ⟨⟨u4, u5, u6, u7, u8, u9, u10, rfl⟩, P4, k4, es, n4, hn, hl, hm⟩
      have shp : ∀ t ∈ bagOf es, SeqAt.shaped (Ky.enc t.1) = true := fun t ht => mono_K fun x hx => fsh _ ((hm t ht).2.2 x hx).1
      refine ⟨_, rfl, d, es, rfl, n4, hn, shp, by omega, fun v H5 s5 h5 => ?_⟩
      have mem : ∀ t ∈ srt (bagOf es), (0 < t.2 ∧ t.2 ≤ 100 * (r.toNat : Int)) ∧ MOk t.1 ∧ ∀ x ∈ t.1, x.1 ∈ fs ∧ x.2 ≤ 3 := fun t ht => hm t ((srt_perm _).mem_iff.mp ht)
      have ls5 : (srt (bagOf es)).length ≤ most.toNat := by
        rw [(srt_perm _).length_eq, bagOf_len]
        omega
      exact k v _ H5 (k4.same s5) (P4.same s5) h5 ⟨⟨srt_asc hn, fun t ht => (mem t ht).1.1, fun t ht => (mem t ht).2.1⟩, ls5, fun t ht x hx => ((mem t ht).2.2 x hx).1, fun t ht x hx => ((mem t ht).2.2 x hx).2, fun t ht => by have := (mem t ht).1.2; omega⟩
end
end K26


set_option Elab.async false
set_option linter.all false
set_option maxRecDepth 100000
set_option maxHeartbeats 8000000
/-! _law_listed, _law_handed -/
namespace K26
open PySem L2 Nd Bk Gd
def spYLs (K : PySem.W.Frag) (n : Nat) : Sp := fun vs H Q _ => ∃ (b c : Addr) (ns : List Int) (av : List Addr) (v : V) (d : PyData), vs = [.ref b, v] ∧ StAt H b c ns ∧ Dp K H v d ∧ Okd n d ∧ b ∈ av ∧ (∀ x ∈ av, H x ≠ none) ∧
  ∀ (v' : V) (d' : PyData) (H' : Hp), flat d' = d → StAt H' b c ns → But b H H' → Fp K H' av v' d' → Top H' v' d' → Q v' H'
def spYs (K : PySem.W.Frag) : Nat → Sp
  | 0 => fun _ _ _ _ => False
  | n + 1 => spYLs K n
section
variable {P : Program} {w : World} {K : PySem.W.Frag} {mg : Str → Option Value} {base : Heap}
abbrev ylN : List Str := ["state", "value", "parts", "part"]
theorem scYListed : FnScope ylN ["state", "value"] (defScope yListed) := ⟨rfl, rfl, rfl, by decide +kernel, rfl, by decide +kernel, by decide +kernel⟩
theorem ok_ylisted {f : Addr} {fd : FuncData} (F : Fun K "_law_listed" "_law_listed" yListed f fd) (b : Binds K fd ["state", "value"] []) (g : mg "_law_listed" = some (.ref f)) (kp : PySem.W.keepIn K (.ref f) = true) (N : Nm mg)
    (Gd : Df P w K mg base 2 "_law_take" ["state", "limit"] spTk) : ∀ n : Nat, FnOk P w K mg base CX0 (n + 2) f fd ["state", "value"] (spYs K n) := by
  obtain ⟨fd', fdd, gD, kD, bD', GD⟩ := Gd.ok
  intro n
  induction n with
  | zero => exact ⟨fun _ _ _ _ h => False.elim h, fun _ _ _ _ _ _ _ _ _ _ _ _ _ h => False.elim h⟩
  | succ n ih =>
    refine F.ok scYListed (fun vs H Q E h => ?_) (fun cdv A outer s H vs Q E hr h => ?_)
    · obtain ⟨b, c, ns, av, v, d, rfl, _⟩ := h
      rfl
    · obtain ⟨bx, c, ns, av, v, d, rfl, hB, hd, okd, hav, hall, k⟩ := h
      have hr2 : Room 2 _ := hr.mono (by omega)
      --BODYA
      refine ⟨_, pss_cons (ps_if (pt_not (pt_val (pe_callB call_isi (by rfl) N.isi (by decide +kernel) (pa_cons (pv 1) (pa_cons (pe_bltn (v := .ty "tuple") (by rfl) N.tup (by decide +kernel) rfl) pa_nil))))) (pss_one (ps_ret (pv 1))) pss_nil)
        (pss_cons (ps_setLc (i := 2) (own := [("part", 3)]) (g := gName 3) (tt := tYes) (by rfl) scYListed.nd rfl rfl (sw_true rfl rfl rfl (by decide +kernel)) (pi_tup (pv 1)) (blkOk_by (N := ylN) (sc := defScope yListed) (by decide +kernel)) (fun _ _ _ _ _ => pg_name (i := 3) scYListed.nd rfl (Or.inl rfl)) (fun _ _ _ _ _ => pts_nil) (fun _ _ _ _ _ => pe_call ih hr rfl g kp b .nil pass0 (pa_cons (pv 0) (pa_cons (pv 3) pa_nil))))
        (pss_cons (ps_if (pt_cmpR op_eq (pe_call GD hr2 rfl gD kD bD' .nil pass0 (pa_cons (pv 0) (pa_cons pe_int pa_nil))) pe_int (nomark _)) (pss_one (ps_ret (pv 2))) pss_nil)
        (pss_one (ps_ret (pe_callTy (show CallR _ _ (rTupF K) from call_tupleF) (by rfl) N.tup (by rfl) (pa_cons (pv 2) pa_nil)))))), ?_⟩
      --END
      have scal : tupOnly d = true → Sc d ∨ (∃ z, d = .str z) → Q v H := fun tu q => k v d H (flat_tup tu) hB But.refl (Fp.of hd tu) (fun ds e => by subst e; rcases q with q | ⟨z, q⟩ <;> cases q)
      have tu := okd.tu
      cases n with
      | zero =>
        rcases okd with oks | ⟨z, rfl⟩
        · cases oks with
          | int i =>
            cases dp_int hd
            exact ⟨_, rfl, _, _, _, _, false, rfl, .ty _, .base (.int i), kit_ty (by decide +kernel), false, rfl, iteT ⟨_, rfl, scal tu (.inl (.int _))⟩⟩
          | non =>
            cases hd
            exact ⟨_, rfl, _, _, _, _, false, rfl, .ty _, .base .non, kit_ty (by decide +kernel), false, rfl, iteT ⟨_, rfl, scal tu (.inl .non)⟩⟩
          | bl b =>
            cases hd
            exact ⟨_, rfl, _, _, _, _, false, rfl, .ty _, .base (.bl b), kit_ty (by decide +kernel), false, rfl, iteT ⟨_, rfl, scal tu (.inl (.bl b))⟩⟩
        · cases dp_str hd
          exact ⟨_, rfl, _, _, _, _, false, rfl, .ty _, .base (.str z), kit_ty (by decide +kernel), false, rfl, iteT ⟨_, rfl, scal tu (.inr ⟨_, rfl⟩)⟩⟩
      | succ m =>
        rcases okd with oks | ⟨z, rfl⟩ | ⟨ds, rfl, hl, hds⟩
        · cases oks with
          | int i =>
            cases dp_int hd
            exact ⟨_, rfl, _, _, _, _, false, rfl, .ty _, .base (.int i), kit_ty (by decide +kernel), false, rfl, iteT ⟨_, rfl, scal tu (.inl (.int _))⟩⟩
          | non =>
            cases hd
            exact ⟨_, rfl, _, _, _, _, false, rfl, .ty _, .base .non, kit_ty (by decide +kernel), false, rfl, iteT ⟨_, rfl, scal tu (.inl .non)⟩⟩
          | bl b =>
            cases hd
            exact ⟨_, rfl, _, _, _, _, false, rfl, .ty _, .base (.bl b), kit_ty (by decide +kernel), false, rfl, iteT ⟨_, rfl, scal tu (.inl (.bl b))⟩⟩
        · cases dp_str hd
          exact ⟨_, rfl, _, _, _, _, false, rfl, .ty _, .base (.str z), kit_ty (by decide +kernel), false, rfl, iteT ⟨_, rfl, scal tu (.inr ⟨_, rfl⟩)⟩⟩
        · obtain ⟨a, xs, rfl, hxs, hxd⟩ := dp_tup hd
          have lx := dpAll_len hxd
          have tud : tupOnlyAll ds = true := by simpa [tupOnly] using tu
          refine ⟨_, rfl, _, _, _, _, true, rfl, .ty _, tyX_T hxs, kit_ty (by decide +kernel), true, rfl, iteF ?_⟩
          refine ⟨_, rfl, a, rfl, ⟨_, hxs⟩, fun D nD => ?_⟩
          have Db := hB.off nD
          have Dc : c ≠ D := ne_of_none hB.cells nD
          have Dav : D ∉ av := fun q => hall D q nD
          have kt : ∀ {H2 : Hp}, But bx H H2 → KeepT H H2 := fun kb => .but hB.notT kb
          refine lc_tup (K := K) (a := a) (xs := xs) (fun i H2 => StAt H2 bx c ns ∧ But bx H H2 ∧ ∃ ys es, H2 D = some (.lst ys) ∧ FpAll K H2 (D :: av) ys es ∧ flats es = ds.take i) ⟨hB.mine (Ne.symm Db) Dc, but_mine But.refl nD, [], [], upd_same, .nil, by simp [flats]⟩
            (fun i H2 _ ⟨_, kb, _⟩ => sqT_kt (kt kb) hxs) ?_ ?_
          · rintro i x H2 hi ⟨B2, kb, ys, es, hD, hys, hes⟩
            obtain ⟨e, he, hx⟩ := dpAll_get hxd hi
            have hx2 : Dp K H2 x e := dp_kt0 (kt kb) hx ((hds e (List.mem_of_getElem? he)).tu)
            refine ⟨rfl, _, rfl, _, rfl, bx, c, ns, D :: av, x, e, rfl, B2, hx2, hds e (List.mem_of_getElem? he), List.mem_cons_of_mem _ hav, fun y hy => ?_, fun v' d' H3 hf B3 k3 hv' _ => ?_⟩
            · rcases List.mem_cons.mp hy with q | q
              · rw [q, hD]
                exact fun z => nomatch z
              · intro z
                obtain ⟨o, ho⟩ := Option.ne_none_iff_exists'.mp (hall y q)
                by_cases yb : y = bx
                · obtain ⟨_, _, _, _, _, _, hb⟩ := B2.lst
                  rw [yb, hb] at z
                  cases z
                · rw [kb y o ho yb] at z
                  cases z
            · have hD3 : H3 D = some (.lst ys) := k3 _ _ hD Db
              have hys3 := hys.but (List.mem_cons_of_mem _ hav) B2.notT k3
              have nt3 : NotT (H3 D) := by rw [hD3]; exact notT_lst
              have leny : ys.length ≤ 1000 := by
                have e1 := hys.len
                have e2 := congrArg List.length hes
                rw [flats_map, List.length_map, List.length_take] at e2
                omega
              refine ⟨ys, hD3, small1000 leny, B3.mine (Ne.symm Db) Dc, but_mine (kb.trans k3) nD, ys ++ [v'], es ++ [d'], upd_same, ?_, ?_⟩
              · have all := FpAll.snoc hys3 hv'
                exact all.but List.mem_cons_self nt3 But.upd
              · rw [flats_map, List.map_append, ← flats_map, hes, List.take_succ, he, List.map_cons, List.map_nil, hf]
                rfl
          · rintro H2 ⟨B2, kb, ys, es, hD, hys, hes⟩
            rw [lx, List.take_length] at hes
            have hysA : FpAll K H2 av ys es := hys.less fun x hx => List.mem_cons_of_mem _ hx
            refine ⟨_, rfl, bx, c, ns, _, rfl, by decide, by decide, B2, fun r H3 r0 r1 B3 k3 => ⟨rfl, decide (r = 0), congrArg V.bl (decide_eq_decide.mpr ⟨fun h => V.int.inj h, fun h => by rw [h]⟩), ?_⟩⟩
            have hD3 := k3 _ _ hD Db
            have hys3 := hysA.but hav B2.notT k3
            have kb3 := kb.trans k3
            by_cases e : r = 0
            · rw [decide_eq_true e]
              have ff : flat (.list es) = .tuple ds := by simp only [flat]; rw [hes]
              exact iteT ⟨_, rfl, k (.ref D) (.list es) H3 ff B3 kb3 (.lst hD3 Dav hys3) fun _ e => nomatch e⟩
            · rw [decide_eq_false e]
              refine iteF ⟨_, rfl, D, ys, rfl, SqL.of hD3, fun T oT nT hoT => ?_⟩
              have sT : Same H3 (upd H3 T (.frz oT (.tup ys))) := sm_new sm_refl nT
              have hT : SqT K (upd H3 T (.frz oT (.tup ys))) T ys := .inl (.inr ⟨oT, upd_same⟩)
              have pT : PlainT (upd H3 T (.frz oT (.tup ys))) T := ⟨oT, ys, upd_same, hoT⟩
              have ff : flat (.tuple es) = .tuple ds := by simp only [flat]; rw [hes]
              exact k (.ref T) (.tuple es) _ ff (B3.same sT) (kb3.same sT) (.tup hT (hys3.same sT)) fun ds' e => ⟨T, rfl, pT⟩
def spYHand (K : PySem.W.Frag) (n : Nat) : Sp := fun vs H Q _ => ∃ (b c : Addr) (ns : List Int) (av : List Addr) (v : V) (d : PyData), vs = [.ref b, v] ∧ StAt H b c ns ∧ Dp K H v d ∧ Okd n d ∧ b ∈ av ∧ (∀ x ∈ av, H x ≠ none) ∧
  ∀ (v' : V) (d' : PyData) (H' : Hp), flat d' = d → StAt H' b c ns → But b H H' → Fp K H' av v' d' → Q v' H'
theorem scYHand : FnScope ["state", "p"] ["state", "p"] (defScope yHanded) := ⟨rfl, rfl, rfl, by decide +kernel, rfl, by decide +kernel, by decide +kernel⟩
theorem ok_yhand {n : Nat} {f : Addr} {fd : FuncData} (F : Fun K "_law_handed" "_law_handed" yHanded f fd) (Gt : Df P w K mg base 2 "_law_take" ["state", "limit"] spTk) (Gl : Df P w K mg base (n + 3) "_law_listed" ["state", "value"] (spYLs K n)) : FnOk P w K mg base CX0 (n + 4) f fd ["state", "p"] (spYHand K n) := by
  obtain ⟨ft, fdt, gT, kT, bT, GT⟩ := Gt.ok
  obtain ⟨fl, fdl, gL, kL, bL, GL⟩ := Gl.ok
  refine F.ok scYHand (fun vs H Q E h => ?_) (fun cdv A outer s H vs Q E hr h => ?_)
  · obtain ⟨p, c, ns, av, v, d, rfl, _⟩ := h
    rfl
  · obtain ⟨p, c, ns, av, v, d, rfl, hP, hd, okd, hav, hall, k⟩ := h
    have hr2 : Room 2 _ := hr.mono (by omega)
    have hrl : Room (n + 3) _ := hr
    refine ⟨_, pss_cons (ps_if (pt_cmpR op_eq (pe_call GT hr2 rfl gT kT bT .nil pass0 (pa_cons (pv 0) (pa_cons pe_int pa_nil))) pe_int (nomark _)) (pss_one (ps_ret (pv 1))) pss_nil)
      (pss_one (ps_ret (pe_call GL hrl rfl gL kL bL .nil pass0 (pa_cons (pv 0) (pa_cons (pv 1) pa_nil))))), ?_⟩
    have tu := okd.tu
    refine ⟨_, rfl, p, c, ns, _, rfl, by decide, by decide, hP, fun r H1 r0 r1 P1 k1 => ⟨rfl, decide (r = 0), congrArg V.bl (decide_eq_decide.mpr ⟨fun h => V.int.inj h, fun h => by rw [h]⟩), ?_⟩⟩
    have hd1 : Dp K H1 v d := dp_kt0 (.but hP.notT k1) hd tu
    by_cases e : r = 0
    · rw [decide_eq_true e]
      exact iteT ⟨_, rfl, k v d H1 (flat_tup tu) P1 k1 (Fp.of hd1 tu)⟩
    · rw [decide_eq_false e]
      refine iteF ⟨_, rfl, _, rfl, p, c, ns, av, v, d, rfl, P1, hd1, okd, hav, fun x hx z => ?_, fun v' d' H2 hf P2 k2 hv _ => k v' d' H2 hf P2 (k1.trans k2) hv⟩
      obtain ⟨o, ho⟩ := Option.ne_none_iff_exists'.mp (hall x hx)
      by_cases xp : x = p
      · obtain ⟨_, _, _, _, _, _, hb⟩ := P1.lst
        rw [xp, hb] at z
        cases z
      · rw [k1 x o ho xp] at z
        cases z
end
end K26


set_option Elab.async false
set_option linter.all false
set_option maxRecDepth 100000
set_option maxHeartbeats 8000000
/-! _law_of -/
namespace K26
open PySem L2 Nd Bk Gd
def spYOf (K : PySem.W.Frag) : Sp := fun vs H Q _ => ∃ (v : V) (p : Poly), vs = [v] ∧ Dp K H v (bD p) ∧ (∀ k ∈ fk p, SeqAt.shaped (Ky.enc k) = true) ∧ (fk p).length ≤ 1000 ∧ (∀ t ∈ p, t.1.length ≤ 1000) ∧
  ∀ (l : Addr) (H' : Hp), H l = none → Same H H' → H' l = some (.lst ((sortU (fk p)).map V.str)) → Q (.ref l) H'
theorem strs_of {K : PySem.W.Frag} {H : Hp} : ∀ {ys : List V} {ks : List Str}, DpAll K H ys (ks.map Ky.enc) → ys = ks.map V.str
  | _, [], .nil => rfl
  | _, k :: ks, .cons a b => by
    cases dp_str (i := k) a
    rw [strs_of b]; rfl
section
variable {P : Program} {w : World} {K : PySem.W.Frag} {mg : Str → Option Value} {base : Heap}
abbrev yofN : List Str := ["p", "found", "term", "pair"]
theorem scYOf : FnScope yofN ["p"] (defScope yOf) := ⟨rfl, rfl, rfl, by decide +kernel, rfl, by decide +kernel, by decide +kernel⟩
theorem ok_yof {f : Addr} {fd : FuncData} (F : Fun K "_law_of" "_law_of" yOf f fd) (Gs : Df P w K mg base 1 "_law_rising" ["rows"] (spRis K Str)) : FnOk P w K mg base CX0 2 f fd ["p"] (spYOf K) := by
  obtain ⟨fs, fds, gS, kS, bS, GS⟩ := Gs.ok
  refine F.ok scYOf (fun vs H Q E h => ?_) (fun cdv A outer s H vs Q E hr h => ?_)
  · obtain ⟨v, p, rfl, _⟩ := h
    rfl
  · obtain ⟨v, p, rfl, hd, hsh, hfl, hml, k⟩ := h
    have hr1 : Room 1 _ := hr
    refine ⟨_, pss_cons (ps_set (i := 1) scYOf.nd rfl (Or.inl rfl) (pe_lst pa_nil))
      (pss_cons (ps_for PassesOwn.never rfl (pi_tup (pv 0)) (pg_name (i := 2) scYOf.nd rfl (Or.inl rfl))
        (pss_one (ps_set (i := 1) scYOf.nd rfl (Or.inl rfl) (pe_op op_cat (pv 1)
          (pe_lc (own := [("pair", 3)]) (g := gName 3) (tt := tYes) rfl scYOf.nd (pi_tup (pe_ix (show IxR _ (rIx K) from ix_seq) (pv 2) pe_int (fun _ _ => rfl))) (blkOk_by (N := yofN) (sc := defScope yOf) (by decide +kernel))
            (fun _ _ _ _ _ => pg_name (i := 3) scYOf.nd rfl (Or.inl rfl)) (fun _ _ _ _ _ => pts_nil)
            (fun _ _ _ _ _ => pe_ix (show IxR _ (rIx K) from ix_seq) (pv 3) pe_int (fun _ _ => rfl)))))))
      (pss_one (ps_ret (pe_call GS hr1 rfl gS kS bS .nil pass0 (pa_cons (pv 1) pa_nil))))), ?_⟩
    obtain ⟨a, xs, rfl, hs, hl, hall⟩ := dp_bag hd
    refine ⟨(by show 0 ≤ sizeLine; decide), fun l nl => ?_⟩
    have s0 : Same H (upd H l (.lst [])) := sm_new sm_refl nl
    have h0 : upd H l (.lst []) l = some (.lst []) := upd_same
    generalize upd H l (.lst []) = H0 at s0 h0 ⊢
    refine ⟨_, rfl, a, rfl, ⟨_, sqT_same s0 hs⟩, ?_⟩
    refine for_tup (K := K) (a := a) (xs := xs) (fun i σ H2 => (∃ f u1, σ = [some (.ref a), some (.ref f), u1, none] ∧ H2 f = some (.lst ((fk (p.take i)).map V.str))) ∧ Same H0 H2) ⟨⟨l, _, rfl, h0⟩, sm_refl⟩ (fun i σ H2 _ ⟨_, s2⟩ => sqT_same (s0.trans s2) hs) ?_ ?_
    · rintro i x σ H2 hi ⟨⟨fo, u1, rfl, hfo⟩, s2⟩
      obtain ⟨t, ht, hxt⟩ := bag_get hall hi
      obtain ⟨T, kk, rfl, hT, hk⟩ := dp_pair (dp_same (s0.trans s2) hxt)
      obtain ⟨b, zs, rfl, hb, hbl, hball⟩ := dp_bag (κ := Str) hk
      have tl := hml t (List.mem_of_getElem? ht)
      refine ⟨_, rfl, _, rfl, (fd_ix (K := K) (H := H2) (.inr hT) _).2 ⟨b, rfl, ⟨_, hb⟩, fun D nD => ?_⟩⟩
      refine lc_tup (K := K) (a := b) (xs := zs) (fun j H3 => Same H2 H3 ∧ H3 D = some (.lst (((t.1.take j).map (·.1)).map V.str))) ⟨sm_new sm_refl nD, upd_same⟩ (fun j H3 _ ⟨s3, _⟩ => sqT_same s3 hb) ?_ ?_
      · rintro j y H3 hj ⟨s3, hD⟩
        obtain ⟨q, hq, hyq⟩ := bag_get hball hj
        obtain ⟨U, kk2, rfl, hU, hkk⟩ := dp_pair (dp_same s3 hyq)
        cases dp_str (i := q.1) hkk
        have ix := (fd_ix (K := K) (H := H3) (.inr hU))
        have hbx : (((t.1.take j).map (·.1)).map V.str).length ≤ 1000 := by
          rw [List.length_map, List.length_map, List.length_take]
          omega
        refine ⟨rfl, _, rfl, (ix _).2 ⟨_, hD, small1000 hbx, sm_new s3 nD, ?_⟩⟩
        rw [upd_same, List.take_succ, hq, List.map_append, List.map_append]
        rfl
      · rintro H3 ⟨s3, hD⟩
        rw [hbl, List.take_length] at hD
        have hn := fk_le p (i + 1)
        rw [fk_take ht, List.length_append] at hn
        refine ⟨fo, D, _, _, rfl, rfl, s3 _ _ hfo, hD, ?_, fun p' np => ⟨⟨p', _, rfl, ?_⟩, (s2.trans s3).trans (sm_new sm_refl np)⟩⟩
        · rw [List.length_map, List.length_map, sizeLine_eq]
          omega
        · rw [upd_same, fk_take ht, List.map_append]
    · rintro σ H2 ⟨⟨fo, u1, rfl, hfo⟩, s2⟩
      rw [hl, List.take_length] at hfo
      refine ⟨_, rfl, fo, _, fk p, rfl, SqL.of hfo, strs_dp _, fun k _ => rfl, hsh, hfl, fun l' ys H3 nl' s3 hl' dl _ => ?_⟩
      have s03 := (s0.trans s2).trans s3
      refine k l' H3 ((s0.trans s2).free nl') s03 ?_
      rw [hl', strs_of dl]
end
end K26


set_option Elab.async false
set_option linter.all false
set_option maxRecDepth 100000
set_option maxHeartbeats 8000000
/-! _law_there, _law_within -/
namespace K26
open PySem L2 Nd Bk Gd
/-- some product has no token but these -/
def hasT (p : Poly) (zs : List Str) : Bool := p.any fun t => t.1.all fun x => decide (x.1 ∈ zs)
def subS (as bs : List Str) : Bool := as.all fun x => decide (x ∈ bs)
def spYThere (K : PySem.W.Frag) : Sp := fun vs H Q _ => ∃ (v : V) (p : Poly) (T : Addr) (zs : List Str), vs = [v, .ref T] ∧ Dp K H v (bD p) ∧ (∀ t ∈ p, t.1.length ≤ 1000) ∧ (SqL K H T (zs.map V.str) ∨ SqT K H T (zs.map V.str)) ∧ ∀ H', Same H H' → Q (.bl (hasT p zs)) H'
def spYWithin (K : PySem.W.Frag) : Sp := fun vs H Q _ => ∃ (A B : Addr) (as bs : List Str), vs = [.ref A, .ref B] ∧ SqT K H A (as.map V.str) ∧ SqT K H B (bs.map V.str) ∧ as.length ≤ 1000 ∧ ∀ H', Same H H' → Q (.bl (subS as bs)) H'
theorem filt_one {α : Type} {q : α → Bool} {l : List α} {i : Nat} {x : α} (h : l[i]? = some x) : (l.take (i + 1)).filter q = (l.take i).filter q ++ if q x = true then [x] else [] := by
  rw [List.take_succ, h, List.filter_append]
  congr 1
  cases e : q x <;> simp [e]
theorem none_left {α : Type} {q : α → Bool} (l : List α) : decide (((l.filter q).length : Int) = 0) = l.all fun x => !q x := by
  rw [Bool.eq_iff_iff, decide_eq_true_eq, List.all_eq_true]
  constructor
  · intro h x hx
    have h0 : l.filter q = [] := List.length_eq_zero_iff.mp (by omega)
    have := List.filter_eq_nil_iff.mp h0 x hx
    simpa using this
  · intro h
    have : l.filter q = [] := List.filter_eq_nil_iff.mpr fun x hx => by simpa using h x hx
    rw [this]; rfl
theorem dec_len {n : Nat} : decide (V.int (n : Int) = V.int 0) = decide ((n : Int) = 0) := decide_eq_decide.mpr ⟨fun h => V.int.inj h, fun h => by rw [h]⟩
section
variable {P : Program} {w : World} {K : PySem.W.Frag} {mg : Str → Option Value} {base : Heap}
theorem scYWithin : FnScope ["part", "whole", "token"] ["part", "whole"] (defScope yWithin) := ⟨rfl, rfl, rfl, by decide +kernel, rfl, by decide +kernel, by decide +kernel⟩
theorem ok_ywithin {f : Addr} {fd : FuncData} (F : Fun K "_law_within" "_law_within" yWithin f fd) (N : Nm mg) : FnOk P w K mg base CX0 1 f fd ["part", "whole"] (spYWithin K) := by
  refine F.ok scYWithin (fun vs H Q E h => ?_) (fun cdv A outer s H vs Q E hr h => ?_)
  · obtain ⟨A, B, as, bs, rfl, _⟩ := h
    rfl
  · obtain ⟨A, B, as, bs, rfl, hA, hB, hl, k⟩ := h
    refine ⟨_, pss_one (ps_ret (pe_cmpR op_eq (pe_callB call_len_seq (by rfl) N.len PySem.boot_len (pa_cons
      (pe_lc (own := [("token", 2)]) (g := gName 2) (tt := tTest (tOp (rIn K true) (tVar 2) (tVar 1))) rfl scYWithin.nd (pi_tup (pv 0)) (blkOk_by (N := ["part", "whole", "token"]) (sc := defScope yWithin) (by decide +kernel))
        (fun _ _ _ _ _ => pg_name (i := 2) scYWithin.nd rfl (Or.inl rfl)) (fun _ _ _ _ _ => pts_one (pt_cmpR (show OpR _ _ (rIn K true) from op_notIn_seq) (pv 2) (pv 1) (by rfl))) (fun _ _ _ _ _ => pv 2)) pa_nil)) pe_int (nomark _))), ?_⟩
    refine ⟨_, rfl, A, rfl, ⟨_, hA⟩, fun D nD => ?_⟩
    refine lc_tup (K := K) (a := A) (xs := as.map V.str) (fun i H2 => Same H H2 ∧ H2 D = some (.lst (((as.take i).filter fun y => decide (y ∉ bs)).map V.str))) ⟨sm_new sm_refl nD, upd_same⟩ (fun i H2 _ ⟨s2, _⟩ => sqT_same s2 hA) ?_ ?_
    · rintro i x H2 hi ⟨s2, hD⟩
      rw [List.getElem?_map] at hi
      obtain ⟨z, hz, rfl⟩ := Option.map_eq_some_iff.mp hi
      have il := (List.getElem?_eq_some_iff.mp hz).1
      have st := filt_one (q := fun y => decide (y ∉ bs)) hz
      refine ⟨rfl, _, rfl, _, rfl, B, _, rfl, .inr (sqT_same s2 hB), rfl, flat_strs' _, _, rfl, ?_⟩
      show if (!inV (V.str z) (bs.map V.str)) = true then _ else _
      rw [inV_strs]
      by_cases q : z ∉ bs
      · rw [decide_eq_true q]
        refine iteT ⟨_, rfl, _, hD, ?_, sm_new s2 nD, ?_⟩
        · have := List.length_filter_le (fun y => decide (y ∉ bs)) (as.take i)
          rw [List.length_take] at this
          rw [List.length_map, sizeLine_eq]
          omega
        · rw [upd_same, st, if_pos (decide_eq_true q), List.map_append]; rfl
      · rw [decide_eq_false q]
        refine iteF ⟨s2, ?_⟩
        rw [hD, st, if_neg (by simpa using q), List.append_nil]
    · rintro H2 ⟨s2, hD⟩
      rw [List.length_map, List.take_length] at hD
      refine ⟨D, _, rfl, .inl (SqL.of hD), rfl, ?_⟩
      have e : decide (V.int (((as.filter fun y => decide (y ∉ bs)).map V.str).length : Nat) = V.int 0) = subS as bs := by
        rw [dec_len, List.length_map, none_left]
        unfold subS
        congr 1
        funext x
        by_cases q : x ∈ bs <;> simp [q]
      rw [e]
      exact k H2 s2
theorem scYThere : FnScope ["p", "tokens", "term", "pair"] ["p", "tokens"] (defScope yThere) := ⟨rfl, rfl, rfl, by decide +kernel, rfl, by decide +kernel, by decide +kernel⟩
theorem ok_ythere {f : Addr} {fd : FuncData} (F : Fun K "_law_there" "_law_there" yThere f fd) (N : Nm mg) : FnOk P w K mg base CX0 1 f fd ["p", "tokens"] (spYThere K) := by
  refine F.ok scYThere (fun vs H Q E h => ?_) (fun cdv A outer s H vs Q E hr h => ?_)
  · obtain ⟨v, p, T, zs, rfl, _⟩ := h
    rfl
  · obtain ⟨v, p, T, bs, rfl, hd, hml, hT, k⟩ := h
    refine ⟨_, pss_cons (ps_for PassesOwn.never rfl (pi_tup (pv 0)) (pg_name (i := 2) scYThere.nd rfl (Or.inl rfl))
        (pss_one (ps_if (pt_cmpR op_eq (pe_callB call_len_seq (by rfl) N.len PySem.boot_len (pa_cons
          (pe_lc (own := [("pair", 3)]) (g := gName 3) (tt := tTest (tOp (rIn K true) (tOp (rIx K) (tVar 3) (tC (.int 0))) (tVar 1))) rfl scYThere.nd (pi_tup (pe_ix (show IxR _ (rIx K) from ix_seq) (pv 2) pe_int (fun _ _ => rfl))) (blkOk_by (N := ["p", "tokens", "term", "pair"]) (sc := defScope yThere) (by decide +kernel))
            (fun _ _ _ _ _ => pg_name (i := 3) scYThere.nd rfl (Or.inl rfl)) (fun _ _ _ _ _ => pts_one (pt_cmpR (show OpR _ _ (rIn K true) from op_notIn_seq) (pe_ix (show IxR _ (rIx K) from ix_seq) (pv 3) pe_int (fun _ _ => rfl)) (pv 1) (by rfl))) (fun _ _ _ _ _ => pv 3)) pa_nil)) pe_int (nomark _))
          (pss_one (ps_ret pe_bl)) pss_nil)))
      (pss_one (ps_ret pe_bl)), ?_⟩
    obtain ⟨a, xs, rfl, hs, hl, hall⟩ := dp_bag hd
    refine ⟨_, rfl, a, rfl, ⟨_, hs⟩, ?_⟩
    refine for_tup (K := K) (a := a) (xs := xs) (fun i σ H2 => (∃ u, σ = [some (.ref a), some (.ref T), u, none]) ∧ Same H H2 ∧ ∀ t ∈ p.take i, (t.1.all fun x => decide (x.1 ∈ bs)) = false) ⟨⟨_, rfl⟩, sm_refl, fun t ht => by rw [List.take_zero] at ht; exact nomatch ht⟩ (fun i σ H2 _ ⟨_, s2, _⟩ => sqT_same s2 hs) ?_ ?_
    · rintro i x σ H2 hi ⟨⟨u, rfl⟩, s2, no⟩
      obtain ⟨t, ht, hxt⟩ := bag_get hall hi
      obtain ⟨T1, kk, rfl, hT1, hk⟩ := dp_pair (dp_same s2 hxt)
      obtain ⟨b, zs, rfl, hb, hbl, hball⟩ := dp_bag (κ := Str) hk
      have tm := List.mem_of_getElem? ht
      have tl := hml t tm
      refine ⟨_, rfl, (fd_ix (K := K) (H := H2) (.inr hT1) _).2 ⟨b, rfl, ⟨_, hb⟩, fun D nD => ?_⟩⟩
      refine lc_tup (K := K) (a := b) (xs := zs) (fun j H3 => Same H2 H3 ∧ ∃ ys, H3 D = some (.lst ys) ∧ ys.length = ((t.1.take j).filter fun x => decide (x.1 ∉ bs)).length) ⟨sm_new sm_refl nD, [], upd_same, rfl⟩ (fun j H3 _ ⟨s3, _⟩ => sqT_same s3 hb) ?_ ?_
      · rintro j y H3 hj ⟨s3, ys, hD, hlen⟩
        obtain ⟨q, hq, hyq⟩ := bag_get hball hj
        obtain ⟨U, kk2, rfl, hU, hkk⟩ := dp_pair (dp_same s3 hyq)
        cases dp_str (i := q.1) hkk
        have st := filt_one (q := fun x : Str × Int => decide (x.1 ∉ bs)) hq
        refine ⟨rfl, _, rfl, (fd_ix (K := K) (H := H3) (.inr hU) _).2 ⟨_, rfl, T, _, rfl, sq_same (s2.trans s3) hT, rfl, flat_strs' _, _, rfl, ?_⟩⟩
        show if (!inV (V.str q.1) (bs.map V.str)) = true then _ else _
        rw [inV_strs]
        by_cases z : q.1 ∉ bs
        · rw [decide_eq_true z]
          refine iteT ⟨_, rfl, _, hD, ?_, sm_new s3 nD, _, upd_same, ?_⟩
          · have := List.length_filter_le (fun x : Str × Int => decide (x.1 ∉ bs)) (t.1.take j)
            rw [List.length_take] at this
            rw [sizeLine_eq]
            omega
          · rw [st, if_pos (decide_eq_true z), List.length_append, List.length_append, hlen]; rfl
        · rw [decide_eq_false z]
          refine iteF ⟨s3, ys, hD, ?_⟩
          rw [st, if_neg (by simpa using z), List.append_nil]
          exact hlen
      · rintro H3 ⟨s3, ys, hD, hlen⟩
        rw [hbl, List.take_length] at hlen
        refine ⟨D, _, rfl, .inl (SqL.of hD), rfl, _, rfl, ?_⟩
        have e : decide (V.int (ys.length : Nat) = V.int 0) = t.1.all fun x => decide (x.1 ∈ bs) := by
          rw [dec_len, hlen, none_left]
          congr 1
          funext x
          by_cases q : x.1 ∈ bs <;> simp [q]
        rw [e]
        cases q : t.1.all fun x => decide (x.1 ∈ bs) with
        | true =>
          refine iteT ?_
          have e2 : hasT p bs = true := List.any_eq_true.mpr ⟨t, tm, q⟩
          rw [e2] at k
          exact k H3 (s2.trans s3)
        | false =>
          refine iteF ⟨⟨_, rfl⟩, s2.trans s3, fun t' ht' => ?_⟩
          rw [List.take_succ, ht] at ht'
          rcases List.mem_append.mp ht' with h | h
          · exact no t' h
          · have : t' = t := by simpa using h
            rw [this]; exact q
    · rintro σ H2 ⟨⟨u, rfl⟩, s2, no⟩
      rw [hl, List.take_length] at no
      have e2 : hasT p bs = false := by
        unfold hasT
        rw [List.any_eq_false]
        intro t ht
        rw [no t ht]
        exact Bool.false_ne_true
      rw [e2] at k
      exact k H2 s2
end
end K26


set_option Elab.async false
set_option linter.all false
set_option maxRecDepth 100000
set_option maxHeartbeats 8000000
/-! _law_sets -/
namespace K26
open PySem L2 Nd Bk Gd
def rLenS (K : PySem.W.Frag) : List V → Hp → VK → Prop := fun xs H Q => ∃ p ys, xs = [V.ref p] ∧ (SqL K H p ys ∨ SqT K H p ys) ∧ Q (V.int ys.length) H
/-- a token that may stand behind these -/
def okE (one : List Str) (t : Str) : Bool := match one.getLast? with
  | none => true
  | some l => decide (l.cps.toList < t.cps.toList)
def ext (zs : List Str) (one : List Str) : List (List Str) := (zs.filter (okE one)).map fun t => one ++ [t]
/-- the sets of so many tokens -/
def lev (zs : List Str) : Nat → List (List Str)
  | 0 => [[]]
  | i + 1 => (lev zs i).flatMap (ext zs)
def allS (zs : List Str) : List (List Str) := (List.range (zs.length + 1)).flatMap (lev zs)
theorem ext_len (zs one : List Str) : (ext zs one).length ≤ zs.length := by
  unfold ext
  rw [List.length_map]
  exact List.length_filter_le ..
theorem flatL_len {α β : Type} {f : α → List β} {n : Nat} : ∀ {l : List α}, (∀ x ∈ l, (f x).length ≤ n) → (l.flatMap f).length ≤ l.length * n
  | [], _ => by simp
  | x :: l, h => by
    rw [List.flatMap_cons, List.length_append, List.length_cons, Nat.add_mul, Nat.one_mul]
    have a := h x List.mem_cons_self
    have b := flatL_len (l := l) fun y hy => h y (List.mem_cons_of_mem _ hy)
    omega
theorem lev_len {zs : List Str} (h : zs.length ≤ 6) : ∀ i, (lev zs i).length ≤ 6 ^ i
  | 0 => Nat.le_refl _
  | i + 1 => by
    have a : (lev zs (i + 1)).length ≤ (lev zs i).length * 6 := flatL_len fun x _ => Nat.le_trans (ext_len zs x) h
    have b := lev_len h i
    rw [Nat.pow_succ]
    exact Nat.le_trans a (Nat.mul_le_mul_right 6 b)
theorem lev_one {zs : List Str} : ∀ i, ∀ o ∈ lev zs i, o.length = i
  | 0, o, h => by
    rw [show o = [] from List.mem_singleton.mp h]; rfl
  | i + 1, o, h => by
    obtain ⟨x, hx, ho⟩ := List.mem_flatMap.mp h
    unfold ext at ho
    obtain ⟨t, _, rfl⟩ := List.mem_map.mp ho
    rw [List.length_append, lev_one i x hx]; rfl
/-- tuples of tokens, each in a cell of its own -/
def TupA (H : Hp) (ys : List V) (os : List (List Str)) : Prop := Paired (fun (y : V) (o : List Str) => ∃ b, y = .ref b ∧ H b = some (.tup (o.map V.str))) ys os
theorem TupA.same {H H' : Hp} {ys : List V} {os : List (List Str)} (s : Same H H') (h : TupA H ys os) : TupA H' ys os := Paired.mapP h fun _ _ ⟨b, e, q⟩ => ⟨b, e, s _ _ q⟩
theorem TupA.put {H : Hp} {D : Addr} {u : HO} {ys : List V} {os : List (List Str)} (n : NotT (H D)) (h : TupA H ys os) : TupA (upd H D u) ys os := Paired.mapP h fun _ _ ⟨b, e, q⟩ => ⟨b, e, by
  rw [upd_ne fun z => n.1 _ (by rw [← z]; exact q)]
  exact q⟩
theorem TupA.app {H : Hp} {ys ys' : List V} {os os' : List (List Str)} (h : TupA H ys os) (h' : TupA H ys' os') : TupA H (ys ++ ys') (os ++ os') := by
  unfold TupA at *
  induction h with
  | nil => exact h'
  | cons a _ ih => exact .cons a ih
theorem TupA.len {H : Hp} {ys : List V} {os : List (List Str)} (h : TupA H ys os) : ys.length = os.length := Paired.length h
theorem TupA.get {H : Hp} : ∀ {ys : List V} {os : List (List Str)} {j : Nat} {x : V}, TupA H ys os → ys[j]? = some x → ∃ o b, os[j]? = some o ∧ x = .ref b ∧ H b = some (.tup (o.map V.str))
  | _, _, 0, x, .cons ⟨b, e, q⟩ _, h => by
    have h' := Option.some.inj h
    subst h'
    exact ⟨_, b, rfl, e, q⟩
  | _, _, j + 1, x, .cons _ r, h => TupA.get (j := j) r h
theorem TupA.dps {K : PySem.W.Frag} {H : Hp} : ∀ {ys : List V} {os : List (List Str)}, TupA H ys os → DpAll K H ys (os.map sD)
  | _, _, .nil => .nil
  | _, _, .cons ⟨b, e, q⟩ r => by
    subst e
    exact .cons (.tup (SqT.of q) (strs_dp _)) (TupA.dps r)
/-- the rows of sets, one for each length -/
def Rows (S : Addr) (zs : List Str) (Ls : List Addr) (H : Hp) : Prop := ∀ (j : Nat) (L : Addr), Ls[j]? = some L → L ≠ S ∧ ∃ ys, H L = some (.lst ys) ∧ TupA H ys (lev zs j)
theorem tu_strs : ∀ ts : List Str, tupOnly (.tuple (ts.map .str)) = true
  | [] => by simp [tupOnly, tupOnlyAll]
  | t :: ts => by
    have := tu_strs ts
    simpa [tupOnly, tupOnlyAll] using this
theorem dp_strs {K : PySem.W.Frag} {H : Hp} {ys : List V} {ks : List Str} (h : DpAll K H ys (ks.map PyData.str)) : ys = ks.map V.str := strs_of (ks := ks) h
theorem tu_sD (ts : List Str) : tupOnly (sD ts) = true := tu_strs ts
theorem tu_sDs (l : List (List Str)) : ∀ d ∈ l.map sD, tupOnly d = true := fun d hd => by
  obtain ⟨x, _, rfl⟩ := List.mem_map.mp hd
  exact tu_sD x
theorem at_last {α : Type} {xs : List α} {x : α} (h : xs[xs.length - 1]? = some x) (n : 0 < xs.length) : atI xs (-1) = some x := by
  unfold atI ixN
  rw [if_neg (by decide), if_pos (by omega)]
  show xs[(-1 + (xs.length : Int)).toNat]? = some x
  rw [show (-1 + (xs.length : Int)).toNat = xs.length - 1 by omega]
  exact h
def spYSets (K : PySem.W.Frag) : Sp := fun vs H Q _ => ∃ (T : Addr) (zs : List Str), vs = [.ref T] ∧ H T = some (.lst (zs.map V.str)) ∧ zs.length ≤ 6 ∧
  ∀ (l : Addr) (ys : List V) (H' : Hp), H l = none → Same H H' → H' l = some (.lst ys) → TupA H' ys (allS zs) → Q (.ref l) H'
section
variable {P : Program} {w : World} {K : PySem.W.Frag} {mg : Str → Option Value} {base : Heap}
abbrev ysN : List Str := ["tokens", "sets", "size", "wider", "one", "token", "found", "row"]
theorem scYSets : FnScope ysN ["tokens"] (defScope ySets) := ⟨rfl, rfl, rfl, by decide +kernel, rfl, by decide +kernel, by decide +kernel⟩
theorem ok_ysets {f : Addr} {fd : FuncData} (F : Fun K "_law_sets" "_law_sets" ySets f fd) (N : Nm mg) : FnOk P w K mg base CX0 1 f fd ["tokens"] (spYSets K) := by
  refine F.ok scYSets (fun vs H Q E h => ?_) (fun cdv A outer s H vs Q E hr h => ?_)
  · obtain ⟨T, zs, rfl, _⟩ := h
    rfl
  · obtain ⟨T, zs, rfl, hT, zl, k⟩ := h
    --BODYA
    refine ⟨_, pss_cons (ps_set (i := 1) scYSets.nd rfl (Or.inl rfl) (pe_lst (pa_cons (pe_lst (pa_cons (pe_tup pa_nil) pa_nil)) pa_nil)))
      (pss_cons (ps_for PassesOwn.never rfl (pi_range1 rfl N.rng (pa_cons (pe_callB call_len_seq (by rfl) N.len PySem.boot_len (pa_cons (pv 0) pa_nil)) pa_nil)) (pg_name (i := 2) scYSets.nd rfl (Or.inl rfl))
      (pss_cons (ps_set (i := 3) scYSets.nd rfl (Or.inl rfl) (pe_lst pa_nil))
      (pss_cons (ps_for PassesOwn.never rfl (pi_list (pe_ix (show IxR _ (rIx K) from ix_seq) (pv 1) (pe_un un_neg pe_int) (fun _ _ => rfl))) (pg_name (i := 4) scYSets.nd rfl (Or.inr rfl))
      (pss_one (ps_set (i := 3) scYSets.nd rfl (Or.inl rfl) (pe_op op_cat (pv 3) (pe_lc (own := [("token", 5)]) (g := gName 5) (tt := tOr (tTest _) (tTest _)) rfl scYSets.nd (pi_list (pv 0)) (blkOk_by (N := ysN) (sc := defScope ySets) (by decide +kernel)) (fun _ _ _ _ _ => pg_name (i := 5) scYSets.nd rfl (Or.inl rfl)) (fun _ _ _ _ _ => pts_one (PW.pt (pw_or (pt_cmpR op_eq (pe_callB (show CallR _ _ (rLenS K) from call_len_seq) (by rfl) N.len PySem.boot_len (pa_cons (pv 4) pa_nil)) pe_int (nomark _)) (pw_or1 (pt_cmpR op_gt_str (pv 5) (pe_ix (show IxR _ (rIx K) from ix_seq) (pv 4) (pe_un un_neg pe_int) (fun _ _ => rfl)) (nomark _)))))) (fun _ _ _ _ _ => (pe_op (show OpR _ _ (rCatA K) from op_catA) (pv 4) (pe_tup (pa_cons (pv 5) pa_nil)))))))))
      (pss_one (ps_expr (pe_bm PySem.F.plainAttrs_list PySem.F.slot_list_append PySem.F.type_list_append mt_append (pv 1) (pa_cons (pv 3) pa_nil)))))))
      (pss_cons (ps_set (i := 6) scYSets.nd rfl (Or.inl rfl) (pe_lst pa_nil))
      (pss_cons (ps_for PassesOwn.never rfl (pi_list (pv 1)) (pg_name (i := 7) scYSets.nd rfl (Or.inl rfl))
      (pss_one (ps_set (i := 6) scYSets.nd rfl (Or.inl rfl) (pe_op op_cat (pv 6) (pv 7)))))
      (pss_one (ps_ret (pv 6)))))), ?_⟩
    --END
    refine ⟨(by show 0 ≤ sizeLine; decide), fun E1 nE => ?_⟩
    have sE : Same H (upd H E1 (.tup [])) := sm_new sm_refl nE
    have hE : upd H E1 (.tup []) E1 = some (.tup []) := upd_same
    generalize upd H E1 (.tup []) = H1 at sE hE ⊢
    refine ⟨(by show 1 ≤ sizeLine; decide), fun L0 nL0 => ?_⟩
    have sL : Same H1 (upd H1 L0 (.lst [.ref E1])) := sm_new sm_refl nL0
    have hL0 : upd H1 L0 (.lst [.ref E1]) L0 = some (.lst [.ref E1]) := upd_same
    generalize upd H1 L0 (.lst [.ref E1]) = H2 at sL hL0 ⊢
    refine ⟨(by show 1 ≤ sizeLine; decide), fun S nS => ?_⟩
    have sS : Same H2 (upd H2 S (.lst [.ref L0])) := sm_new sm_refl nS
    have hS0 : upd H2 S (.lst [.ref L0]) S = some (.lst (([L0] : List Addr).map V.ref)) := upd_same
    have LS : L0 ≠ S := ne_of_none hL0 nS
    have nSH : H S = none := (sE.trans sL).free nS
    generalize upd H2 S (.lst [.ref L0]) = H3 at sS hS0 ⊢
    have s03 : Same H H3 := (sE.trans sL).trans sS
    have R0 : Rows S zs [L0] H3 := fun j L hj => by
      match j, hj with
      | 0, hj =>
        have e : L0 = L := by simpa using hj
        subst e
        exact ⟨LS, _, sS _ _ hL0, .cons ⟨E1, rfl, (sL.trans sS) _ _ hE⟩ .nil⟩
      | j + 1, hj => simp at hj
    refine ⟨_, rfl, T, _, rfl, .inl (SqL.of (s03 _ _ hT)), _, rfl, by rw [List.length_map]; omega, by rw [List.length_map]; omega, ?_⟩
    rw [List.length_map]
    refine for_range (n := zs.length) (fun i σ HB => (∃ u2 u3 u4, σ = [some (.ref T), some (.ref S), u2, u3, u4, none, none, none]) ∧ Same H HB ∧ ∃ Ls : List Addr, HB S = some (.lst (Ls.map V.ref)) ∧ Ls.length = i + 1 ∧ Rows S zs Ls HB) ⟨⟨_, _, _, rfl⟩, s03, [L0], hS0, rfl, R0⟩ ?_ ?_
    · rintro i σ HB hi ⟨⟨u2, u3, u4, rfl⟩, sB, Ls, hS, Ll, R⟩
      refine ⟨(by show 0 ≤ sizeLine; decide), fun W0 nW0 => ?_⟩
      have sW0 : Same HB (upd HB W0 (.lst [])) := sm_new sm_refl nW0
      have hW0 : upd HB W0 (.lst []) W0 = some (.lst []) := upd_same
      have W0S : S ≠ W0 := ne_of_none hS nW0
      generalize upd HB W0 (.lst []) = HC at sW0 hW0 ⊢
      obtain ⟨L, hL⟩ : ∃ L, Ls[i]? = some L := ⟨_, List.getElem?_eq_getElem (by omega)⟩
      obtain ⟨LS', ys, hys, dys⟩ := R i L hL
      have hysC := sW0 _ _ hys
      have dysC := dys.same sW0
      have yl : ys.length = (lev zs i).length := by exact dys.len
      refine ⟨_, rfl, _, rfl, .inl ⟨S, _, _, _, rfl, rfl, SqL.of (sW0 _ _ hS), at_last (by rw [List.getElem?_map, List.length_map, Ll, Nat.add_sub_cancel, hL]; rfl) (by rw [List.length_map]; omega), L, rfl, ⟨_, SqL.of hysC⟩, ?_⟩⟩
      refine for_list (K := K) (a := L) (xs := ys) (fun j τ HD => (∃ (W : Addr) (ws : List V) (u4 : Option V), τ = [some (.ref T), some (.ref S), some (.int (0 + (i : Int))), some (.ref W), u4, none, none, none] ∧ W ≠ S ∧ HD W = some (.lst ws) ∧ TupA HD ws (((lev zs i).take j).flatMap (ext zs))) ∧ Same HC HD) ⟨⟨W0, [], _, rfl, Ne.symm W0S, hW0, .nil⟩, sm_refl⟩ (fun j τ HD _ ⟨_, s⟩ => SqL.of (s _ _ hysC)) ?_ ?_
      · rintro j x τ HD hj ⟨⟨W, ws, u4, rfl, WS, hW, dW⟩, sD'⟩
        obtain ⟨o, A, ho, rfl, hAt⟩ := TupA.get (dysC.same sD') hj
        have om := List.mem_of_getElem? ho
        have ol := lev_one i o om
        have hA : SqT K HD A (o.map V.str) := SqT.of hAt
        have sHD : Same H HD := (sB.trans sW0).trans sD'
        have hTD := sHD _ _ hT
        refine ⟨_, rfl, _, rfl, T, rfl, ⟨_, SqL.of hTD⟩, fun D nD => ?_⟩
        refine lc_list (K := K) (a := T) (xs := zs.map V.str) (fun m HE => Same HD HE ∧ ∃ acc, HE D = some (.lst acc) ∧ TupA HE acc (((zs.take m).filter (okE o)).map fun t => o ++ [t])) ⟨sm_new sm_refl nD, [], upd_same, .nil⟩ (fun m HE _ ⟨s, _⟩ => SqL.of (s _ _ hTD)) ?_ ?_
        · rintro m x HE hm ⟨sE', acc, hD, dacc⟩
          rw [List.getElem?_map] at hm
          obtain ⟨t, ht, rfl⟩ := Option.map_eq_some_iff.mp hm
          have hA' := sqT_same sE' hA
          have st := filt_one (q := okE o) ht
          have al : acc.length ≤ 6 := by
            have := List.length_filter_le (okE o) (zs.take m)
            rw [dacc.len, List.length_map]
            rw [List.length_take] at this
            omega
          have nt : NotT (HE D) := by rw [hD]; exact notT_lst
          -- behind the element
          have fin : okE o t = true → ∀ (r : V) (HF : Hp), Same HE HF → (∃ b, r = .ref b ∧ HF b = some (.tup ((o ++ [t]).map V.str))) → ∃ acc, HF D = some (.lst acc) ∧ acc.length < sizeLine ∧ (Same HD (upd HF D (.lst (acc ++ [r]))) ∧ ∃ acc', upd HF D (.lst (acc ++ [r])) D = some (.lst acc') ∧ TupA (upd HF D (.lst (acc ++ [r]))) acc' (((zs.take (m + 1)).filter (okE o)).map fun t => o ++ [t])) := fun ok r HF sF dr => by
            have hDF := sF _ _ hD
            have ntF : NotT (HF D) := by rw [hDF]; exact notT_lst
            refine ⟨acc, hDF, small1000 (by omega), sm_new (sE'.trans sF) nD, _, upd_same, ?_⟩
            rw [st, if_pos ok, List.map_append]
            refine TupA.app (.put ntF (dacc.same sF)) (.put ntF (.cons dr .nil))
          refine ⟨rfl, _, rfl, A, _, rfl, .inr hA', rfl, _, rfl, ?_⟩
          by_cases oe : o = []
          · subst oe
            refine iteT (iteT ⟨_, rfl, _, rfl, (by show 1 ≤ sizeLine; decide), fun U nU => ?_⟩)
            have sU : Same HE (upd HE U (.tup [.str t])) := sm_new sm_refl nU
            have gU : upd HE U (.tup [.str t]) U = some (.tup [.str t]) := upd_same
            generalize upd HE U (.tup [.str t]) = HF at sU gU ⊢
            exact ⟨A, U, _, _, rfl, rfl, sqT_same sU hA', SqT.of gU, (by show 0 + 1 ≤ sizeLine; decide), fun _ => fin rfl _ _ sU ⟨U, rfl, gU⟩, fun h => absurd rfl h, fun h => absurd rfl h⟩
          · have onl : ¬ ((o.map V.str).length = 0) := by rw [List.length_map]; exact fun h => oe (List.length_eq_zero_iff.mp h)
            have c0 : decide (V.int ((o.map V.str).length : Nat) = V.int 0) = false := decide_eq_false fun h => onl (by have := V.int.inj h; omega)
            rw [c0]
            obtain ⟨l, hl⟩ : ∃ l, o.getLast? = some l := by
              cases e : o.getLast? with
              | none => exact absurd (List.getLast?_eq_none_iff.mp e) oe
              | some l => exact ⟨l, rfl⟩
            have okl : okE o t = decide (l.cps.toList < t.cps.toList) := by unfold okE; rw [hl]
            refine iteF ⟨_, rfl, _, rfl, _, rfl, .inr (.inl ⟨A, _, _, _, rfl, rfl, hA', at_last (x := .str l) (by rw [List.getElem?_map, List.length_map, ← List.getLast?_eq_getElem?, hl]; rfl) (by omega), _, _, rfl, rfl, _, rfl, ?_⟩)⟩
            by_cases ok : okE o t = true
            · rw [← okl, ok]
              refine iteT ⟨_, rfl, _, rfl, (by show 1 ≤ sizeLine; decide), fun U nU => ?_⟩
              have sU : Same HE (upd HE U (.tup [.str t])) := sm_new sm_refl nU
              have gU : upd HE U (.tup [.str t]) U = some (.tup [.str t]) := upd_same
              generalize upd HE U (.tup [.str t]) = HF at sU gU ⊢
              refine ⟨A, U, _, _, rfl, rfl, sqT_same sU hA', SqT.of gU, (by rw [List.length_map, ol, sizeLine_eq]; show i + 1 ≤ _; omega), fun h => absurd (List.map_eq_nil_iff.mp h) oe, fun _ h => absurd h (List.cons_ne_nil _ _), fun _ _ p np => ?_⟩
              have sp : Same HF (upd HF p (.tup (o.map V.str ++ [.str t]))) := sm_new sm_refl np
              exact fin ok _ _ (sU.trans sp) ⟨p, rfl, by rw [upd_same, List.map_append]; rfl⟩
            · have ok' : okE o t = false := by simpa using ok
              rw [← okl, ok']
              refine iteF ⟨sE', acc, hD, ?_⟩
              rw [st, if_neg ok, List.append_nil]
              exact dacc
        · rintro HE ⟨sE', acc, hD, dacc⟩
          rw [List.length_map, List.take_length] at dacc
          have hWE := sE' _ _ hW
          have al : acc.length ≤ 6 := by
            rw [dacc.len]
            exact Nat.le_trans (ext_len zs o) zl
          have wl : ws.length ≤ 6 ^ i * 6 := by
            rw [dW.len]
            refine Nat.le_trans (flatL_len (n := 6) fun x _ => Nat.le_trans (ext_len zs x) zl) ?_
            refine Nat.mul_le_mul_right 6 (Nat.le_trans ?_ (lev_len zl i))
            rw [List.length_take]
            exact Nat.min_le_right _ _
          have p6 : 6 ^ i ≤ 46656 := Nat.le_trans (Nat.pow_le_pow_right (by decide) (show i ≤ 6 by omega)) (by decide)
          refine ⟨W, D, _, _, rfl, rfl, hWE, hD, by rw [sizeLine_eq]; omega, fun W' nW' => ?_⟩
          have sW' : Same HE (upd HE W' (.lst (ws ++ acc))) := sm_new sm_refl nW'
          have hSE : HE S = some (.lst (Ls.map V.ref)) := sE' _ _ (sD' _ _ (sW0 _ _ hS))
          refine ⟨⟨W', _, _, rfl, Ne.symm (ne_of_none hSE nW'), upd_same, ?_⟩, (sD'.trans sE').trans sW'⟩
          rw [List.take_succ, ho, List.flatMap_append]
          refine TupA.app (dW.same (sE'.trans sW')) (TupA.same sW' ?_)
          have e1 : ((some o).toList.flatMap (ext zs)) = ext zs o := by simp
          rw [e1]
          exact dacc
      · rintro τ HD ⟨⟨W, ws, u4, rfl, WS, hW, dW⟩, sD'⟩
        rw [yl, List.take_length] at dW
        have hSD : HD S = some (.lst (Ls.map V.ref)) := sD' _ _ (sW0 _ _ hS)
        have ntS : NotT (HD S) := by rw [hSD]; exact notT_lst
        refine ⟨_, rfl, .inl ⟨rfl, _, SqL.of hSD⟩, _, rfl, S, _, _, rfl, rfl, hSD, by rw [List.length_map, Ll, sizeLine_eq]; omega, ⟨_, _, _, rfl⟩, ?_, Ls ++ [W], by rw [upd_same, List.map_append]; rfl, by rw [List.length_append, Ll]; rfl, fun j' L' hj' => ?_⟩
        · exact fun b o e => by rw [upd_ne (ne_of_none e nSH)]; exact ((sB.trans sW0).trans sD') b o e
        · by_cases jl : j' < Ls.length
          · rw [List.getElem?_append_left jl] at hj'
            obtain ⟨n1, ys', h1, h2⟩ := R j' L' hj'
            exact ⟨n1, ys', by rw [upd_ne n1]; exact sD' _ _ (sW0 _ _ h1), TupA.put ntS (h2.same (sW0.trans sD'))⟩
          · rw [List.getElem?_append_right (by omega)] at hj'
            obtain ⟨jz, e⟩ : j' - Ls.length = 0 ∧ W = L' := by
              cases q : j' - Ls.length with
              | zero => rw [q] at hj'; exact ⟨rfl, by simpa using hj'⟩
              | succ n => rw [q] at hj'; simp at hj'
            have ej : j' = i + 1 := by omega
            subst ej
            subst e
            exact ⟨WS, ws, by rw [upd_ne WS]; exact hW, TupA.put ntS dW⟩
    · rintro σ HB ⟨⟨u2, u3, u4, rfl⟩, sB, Ls, hS, Ll, R⟩
      refine ⟨(by show 0 ≤ sizeLine; decide), fun Fo nFo => ?_⟩
      have sF : Same HB (upd HB Fo (.lst [])) := sm_new sm_refl nFo
      have hF : upd HB Fo (.lst []) Fo = some (.lst []) := upd_same
      have nFH : H Fo = none := sB.free nFo
      generalize upd HB Fo (.lst []) = HC at sF hF ⊢
      have lv : ∀ i, i ≤ 6 → (lev zs i).length ≤ 46656 := fun i hi => Nat.le_trans (lev_len zl i) (Nat.le_trans (Nat.pow_le_pow_right (by decide) hi) (by decide))
      refine ⟨_, rfl, S, rfl, ⟨_, SqL.of (sF _ _ hS)⟩, ?_⟩
      refine for_list (K := K) (a := S) (xs := Ls.map V.ref) (fun j τ HD => (∃ (W : Addr) (ws : List V) (u7 : Option V), τ = [some (.ref T), some (.ref S), u2, u3, u4, none, some (.ref W), u7] ∧ H W = none ∧ HD W = some (.lst ws) ∧ TupA HD ws ((List.range j).flatMap (lev zs))) ∧ Same HC HD) ⟨⟨Fo, [], _, rfl, nFH, hF, .nil⟩, sm_refl⟩ (fun j τ HD _ ⟨_, s⟩ => SqL.of (s _ _ (sF _ _ hS))) ?_ ?_
      · rintro j x τ HD hj ⟨⟨W, ws, u7, rfl, nW, hW, dW⟩, sD'⟩
        rw [List.getElem?_map] at hj
        obtain ⟨L, hL, rfl⟩ := Option.map_eq_some_iff.mp hj
        have jl := (List.getElem?_eq_some_iff.mp hL).1
        obtain ⟨_, ys, h1, h2⟩ := R j L hL
        have sBD := sF.trans sD'
        have yl : ys.length ≤ 46656 := by
          rw [h2.len]
          exact lv j (by omega)
        have wl : ws.length ≤ 7 * 46656 := by
          rw [dW.len]
          refine Nat.le_trans (flatL_len (n := 46656) fun i hi => lv i (by have := List.mem_range.mp hi; omega)) ?_
          rw [List.length_range]
          omega
        refine ⟨_, rfl, _, rfl, W, L, _, _, rfl, rfl, hW, sBD _ _ h1, by rw [sizeLine_eq]; omega, fun W' nW' => ?_⟩
        have sW' : Same HD (upd HD W' (.lst (ws ++ ys))) := sm_new sm_refl nW'
        refine ⟨⟨W', _, _, rfl, (sB.trans sBD).free nW', upd_same, ?_⟩, sD'.trans sW'⟩
        rw [List.range_succ, List.flatMap_append]
        refine TupA.app (dW.same sW') (TupA.same (sBD.trans sW') ?_)
        have e1 : ([j].flatMap (lev zs)) = lev zs j := by simp
        rw [e1]
        exact h2
      · rintro τ HD ⟨⟨W, ws, u7, rfl, nW, hW, dW⟩, sD'⟩
        rw [List.length_map, Ll] at dW
        exact ⟨_, rfl, k W ws HD nW ((sB.trans sF).trans sD') hW dW⟩
end
end K26


set_option Elab.async false
set_option linter.all false
set_option maxRecDepth 100000
set_option maxHeartbeats 8000000
/-! _law_least -/
namespace K26
open PySem L2 Nd Bk Gd
/-- those that hold and have none of the earlier ones within -/
def leastF (hd : List Str → Bool) (found : List (List Str)) (o : List Str) : List (List Str) := if hd o && !(found.any fun x => subS x o) then found ++ [o] else found
def least (hd : List Str → Bool) (os : List (List Str)) : List (List Str) := os.foldl (leastF hd) []
theorem least_take {hd : List Str → Bool} {os : List (List Str)} {j : Nat} {o : List Str} (h : os[j]? = some o) : least hd (os.take (j + 1)) = leastF hd (least hd (os.take j)) o := by
  unfold least
  rw [List.take_succ, h, List.foldl_append]
  rfl
theorem leastF_len (hd : List Str → Bool) (f : List (List Str)) (o : List Str) : (leastF hd f o).length ≤ f.length + 1 := by
  unfold leastF
  split
  · rw [List.length_append]; exact Nat.le_refl _
  · omega
theorem least_len (hd : List Str → Bool) (os : List (List Str)) (j : Nat) : (least hd (os.take j)).length ≤ j := by
  induction j with
  | zero => rw [List.take_zero]; exact Nat.le_refl _
  | succ j ih =>
    cases e : os[j]? with
    | none =>
      have : os.take (j + 1) = os.take j := by rw [List.take_succ, e]; simp
      rw [this]; omega
    | some o =>
      rw [least_take e]
      have := leastF_len hd (least hd (os.take j)) o
      omega
theorem least_mem {hd : List Str → Bool} {os : List (List Str)} : ∀ x ∈ least hd os, x ∈ os := by
  have key : ∀ (l f : List (List Str)), (∀ x ∈ f, x ∈ os) → (∀ x ∈ l, x ∈ os) → ∀ x ∈ l.foldl (leastF hd) f, x ∈ os := by
    intro l
    induction l with
    | nil => exact fun f h _ => h
    | cons o l ih =>
      intro f h1 h2
      refine ih _ (fun x hx => ?_) fun x hx => h2 x (List.mem_cons_of_mem _ hx)
      unfold leastF at hx
      split at hx
      · rcases List.mem_append.mp hx with h | h
        · exact h1 x h
        · rw [List.mem_singleton.mp h]; exact h2 o List.mem_cons_self
      · exact h1 x hx
  exact key os [] (fun x hx => nomatch hx) fun x hx => hx
theorem any_filt {α : Type} {q : α → Bool} (l : List α) : decide (((l.filter q).length : Int) = 0) = !l.any q := by
  rw [none_left, Bool.eq_iff_iff]
  simp
def spYLeast (K : PySem.W.Frag) : Sp := fun vs H Q _ => ∃ (L D : Addr) (ys : List V) (os : List (List Str)) (kvs : List (List Key × V)) (hd : List Str → Bool), vs = [.ref L, .ref D] ∧ H L = some (.lst ys) ∧ TupA H ys os ∧ H D = some (.dT kvs) ∧ (∀ o ∈ os, valV kvs (o.map Sum.inr) = some (.bl (hd o))) ∧ os.length ≤ 1000000 ∧ (∀ o ∈ os, o.length ≤ 1000) ∧
  ∀ (v : V) (H' : Hp), Same H H' → Dp K H' v (.tuple ((least hd os).map sD)) → Q v H'
section
variable {P : Program} {w : World} {K : PySem.W.Frag} {mg : Str → Option Value} {base : Heap}
abbrev ylsN : List Str := ["sets", "holds", "found", "one", "other"]
theorem scYLeast : FnScope ylsN ["sets", "holds"] (defScope yLeast) := ⟨rfl, rfl, rfl, by decide +kernel, rfl, by decide +kernel, by decide +kernel⟩
theorem ok_yleast {f : Addr} {fd : FuncData} (F : Fun K "_law_least" "_law_least" yLeast f fd) (N : Nm mg) (Gw : Df P w K mg base 1 "_law_within" ["part", "whole"] (spYWithin K)) : FnOk P w K mg base CX0 2 f fd ["sets", "holds"] (spYLeast K) := by
  obtain ⟨fw, fdw, gW, kW, bW, GW⟩ := Gw.ok
  refine F.ok scYLeast (fun vs H Q E h => ?_) (fun cdv A outer s H vs Q E hr h => ?_)
  · obtain ⟨L, D, ys, os, kvs, hd, rfl, _⟩ := h
    rfl
  · obtain ⟨L, D, ys, os, kvs, hd, rfl, hL, tu, hD, hold, ol, o1, k⟩ := h
    have hr1 : Room 1 _ := hr
    --BODYA
    refine ⟨_, pss_cons (ps_set (i := 2) scYLeast.nd rfl (Or.inl rfl) (pe_lst pa_nil))
      (pss_cons (ps_for PassesOwn.never rfl (pi_list (pv 0)) (pg_name (i := 3) scYLeast.nd rfl (Or.inr rfl))
      (pss_one (ps_if (PW.pt (pw_and (pt_val (pe_dget (u1 hr) (pv 1) (pv 3) (fun _ _ => rfl))) (pw_and1 (pt_cmpR op_eq (pe_callB call_len_seq (by rfl) N.len PySem.boot_len (pa_cons (pe_lc (own := [("other", 4)]) (g := gName 4) (tt := tB (tCall (spYWithin K) [] E0 (tCons (tVar 4) (tCons (tVar 3) tNil)))) rfl scYLeast.nd (pi_list (pv 2)) (blkOk_by (N := ylsN) (sc := defScope yLeast) (by decide +kernel)) (fun _ _ _ _ _ => pg_name (i := 4) scYLeast.nd rfl (Or.inl rfl)) (fun _ _ _ _ _ => pts_one (pt_val (pe_call GW hr1 rfl gW kW bW .nil pass0 (pa_cons (pv 4) (pa_cons (pv 3) pa_nil))))) (fun _ _ _ _ _ => pv 4)) pa_nil)) pe_int (nomark _))))) (pss_one (ps_expr (pe_bm PySem.F.plainAttrs_list PySem.F.slot_list_append PySem.F.type_list_append mt_append (pv 2) (pa_cons (pv 3) pa_nil)))) pss_nil)))
      (pss_one (ps_ret (pe_callTy call_tuple_of (by rfl) N.tup (by rfl) (pa_cons (pv 2) pa_nil))))), ?_⟩
    --END
    refine ⟨(by show 0 ≤ sizeLine; decide), fun Fo nF => ?_⟩
    have sF : Same H (upd H Fo (.lst [])) := sm_new sm_refl nF
    have hF : upd H Fo (.lst []) Fo = some (.lst []) := upd_same
    generalize upd H Fo (.lst []) = H1 at sF hF ⊢
    have yl := tu.len
    refine ⟨_, rfl, L, rfl, ⟨_, SqL.of (sF _ _ hL)⟩, ?_⟩
    refine for_list (K := K) (a := L) (xs := ys) (fun j σ H2 => (∃ u3, σ = [some (.ref L), some (.ref D), some (.ref Fo), u3, none]) ∧ Same H H2 ∧ ∃ fv, H2 Fo = some (.lst fv) ∧ TupA H2 fv (least hd (os.take j))) ⟨⟨_, rfl⟩, sF, [], hF, .nil⟩ (fun j σ H2 _ ⟨_, s, _⟩ => SqL.of (s _ _ hL)) ?_ ?_
    · rintro j x σ H2 hj ⟨⟨u3, rfl⟩, s2, fv, hFv, tf⟩
      obtain ⟨o, b, ho, rfl, hb⟩ := TupA.get (tu.same s2) hj
      have om := List.mem_of_getElem? ho
      have jl := (List.getElem?_eq_some_iff.mp ho).1
      have fl := tf.len
      have fl2 := least_len hd os j
      have hk : H2 b = some (.tup ((o.map (Sum.inr : Str → Key)).map kV)) := by rw [hb, List.map_map]; rfl
      have g := DGet.t (s2 _ _ hD) hk
      rw [hold o om] at g
      refine ⟨_, rfl, _, rfl, D, _, rfl, g, _, rfl, ?_⟩
      have same_next : hd o = false ∨ (least hd (os.take j)).any (fun x => subS x o) = true → least hd (os.take (j + 1)) = least hd (os.take j) := fun h => by
        rw [least_take ho]
        unfold leastF
        rcases h with h | h <;> simp [h]
      rcases (by cases hd o <;> simp : hd o = false ∨ hd o = true) with c' | c
      · rw [c']
        refine iteF (iteF ⟨⟨_, rfl⟩, s2, fv, hFv, ?_⟩)
        rw [same_next (.inl c')]
        exact tf
      rw [c]
      refine iteT ⟨_, rfl, Fo, rfl, ⟨_, SqL.of hFv⟩, fun D2 nD2 => ?_⟩
      refine lc_list (K := K) (a := Fo) (xs := fv) (fun m H3 => Same H2 H3 ∧ ∃ acc, H3 D2 = some (.lst acc) ∧ acc.length = (((least hd (os.take j)).take m).filter fun x => subS x o).length) ⟨sm_new sm_refl nD2, [], upd_same, rfl⟩ (fun m H3 _ ⟨s3, _⟩ => SqL.of (s3 _ _ hFv)) ?_ ?_
      · rintro m x H3 hm ⟨s3, acc, hD2, al⟩
        obtain ⟨q, bq, hq, rfl, hbq⟩ := TupA.get (tf.same s3) hm
        have qm := o1 q (List.mem_of_mem_take (least_mem _ (List.mem_of_getElem? hq)))
        have st := filt_one (q := fun x => subS x o) hq
        refine ⟨rfl, _, rfl, _, rfl, bq, b, q, o, rfl, SqT.of hbq, SqT.of (s3 _ _ hb), qm, fun H4 s4 => ⟨_, rfl, ?_⟩⟩
        have hD4 := s4 _ _ hD2
        have fll := List.length_filter_le (fun x => subS x o) ((least hd (os.take j)).take m)
        rw [List.length_take] at fll
        cases e : subS q o with
        | true =>
          refine iteT ⟨_, rfl, acc, hD4, by rw [sizeLine_eq]; omega, sm_new (s3.trans s4) nD2, _, upd_same, ?_⟩
          rw [st, if_pos e, List.length_append, List.length_append, al]; rfl
        | false =>
          refine iteF ⟨s3.trans s4, acc, hD4, ?_⟩
          rw [st, if_neg (by rw [e]; exact Bool.false_ne_true), List.append_nil]
          exact al
      · rintro H3 ⟨s3, acc, hD2, al⟩
        rw [fl, List.take_length] at al
        refine ⟨D2, acc, rfl, .inl (SqL.of hD2), rfl, _, rfl, ?_⟩
        have e : decide (V.int (acc.length : Nat) = V.int 0) = !(least hd (os.take j)).any (fun x => subS x o) := by rw [dec_len, al, any_filt]
        rw [e]
        have hF3 := s3 _ _ hFv
        cases q : (least hd (os.take j)).any (fun x => subS x o) with
        | true =>
          refine iteF ⟨⟨_, rfl⟩, s2.trans s3, fv, hF3, ?_⟩
          rw [same_next (.inr q)]
          exact tf.same s3
        | false =>
          have ntF : NotT (H3 Fo) := by rw [hF3]; exact notT_lst
          refine iteT ⟨_, rfl, .inl ⟨rfl, _, SqL.of hF3⟩, _, rfl, Fo, fv, _, rfl, rfl, hF3, by rw [sizeLine_eq]; omega, ⟨_, rfl⟩, fun a u z => by rw [upd_ne (ne_of_none z nF)]; exact (s2.trans s3) a u z, _, upd_same, ?_⟩
          rw [least_take ho]
          unfold leastF
          rw [if_pos (by rw [c, q]; rfl)]
          exact TupA.app (.put ntF (tf.same s3)) (.put ntF (.cons ⟨b, rfl, s3 _ _ hb⟩ .nil))
    · rintro σ H2 ⟨⟨u3, rfl⟩, s2, fv, hFv, tf⟩
      rw [yl, List.take_length] at tf
      refine ⟨_, rfl, Fo, fv, rfl, .inl ⟨SqL.of hFv, fun v nv => ?_⟩⟩
      have sv : Same H2 (upd H2 v (.tup fv)) := sm_new sm_refl nv
      exact k _ _ (s2.trans sv) (.tup (SqT.of upd_same) (TupA.dps (tf.same sv)))
end
end K26


set_option Elab.async false
set_option linter.all false
set_option maxRecDepth 100000
set_option maxHeartbeats 8000000
/-! which sets are the least ones -/
namespace K26
open PySem L2 Nd Bk Gd
theorem subS_iff {a b : List Str} : subS a b = true ↔ ∀ x ∈ a, x ∈ b := by
  unfold subS
  rw [List.all_eq_true]
  exact ⟨fun h x hx => of_decide_eq_true (h x hx), fun h x hx => decide_eq_true (h x hx)⟩
theorem subS_refl (a : List Str) : subS a a = true := subS_iff.mpr fun _ h => h
theorem subS_trans {a b c : List Str} (h : subS a b = true) (g : subS b c = true) : subS a c = true := subS_iff.mpr fun x hx => subS_iff.mp g x (subS_iff.mp h x hx)
theorem least_snoc (hd : List Str → Bool) (os : List (List Str)) (o : List Str) : least hd (os ++ [o]) = leastF hd (least hd os) o := by
  unfold least
  rw [List.foldl_append]
  rfl
/-- induction from behind -/
theorem snoc_ind {α : Type} {P : List α → Prop} (h0 : P []) (h1 : ∀ l a, P l → P (l ++ [a])) (l : List α) : P l := by
  have key : ∀ m : List α, P m.reverse := by
    intro m
    induction m with
    | nil => exact h0
    | cons a m ih => rw [List.reverse_cons]; exact h1 _ _ ih
  rw [← List.reverse_reverse l]
  exact key _
variable {hd : List Str → Bool}
theorem least_keeps {os : List (List Str)} {o z : List Str} (h : z ∈ least hd os) : z ∈ least hd (os ++ [o]) := by
  rw [least_snoc]
  unfold leastF
  split
  · exact List.mem_append_left _ h
  · exact h
theorem least_under (os : List (List Str)) : ∀ y ∈ os, hd y = true → ∃ z ∈ least hd os, subS z y = true := by
  refine snoc_ind (P := fun os => ∀ y ∈ os, hd y = true → ∃ z ∈ least hd os, subS z y = true) (fun y h => nomatch h) (fun os o ih => ?_) os
  intro y hy h
  rcases List.mem_append.mp hy with hy | hy
  · obtain ⟨z, hz, s⟩ := ih y hy h
    exact ⟨z, least_keeps hz, s⟩
  · have e : y = o := List.mem_singleton.mp hy
    subst e
    rw [least_snoc]
    unfold leastF
    cases q : (least hd os).any fun x => subS x y with
    | true =>
      obtain ⟨z, hz, s⟩ := List.any_eq_true.mp q
      rw [if_neg (by simp)]
      exact ⟨z, hz, s⟩
    | false =>
      rw [if_pos (by simp [h])]
      exact ⟨y, List.mem_append_right _ List.mem_cons_self, subS_refl y⟩
theorem least_iff (os : List (List Str)) : (os.Pairwise fun a b => subS b a = false) → ∀ x, x ∈ least hd os ↔ x ∈ os ∧ hd x = true ∧ ∀ y ∈ os, hd y = true → subS y x = true → y = x := by
  refine snoc_ind (P := fun os => (os.Pairwise fun a b => subS b a = false) → ∀ x, x ∈ least hd os ↔ x ∈ os ∧ hd x = true ∧ ∀ y ∈ os, hd y = true → subS y x = true → y = x) (fun _ x => ⟨fun h => (nomatch h), fun h => (nomatch h.1)⟩) (fun os o ih => ?_) os
  intro ord x
  obtain ⟨o1, _, o3⟩ := List.pairwise_append.mp ord
  have noto : ∀ y ∈ os, subS o y = false := fun y hy => o3 y hy o List.mem_cons_self
  have I := ih o1
  constructor
  · intro h
    rw [least_snoc] at h
    have old : x ∈ least hd os → x ∈ os ++ [o] ∧ hd x = true ∧ ∀ y ∈ os ++ [o], hd y = true → subS y x = true → y = x := fun h => by
      obtain ⟨a, b, c⟩ := (I x).mp h
      refine ⟨List.mem_append_left _ a, b, fun y hy hh s => ?_⟩
      rcases List.mem_append.mp hy with hy | hy
      · exact c y hy hh s
      · rw [List.mem_singleton.mp hy, noto x a] at s
        cases s
    unfold leastF at h
    split at h
    · rename_i q
      rcases List.mem_append.mp h with h | h
      · exact old h
      · have e : x = o := List.mem_singleton.mp h
        subst e
        simp only [Bool.and_eq_true, Bool.not_eq_true', List.any_eq_false] at q
        refine ⟨List.mem_append_right _ List.mem_cons_self, q.1, fun y hy hh s => ?_⟩
        rcases List.mem_append.mp hy with hy | hy
        · obtain ⟨z, hz, sz⟩ := least_under os y hy hh
          exact absurd (subS_trans sz s) (q.2 z hz)
        · exact List.mem_singleton.mp hy
    · exact old h
  · rintro ⟨hx, hh, mi⟩
    rcases List.mem_append.mp hx with hx | hx
    · exact least_keeps ((I x).mpr ⟨hx, hh, fun y hy => mi y (List.mem_append_left _ hy)⟩)
    · have e : x = o := List.mem_singleton.mp hx
      subst e
      rw [least_snoc]
      unfold leastF
      have q : (least hd os).any (fun y => subS y x) = false := by
        rw [List.any_eq_false]
        intro z hz s
        obtain ⟨a, b, _⟩ := (I z).mp hz
        have := mi z (List.mem_append_left _ a) b s
        rw [this] at a
        have := noto x a
        rw [subS_refl] at this
        cases this
      rw [if_pos (by simp [hh, q])]
      exact List.mem_append_right _ List.mem_cons_self
theorem least_sub (os : List (List Str)) : (least hd os).Sublist os := by
  refine snoc_ind (P := fun os => (least hd os).Sublist os) (List.Sublist.refl _) (fun os o ih => ?_) os
  rw [least_snoc]
  unfold leastF
  split
  · exact List.Sublist.append ih (List.Sublist.refl _)
  · exact ih.trans (List.sublist_append_left _ _)
end K26


set_option Elab.async false
set_option linter.all false
set_option maxRecDepth 100000
set_option maxHeartbeats 8000000
/-! _law_witnesses -/
namespace K26
open PySem L2 Nd Bk Gd
theorem inr_inj {a b : List Str} (h : a.map (Sum.inr : Str → Key) = b.map Sum.inr) : a = b := by
  have : ∀ {a b : List Str}, a.map (Sum.inr : Str → Key) = b.map Sum.inr → a = b := by
    intro a
    induction a with
    | nil => intro b h; cases b with
      | nil => rfl
      | cons => simp at h
    | cons x a ih => intro b h; cases b with
      | nil => simp at h
      | cons y b =>
        simp only [List.map_cons, List.cons.injEq, Sum.inr.injEq] at h
        rw [h.1, ih h.2]
  exact this h
theorem notT_dT {kvs : List (List Key × V)} : NotT (some (.dT kvs)) := ⟨fun _ h => (by cases h), fun _ _ h => (by cases h)⟩
def spYWits (K : PySem.W.Frag) : Sp := fun vs H Q _ => ∃ (v : V) (p : Poly), vs = [v] ∧ Dp K H v (bD p) ∧ (∀ k ∈ fk p, SeqAt.shaped (Ky.enc k) = true) ∧ (fk p).length ≤ 1000 ∧ (∀ t ∈ p, t.1.length ≤ 1000) ∧ (sortU (fk p)).length ≤ 6 ∧
  ∀ (v' : V) (H' : Hp), Same H H' → Dp K H' v' (.tuple ((least (hasT p) (allS (sortU (fk p)))).map sD)) → Q v' H'
section
variable {P : Program} {w : World} {K : PySem.W.Frag} {mg : Str → Option Value} {base : Heap}
abbrev ywN : List Str := ["p", "sets", "holds", "one"]
end
end K26


set_option Elab.async false
set_option linter.all false
set_option maxRecDepth 100000
set_option maxHeartbeats 8000000
/-! _law_many, _law_by_monomials -/
namespace K26
open PySem L2 Nd Bk Gd
def spYMany (K : PySem.W.Frag) : Sp := fun vs H Q _ => ∃ (p c : Addr) (ns : List Int), vs = [.ref p] ∧ StAt H p c ns ∧
  ∀ (v : V) (fs : List Str) (P : Poly) (H' : Hp), But p H H' → StAt H' p c ns → Dp K H' v (bD P) → fs.Nodup → fs.length ≤ 20 → (∀ z ∈ fs, shU z = true) → YP fs 12 P → Q v H'
/-- a product's tokens, rising -/
def tsOf (t : Mono × Int) : List Str := sortU (t.1.map (·.1))
/-- the sets of tokens of the products, by length and then rising -/
def sized (p : Poly) : List (Int × List Str) := sortU (p.map fun t => (((tsOf t).length : Int), tsOf t))
def byM (p : Poly) : List (List Str) := least (fun _ => true) ((sized p).map (·.2))
def spYByM (K : PySem.W.Frag) : Sp := fun vs H Q _ => ∃ (v : V) (p : Poly), vs = [v] ∧ Dp K H v (bD p) ∧ (∀ t ∈ p, ∀ x ∈ t.1, shU x.1 = true) ∧ p.length ≤ 1000 ∧ (∀ t ∈ p, t.1.length ≤ 1000) ∧
  ∀ (v' : V) (H' : Hp), Same H H' → Dp K H' v' (.tuple ((byM p).map sD)) → Q v' H'
section
variable {P : Program} {w : World} {K : PySem.W.Frag} {mg : Str → Option Value} {base : Heap}
end
end K26


set_option Elab.async false
set_option linter.all false
set_option maxRecDepth 100000
set_option maxHeartbeats 8000000
/-! _law_by_monomials -/
namespace K26
open PySem L2 Nd Bk Gd
def rTupO (K : PySem.W.Frag) : List V → Hp → VK → Prop := fun xs H Q => ∃ p ys, xs = [.ref p] ∧ ((SqL K H p ys ∧ ∀ l, H l = none → Q (.ref l) (upd H l (.tup ys))) ∨ SqT K H p ys ∧ Q (.ref p) H)
/-- a length and a tuple of tokens, each in cells of their own -/
def PrA (H : Hp) (ys : List V) (ss : List (Int × List Str)) : Prop := Paired (fun (y : V) (s : Int × List Str) => ∃ U b, y = .ref U ∧ H U = some (.tup [.int s.1, .ref b]) ∧ H b = some (.tup (s.2.map V.str))) ys ss
theorem PrA.same {H H' : Hp} {ys : List V} {ss : List (Int × List Str)} (s : Same H H') (h : PrA H ys ss) : PrA H' ys ss := Paired.mapP h fun _ _ ⟨U, b, e, q, r⟩ => ⟨U, b, e, s _ _ q, s _ _ r⟩
theorem PrA.put {H : Hp} {D : Addr} {u : HO} {ys : List V} {ss : List (Int × List Str)} (n : NotT (H D)) (h : PrA H ys ss) : PrA (upd H D u) ys ss := Paired.mapP h fun _ _ ⟨U, b, e, q, r⟩ => ⟨U, b, e, by
  rw [upd_ne fun z => n.1 _ (by rw [← z]; exact q)]
  exact q, by
  rw [upd_ne fun z => n.1 _ (by rw [← z]; exact r)]
  exact r⟩
theorem PrA.get {H : Hp} : ∀ {ys : List V} {ss : List (Int × List Str)} {j : Nat} {x : V}, PrA H ys ss → ys[j]? = some x → ∃ s U b, ss[j]? = some s ∧ x = .ref U ∧ H U = some (.tup [.int s.1, .ref b]) ∧ H b = some (.tup (s.2.map V.str))
  | _, _, 0, x, .cons ⟨U, b, e, q, r⟩ _, h => by
    have h' := Option.some.inj h
    subst h'
    exact ⟨_, U, b, rfl, e, q, r⟩
  | _, _, j + 1, x, .cons _ r, h => PrA.get (j := j) r h
theorem PrA.dps {K : PySem.W.Frag} {H : Hp} : ∀ {ys : List V} {ss : List (Int × List Str)}, PrA H ys ss → DpAll K H ys (ss.map Ky.enc)
  | _, _, .nil => .nil
  | _, _, .cons ⟨U, b, e, q, r⟩ t => by
    subst e
    exact .cons (.tup (SqT.of q) (.cons (.int _) (.cons (.tup (SqT.of r) (strs_dp _)) .nil))) (PrA.dps t)
theorem PrA.sorted {H : Hp} {ws : List V} {ks : List (Int × List Str)} (h : PrA H ws ks) : ∀ {ys : List V} {ss : List (Int × List Str)}, Paired (AtB ws ks) ys ss → PrA H ys ss
  | _, _, .nil => .nil
  | _, _, .cons ⟨i, a, b⟩ t => .cons (by
    obtain ⟨s, U, c, e1, e2, e3, e4⟩ := PrA.get h a
    rw [b] at e1
    cases e1
    exact ⟨U, c, e2, e3, e4⟩) (PrA.sorted h t)
theorem shaped_ls {n : Int} {ts : List Str} (h : ∀ z ∈ ts, shU z = true) : SeqAt.shaped (Ky.enc (n, ts)) = true := by
  have lay : PyData.canLayAll0 (ts.map PyData.str) = true := by
    have := (lay_all (κ := Str) (ks := ts) fun z hz => shU_K (h z hz)).1
    exact this
  have dep := dep_sD ts
  have d2 : PyData.depth (.tuple [.int n, sD ts]) ≤ 64 := by
    have := Ky.dep (n, ts)
    exact Nat.le_trans this (by decide)
  have c2 : PyData.canLay0 (.tuple [.int n, sD ts]) = true := by
    have c3 : PyData.canLay0 (sD ts) = true := by rw [sD, PyData.canLay0]; exact lay
    simp [PyData.canLay0, PyData.canLayAll0, c3]
  show SeqAt.shaped (.tuple [.int n, sD ts]) = true
  unfold SeqAt.shaped
  rw [c2, decide_eq_true d2]
  rfl
theorem tu_ls (s : Int × List Str) : tupOnly (Ky.enc s) = true := by
  have := tu_sD s.2
  show tupOnly (.tuple [.int s.1, sD s.2]) = true
  simp [tupOnly, tupOnlyAll, this]
section
variable {P : Program} {w : World} {K : PySem.W.Frag} {mg : Str → Option Value} {base : Heap}
abbrev ybN : List Str := ["p", "sets", "sized", "holds", "size", "one", "term", "pair"]
end
end K26


set_option Elab.async false
set_option linter.all false
set_option maxRecDepth 100000
set_option maxHeartbeats 8000000
/-! the order of the sets -/
namespace K26
open PySem L2 Nd Bk Gd
theorem lt_len {n m : Int} {a b : List Str} (h : lt (n, a) (m, b) = true) : n ≤ m := by
  by_cases e : n = m
  · omega
  · have h' : PySem.W.dataLt (lsD (n, a)) (lsD (m, b)) = true := h
    have e1 : PySem.W.dataLt (lsD (n, a)) (lsD (m, b)) = PySem.W.dataLt (.int n) (.int m) := by
      unfold PySem.W.dataLt
      simp only [lsD, PySem.W.keyToks, PySem.W.keyToksAll, List.cons_append, List.nil_append]
      rw [PyProof.Rows.lex_self (O := PyProof.Rows.itemOrd)]
      exact PySem.W.lex_atom (fun z => e (Sum.inl.inj z)) _ _
    rw [e1, PySem.W.dataLt_int, decide_eq_true_eq] at h'
    omega
theorem asc_nd {κ : Type} [DecidableEq κ] [Ky κ] {l : List κ} (h : AscK l) : l.Nodup := h.imp fun q => lt_ne q
theorem asc_sub {a b : List Str} (ha : AscK a) (hb : AscK b) (s : ∀ x ∈ b, x ∈ a) (l : a.length ≤ b.length) : a = b := by
  refine ascK_ext ha hb fun z => ⟨fun hz => Classical.byContradiction fun nz => ?_, s z⟩
  have h := nd_le (m := a.erase z) (asc_nd hb) fun y hy => (List.mem_erase_of_ne (fun e : y = z => nz (e ▸ hy))).mpr (s y hy)
  rw [List.length_erase_of_mem hz] at h
  have := List.length_pos_of_mem hz
  omega
/-- a set behind another one lies not within it -/
theorem not_within {a b : List Str} (ha : AscK a) (hb : AscK b) (h : lt ((a.length : Int), a) ((b.length : Int), b) = true) : subS b a = false := by
  cases q : subS b a with
  | false => rfl
  | true =>
    have l := lt_len h
    have e := asc_sub ha hb (subS_iff.mp q) (by omega)
    rw [e, lt_irrefl] at h
    cases h
end K26


set_option Elab.async false
set_option linter.all false
set_option maxRecDepth 100000
set_option maxHeartbeats 8000000
/-! the least of the products' sets; which sets there are -/
namespace K26
open PySem L2 Nd Bk Gd
theorem sized_mem {p : Poly} {s : Int × List Str} : s ∈ sized p ↔ ∃ t ∈ p, (((tsOf t).length : Int), tsOf t) = s := by
  unfold sized
  rw [sortU_mem, List.mem_map]
theorem sized_ord (p : Poly) : ((sized p).map (·.2)).Pairwise fun a b => subS b a = false := by
  rw [List.pairwise_map]
  refine List.Pairwise.imp_of_mem (fun {a b} ha hb h => ?_) (sortU_asc (p.map fun t => (((tsOf t).length : Int), tsOf t)))
  obtain ⟨t, _, rfl⟩ := sized_mem.mp ha
  obtain ⟨t', _, rfl⟩ := sized_mem.mp hb
  exact not_within (sortU_asc _) (sortU_asc _) h
theorem sets_mem {p : Poly} {x : List Str} : x ∈ (sized p).map (·.2) ↔ ∃ t ∈ p, tsOf t = x := by
  rw [List.mem_map]
  constructor
  · rintro ⟨s, hs, rfl⟩
    obtain ⟨t, ht, rfl⟩ := sized_mem.mp hs
    exact ⟨t, ht, rfl⟩
  · rintro ⟨t, ht, rfl⟩
    exact ⟨_, sized_mem.mpr ⟨t, ht, rfl⟩, rfl⟩
theorem byM_iff {p : Poly} {x : List Str} : x ∈ byM p ↔ (∃ t ∈ p, tsOf t = x) ∧ ∀ t' ∈ p, subS (tsOf t') x = true → tsOf t' = x := by
  unfold byM
  rw [least_iff _ (sized_ord p) x, sets_mem]
  constructor
  · rintro ⟨a, _, c⟩
    exact ⟨a, fun t' ht' s => c _ (sets_mem.mpr ⟨t', ht', rfl⟩) rfl s⟩
  · rintro ⟨a, c⟩
    refine ⟨a, rfl, fun y hy _ s => ?_⟩
    obtain ⟨t', ht', rfl⟩ := sets_mem.mp hy
    exact c t' ht' s
/-- the products' sets tell what is there -/
theorem hasT_iff {p : Poly} {o : List Str} : hasT p o = true ↔ ∃ t ∈ p, subS (tsOf t) o = true := by
  unfold hasT
  rw [List.any_eq_true]
  refine ⟨fun ⟨t, ht, h⟩ => ⟨t, ht, subS_iff.mpr fun x hx => ?_⟩, fun ⟨t, ht, h⟩ => ⟨t, ht, List.all_eq_true.mpr fun x hx => decide_eq_true (subS_iff.mp h x.1 (sortU_mem.mpr (List.mem_map.mpr ⟨x, hx, rfl⟩)))⟩⟩
  obtain ⟨y, hy, rfl⟩ := List.mem_map.mp (sortU_mem.mp hx)
  exact of_decide_eq_true (List.all_eq_true.mp h y hy)
/-- of a list of all sets of tokens, in order, the least that hold are the least products' sets -/
theorem leastAll_iff {p : Poly} {os : List (List Str)} (ord : os.Pairwise fun a b => subS b a = false) (asc : ∀ o ∈ os, AscK o) (all : ∀ t ∈ p, tsOf t ∈ os) {x : List Str} : x ∈ least (hasT p) os ↔ x ∈ byM p := by
  rw [least_iff _ ord x, byM_iff]
  constructor
  · rintro ⟨a, b, c⟩
    obtain ⟨t, ht, s⟩ := hasT_iff.mp b
    have e := c (tsOf t) (all t ht) (hasT_iff.mpr ⟨t, ht, subS_refl _⟩) s
    refine ⟨⟨t, ht, e⟩, fun t' ht' s' => c (tsOf t') (all t' ht') (hasT_iff.mpr ⟨t', ht', subS_refl _⟩) s'⟩
  · rintro ⟨⟨t, ht, rfl⟩, c⟩
    refine ⟨all t ht, hasT_iff.mpr ⟨t, ht, subS_refl _⟩, fun y hy h s => ?_⟩
    obtain ⟨t', ht', s'⟩ := hasT_iff.mp h
    have e := c t' ht' (subS_trans s' s)
    rw [e] at s'
    refine asc_sub (asc y hy) (sortU_asc _) (subS_iff.mp s') ?_
    exact nd_le (asc_nd (asc y hy)) (subS_iff.mp s)
end K26


set_option Elab.async false
set_option linter.all false
set_option maxRecDepth 100000
set_option maxHeartbeats 8000000
/-! all sets: which they are -/
namespace K26
open PySem L2 Nd Bk Gd
theorem str_lt (a b : Str) : lt a b = decide (a.cps.toList < b.cps.toList) := PySem.W.dataLt_str a b
theorem okE_snoc {q : List Str} {l t : Str} : okE (q ++ [l]) t = lt l t := by
  unfold okE
  rw [show (q ++ [l]).getLast? = some l by simp]
  exact (str_lt l t).symm
theorem okE_iff {q : List Str} {t : Str} (h : AscK q) : okE q t = true ↔ ∀ a ∈ q, lt a t = true := by
  refine snoc_ind (P := fun q => AscK q → (okE q t = true ↔ ∀ a ∈ q, lt a t = true)) (fun _ => ⟨fun _ a ha => (nomatch ha), fun _ => rfl⟩) (fun q l _ => ?_) q h
  intro h
  obtain ⟨_, _, h3⟩ := List.pairwise_append.mp h
  rw [okE_snoc]
  constructor
  · intro e a ha
    rcases List.mem_append.mp ha with ha | ha
    · exact lt_trans (h3 a ha l List.mem_cons_self) e
    · rw [List.mem_singleton.mp ha]; exact e
  · intro g
    exact g l (List.mem_append_right _ List.mem_cons_self)
theorem asc_snoc {q : List Str} {t : Str} : AscK (q ++ [t]) ↔ AscK q ∧ ∀ a ∈ q, lt a t = true := by
  unfold AscK
  rw [List.pairwise_append]
  constructor
  · rintro ⟨a, _, c⟩
    exact ⟨a, fun x hx => c x hx t List.mem_cons_self⟩
  · rintro ⟨a, c⟩
    exact ⟨a, List.pairwise_singleton _ _, fun x hx y hy => by rw [List.mem_singleton.mp hy]; exact c x hx⟩
theorem lev_in {zs : List Str} : ∀ i, ∀ o ∈ lev zs i, AscK o ∧ ∀ x ∈ o, x ∈ zs
  | 0, o, h => by
    rw [show o = [] from List.mem_singleton.mp h]
    exact ⟨List.Pairwise.nil, fun x hx => nomatch hx⟩
  | i + 1, o, h => by
    obtain ⟨q, hq, ho⟩ := List.mem_flatMap.mp h
    unfold ext at ho
    obtain ⟨t, ht, rfl⟩ := List.mem_map.mp ho
    obtain ⟨h1, h2⟩ := lev_in i q hq
    obtain ⟨t1, t2⟩ := List.mem_filter.mp ht
    refine ⟨asc_snoc.mpr ⟨h1, (okE_iff h1).mp t2⟩, fun x hx => ?_⟩
    rcases List.mem_append.mp hx with hx | hx
    · exact h2 x hx
    · rw [List.mem_singleton.mp hx]; exact t1
theorem lev_all {zs : List Str} (o : List Str) : AscK o → (∀ x ∈ o, x ∈ zs) → o ∈ lev zs o.length := by
  refine snoc_ind (P := fun o => AscK o → (∀ x ∈ o, x ∈ zs) → o ∈ lev zs o.length) (fun _ _ => List.mem_singleton.mpr rfl) (fun q t ih => ?_) o
  intro h s
  obtain ⟨h1, h2⟩ := asc_snoc.mp h
  rw [List.length_append]
  refine List.mem_flatMap.mpr ⟨q, ih h1 fun x hx => s x (List.mem_append_left _ hx), ?_⟩
  unfold ext
  exact List.mem_map.mpr ⟨t, List.mem_filter.mpr ⟨s t (List.mem_append_right _ List.mem_cons_self), (okE_iff h1).mpr h2⟩, rfl⟩
theorem allS_iff {zs o : List Str} : o ∈ allS zs ↔ AscK o ∧ ∀ x ∈ o, x ∈ zs := by
  unfold allS
  rw [List.mem_flatMap]
  constructor
  · rintro ⟨i, _, h⟩
    exact lev_in i o h
  · rintro ⟨a, b⟩
    have := nd_le (asc_nd a) b
    exact ⟨o.length, List.mem_range.mpr (by omega), lev_all o a b⟩
end K26


set_option Elab.async false
set_option linter.all false
set_option maxRecDepth 100000
set_option maxHeartbeats 8000000
/-! all sets: their order -/
namespace K26
open PySem L2 Nd Bk Gd
theorem lt_consS {x y : Str} {q q' : List Str} : lt (x :: q) (y :: q') = if x = y then lt q q' else lt x y := by
  show PySem.W.dataLt (sD (x :: q)) (sD (y :: q')) = _
  have e : ∀ (z : Str) (r : List Str), PySem.W.keyToks (sD (z :: r)) = .inl 1 :: .inr z.cps.toList :: PySem.W.keyToks (sD r) := fun z r => by
    simp [sD, PySem.W.keyToks, PySem.W.keyToksAll]
  unfold PySem.W.dataLt
  rw [e, e, PyProof.Rows.lex_self (O := PyProof.Rows.itemOrd)]
  by_cases h : x = y
  · subst h
    rw [if_pos rfl, PyProof.Rows.lex_self (O := PyProof.Rows.itemOrd)]
    rfl
  · rw [if_neg h]
    exact PySem.W.lex_atom (fun z => h (PySem.W.str_of_cps (Sum.inr.inj z))) _ _
theorem lt_front : ∀ {q q' r r' : List Str}, q.length = q'.length → lt q q' = true → lt (q ++ r) (q' ++ r') = true
  | [], [], _, _, _, h => by rw [lt_irrefl] at h; cases h
  | [], _ :: _, _, _, l, _ => by simp at l
  | _ :: _, [], _, _, l, _ => by simp at l
  | x :: q, y :: q', r, r', l, h => by
    rw [lt_consS] at h
    rw [List.cons_append, List.cons_append, lt_consS]
    by_cases e : x = y
    · rw [if_pos e] at h ⊢
      exact lt_front (by simpa using l) h
    · rw [if_neg e] at h ⊢
      exact h
theorem lt_behind : ∀ {q r r' : List Str}, lt (q ++ r) (q ++ r') = lt r r'
  | [], _, _ => rfl
  | x :: q, r, r' => by rw [List.cons_append, List.cons_append, lt_consS, if_pos rfl]; exact lt_behind
theorem lt_ones {t u : Str} (h : t ≠ u) : lt [t] [u] = lt t u := by rw [lt_consS, if_neg h]
theorem lev_asc {zs : List Str} (hz : AscK zs) : ∀ i, (lev zs i).Pairwise fun a b => lt a b = true
  | 0 => List.pairwise_singleton _ _
  | i + 1 => by
    show ((lev zs i).flatMap (ext zs)).Pairwise _
    rw [List.pairwise_flatMap]
    refine ⟨fun q _ => ?_, List.Pairwise.imp_of_mem (fun {a b} ha hb h x hx y hy => ?_) (lev_asc hz i)⟩
    · unfold ext
      rw [List.pairwise_map]
      refine List.Pairwise.imp (fun {t u} h => ?_) (List.Pairwise.filter (okE q) hz)
      rw [lt_behind, lt_ones (lt_ne h)]
      exact h
    · unfold ext at hx hy
      obtain ⟨t, _, rfl⟩ := List.mem_map.mp hx
      obtain ⟨u, _, rfl⟩ := List.mem_map.mp hy
      exact lt_front (by rw [lev_one i a ha, lev_one i b hb]) h
theorem lt_longer {n m : Int} {a b : List Str} (h : n < m) : lt (n, a) (m, b) = true := by
  cases q : lt (n, a) (m, b) with
  | true => rfl
  | false =>
    cases r : lt (m, b) (n, a) with
    | true => have := lt_len r; omega
    | false =>
      have := congrArg Prod.fst (lt_total q r)
      simp only at this
      omega
theorem lt_same {n : Int} {a b : List Str} (h : lt a b = true) : lt (n, a) (n, b) = true := by
  have ne : a ≠ b := lt_ne h
  show PySem.W.dataLt (lsD (n, a)) (lsD (n, b)) = true
  have e : ∀ r : List Str, PySem.W.keyToks (lsD (n, r)) = .inl 1 :: .inl n :: .inl 1 :: (PySem.W.keyToksAll (r.map PyData.str) ++ [.inl 0]) := fun r => by
    simp [lsD, sD, PySem.W.keyToks, PySem.W.keyToksAll]
  unfold PySem.W.dataLt
  rw [e, e, PyProof.Rows.lex_self (O := PyProof.Rows.itemOrd), PyProof.Rows.lex_self (O := PyProof.Rows.itemOrd), PyProof.Rows.lex_self (O := PyProof.Rows.itemOrd)]
  have x := (PySem.W.toksAll_eqv (a.map PyData.str) (b.map PyData.str) (al_ss a b)).2 (by rw [eqv_ss]; exact decide_eq_false ne) [.inl 0] [.inl 0]
  rw [x]
  exact h
/-- by length, and then rising -/
theorem allS_lt {zs : List Str} (hz : AscK zs) : (allS zs).Pairwise fun a b => lt ((a.length : Int), a) ((b.length : Int), b) = true := by
  unfold allS
  rw [List.pairwise_flatMap]
  refine ⟨fun i _ => List.Pairwise.imp_of_mem (fun {a b} ha hb h => ?_) (lev_asc hz i), List.Pairwise.imp (fun {i j} h x hx y hy => ?_) List.pairwise_lt_range⟩
  · rw [lev_one i a ha, lev_one i b hb]
    exact lt_same h
  · rw [lev_one i x hx, lev_one j y hy]
    exact lt_longer (by omega)
end K26


set_option Elab.async false
set_option linter.all false
set_option maxRecDepth 100000
set_option maxHeartbeats 8000000
/-! the least of all sets of tokens are the least of the products' sets -/
namespace K26
open PySem L2 Nd Bk Gd
theorem sorted_ext {α : Type} {R : α → α → Prop} (irr : ∀ a, ¬ R a a) (asy : ∀ a b, R a b → ¬ R b a) : ∀ {l m : List α}, l.Pairwise R → m.Pairwise R → (∀ x, x ∈ l ↔ x ∈ m) → l = m
  | [], [], _, _, _ => rfl
  | [], y :: m, _, _, h => nomatch (h y).mpr List.mem_cons_self
  | x :: l, [], _, _, h => nomatch (h x).mp List.mem_cons_self
  | x :: l, y :: m, hl, hm, h => by
    obtain ⟨l1, l2⟩ := List.pairwise_cons.mp hl
    obtain ⟨m1, m2⟩ := List.pairwise_cons.mp hm
    have e : x = y := by
      rcases List.mem_cons.mp ((h x).mp List.mem_cons_self) with e | a
      · exact e
      · rcases List.mem_cons.mp ((h y).mpr List.mem_cons_self) with e | b
        · exact e.symm
        · exact absurd (m1 x a) (asy _ _ (l1 y b))
    subst e
    rw [sorted_ext irr asy l2 m2 fun z => ⟨fun hz => ?_, fun hz => ?_⟩]
    · rcases List.mem_cons.mp ((h z).mp (List.mem_cons_of_mem _ hz)) with e | a
      · exact absurd (e ▸ l1 z hz) (irr _)
      · exact a
    · rcases List.mem_cons.mp ((h z).mpr (List.mem_cons_of_mem _ hz)) with e | a
      · exact absurd (e ▸ m1 z hz) (irr _)
      · exact a
/-- by length, then rising -/
def Ord (a b : List Str) : Prop := lt ((a.length : Int), a) ((b.length : Int), b) = true
theorem byM_ord (p : Poly) : (byM p).Pairwise Ord := by
  have sub : (byM p).Sublist ((sized p).map (·.2)) := least_sub (hd := fun _ => true) _
  refine List.Pairwise.sublist sub ?_
  rw [List.pairwise_map]
  refine List.Pairwise.imp_of_mem (fun {a b} ha hb h => ?_) (sortU_asc (p.map fun t => (((tsOf t).length : Int), tsOf t)))
  obtain ⟨t, _, rfl⟩ := sized_mem.mp ha
  obtain ⟨t', _, rfl⟩ := sized_mem.mp hb
  exact h
theorem least_all {p : Poly} {zs : List Str} (hz : AscK zs) (sub : ∀ t ∈ p, ∀ x ∈ t.1, x.1 ∈ zs) : least (hasT p) (allS zs) = byM p := by
  have asc : ∀ o ∈ allS zs, AscK o := fun o ho => (allS_iff.mp ho).1
  have ord := allS_lt hz
  refine sorted_ext (R := Ord) (fun a h => by unfold Ord at h; rw [lt_irrefl] at h; cases h) (fun a b h g => by unfold Ord at h g; rw [lt_asymm h] at g; cases g) (List.Pairwise.sublist (least_sub _) ord) (byM_ord p) fun x => ?_
  refine leastAll_iff (List.Pairwise.imp_of_mem (fun {a b} ha hb h => not_within (asc a ha) (asc b hb) h) ord) asc fun t ht => allS_iff.mpr ⟨sortU_asc _, fun y hy => ?_⟩
  obtain ⟨x, hx, rfl⟩ := List.mem_map.mp (sortU_mem.mp hy)
  exact sub t ht x hx
end K26


set_option Elab.async false
set_option linter.all false
set_option maxRecDepth 100000
set_option maxHeartbeats 8000000
/-! set_order, _mask -/
namespace K26
open PySem L2 Nd Bk Gd
def spOrd (K : PySem.W.Frag) : Sp := fun vs H Q _ => ∃ (b : Addr) (ts : List Str), vs = [.ref b] ∧ SqT K H b (ts.map V.str) ∧ ∀ v H', Same H H' → Dp K H' v (lsD ((ts.length : Int), ts)) → Q v H'
def bitsSum (bit : Str → Nat) (ts : List Str) : Nat := (ts.map bit).sum
theorem sum_nat {bit : Str → Nat} : ∀ ts : List Str, (ts.map fun t => ((bit t : Nat) : Int)).sum = ((bitsSum bit ts : Nat) : Int)
  | [] => rfl
  | t :: ts => by
    rw [List.map_cons, List.sum_cons, sum_nat ts]
    unfold bitsSum
    rw [List.map_cons, List.sum_cons]
    omega
def spMask (K : PySem.W.Frag) : Sp := fun vs H Q _ => ∃ (b D : Addr) (ts : List Str) (kvs : List (Key × V)) (bit : Str → Nat), vs = [.ref b, .ref D] ∧ SqT K H b (ts.map V.str) ∧ H D = some (.dK kvs) ∧ (∀ t ∈ ts, valV kvs (.inr t) = some (.int (bit t : Nat))) ∧ ts.length ≤ 1000 ∧ ∀ H', Same H H' → Q (.int (bitsSum bit ts : Nat)) H'
section
variable {P : Program} {w : World} {K : PySem.W.Frag} {mg : Str → Option Value} {base : Heap}
theorem scOrd : FnScope ["tokens"] ["tokens"] (defScope sSetO) := ⟨rfl, rfl, rfl, by decide +kernel, rfl, by decide +kernel, by decide +kernel⟩
theorem ok_ord {f : Addr} {fd : FuncData} (F : Fun K "set_order" "set_order" sSetO f fd) (N : Nm mg) : FnOk P w K mg base CX0 1 f fd ["tokens"] (spOrd K) := by
  refine F.ok scOrd (fun vs H Q E h => ?_) (fun cdv A outer s H vs Q E hr h => ?_)
  · obtain ⟨b, ts, rfl, _⟩ := h
    rfl
  · obtain ⟨b, ts, rfl, hb, k⟩ := h
    refine ⟨_, pss_one (ps_ret (pe_tup (pa_cons (pe_callB (show CallR _ _ (rLenS K) from call_len_seq) (by rfl) N.len PySem.boot_len (pa_cons (pv 0) pa_nil)) (pa_cons (pv 0) pa_nil)))), ?_⟩
    refine ⟨_, rfl, b, _, rfl, .inr hb, _, rfl, (by show 2 ≤ sizeLine; decide), fun U nU => ?_⟩
    have sU : Same H (upd H U (.tup [.int ((ts.map V.str).length : Nat), .ref b])) := sm_new sm_refl nU
    refine k _ _ sU (.tup (SqT.of upd_same) ?_)
    rw [List.length_map]
    exact .cons (.int _) (.cons (.tup (sqT_same (by rw [List.length_map] at sU; exact sU) hb) (strs_dp _)) .nil)
theorem scMask : FnScope ["tokens", "bits", "token"] ["tokens", "bits"] (defScope sMask) := ⟨rfl, rfl, rfl, by decide +kernel, rfl, by decide +kernel, by decide +kernel⟩
theorem ok_mask {f : Addr} {fd : FuncData} (F : Fun K "_mask" "_mask" sMask f fd) (sm : mg "sum" = none) : FnOk P w K mg base CX0 1 f fd ["tokens", "bits"] (spMask K) := by
  refine F.ok scMask (fun vs H Q E h => ?_) (fun cdv A outer s H vs Q E hr h => ?_)
  · obtain ⟨b, D, ts, kvs, bit, rfl, _⟩ := h
    rfl
  · obtain ⟨b, D, ts, kvs, bit, rfl, hb, hD, hv, tl, k⟩ := h
    refine ⟨_, pss_one (ps_ret (pe_callB (show CallR _ _ (rSum K) from cr_sum rfl) (by rfl) sm (by rfl) (pa_cons
      (pe_lc (own := [("token", 2)]) (g := gName 2) (tt := tYes) rfl scMask.nd (pi_tup (pv 0)) (blkOk_by (N := ["tokens", "bits", "token"]) (sc := defScope sMask) (by decide +kernel))
        (fun _ _ _ _ _ => pg_name (i := 2) scMask.nd rfl (Or.inl rfl)) (fun _ _ _ _ _ => pts_nil) (fun _ _ _ _ _ => pe_dget (u1 hr) (pv 1) (pv 2) (fun _ _ => rfl))) pa_nil))), ?_⟩
    refine ⟨_, rfl, b, rfl, ⟨_, hb⟩, fun L nL => ?_⟩
    refine lc_tup (K := K) (a := b) (xs := ts.map V.str) (fun i H2 => Same H H2 ∧ H2 L = some (.lst (((ts.take i).map fun t => ((bit t : Nat) : Int)).map V.int))) ⟨sm_new sm_refl nL, upd_same⟩ (fun i H2 _ ⟨s2, _⟩ => sqT_same s2 hb) ?_ ?_
    · rintro i x H2 hi ⟨s2, hL⟩
      rw [List.getElem?_map] at hi
      obtain ⟨z, hz, rfl⟩ := Option.map_eq_some_iff.mp hi
      have il := (List.getElem?_eq_some_iff.mp hz).1
      have g := DGet.k (k := .inr z) (s2 _ _ hD)
      rw [hv z (List.mem_of_getElem? hz)] at g
      refine ⟨rfl, _, rfl, _, rfl, D, _, rfl, g, _, hL, small1000 (by rw [List.length_map, List.length_map, List.length_take]; omega), sm_new s2 nL, ?_⟩
      rw [upd_same, List.take_succ, hz, List.map_append, List.map_append]
      rfl
    · rintro H2 ⟨s2, hL⟩
      rw [List.length_map, List.take_length] at hL
      refine ⟨L, _, rfl, SqL.of hL, ?_⟩
      rw [sum_nat]
      exact k H2 s2
end
end K26


set_option Elab.async false
set_option linter.all false
namespace Ch
/-! the mathematics of chances: all sets, and the walk over bits -/
theorem tb_add : ∀ {b n : Nat}, n.testBit b = false → ∀ i, (2 ^ b + n).testBit i = (decide (i = b) || n.testBit i)
  | 0, n, h, i => by
    have h0 : n % 2 = 0 := by
      rw [Nat.testBit_zero] at h
      have := of_decide_eq_false h
      omega
    cases i with
    | zero =>
      rw [Nat.testBit_zero, decide_eq_true (show (0 : Nat) = 0 from rfl), Bool.true_or]
      exact decide_eq_true (by show (1 + n) % 2 = 1; omega)
    | succ i =>
      rw [Nat.testBit_succ, Nat.testBit_succ, show (2 ^ 0 + n) / 2 = n / 2 by show (1 + n) / 2 = n / 2; omega, decide_eq_false (Nat.succ_ne_zero i), Bool.false_or]
  | b + 1, n, h, i => by
    rw [Nat.testBit_succ] at h
    have e2 : 2 ^ (b + 1) = 2 * 2 ^ b := by rw [Nat.pow_succ]; omega
    cases i with
    | zero =>
      rw [decide_eq_false (show ¬ (0 = b + 1) by omega), Bool.false_or, Nat.testBit_zero, Nat.testBit_zero]
      congr 1
      apply propext
      constructor <;> intro <;> omega
    | succ i =>
      rw [Nat.testBit_succ, Nat.testBit_succ, show (2 ^ (b + 1) + n) / 2 = 2 ^ b + n / 2 by omega, tb_add h i]
      congr 1
      exact decide_eq_decide.mpr (by omega)
/-- a number with this bit, less it -/
theorem tb_sub {b h : Nat} (hb : h.testBit b = true) : 2 ^ b ≤ h ∧ (h - 2 ^ b).testBit b = false ∧ ∀ i, i ≠ b → (h - 2 ^ b).testBit i = h.testBit i := by
  have le := Nat.ge_two_pow_of_testBit hb
  have e : 2 ^ b + (h - 2 ^ b) = h := by omega
  have f : (h - 2 ^ b).testBit b = false := by
    have := Nat.testBit_two_pow_add_eq (h - 2 ^ b) b
    rw [e, hb] at this
    cases q : (h - 2 ^ b).testBit b with
    | false => rfl
    | true => rw [q] at this; cases this
  refine ⟨le, f, fun i hi => ?_⟩
  have := tb_add f i
  rw [e, decide_eq_false hi, Bool.false_or] at this
  exact this.symm
def Sub (x h : Nat) : Prop := ∀ i, x.testBit i = true → h.testBit i = true
/-- told behind j bits: some mask lies within, and differs below j alone -/
def Tj (ms : List Nat) (j h : Nat) : Prop := ∃ x ∈ ms, Sub x h ∧ ∀ i, j ≤ i → x.testBit i = h.testBit i
theorem tj_zero {ms : List Nat} {h : Nat} : Tj ms 0 h ↔ h ∈ ms := by
  constructor
  · rintro ⟨x, hx, _, e⟩
    have : x = h := Nat.eq_of_testBit_eq fun i => e i (Nat.zero_le _)
    exact this ▸ hx
  · exact fun hh => ⟨h, hh, fun _ q => q, fun _ _ => rfl⟩
theorem tj_succ {ms : List Nat} {j h : Nat} : Tj ms (j + 1) h ↔ Tj ms j h ∨ (h.testBit j = true ∧ Tj ms (j + 1) (h - 2 ^ j)) := by
  constructor
  · rintro ⟨x, hx, s, e⟩
    by_cases q : x.testBit j = h.testBit j
    · refine .inl ⟨x, hx, s, fun i hi => ?_⟩
      rcases Nat.lt_or_ge j i with l | l
      · exact e i l
      · rw [show i = j by omega]; exact q
    · have hj : h.testBit j = true := by
        cases z : h.testBit j with
        | true => rfl
        | false =>
          cases y : x.testBit j with
          | false => exact absurd (y.trans z.symm) q
          | true => exact absurd (s j y) (by rw [z]; exact Bool.false_ne_true)
      have xj : x.testBit j = false := by
        cases y : x.testBit j with
        | false => rfl
        | true => exact absurd (y.trans hj.symm) q
      obtain ⟨_, f, g⟩ := tb_sub hj
      refine .inr ⟨hj, x, hx, fun i hi => ?_, fun i hi => ?_⟩
      · rw [g i (fun z => by rw [z, xj] at hi; cases hi)]; exact s i hi
      · rw [g i (by omega)]; exact e i hi
  · rintro (⟨x, hx, s, e⟩ | ⟨hj, x, hx, s, e⟩)
    · exact ⟨x, hx, s, fun i hi => e i (by omega)⟩
    · obtain ⟨_, f, g⟩ := tb_sub hj
      refine ⟨x, hx, fun i hi => ?_, fun i hi => ?_⟩
      · have := s i hi
        by_cases z : i = j
        · rw [z]; exact hj
        · rw [g i z] at this; exact this
      · rw [e i hi, g i (by omega)]
theorem tj_off {ms : List Nat} {j h : Nat} (hj : h.testBit j = false) : Tj ms (j + 1) h ↔ Tj ms j h := by
  rw [tj_succ, hj]
  exact ⟨fun q => q.elim id (fun z => (nomatch z.1)), .inl⟩
theorem tj_end {ms : List Nat} {n h : Nat} (hm : ∀ x ∈ ms, x < 2 ^ n) (hh : h < 2 ^ n) : Tj ms n h ↔ ∃ x ∈ ms, Sub x h := by
  constructor
  · rintro ⟨x, hx, s, _⟩; exact ⟨x, hx, s⟩
  · rintro ⟨x, hx, s⟩
    refine ⟨x, hx, s, fun i hi => ?_⟩
    have p := Nat.pow_le_pow_right (show 0 < 2 by decide) hi
    rw [Nat.testBit_lt_two_pow (Nat.lt_of_lt_of_le (hm x hx) p), Nat.testBit_lt_two_pow (Nat.lt_of_lt_of_le hh p)]
/-- the mask of some places -/
def msk (l : List Nat) : Nat := (l.map fun i => 2 ^ i).sum
theorem msk_bit : ∀ {l : List Nat}, l.Nodup → ∀ i, (msk l).testBit i = decide (i ∈ l)
  | [], _, i => by simp [msk]
  | a :: r, hn, i => by
    obtain ⟨h1, h2⟩ := List.nodup_cons.mp hn
    have ih := msk_bit h2
    have f : (msk r).testBit a = false := by rw [ih a]; exact decide_eq_false h1
    show (2 ^ a + msk r).testBit i = _
    rw [tb_add f i, ih i]
    rw [← Bool.decide_or]
    exact decide_eq_decide.mpr (by rw [List.mem_cons])
theorem msk_lt {l : List Nat} (hn : l.Nodup) {n : Nat} (h : ∀ i ∈ l, i < n) : msk l < 2 ^ n := by
  apply Nat.lt_pow_two_of_testBit
  intro i hi
  rw [msk_bit hn]
  exact decide_eq_false fun q => by have := h i q; omega
theorem msk_sub {l m : List Nat} (hl : l.Nodup) (hm : m.Nodup) : Sub (msk l) (msk m) ↔ ∀ i ∈ l, i ∈ m := by
  constructor
  · intro s i hi
    have := s i (by rw [msk_bit hl]; exact decide_eq_true hi)
    rw [msk_bit hm] at this
    exact of_decide_eq_true this
  · intro s i hi
    rw [msk_bit hl] at hi
    rw [msk_bit hm]
    exact decide_eq_true (s i (of_decide_eq_true hi))
theorem msk_snoc (l : List Nat) (i : Nat) : msk (l ++ [i]) = msk l + 2 ^ i := by simp [msk]
/-! all sets, each with the product of its chances -/
abbrev Tok (κ : Type) := κ × Int × Int
def grow {κ : Type} (W : List (List κ × Int)) (c : Tok κ) : List (List κ × Int) := W.map (fun q => (q.1 ++ [c.1], q.2 * c.2.1)) ++ W.map (fun q => (q.1, q.2 * (c.2.2 - c.2.1)))
def allS {κ : Type} (cs : List (Tok κ)) : List (List κ × Int) := cs.foldl grow [([], 1)]
theorem allS_snoc {κ : Type} (cs : List (Tok κ)) (c : Tok κ) : allS (cs ++ [c]) = grow (allS cs) c := by simp [allS]
theorem grow_len {κ : Type} (W : List (List κ × Int)) (c : Tok κ) : (grow W c).length = 2 * W.length := by simp [grow]; omega
theorem fold_len {κ : Type} : ∀ (cs : List (Tok κ)) (W : List (List κ × Int)), (cs.foldl grow W).length = 2 ^ cs.length * W.length
  | [], W => by simp
  | c :: r, W => by
    rw [List.foldl_cons, fold_len r, grow_len, List.length_cons, Nat.pow_succ, Nat.mul_assoc]
theorem allS_len {κ : Type} (cs : List (Tok κ)) : (allS cs).length = 2 ^ cs.length := by
  rw [show allS cs = cs.foldl grow [([], 1)] from rfl, fold_len]
  exact Nat.mul_one _
def total {κ : Type} (W : List (List κ × Int)) (f : List κ → Int) : Int := (W.map fun q => q.2 * f q.1).sum
theorem total_cons {κ : Type} (q : List κ × Int) (W : List (List κ × Int)) (f : List κ → Int) : total (q :: W) f = q.2 * f q.1 + total W f := by simp [total]
theorem total_append {κ : Type} (V W : List (List κ × Int)) (f : List κ → Int) : total (V ++ W) f = total V f + total W f := by simp [total]
def halve {κ : Type} (c : Tok κ) (i : Nat) (f : Nat → Int) : Nat → Int := fun k => f k * (c.2.2 - c.2.1) + f (k + 2 ^ i) * c.2.1
theorem total_grow {κ : Type} {c : Tok κ} {i : Nat} {f : Nat → Int} {mk : List κ → Nat} : ∀ {W : List (List κ × Int)}, (∀ q ∈ W, mk (q.1 ++ [c.1]) = mk q.1 + 2 ^ i) → total (grow W c) (fun S => f (mk S)) = total W (fun S => halve c i f (mk S))
  | [], _ => rfl
  | q :: W, h => by
    have ih := total_grow (f := f) fun p hp => h p (List.mem_cons_of_mem _ hp)
    have e := h q List.mem_cons_self
    unfold grow at ih ⊢
    rw [total_append] at ih ⊢
    rw [List.map_cons, List.map_cons, total_cons, total_cons, total_cons, ← ih]
    simp only [e]
    unfold halve
    have e1 : q.2 * (f (mk q.1) * (c.2.2 - c.2.1) + f (mk q.1 + 2 ^ i) * c.2.1) = q.2 * (c.2.2 - c.2.1) * f (mk q.1) + q.2 * c.2.1 * f (mk q.1 + 2 ^ i) := by
      rw [Int.mul_add, Int.mul_assoc, Int.mul_assoc, Int.mul_comm (f (mk q.1)), Int.mul_comm (f (mk q.1 + 2 ^ i))]
    rw [e1]
    omega
/-- the list of numbers that the walk from the last token holds -/
def gj {κ : Type} (cs : List (Tok κ)) (f : Nat → Int) : Nat → Nat → Int
  | 0 => f
  | j + 1 => match cs[cs.length - 1 - j]? with
    | some c => halve c (cs.length - 1 - j) (gj cs f j)
    | none => gj cs f j
theorem gj_succ {κ : Type} {cs : List (Tok κ)} {f : Nat → Int} {j : Nat} {c : Tok κ} (h : cs[cs.length - 1 - j]? = some c) : gj cs f (j + 1) = halve c (cs.length - 1 - j) (gj cs f j) := by
  simp only [gj, h]
theorem gj_all {κ : Type} {cs : List (Tok κ)} {f : Nat → Int} {mk : List κ → Nat} (h : ∀ i c, cs[i]? = some c → ∀ S, mk (S ++ [c.1]) = mk S + 2 ^ i) : ∀ j, j ≤ cs.length → total (allS (cs.take (cs.length - j))) (fun S => gj cs f j (mk S)) = total (allS cs) (fun S => f (mk S))
  | 0, _ => by rw [Nat.sub_zero, List.take_length]; rfl
  | j + 1, hj => by
    rw [← gj_all h j (by omega)]
    have hi : cs.length - 1 - j < cs.length := by omega
    have ec := List.getElem?_eq_getElem hi
    have et : cs.take (cs.length - j) = cs.take (cs.length - (j + 1)) ++ [cs[cs.length - 1 - j]] := by
      rw [show cs.length - j = (cs.length - 1 - j) + 1 by omega, List.take_succ, ec, show cs.length - (j + 1) = cs.length - 1 - j by omega]
      rfl
    rw [et, allS_snoc, total_grow (c := cs[cs.length - 1 - j]) (i := cs.length - 1 - j) (f := gj cs f j) (mk := mk) fun q _ => h _ _ ec q.1]
    congr 1
    funext S
    show (match cs[cs.length - 1 - j]? with
    | some c => halve c (cs.length - 1 - j) (gj cs f j)
    | none => gj cs f j) (mk S) = _
    rw [ec]
theorem gj_end {κ : Type} {cs : List (Tok κ)} {f : Nat → Int} {mk : List κ → Nat} (h : ∀ i c, cs[i]? = some c → ∀ S, mk (S ++ [c.1]) = mk S + 2 ^ i) (h0 : mk [] = 0) : gj cs f cs.length 0 = total (allS cs) (fun S => f (mk S)) := by
  rw [← gj_all (f := f) h cs.length (Nat.le_refl _), Nat.sub_self, List.take_zero]
  show _ = total [([], 1)] _
  rw [total_cons]
  show _ = 1 * gj cs f cs.length (mk []) + 0
  rw [h0]
  omega
def prodD {κ : Type} : List (Tok κ) → Int
  | [] => 1
  | c :: r => c.2.2 * prodD r
theorem prodD_append {κ : Type} : ∀ (a b : List (Tok κ)), prodD (a ++ b) = prodD a * prodD b
  | [], b => by show prodD b = 1 * prodD b; rw [Int.one_mul]
  | c :: a, b => by show c.2.2 * prodD (a ++ b) = c.2.2 * prodD a * prodD b; rw [prodD_append a b, Int.mul_assoc]
/-- chances that are such -/
def ChOk {κ : Type} (M : Int) (cs : List (Tok κ)) : Prop := ∀ c ∈ cs, 0 ≤ c.2.1 ∧ c.2.1 ≤ c.2.2 ∧ 0 < c.2.2 ∧ c.2.2 ≤ M
theorem prodD_pos {κ : Type} {M : Int} : ∀ {cs : List (Tok κ)}, ChOk M cs → 0 < prodD cs ∧ prodD cs ≤ M ^ cs.length
  | [], _ => ⟨by show (0 : Int) < 1; decide, by show (1 : Int) ≤ M ^ 0; rw [Int.pow_zero]; decide⟩
  | c :: r, h => by
    obtain ⟨h1, h2⟩ := prodD_pos (cs := r) fun x hx => h x (List.mem_cons_of_mem _ hx)
    obtain ⟨_, _, h3, h4⟩ := h c List.mem_cons_self
    refine ⟨Int.mul_pos h3 h1, ?_⟩
    show c.2.2 * prodD r ≤ M ^ (r.length + 1)
    rw [Int.pow_succ, Int.mul_comm (M ^ r.length)]
    have a := Int.mul_le_mul_of_nonneg_right h4 (Int.le_of_lt h1)
    have b := Int.mul_le_mul_of_nonneg_left h2 (show 0 ≤ M by omega)
    omega
theorem total_grow1 {κ : Type} {c : Tok κ} : ∀ {W : List (List κ × Int)}, total (grow W c) (fun _ => 1) = total W (fun _ => 1) * c.2.2
  | [] => by show (0 : Int) = 0 * c.2.2; rw [Int.zero_mul]
  | q :: W => by
    have ih := total_grow1 (c := c) (W := W)
    unfold grow at ih ⊢
    rw [total_append] at ih ⊢
    rw [List.map_cons, List.map_cons, total_cons, total_cons, total_cons, Int.add_mul, ← ih]
    have e : q.2 * c.2.1 * 1 + q.2 * (c.2.2 - c.2.1) * 1 = q.2 * 1 * c.2.2 := by
      rw [Int.mul_one, Int.mul_one, Int.mul_one, ← Int.mul_add]
      congr 1; omega
    omega
theorem all_fold {κ : Type} : ∀ (cs : List (Tok κ)) (W : List (List κ × Int)), total (cs.foldl grow W) (fun _ => 1) = total W (fun _ => 1) * prodD cs
  | [], W => by show _ = _ * 1; rw [Int.mul_one]; rfl
  | c :: r, W => by
    rw [List.foldl_cons, all_fold r, total_grow1, Int.mul_assoc]
    rfl
theorem all_one {κ : Type} (cs : List (Tok κ)) : total (allS cs) (fun _ => 1) = prodD cs := by
  rw [show allS cs = cs.foldl grow [([], 1)] from rfl, all_fold]
  show (1 * 1 + 0) * _ = _
  rw [show ((1 : Int) * 1 + 0) = 1 by decide, Int.one_mul]
def WOk {κ : Type} (W : List (List κ × Int)) : Prop := ∀ q ∈ W, 0 ≤ q.2
theorem wok_fold {κ : Type} {M : Int} : ∀ {cs : List (Tok κ)} {W : List (List κ × Int)}, ChOk M cs → WOk W → WOk (cs.foldl grow W)
  | [], W, _, h => h
  | c :: r, W, hc, h => by
    refine wok_fold (cs := r) (fun x hx => hc x (List.mem_cons_of_mem _ hx)) fun q hq => ?_
    obtain ⟨c0, c1, c2, _⟩ := hc c List.mem_cons_self
    rcases List.mem_append.mp hq with m | m
    · obtain ⟨p, hp, rfl⟩ := List.mem_map.mp m
      exact Int.mul_nonneg (h p hp) c0
    · obtain ⟨p, hp, rfl⟩ := List.mem_map.mp m
      exact Int.mul_nonneg (h p hp) (by omega)
theorem wok_all {κ : Type} {M : Int} {cs : List (Tok κ)} (h : ChOk M cs) : WOk (allS cs) := wok_fold h fun q hq => by
  rw [List.mem_singleton.mp hq]; show (0 : Int) ≤ 1; omega
theorem total_le {κ : Type} {f : List κ → Int} (hf : ∀ S, 0 ≤ f S ∧ f S ≤ 1) : ∀ {W : List (List κ × Int)}, WOk W → 0 ≤ total W f ∧ total W f ≤ total W (fun _ => 1)
  | [], _ => ⟨Int.le_refl 0, Int.le_refl 0⟩
  | q :: W, h => by
    obtain ⟨h1, h2⟩ := total_le hf (W := W) fun x hx => h x (List.mem_cons_of_mem _ hx)
    have q0 := h q List.mem_cons_self
    obtain ⟨f0, f1⟩ := hf q.1
    rw [total_cons, total_cons]
    have a := Int.mul_nonneg q0 f0
    have b := Int.mul_le_mul_of_nonneg_left f1 q0
    constructor <;> omega
theorem total_congr {κ : Type} {f g : List κ → Int} : ∀ {W : List (List κ × Int)}, (∀ q ∈ W, f q.1 = g q.1) → total W f = total W g
  | [], _ => rfl
  | q :: W, h => by
    rw [total_cons, total_cons, h q List.mem_cons_self, total_congr fun x hx => h x (List.mem_cons_of_mem _ hx)]
theorem sub_fold {κ : Type} : ∀ (cs : List (Tok κ)) {W : List (List κ × Int)} {U : List κ}, (∀ q ∈ W, q.1.Sublist U) → ∀ q ∈ cs.foldl grow W, q.1.Sublist (U ++ cs.map (·.1))
  | [], W, U, h, q, hq => by rw [List.map_nil, List.append_nil]; exact h q hq
  | c :: r, W, U, h, q, hq => by
    have := sub_fold r (W := grow W c) (U := U ++ [c.1]) (fun p hp => ?_) q hq
    · rw [List.append_assoc] at this
      exact this
    · rcases List.mem_append.mp hp with m | m
      · obtain ⟨o, ho, rfl⟩ := List.mem_map.mp m
        exact (h o ho).append (List.Sublist.refl _)
      · obtain ⟨o, ho, rfl⟩ := List.mem_map.mp m
        exact (h o ho).trans (List.sublist_append_left _ _)
theorem all_sub {κ : Type} {cs : List (Tok κ)} (nd : (cs.map (·.1)).Nodup) : ∀ q ∈ allS cs, q.1.Nodup ∧ ∀ x ∈ q.1, x ∈ cs.map (·.1) := fun q hq => by
  have s := sub_fold cs (U := []) (W := [([], 1)]) (fun p hp => by rw [List.mem_singleton.mp hp]; exact List.Sublist.refl _) q hq
  rw [List.nil_append] at s
  exact ⟨s.nodup nd, fun x hx => s.subset hx⟩
/-! the loop of the greatest common divisor -/
theorem euc {i a b C : Nat} (hb : 0 < b) (h : (i = 0 ∨ b ≤ a) ∧ a * b * 2 ^ (i - 1) ≤ C) : (i + 1 = 0 ∨ a % b ≤ b) ∧ b * (a % b) * 2 ^ (i + 1 - 1) ≤ C := by
  refine ⟨.inr (Nat.le_of_lt (Nat.mod_lt _ hb)), ?_⟩
  rw [Nat.add_sub_cancel]
  obtain ⟨h1, h2⟩ := h
  have z : b * (a % b) * 2 ^ 0 ≤ a * b * 2 ^ (0 - 1) := by
    rw [Nat.mul_comm a b]
    exact Nat.mul_le_mul_right _ (Nat.mul_le_mul_left b (Nat.mod_le _ _))
  rcases h1 with rfl | h1
  · exact Nat.le_trans z h2
  · cases i with
    | zero => exact Nat.le_trans z h2
    | succ i =>
      refine Nat.le_trans ?_ h2
      rw [Nat.add_sub_cancel, Nat.pow_succ, ← Nat.mul_assoc, Nat.mul_right_comm _ _ 2]
      apply Nat.mul_le_mul_right
      have : a % b * 2 ≤ a := by
        have e := Nat.div_add_mod a b
        have p : 1 ≤ a / b := Nat.div_pos h1 hb
        have q : b * 1 ≤ b * (a / b) := Nat.mul_le_mul_left b p
        have r := Nat.mod_lt a hb
        omega
      rw [Nat.mul_assoc, Nat.mul_comm a b]
      exact Nat.mul_le_mul_left b this
theorem euc_end {a b C : Nat} (h : (2000 = 0 ∨ b ≤ a) ∧ a * b * 2 ^ (2000 - 1) ≤ C) (hC : C < 2 ^ 1000) : b = 0 := by
  obtain ⟨h1, h2⟩ := h
  rcases Nat.eq_zero_or_pos b with e | e
  · exact e
  · have : 1 * 1 ≤ a * b := Nat.mul_le_mul (by omega) e
    have q : 1 * 2 ^ 1999 ≤ a * b * 2 ^ 1999 := Nat.mul_le_mul_right _ (by omega)
    have p : (2 : Nat) ^ 1000 ≤ 2 ^ 1999 := Nat.pow_le_pow_right (by decide) (by decide)
    have h2' : a * b * 2 ^ 1999 ≤ C := h2
    rw [Nat.one_mul] at q
    exact absurd (Nat.lt_of_lt_of_le hC p) (Nat.not_lt.mpr (Nat.le_trans q h2'))
theorem euc_gcd {a b : Nat} : Nat.gcd b (a % b) = Nat.gcd a b := by
  rw [Nat.gcd_comm a b, Nat.gcd_rec b a, Nat.gcd_comm]
end Ch


set_option Elab.async false
set_option linter.all false
set_option maxRecDepth 100000
set_option maxHeartbeats 2000000
/-! enumerate of a tuple -/
namespace Gd
open PySem PySem.Spec PyProof.Rows L2
abbrev enO (n : Nat) : Obj := { cls := .type "enumerate", data := .fields #[.none, .bool false, .ref n, rawInt 0, .none, .none] }
theorem enumNew {v : Value} {o : Obj} {G : Heap → Prop} (B : Begins v o G) : Meets (Builtin.«enumerate.__new__» ⟨[.type "enumerate", v], []⟩)
    (fun _ R s => G s.heap ∧ R (.ok (.ret (.ref (s.heap.push o).objs.size))) { s with heap := (s.heap.push o).push (enO s.heap.objs.size) }) := .of_wp fun P w A R s q => by
  obtain ⟨hp, g, d, tk, os⟩ := s
  obtain ⟨q0, q⟩ := q
  have hsub := sub_enumerate
  have it : ∀ {A' : Around} {E' : Value → Shared → Prop} {Q' : Value → Shared → Prop}, Q' (.ref hp.objs.size) ⟨hp.push o, g, d, tk, os⟩ → wpAny (model P w) A' (pyIter v) Q' E' ⟨hp, g, d, tk, os⟩ := fun z => B.iter P w _ _ ⟨hp, g, d, tk, os⟩ _ q0 z
  wp_walk using it
  refine wpAny_stack_any fun stk => wpAny_pure ?_
  split
  · rename_i cl _ _ _ _ _
    cases (cl == Value.type "enumerate") <;> (wp_walk using it; exact ⟨_, rfl, q⟩)
  · wp_walk using it
    exact ⟨_, rfl, q⟩
section
variable {prog : Program} {w : World} {A : Around} {E : Value → Shared → Prop} {s : Shared}
theorem call_enumT {t : Addr} {items : Array Value} {Q : Value → Shared → Prop} (ht : s.heap.IsTuple t items)
    (h : ∀ h', IsEnum h' (s.heap.objs.size + 1) s.heap.objs.size ((0 : Nat) : Int) .none → h'.IsTupleIter s.heap.objs.size t 0 → (∀ b o, s.heap.get? b = some o → h'.get? b = some o) → Q (.ref (s.heap.objs.size + 1)) { s with heap := h' }) :
    wpAny (model prog w) A (call (.type "enumerate") [.ref t]) Q E s := by
  refine callType_new F.called_enumerate (by decide) (F.typeCall_enumerate_1 _) (F.newCall_enumerate_1 _) (fun obj => F.args_object_init_2 obj _) F.entry_enumerate_new (enumNew (begins_tuple t items)) ⟨ht, ?_⟩
  have sz := Heap.size_push s.heap { cls := .type "tuple_iterator", data := .fields #[.ref t, .int 0 0] }
  have en := Heap.get?_push_size (s.heap.push { cls := .type "tuple_iterator", data := .fields #[.ref t, .int 0 0] }) (o := enO s.heap.objs.size) rfl
  show _ ∧ _
  rw [sz] at en ⊢
  exact ⟨⟨_, en, rfl⟩, h _ en ⟨_, Heap.get?_push_of_some _ (Heap.get?_push_size _ rfl), rfl, rfl⟩ fun b o x => Heap.get?_push_of_some _ (Heap.get?_push_of_some _ x)⟩
end
/-- the tuple at a as it stands at each turn, each item in a new pair -/
def IteT (K : PySem.W.Frag) (a : Addr) : It :=
  ⟨fun i H => ∃ (xs : List V) (x : V), SqT K H a xs ∧ xs[i]? = some x, fun i H v H' => ∃ T x, v = .ref T ∧ H T = none ∧ H' = upd H T (.tup [.int (i : Nat), x]) ∧ ∀ xs, SqT K H a xs → xs[i]? = some x, fun i H => ∃ xs : List V, SqT K H a xs ∧ xs.length ≤ i⟩
theorem turn_enumT {P : Program} {w : World} {K : PySem.W.Frag} {elts : List Expr} {kk : Nat} {tpos : Pos} (a e it : Addr) :
    Turn P w K (.Tuple elts kk tpos) (IteT K a) [e, it] e (fun i h => (∃ old, IsEnum h e it ((i : Nat) : Int) old) ∧ h.IsTupleIter it a i ∧ e ≠ it ∧ a ≠ it ∧ e ≠ a) where
  mem := by simp
  obj := fun i h st b hb => by
    obtain ⟨⟨old, he⟩, ⟨o, ho, hc, hd⟩, _⟩ := st
    rcases (show b = e ∨ b = it by simpa using hb) with rfl | rfl
    · exact ⟨_, he, fun v q => nomatch q⟩
    · exact ⟨o, ho, fun v q => by rw [hd] at q; cases q⟩
  keep := fun i h h' st k => let ⟨⟨old, he⟩, hi, n⟩ := st; ⟨⟨old, k e (by simp) _ he⟩, hi.at fun o q => k it (by simp) o q, n⟩
  item := by
    intro X hP hw hK hc i pins s σ H E I hf st hg
    subst hP hw hK
    obtain ⟨⟨old, he⟩, hit, hne, hai, hea⟩ := st
    obtain ⟨xs, x, hq, hx⟩ := hg
    obtain ⟨its, rv, p, hz⟩ := I.tuple hq
    obtain ⟨u, hu, ru⟩ := rv.get hx
    have pa : s.heap.IsTuple a its.toArray := p
    have le := Heap.lt_size he
    have li : it < s.heap.objs.size := by obtain ⟨_, q, _⟩ := hit; exact Heap.lt_size q
    have len : i < its.toArray.size := by
      rw [List.size_toArray]
      exact (List.getElem?_eq_some_iff.mp hu).1
    refine wpAny_pyNext_enum_itemD (Draws.tuple (show X.A.in1.handled = none from I.ok.hd hc) it a hai its.toArray) he ⟨hit, pa⟩ len hne (by simp [hne, hea]) fun y h' tk hy ho hit' hT hsz hk => ?_
    have ey : y = u := by
      have : its[i]? = some y := by simpa using hy
      rw [hu] at this
      exact (Option.some.inj this).symm
    subst ey
    refine ⟨_, rfl, wpAny_letOwnedTupleGo_enum (s := { s with heap := h', toks := tk + 1 }) ho fun h2 he2 sb => ?_⟩
    have hT2 : h2.get? s.heap.objs.size = some { cls := .type "tuple", data := .seq #[.int i tk, y] } := (sb.2 _ (Nat.ne_of_gt le)).trans hT
    have new : ObjOk X.prog X.w (upd H s.heap.objs.size (.tup [.int (i : Nat), x])) h2 s.heap.objs.size (.tup [.int (i : Nat), x]) := ⟨by show 2 ≤ sizeLine; decide, [.int i tk, y], .cons ⟨_, rfl⟩ (.cons ru .nil), ⟨_, hT2, rfl, _, rfl⟩⟩
    have I1 : Inv X pins σ (upd H s.heap.objs.size (.tup [.int (i : Nat), x])) { s with heap := h2, toks := tk + 1 } :=
      I.turnedNew (ch := [e, it]) (fun b ob hb q => (sb.2 b (fun z => hb (by simp [z]))).trans (hk b ob (fun z => hb (by simp [z])) (fun z => hb (by simp [z])) q)) hf (Nat.le_refl _) new
    refine ⟨.ref s.heap.objs.size, _, I1, rfl, ⟨_, x, rfl, I.hok.fresh (Nat.le_refl _), rfl, fun ys hy => by rw [I.tuple_inj hy hq]; exact hx⟩, ⟨⟨y, ?_⟩, hit'.1.at fun o q => (sb.2 it (Ne.symm hne)).trans q, hne, hai, hea⟩, fun b hb => ?_⟩
    · rw [show ((i + 1 : Nat) : Int) = (i : Int) + 1 by omega]
      exact he2
    · have hb' : b < s.heap.objs.size := by
        rcases (show b = e ∨ b = it by simpa using hb) with rfl | rfl
        · exact le
        · exact li
      rw [upd_ne (Nat.ne_of_lt hb')]
      exact (hf b hb).1
  done := by
    intro X hP hw hK hc i pins s σ H E I hf st hg
    subst hP hw hK
    obtain ⟨⟨old, he⟩, hit, hne, hai, hea⟩ := st
    obtain ⟨xs, hq, hx⟩ := hg
    obtain ⟨its, rv, p, hz⟩ := I.tuple hq
    have pa : s.heap.IsTuple a its.toArray := p
    obtain ⟨f0, f1, f2, f3, f4, f5⟩ := hf it (by simp)
    have hl := rv.length
    unfold pyNext
    refine wpAny_bind (wpAny_attempt (wpAny_callSpecial?_slot (name := Str.ofString "__next__") (show s.TypeIs (.ref e) "enumerate" from ⟨_, he, rfl⟩) F.slot_enumerate_next
      (wpAny_call_entry F.slot_enumerate_next (show s.TypeIs (.ref e) "enumerate" from ⟨_, he, rfl⟩) F.entry_enumerate_next ?_ (F.args_enumerate_next_1 _))))
    show wpAny _ _ (field (.ref e) 2 >>= _) _ _ _
    refine wpAny_bind (wpAny_field he rfl (x := .ref it) rfl ?_)
    refine wpAny_bind (wpAny_nextOf_tuple_end (I.ok.hd hc) hit pa (by simp; omega) fun h' x he' hx' => ?_)
    obtain ⟨o, ho, hc2⟩ := hx'
    refine wpAny_bind (wpAny_isInstance (T := "StopIteration") (b := true) ⟨o, ho, hc2⟩ isSubtype_stop ?_)
    exact wpAny_pure ⟨rfl, I.turned (t' := s.toks) (fun b o hb q => he' b o hb q) f0 f1 f3 f4 f5⟩
  self := fun A i s Q E st h => let ⟨⟨_, he⟩, _⟩ := st; wpAny_pyIter_enum he h
def iEnumT (K : PySem.W.Frag) (ta : TA) : TI := fun σ H R => ta σ H fun vs H1 => ∃ a xs, vs = [.ref a] ∧ SqT K H1 a xs ∧ R (IteT K a) H1
theorem pi_enumT {X : Cx} {e : Expr} {ta : TA} {p pos tpos : Pos} {elts : List Expr} {kk : Nat} (hg : Gl X "enumerate") (hm : X.mg "enumerate" = none) (ha : PA X [e] ta) (hs : starEach [e] X.env = [(false, eval e X.env)] := by rfl) :
    PI X (.Tuple elts kk tpos) (.Call (.Name "enumerate" p) [e] [] pos) (iEnumT X.K ta) := by
  refine ⟨fun pins s σ H R I h => Call_ (ld_blt I hg hm boot_enumerate (PyProof.Rows.callWith_type1 (thn (ha.run pos pins s σ H _ I h) fun us s1 ⟨vs, H1, I1, r1, q1⟩ => ?_) hs rfl))⟩
  obtain ⟨a, xs, rfl, hq, q⟩ := q1
  cases r1 with
  | cons r rr =>
    cases rr
    cases r
    obtain ⟨its, rv, p', hz⟩ := I1.tuple hq
    have pa : s1.heap.IsTuple a its.toArray := p'
    have la : a < s1.heap.objs.size := by obtain ⟨_, z, _⟩ := pa; exact Heap.lt_size z
    refine call_enumT pa fun h' he hit hk => wpAny_pyIter_enum he ?_
    refine ⟨s1.heap.objs.size + 1, [s1.heap.objs.size + 1, s1.heap.objs.size], _, _, H1, rfl, I1.kept (t' := s1.toks) hk, turn_enumT a (s1.heap.objs.size + 1) s1.heap.objs.size, ⟨⟨.none, he⟩, hit, Nat.succ_ne_self _, Nat.ne_of_lt la, Nat.ne_of_gt (Nat.lt_succ_of_lt la)⟩, fun b hb => ?_, q⟩
    have hle : s1.heap.objs.size ≤ b := by
      rcases (show b = s1.heap.objs.size + 1 ∨ b = s1.heap.objs.size by simpa using hb) with z | z
      · rw [z]; exact Nat.le_succ _
      · rw [z]; exact Nat.le_refl _
    exact I1.fpOk hle (I1.hok.fresh hle)
theorem walk_enumT {K : PySem.W.Frag} {a : Addr} {xs : List V} : Walk (IteT K a) xs.length (fun H => SqT K H a xs) (YPair (fun i => some (.int (i : Nat))) (fun i => xs[i]?)) := by
  refine ⟨fun i H hi hG => ⟨xs, xs[i], hG, List.getElem?_eq_getElem hi⟩, fun H hG => ⟨xs, hG, Nat.le_refl _⟩, fun i H v H' hi hG y => ?_⟩
  obtain ⟨T, x, e, n, u, hx⟩ := y
  exact ⟨T, _, x, e, n, u, rfl, hx xs hG⟩
end Gd


set_option Elab.async false
set_option linter.all false
set_option maxRecDepth 100000
set_option maxHeartbeats 2000000
/-! name = {k: v for ..} on one line, the name a local -/
namespace Gd
open PySem PySem.Spec PyProof.Rows L2
theorem sw_dc {kx vx : Expr} {gs : List Comprehension} {scope : Scope} {pos py : Pos} {y : Str} {l : Nat} {env : Env} (hk : env.scope.kind = .function) (hy : env.scope.names.lookup y = some .local) (hl : (py.line == pos.line) = true)
    (ha : (scope.names.any fun (n, k) => n == y && (k == .local || k == .cell)) = false) : swapsWith (.DictComp kx vx gs scope pos) (some (.Name y py)) l env = pure true := by
  have ky : env.kindOf y = some .local := hy
  have hb : env.blockKind = .function := by rw [Env.blockKind, hk]; rfl
  simp only [swapsWith, hb, ky, ha, Expr.pos, hl]
  rfl
section
variable {X : Cx}
theorem ps_setDc {i : Nat} {y : Str} {py : Pos} {kx vx tg iter : Expr} {ifs : List Expr} {scope : Scope} {own : List (Str × Nat)} {pos spos : Pos} {wi : TI} {g : TG} {tt : TT} {tk tv : TE} (calm : X.calm = true) (nd : X.N.Nodup) (hy : X.N[i]? = some y) (hyl : X.env.scope.names.lookup y = some .local)
    (hsw : swapsWith (.DictComp kx vx [⟨tg, iter, ifs, 0⟩] scope pos) (some (.Name y py)) spos.line X.env = pure true) (hi : PI X tg iter wi) (ok : BlkOk X.N X.env.scope scope own)
    (pg : ∀ (s : Shared) (H : Hp) (C : Addr) (cl : List (Str × Addr)) (fp : List Addr), PG (X.blk s H scope (compEnvC scope cl C X.env) fp) tg g) (pt : ∀ (s : Shared) (H : Hp) (C : Addr) (cl : List (Str × Addr)) (fp : List Addr), PTs (X.blk s H scope (compEnvC scope cl C X.env) fp) ifs tt)
    (pk : ∀ (s : Shared) (H : Hp) (C : Addr) (cl : List (Str × Addr)) (fp : List Addr), PE (X.blk s H scope (compEnvC scope cl C X.env) fp) kx tk) (pv : ∀ (s : Shared) (H : Hp) (C : Addr) (cl : List (Str × Addr)) (fp : List Addr), PE (X.blk s H scope (compEnvC scope cl C X.env) fp) vx tv)
    (hs : ∀ x, foldedSetIterable iter X.env x = pure x := by intro _; rfl) :
    PS X (.Assign [.Name y py] (.DictComp kx vx [⟨tg, iter, ifs, 0⟩] scope pos) spos) (tAsg (tDc wi g tt tk tv (own.map (·.2))) (gName i)) := by
  refine ⟨fun pins s σ H D I h => ?_⟩
  rw [exec_Assign_Name_used _ _ _ _ hsw]
  refine wpAny_bind (wpAny_standAt (wpAny_bind ?_))
  show wpAny _ X.A (do let _ ← comprehension (.DictComp kx vx [⟨tg, iter, ifs, 0⟩] scope pos) scope X.env (firstIterPos [⟨tg, iter, ifs, 0⟩] pos) newDict false (eval iter X.env) (some (assign (.Name y py) X.env))) _ _ s
  have h' : tDc wi g tt tk tv (own.map (·.2)) σ H (fun x H1 => gName i x σ H1 D.nx) := h
  refine wpAny_bind (thn (dc_core (Qf := fun _ s2 => SP X pins D .next s2) calm nd I hi ok pg pt pk pv hs h' fun L C s2 m H2 I2 q hn f => ?_) fun _ s2 hq => wpAny_pure (wpAny_pure hq))
  show wpAny _ _ (assign (.Name y py) X.env (.ref L)) _ _ _
  refine wpAny_assign_Name (store_ok2 (v := V.ref L) I2 nd hy (.inl hyl) rfl (fun s3 I3 ⟨a, sb, ha⟩ => ?_) (.inr hyl))
  have haC : C ≠ a := ha.elim (fun z => z ▸ f.2.1) fun z e => f.2.2.2.2.1 y a z e.symm
  exact ⟨m, hn.sameBut sb haC, fun h3 sb3 => ⟨_, H2, I3.turned (t' := s3.toks) (fun b o hb e => (sb3.2 b hb).trans e) f.1 f.2.1 f.2.2.2.1 f.2.2.2.2.1 f.2.2.2.2.2, q⟩⟩
end
/-- a dict comprehension's turns over any walk -/
theorem dc_it {J : It} {n : Nat} {G : Hp → Prop} {Y : Nat → Hp → V → Hp → Prop} (w : Walk J n G Y) {g : TG} {tt : TT} {tk tv : TE} {vs : List Nat} {σ : L2.St} {H1 : Hp} {D : Addr} {Qd : Hp → Prop} (Pv : Nat → Hp → Prop) (h0 : Pv 0 (upd H1 D (.dK []))) (hG : ∀ i H, i ≤ n → Pv i H → G H)
    (hs : ∀ i x H H', i < n → Pv i H → Y i H x H' → g x (wipe σ vs) H' fun σ2 H2 => wipe σ2 vs = wipe σ vs ∧ tt σ2 H2 fun b H3 =>
      if b = true then tk σ2 H3 fun y H4 => tv σ2 H4 fun z H5 => ∃ kvs k, y = kV k ∧ H5 D = some (.dK kvs) ∧ kvs.length < sizeLine ∧ Pv (i + 1) (upd H5 D (.dK (putK kvs k z))) else Pv (i + 1) H3) (hd : ∀ H, Pv n H → Qd H) :
    ∃ W : Nat → Nat → Hp → Prop, (∃ m, W 0 m (upd H1 D (.dK []))) ∧ ∀ i m H, W i m H →
      (J.stop i H ∧ Qd H) ∨ (J.go i H ∧ ∃ Nx : Hp → Prop, (∀ H', Nx H' → ∃ m', m' < m ∧ W (i + 1) m' H') ∧ ∀ x H', J.yld i H x H' → g x (wipe σ vs) H' fun σ2 H2 => wipe σ2 vs = wipe σ vs ∧ tt σ2 H2 fun b H3 =>
        if b = true then tk σ2 H3 fun y H4 => tv σ2 H4 fun z H5 => ∃ kvs k, y = kV k ∧ H5 D = some (.dK kvs) ∧ kvs.length < sizeLine ∧ Nx (upd H5 D (.dK (putK kvs k z))) else Nx H3) := by
  refine ⟨fun i m H => m = n - i ∧ i ≤ n ∧ Pv i H, ⟨n, rfl, Nat.zero_le _, h0⟩, ?_⟩
  rintro i m H ⟨rfl, hi, p⟩
  rcases Nat.lt_or_eq_of_le hi with hlt | rfl
  · exact .inr ⟨w.goes i H hlt (hG i H hi p), Pv (i + 1), fun H' p' => ⟨n - (i + 1), by omega, rfl, hlt, p'⟩, fun x H' y => hs i x H H' hlt p (w.yields i H x H' hlt (hG i H hi p) y)⟩
  · exact .inl ⟨w.stops H (hG _ H (Nat.le_refl _) p), hd H p⟩
end Gd


set_option Elab.async false
set_option linter.all false
set_option maxRecDepth 100000
set_option maxHeartbeats 4000000
/-! {k: v for x in ..}, the keys tuples of texts in cells of their own -/
namespace Gd
open PySem PySem.Spec PyProof.Rows L2
section
variable {X : Cx}
/-- a comprehension lays a tuple key -/
theorem t_dictSet {pins : List (Addr × Obj)} {σ : L2.St} {H : Hp} {s : Shared} {E : Value → Shared → Prop} {D b : Addr} {kvs : List (List L2.Key × V)} {k : List L2.Key} {v : V} {r : Value} {Q : Unit → Shared → Prop} (hu : X.A.units < cLine) (I : Inv X pins σ H s) (hD : H D = some (.dT kvs)) (hz : kvs.length < sizeLine)
    (eb : H b = some (.tup (k.map kV))) (rv : RelV v r) (h : ∀ s', Inv X pins σ (upd H D (.dT (putK kvs k v))) s' → Q () s') : wpAny (model X.prog X.w) X.A (dictSet D (.ref b) r) Q E s := by
  obtain ⟨_, hd, xs, rel, dd⟩ := dt_of I.hok hD
  have len : xs.length = kvs.length := (Paired.length rel).symm
  have more := length_putK kvs k v
  refine wpAny_dictSet_heap (hsz := by omega) (show (tupleKind (mixKind X.prog X.w)).room X.A from hu) (key_of I.hok eb) dd fun h' dd' sb => h _ ?_
  obtain ⟨ob, es, ep, go, c1, c2, c3, _, c4⟩ := dd'
  refine d_write I (by rw [hD]; exact True.intro) sb ⟨ob, go⟩ ⟨by omega, hd, _, (rel.put k eb rv).keeps fun c ys ec => ?_, ob, es, ep, go, c1, c2, c3, c4⟩
  rw [upd_ne (ne_of ec hD fun z => nomatch z)]
  exact ec
/-- {k: v for target in iter}: D the new dict; Pv by the turn; N turns at most -/
def tDcT (wi : TI) (g : TG) (tk tv : TE) (vs : List Nat) : TE := fun σ H Q => wi σ H fun J H1 => ∀ D, H1 D = none → ∃ (N : Nat) (Pv : Nat → Hp → Prop), Pv 0 (upd H1 D (.dT [])) ∧ ∀ i H, Pv i H →
  (J.stop i H ∧ Q (.ref D) H) ∨ (i < N ∧ J.go i H ∧ ∀ x H', J.yld i H x H' → g x (wipe σ vs) H' fun σ2 H2 => wipe σ2 vs = wipe σ vs ∧ tk σ2 H2 fun y H3 => tv σ2 H3 fun z H4 => ∃ kvs k b, y = .ref b ∧ H4 D = some (.dT kvs) ∧ H4 b = some (.tup (k.map kV)) ∧ kvs.length < sizeLine ∧ Pv (i + 1) (upd H4 D (.dT (putK kvs k z))))
theorem pe_dcT {kx vx tg iter : Expr} {own : List (Str × Nat)} {scope : Scope} {pos : Pos} {wi : TI} {g : TG} {tk tv : TE} (hc : X.calm = true) (hu : X.A.units < cLine) (hN : X.N.Nodup) (hi : PI X tg iter wi) (ok : BlkOk X.N X.env.scope scope own)
    (hg : ∀ (s : Shared) (H : Hp) (C : Addr) (cl : List (Str × Addr)) (fp : List Addr), PG (X.blk s H scope (compEnvC scope cl C X.env) fp) tg g)
    (hk : ∀ (s : Shared) (H : Hp) (C : Addr) (cl : List (Str × Addr)) (fp : List Addr), PE (X.blk s H scope (compEnvC scope cl C X.env) fp) kx tk)
    (he : ∀ (s : Shared) (H : Hp) (C : Addr) (cl : List (Str × Addr)) (fp : List Addr), PE (X.blk s H scope (compEnvC scope cl C X.env) fp) vx tv)
    (hset : ∀ x, foldedSetIterable iter X.env x = pure x := by intro _; rfl) : PE X (.DictComp kx vx [⟨tg, iter, [], 0⟩] scope pos) (tDcT wi g tk tv (own.map (·.2))) := by
  refine ⟨fun pins s σ H Q I h => ?_⟩
  have cells : ∀ y ∈ scope.names, y.2 = .free → ∃ c, X.env.cells.lookup y.1 = some c := fun y hy e => I.ok.has _ ((ok.free y hy e).imp id id)
  rw [arm_eval_DictComp]
  refine wpAny_comprehension_free (use := none) rfl hset (closure_ok cells) ok.kind (fun y hy e => (ok.uniq y hy).trans (congrArg some e)) (thn (hi.run pins s σ H _ I h) fun _ _ h1 => thn h1 fun _ s2 h2 => ?_)
  obtain ⟨it, fp, tn, J, H2, rfl, I2, T, st2, f2, q⟩ := h2
  have D0 : H2 s2.heap.objs.size = none := I2.hok.fresh (Nat.le_refl _)
  obtain ⟨N, Pv, p0, turn⟩ := q _ D0
  refine wpAny_newObj_type (newEnv_comp ?_)
  generalize hD : s2.heap.objs.size = D at D0 p0 turn ⊢
  generalize hs3 : ({ s2 with heap := s2.heap.push { cls := .type "dict", data := .dict #[] } } : Shared) = s3 at ⊢
  have e3 : s3.heap = s2.heap.push { cls := .type "dict", data := .dict #[] } := by rw [← hs3]
  have I3 : Inv X pins σ (upd H2 D (.dT [])) s3 := by
    rw [← hs3]
    exact I2.laid (t' := s2.toks) (fun b o e => Heap.get?_push_of_some _ e) (Nat.le_of_eq hD) (by rw [← hD]; exact dt_empty s2.heap I2.big)
  have fp3 : ∀ b ∈ fp, FpOk X pins (upd H2 D (.dT [])) b ∧ b < s3.heap.objs.size := fun b hb => by
    obtain ⟨o, e, _⟩ := T.obj _ _ st2 b hb
    have lt := Heap.lt_size e
    refine ⟨⟨?_, (f2 b hb).2⟩, by rw [e3, Heap.size_push]; exact Nat.lt_succ_of_lt lt⟩
    rw [upd_ne (Nat.ne_of_lt (by rw [← hD]; exact lt))]
    exact (f2 b hb).1
  have st3 : tn 0 s3.heap := T.keep _ _ _ st2 fun b _ o e => by rw [e3]; exact Heap.get?_push_of_some _ e
  have I4 := block_start I3 ok hN fp3
  show codeAny _ _ (.compStart _ 0 (.ref it) (.ref D) (compEnvC scope (cellsFrom (s3.heap.objs.size + 1) scope.names (cloFrom X.env.cells scope.names [])) s3.heap.objs.size X.env)) (compPost _ _ _ none _ _ (compEnvC scope (cellsFrom (s3.heap.objs.size + 1) scope.names (cloFrom X.env.cells scope.names [])) s3.heap.objs.size X.env).locals) { s3 with heap := pushCells (s3.heap.push { cls := .type "dict", data := .dict #[] }) scope.names }
  have pg := hg s3 (upd H2 D (.dT [])) s3.heap.objs.size (cellsFrom (s3.heap.objs.size + 1) scope.names (cloFrom X.env.cells scope.names [])) fp
  have pk := hk s3 (upd H2 D (.dT [])) s3.heap.objs.size (cellsFrom (s3.heap.objs.size + 1) scope.names (cloFrom X.env.cells scope.names [])) fp
  have pe := he s3 (upd H2 D (.dT [])) s3.heap.objs.size (cellsFrom (s3.heap.objs.size + 1) scope.names (cloFrom X.env.cells scope.names [])) fp
  have eL : (compEnvC scope (cellsFrom (s3.heap.objs.size + 1) scope.names (cloFrom X.env.cells scope.names [])) s3.heap.objs.size X.env).locals = s3.heap.objs.size := rfl
  generalize compEnvC scope (cellsFrom (s3.heap.objs.size + 1) scope.names (cloFrom X.env.cells scope.names [])) s3.heap.objs.size X.env = ce at I4 pg pk pe eL ⊢
  have st4 : tn 0 ({ s3 with heap := pushCells (s3.heap.push { cls := .type "dict", data := .dict #[] }) scope.names } : Shared).heap := T.keep _ _ _ st3 fun b _ o e => pushCells_keeps _ _ _ _ (Heap.get?_push_of_some _ e)
  generalize ({ s3 with heap := pushCells (s3.heap.push { cls := .type "dict", data := .dict #[] }) scope.names } : Shared) = s4 at I4 st4 ⊢
  generalize hH3 : upd H2 D (.dT []) = H3 at I3 I4 pg pk pe p0 fp3
  have stat : ∀ {σ' : L2.St} {H' : Hp} {s' : Shared}, Inv (X.blk s3 H3 scope ce fp) [] σ' H' s' → (∀ b ∈ fp, H' b = none) → ∀ b ∈ fp, FpOk (X.blk s3 H3 scope ce fp) [] H' b := fun J1 n b hb =>
    ⟨n b hb, (J1.ok.exf b hb).1, J1.ok.exfs b hb, .inl hb, fun x c e => (J1.ok.exf b hb).2 x c e, fun p hp => nomatch (show p ∈ ([] : List (Addr × Obj)) from hp)⟩
  have loop : codeAny (model X.prog X.w) X.A (.compLoop (.DictComp kx vx [⟨tg, iter, [], 0⟩] scope pos) 0 (.ref it) (.ref D) ce) (compPost (model X.prog X.w) X.A X.xe none (EP X pins σ Q) (.ref D) ce.locals) s4 := by
    refine compLoop_anyD (fun n s' => ∃ i H', n = N - i ∧ Inv (X.blk s3 H3 scope ce fp) [] (wipe σ (own.map (·.2))) H' s' ∧ tn i s'.heap ∧ (∀ b ∈ fp, H' b = none) ∧ Pv i H') ?_ N ⟨0, H3, rfl, I4, st4, fun b hb => (fp3 b hb).1.1, p0⟩
    rintro n s5 ⟨i, H5, rfl, I5, st5, n5, v5⟩
    rcases turn i H5 v5 with ⟨stop, qq⟩ | ⟨lt, go, step⟩
    · refine wpAny_mono (T.done (X.blk s3 H3 scope ce fp) rfl rfl rfl hc i [] s5 _ H5 (fun _ _ => False) I5 (stat I5 n5) st5 stop) (fun r s6 hr => ?_) fun _ _ z => z.elim
      obtain ⟨rfl, I6⟩ := hr
      obtain ⟨m, hn, _⟩ := id I6.loc
      have I7 : Inv X pins σ H5 s6 := I3.call' (ch := fp) I6.os I6.base I6.hok I6.bare fun b hb => ⟨(fp3 b hb).1.2.2.2.1, (fp3 b hb).1.2.1, (fp3 b hb).1.2.2.2.2.1, (fp3 b hb).1.2.2.2.2.2⟩
      obtain ⟨y0, y1, _, y3, y4, y5⟩ := I3.fpOk (H' := H5) (Nat.le_of_eq eL.symm) I6.free
      exact ⟨m, hn, fun h2 sb => ⟨.ref D, H5, I7.turned (t' := s6.toks) (fun b o nb e => (sb.2 b nb).trans e) y0 y1 y3 y4 y5, rfl, qq⟩⟩
    · refine wpAny_mono (T.item (X.blk s3 H3 scope ce fp) rfl rfl rfl hc i [] s5 _ H5 (fun _ _ => False) I5 (stat I5 n5) st5 go) (fun r s6 hr => ?_) fun _ _ z => z.elim
      obtain ⟨u, rfl, h6⟩ := hr
      refine thnF h6 fun _ s7 ⟨x, H7, I7, r7, y7, st7, n7⟩ => ?_
      have P7 := I7.pinned (stat I7 n7) (T.obj _ _ st7)
      refine thnF (pg.run _ s7 _ H7 x u _ P7 r7 (step x H7 y7)) fun _ s8 ⟨σ8, H8, I8, w8, q8⟩ => ?_
      rw [List.forIn_nil]
      refine wpAny_pure ?_
      rw [if_pos rfl]
      refine thnF (pk.run _ s8 σ8 H8 _ I8 q8) fun zk s9 ⟨yk, H9, I9, r9, q9⟩ => ?_
      refine thnF (pe.run _ s9 σ8 H9 _ I9 q9) fun zv s10 ⟨yv, H10, I10, r10, kvs, k, b, ek, gD, gb, az, nx⟩ => ?_
      subst ek
      cases (show zk = Value.ref b from r9)
      refine t_dictSet (X := X.blk s3 H3 scope ce fp) hu I10 gD az gb r10 fun s11 I11 => ?_
      have pin : ∀ b ∈ fp, ∀ o, s7.heap.get? b = some o → s11.heap.get? b = some o ∧ upd H10 D (.dT (putK kvs k yv)) b = none := fun b hb o e =>
        let z := I11.pin (b, o) (List.mem_append_right _ (List.mem_append_right _ (mem_pinsAt hb e)))
        ⟨z.1, z.2.1⟩
      refine ⟨N - (i + 1), by omega, i + 1, _, rfl, (I11.unpinned (pins := [])).weak (by rw [← w8, wipe_length]) fun j v e => ?_, T.keep _ _ _ st7 fun b hb o e => (pin b hb o e).1, fun b hb => ?_, nx⟩
      · rw [← w8] at e
        exact (wipe_some e).1
      · obtain ⟨o, e, _⟩ := T.obj _ _ st7 b hb
        exact (pin b hb o e).2
  exact codeAny_compStart_dict loop (T.self X.A 0 _ _ _ st4 loop)
end
/-- the turns over any walk -/
theorem dcT_it {J : It} {n : Nat} {G : Hp → Prop} {Y : Nat → Hp → V → Hp → Prop} (w : Walk J n G Y) {g : TG} {tk tv : TE} {vs : List Nat} {σ : L2.St} {H1 : Hp} {D : Addr} {Qd : Hp → Prop} (Pv : Nat → Hp → Prop) (h0 : Pv 0 (upd H1 D (.dT []))) (hG : ∀ i H, i ≤ n → Pv i H → G H)
    (hs : ∀ i x H H', i < n → Pv i H → Y i H x H' → g x (wipe σ vs) H' fun σ2 H2 => wipe σ2 vs = wipe σ vs ∧ tk σ2 H2 fun y H3 => tv σ2 H3 fun z H4 => ∃ kvs k b, y = .ref b ∧ H4 D = some (.dT kvs) ∧ H4 b = some (.tup (k.map kV)) ∧ kvs.length < sizeLine ∧ (i + 1 ≤ n ∧ Pv (i + 1) (upd H4 D (.dT (putK kvs k z))))) (hd : ∀ H, Pv n H → Qd H) :
    ∃ (N : Nat) (W : Nat → Hp → Prop), W 0 (upd H1 D (.dT [])) ∧ ∀ i H, W i H → (J.stop i H ∧ Qd H) ∨ (i < N ∧ J.go i H ∧ ∀ x H', J.yld i H x H' → g x (wipe σ vs) H' fun σ2 H2 => wipe σ2 vs = wipe σ vs ∧ tk σ2 H2 fun y H3 => tv σ2 H3 fun z H4 => ∃ kvs k b, y = .ref b ∧ H4 D = some (.dT kvs) ∧ H4 b = some (.tup (k.map kV)) ∧ kvs.length < sizeLine ∧ W (i + 1) (upd H4 D (.dT (putK kvs k z)))) := by
  refine ⟨n, fun i H => i ≤ n ∧ Pv i H, ⟨Nat.zero_le _, h0⟩, fun i H ⟨le, p⟩ => ?_⟩
  have gH := hG i H le p
  rcases Nat.lt_or_ge i n with lt | ge
  · exact .inr ⟨lt, w.goes i H lt gH, fun x H' y => hs i x H H' lt p (w.yields i H x H' lt gH y)⟩
  · have e : i = n := Nat.le_antisymm le ge
    subst e
    exact .inl ⟨w.stops H gH, hd H p⟩
end Gd


set_option Elab.async false
set_option linter.all false
set_option maxRecDepth 100000
set_option maxHeartbeats 8000000
/-! the program: _bits_of -/
namespace K26
open PySem L2 Nd Bk Gd
/-- where a token stands -/
def ixT : List Str → Str → Nat
  | [], _ => 0
  | a :: r, t => if a = t then 0 else ixT r t + 1
theorem ixT_get : ∀ {ts : List Str} {t : Str}, t ∈ ts → ts[ixT ts t]? = some t
  | a :: r, t, h => by
    unfold ixT
    by_cases e : a = t
    · rw [if_pos e, e]; rfl
    · rw [if_neg e, List.getElem?_cons_succ]
      exact ixT_get ((List.mem_cons.mp h).elim (fun z => absurd z.symm e) id)
theorem ixT_is {ts : List Str} (nd : ts.Nodup) {i : Nat} {t : Str} (h : ts[i]? = some t) : ixT ts t = i := by
  have hi := (List.getElem?_eq_some_iff.mp h).1
  exact ((List.getElem?_inj hi nd).mp (h.trans (ixT_get (List.mem_of_getElem? h)).symm)).symm
theorem ixT_inj {ts : List Str} {t u : Str} (h1 : t ∈ ts) (h2 : u ∈ ts) (e : ixT ts t = ixT ts u) : t = u := by
  have a := ixT_get h1
  rw [e, ixT_get h2] at a
  exact (Option.some.inj a).symm
def bitOf (ts : List Str) (t : Str) : Nat := 2 ^ ixT ts t
theorem bits_msk (ts S : List Str) : bitsSum (bitOf ts) S = Ch.msk (S.map (ixT ts)) := by
  unfold bitsSum Ch.msk
  rw [List.map_map]
  rfl
theorem ixT_nd {ts S : List Str} (hS : S.Nodup) (h : ∀ t ∈ S, t ∈ ts) : (S.map (ixT ts)).Nodup := by
  rw [List.Nodup, List.pairwise_map]
  exact List.Pairwise.imp_of_mem (fun {a b} ha hb n e => n (ixT_inj (h a ha) (h b hb) e)) hS
theorem and_self {a b : Nat} : a &&& b = a ↔ Ch.Sub a b := by
  constructor
  · intro e i h
    have q := congrArg (fun n => n.testBit i) e
    simp only [Nat.testBit_and] at q
    rw [h, Bool.true_and] at q
    exact q
  · intro s
    apply Nat.eq_of_testBit_eq
    intro i
    rw [Nat.testBit_and]
    cases q : a.testBit i with
    | false => rfl
    | true => rw [s i q]; rfl
/-- a mask within a mask: a set within a set -/
theorem mask_sub {ts S U : List Str} (hS : S.Nodup) (hU : U.Nodup) (h1 : ∀ t ∈ S, t ∈ ts) (h2 : ∀ t ∈ U, t ∈ ts) : (bitsSum (bitOf ts) S &&& bitsSum (bitOf ts) U = bitsSum (bitOf ts) S) ↔ ∀ t ∈ S, t ∈ U := by
  rw [and_self, bits_msk, bits_msk, Ch.msk_sub (ixT_nd hS h1) (ixT_nd hU h2)]
  constructor
  · intro q t ht
    obtain ⟨u, hu, e⟩ := List.mem_map.mp (q _ (List.mem_map.mpr ⟨t, ht, rfl⟩))
    rw [← ixT_inj (h2 u hu) (h1 t ht) e]
    exact hu
  · intro q i hi
    obtain ⟨t, ht, rfl⟩ := List.mem_map.mp hi
    exact List.mem_map.mpr ⟨t, q t ht, rfl⟩
theorem pow_up (n : Nat) : (2 : Int) ^ n = ((2 ^ n : Nat) : Int) := by simp
theorem flat_snoc {os : List (List Str)} {i : Nat} {o : List Str} (h : os[i]? = some o) : (os.take (i + 1)).flatten = (os.take i).flatten ++ o := by
  rw [List.take_succ, h, List.flatten_append]
  simp
theorem flat_part {os : List (List Str)} {i : Nat} {o : List Str} (h : os[i]? = some o) (j : Nat) : (os.take i).flatten.length + (o.take j).length ≤ os.flatten.length := by
  have a : os.flatten.length = (os.take (i + 1)).flatten.length + (os.drop (i + 1)).flatten.length := by
    rw [← List.length_append, ← List.flatten_append, List.take_append_drop]
  rw [flat_snoc h, List.length_append] at a
  have b : (o.take j).length ≤ o.length := by rw [List.length_take]; omega
  omega
theorem so_le (l : List Str) : (so l).length ≤ l.length := by
  have := dd_len l []
  unfold so
  rw [List.length_reverse]
  simpa using this
theorem so_nd (l : List Str) : (so l).Nodup := by
  unfold so
  exact (List.reverse_perm _).nodup_iff.mpr (dd_nodup l [] List.nodup_nil)
theorem dd_mem {x : Str} : ∀ {l acc : List Str}, x ∈ l.foldl dd acc ↔ x ∈ acc ∨ x ∈ l
  | [], _ => by simp
  | t :: l, acc => by
    show x ∈ l.foldl dd (dd acc t) ↔ _
    rw [dd_mem, List.mem_cons]
    unfold dd
    split
    · rename_i h
      exact ⟨fun z => z.imp id .inr, fun z => z.elim .inl fun z => z.elim (fun e => .inl (e ▸ h)) .inr⟩
    · rw [List.mem_append, List.mem_singleton, or_assoc]
theorem so_mem {l : List Str} {x : Str} : x ∈ so l ↔ x ∈ l := by
  unfold so
  rw [List.mem_reverse, dd_mem]
  simp
def spBits (K : PySem.W.Frag) : Sp := fun vs H Q _ => ∃ (L : Addr) (ys : List V) (os : List (List Str)), vs = [.ref L] ∧ H L = some (.lst ys) ∧ TupA H ys os ∧ os.flatten.length ≤ 1000 ∧
  ∀ (D : Addr) (kvs : List (Key × V)) (ts : List Str) (H' : Hp), Same H H' → H' D = some (.dK kvs) → (∀ o ∈ os, ∀ t ∈ o, t ∈ ts) → (∀ t ∈ ts, valV kvs (.inr t) = some (.int (bitOf ts t : Nat))) → Q (.ref D) H'
section
variable {P : Program} {w : World} {K : PySem.W.Frag} {mg : Str → Option Value} {base : Heap}
abbrev btN : List Str := ["sets", "tokens", "each", "token", "at"]
theorem scBits : FnScope btN ["sets"] (defScope sBits) := ⟨rfl, rfl, rfl, by decide +kernel, rfl, by decide +kernel, by decide +kernel⟩
theorem ok_bits {f : Addr} {fd : FuncData} (F : Fun K "_bits_of" "_bits_of" sBits f fd) (srt : mg "sorted" = none) (en : mg "enumerate" = none) : FnOk P w K mg base CX0 1 f fd ["sets"] (spBits K) := by
  refine F.ok scBits (fun vs H Q E h => ?_) (fun cdv A outer s H vs Q E hr h => ?_)
  · obtain ⟨L, ys, os, rfl, _⟩ := h
    rfl
  · obtain ⟨L, ys, os, rfl, hL, tu, fl, k⟩ := h
    refine ⟨_, pss_cons (ps_set (i := 1) scBits.nd rfl (Or.inl rfl) (pe_callB (Sx.cr_sortS rfl (u64 hr)) (by rfl) srt (by rfl) (pa_cons
        (Sx.pe_sc2 (own := [("each", 2), ("token", 3)]) (vs1 := [3]) (g := gName 2) (g1 := gName 3) rfl scBits.nd (pi_list (pv 0)) (blkOk_by (N := btN) (sc := defScope sBits) (by decide +kernel)) (by decide)
          (fun _ _ _ _ _ => pg_name (i := 2) scBits.nd rfl (Or.inl rfl)) (fun _ _ _ _ _ => show PI _ _ _ (iTup K (tVar 2)) from pi_tup (pv 2))
          (fun _ _ _ _ _ => pg_name (i := 3) scBits.nd rfl (Or.inl rfl)) (fun _ _ _ _ _ => pv 3)) pa_nil)))
      (pss_one (ps_ret (pe_dc (own := [("at", 4), ("token", 3)]) (g := gSeq K 2 (gCons (gName 4) (gCons (gName 3) gNil))) (tt := tYes) rfl scBits.nd (pi_enum (by rfl) en (pa_cons (pv 1) pa_nil)) (blkOk_by (N := btN) (sc := defScope sBits) (by decide +kernel))
          (fun _ _ _ _ _ => pg_seq rfl (pgs_cons (pg_name (i := 4) scBits.nd rfl (Or.inl rfl)) (pgs_cons (pg_name (i := 3) scBits.nd rfl (Or.inl rfl)) pgs_nil))) (fun _ _ _ _ _ => pts_nil)
          (fun _ _ _ _ _ => pv 3) (fun _ _ _ _ _ => pe_op op_oneShl pe_int (pv 4))))), ?_⟩
    refine ⟨_, rfl, L, rfl, ⟨_, SqL.of hL⟩, fun D nD => ?_⟩
    refine turns walk_list (fun i H2 => Same H H2 ∧ H2 D = some (Sx.SetSO w D (so (os.take i).flatten))) ⟨sm_new sm_refl nD, upd_same⟩ (fun i H2 _ ⟨s2, _⟩ => SqL.of (s2 _ _ hL)) ?_ ?_
    · rintro i x _ H2 hi ⟨s2, hD⟩ ⟨rfl, hx⟩
      obtain ⟨o, b, ho, rfl, hb⟩ := TupA.get tu hx
      refine ⟨rfl, ?_⟩
      refine ⟨_, rfl, b, rfl, ⟨_, SqT.of (s2 _ _ hb)⟩, ?_⟩
      refine turns walk_tup (fun j H3 => Same H H3 ∧ H3 D = some (Sx.SetSO w D (so ((os.take i).flatten ++ o.take j)))) ⟨s2, by simpa using hD⟩ (fun j H3 _ ⟨s3, _⟩ => SqT.of (s3 _ _ hb)) ?_ ?_
      · rintro j y _ H3 hj ⟨s3, hD3⟩ ⟨rfl, hy⟩
        rw [List.getElem?_map] at hy
        obtain ⟨t, ht, rfl⟩ := Option.map_eq_some_iff.mp hy
        have lim := so_le ((os.take i).flatten ++ o.take j)
        have lim2 := flat_part ho j
        rw [List.length_append] at lim
        refine ⟨rfl, _, rfl, t, _, rfl, hD3, (by show _ < 4096; omega), sm_new s3 nD, ?_⟩
        rw [upd_same, so_snoc, List.take_succ, ht, List.append_assoc]
        rfl
      · rintro H3 ⟨s3, hD3⟩
        rw [List.length_map, List.take_length, ← flat_snoc ho] at hD3
        exact ⟨s3, hD3⟩
    · rintro H2 ⟨s2, hD⟩
      rw [tu.len, List.take_length] at hD
      have lim := so_le os.flatten
      refine ⟨D, _, rfl, hD, by omega, fun ks l pk nl => ?_⟩
      have pts : (Sx.srtT ks).Perm (so os.flatten) := (List.mergeSort_perm ..).trans pk
      have nd : (Sx.srtT ks).Nodup := pts.nodup_iff.mpr (so_nd _)
      have mem : ∀ o ∈ os, ∀ t ∈ o, t ∈ Sx.srtT ks := fun o ho t ht => pts.mem_iff.mpr (so_mem.mpr (List.mem_flatten.mpr ⟨o, ho, ht⟩))
      have tl : (Sx.srtT ks).length ≤ 1000 := by rw [pts.length_eq]; omega
      generalize Sx.srtT ks = ts at nd mem tl ⊢
      have s3 : Same H (upd H2 l (.lst (ts.map V.str))) := s2.trans (sm_new sm_refl nl)
      have hl : upd H2 l (.lst (ts.map V.str)) l = some (.lst (ts.map V.str)) := upd_same
      generalize upd H2 l (.lst (ts.map V.str)) = H3 at s3 hl ⊢
      refine ⟨_, rfl, l, _, rfl, SqL.of hl, fun B nB => ?_⟩
      refine dc_it walk_enum (fun i H4 => Same H3 H4 ∧ ∃ kvs, H4 B = some (.dK kvs) ∧ kvs.length ≤ i ∧ ∀ t ∈ ts.take i, valV kvs (.inr t) = some (.int (bitOf ts t : Nat))) ⟨sm_new sm_refl nB, [], upd_same, Nat.le_refl _, fun t ht => by rw [List.take_zero] at ht; exact nomatch ht⟩ (fun i H4 _ ⟨s4, _⟩ => SqL.of (s4 _ _ hl)) ?_ ?_
      · rintro i x H4 H5 hi ⟨s4, kvs, hB, kl, kv⟩ ⟨U, u, y, rfl, nU, rfl, hu, hy⟩
        cases hu
        have hy : (ts.map V.str)[i]? = some y := hy
        rw [List.getElem?_map] at hy
        obtain ⟨t, ht, rfl⟩ := Option.map_eq_some_iff.mp hy
        have sU : Same H4 (upd H4 U (.tup [.int (i : Int), .str t])) := sm_new sm_refl nU
        have hU : SqT K (upd H4 U (.tup [.int (i : Int), .str t])) U [.int (i : Int), .str t] := SqT.of upd_same
        generalize upd H4 U (.tup [.int (i : Int), .str t]) = H5 at sU hU ⊢
        rw [List.length_map] at hi
        refine ⟨U, _, rfl, .inr hU, rfl, _, _, rfl, _, _, rfl, rfl, rfl, _, rfl, _, rfl, i, rfl, rfl, (by omega), kvs, .inr t, rfl, sU _ _ hB, by rw [sizeLine_eq]; omega, sm_new (s4.trans sU) nB, _, upd_same, ?_, fun z hz => ?_⟩
        · have := length_putK kvs (Sum.inr t) (.int (2 ^ i))
          omega
        · rw [valV_put]
          by_cases e : z = t
          · subst e
            rw [if_pos rfl, pow_up]
            unfold bitOf
            rw [ixT_is nd ht]
          · rw [if_neg (fun q => e (Sum.inr.inj q))]
            rw [List.take_succ, ht] at hz
            rcases List.mem_append.mp hz with h | h
            · exact kv z h
            · exact absurd (by simpa using h) e
      · rintro H4 ⟨s4, kvs, hB, kl, kv⟩
        rw [List.length_map, List.take_length] at kv
        exact k B kvs ts H4 (s3.trans s4) hB mem kv
end
end K26


set_option Elab.async false
set_option linter.all false
set_option maxRecDepth 100000
set_option maxHeartbeats 4000000
/-! sorted(xs, key=f), f a def of the program, its keys data that are alike -/
namespace Sk
open PySem PySem.Spec PyProof.Rows PySem.W L2 Nd
section
variable {X : Cx} {pins : List (Addr × Obj)} {σ : L2.St} {H : Hp} {s : Shared}
/-- two untracked objects of our own change, one of them is from now on known as a list -/
theorem track {h' : Heap} {tk : Nat} {a c : Addr} {ys : List V} {out : List Value} {n : Nat} (I : Inv X pins σ H s) (fa : FpOk X pins H a) (fc : FpOk X pins H c)
    (k : ∀ b o, b ≠ a → b ≠ c → s.heap.get? b = some o → h'.get? b = some o) (hz : ys.length ≤ sizeLine) (rv : Vals ys out)
    (at_ : h'.get? a = some { cls := .type "list", data := .seq out.toArray n }) : Inv X pins σ (upd H a (.lst ys)) { s with heap := h', toks := tk } := by
  have na := fa.1
  have nc := fc.1
  have nin : ∀ b, b ∉ [a, c] → b ≠ a ∧ b ≠ c := fun b hb => ⟨fun e => hb (by simp [e]), fun e => hb (by simp [e])⟩
  refine I.step (g' := s.gens) (d' := s.drawn) (ch := [a, c]) ?_ ?_ ?_ ?_ ?_ ?_ ?_ ?_ ?_ ?_ I.bare
  · intro b hb
    simp only [List.mem_cons, List.not_mem_nil, or_false] at hb
    rcases hb with rfl | rfl
    · exact ⟨fa.2.2.2.1, fa.2.1, fa.2.2.2.2.1, fa.2.2.2.2.2⟩
    · exact ⟨fc.2.2.2.1, fc.2.1, fc.2.2.2.2.1, fc.2.2.2.2.2⟩
  · exact fun b o _ _ hb e _ => k b o (nin b hb).1 (nin b hb).2 e
  · exact fun b o _ _ hb e _ => ⟨o.slots, k b o (nin b hb).1 (nin b hb).2 e⟩
  · exact fun b o hb _ q => by rw [upd_ne (nin b hb).1]; exact q
  · exact fun b o hb e => ⟨o, k b o (nin b hb).1 (nin b hb).2 e⟩
  · exact fun b xs q => by rw [upd_ne (ne_of_none q na)]; exact q
  · exact fun b o u q => by rw [upd_ne (ne_of_none q na)]; exact q
  · exact fun b ps q => ⟨#[], by rw [upd_ne (ne_of_none q na), q]; simp⟩
  · rintro m ⟨o, es, ep, ho, r⟩
    exact ⟨o, es, ep, k _ o (Ne.symm fa.2.1) (Ne.symm fc.2.1) ho, r⟩
  · intro b u e
    by_cases q : b = a
    · subst q
      rw [upd_same] at e
      cases e
      exact ⟨hz, out, n, rv, at_⟩
    · rw [upd_ne q] at e
      refine (I.hok b u e).stay (fun d v hd g => ?_) (fun d g => by rw [upd_ne (ne_of_none g na)]; exact g) fun d xs g => by rw [upd_ne (ne_of_none g na)]; exact g
      have ne : ∀ z, H z = none → d ≠ z := fun z hz' e2 => by
        subst e2
        rcases hd with rfl | hd
        · rw [hz'] at e; cases e
        · rw [hz'] at hd; cases hd
      exact k d v (ne a na) (ne c nc) g
theorem reads_each {ks : List V} {us : List Value} {ds : List PyData} (I : Inv X pins σ H s) (h : DpAll X.K H ks ds) (r : Vals ks us) : EachIs (fun v k => ∃ as, Reads s.heap v k as) us ds := by
  induction r generalizing ds with
  | nil => cases h; exact .nil
  | cons rv _ ih => cases h with
    | cons h1 h2 => exact .cons (Dp.reads I _ _ _ h1 rv) (ih h2)
theorem each_pairs : ∀ {xs : List V} {us : List Value} (ds : List PyData), Vals xs us → ds.length = xs.length → EachIs (fun (u : Value) (b : V × PyData) => RelV b.1 u) us (xs.zip ds)
  | _, _, [], .nil, _ => .nil
  | _, _, _ :: _, .nil, h => by cases h
  | _, _, [], .cons _ _, h => by cases h
  | _, _, d :: ds, .cons r t, h => .cons r (each_pairs ds t (Nat.succ.inj h))
theorem vals_each : ∀ {us : List Value} {bs : List (V × PyData)}, EachIs (fun (u : Value) (b : V × PyData) => RelV b.1 u) us bs → Vals (bs.map (·.1)) us
  | _, _, .nil => .nil
  | _, _, .cons r t => .cons r (vals_each t)
/-- what the sorting by keys gives -/
def sortBy (xs : List V) (ds : List PyData) : List V := ((xs.zip ds).mergeSort (PySem.W.dataLe false (·.2))).map (·.1)
theorem sortBy_len {xs : List V} {ds : List PyData} (h : ds.length = xs.length) : (sortBy xs ds).length = xs.length := by
  unfold sortBy
  rw [List.length_map, List.length_mergeSort, List.length_zip, h, Nat.min_self]
end
section
variable {X : Cx} {pins : List (Addr × Obj)} {σ : L2.St} {H : Hp} {s : Shared} {CX' : CXT} {k : Nat} {kf a : Addr} {fd : FuncData} {x0 : Str} {sp : Sp} {A : Around} {us : List Value} {xs : List V} {ds : List PyData}
/-- what is known of the state while the keys are made: j of them -/
structure Mid (X : Cx) (pins : List (Addr × Obj)) (σ : L2.St) (H : Hp) (a c : Addr) (e1 : Nat) (dj : List PyData) (H' : Hp) (s' : Shared) (kA : Array Value) (e : Nat) : Prop where
  inv : Inv X pins σ H' s'
  up : Same H H'
  fa : FpOk X pins H' a
  fc : FpOk X pins H' c
  at_ : s'.heap.get? a = some (seqObj "list" #[] e1)
  keys : s'.heap.get? c = some (seqObj "list" kA e)
  told : ∃ ks, Vals ks kA.toList ∧ DpAll X.K H' ks dj
theorem fpOn {H' : Hp} {b : Addr} (h : FpOk X pins H b) (n : H' b = none) : FpOk X pins H' b := ⟨n, h.2⟩
theorem dpl {K : PySem.W.Frag} : ∀ {ks : List V} {dj : List PyData}, DpAll K H ks dj → ks.length = dj.length
  | _, _, .nil => rfl
  | _, _, .cons _ b => congrArg (· + 1) (dpl b)
theorem dpAll_snoc {K : PySem.W.Frag} {v : V} {d : PyData} : ∀ {ks : List V} {dj : List PyData}, DpAll K H ks dj → Dp K H v d → DpAll K H (ks ++ [v]) (dj ++ [d])
  | _, _, .nil, h => .cons h .nil
  | _, _, .cons a b, h => .cons a (dpAll_snoc b h)
/-- the list's items by the keys that the def gives -/
theorem key_run {n : Nat} {P : PySem.Fin → Shared → Prop} {E' : Value → Shared → Prop} (I : Inv X pins σ H s) (hfr : A.frames = some X.stack) (F : FnOk X.prog X.w X.K X.mg X.base CX0 k kf fd [x0] sp) (hr : Room k A) (hb : Binds X.K fd [x0] [])
    (ho : s.heap.get? a = some (seqObj "list" us.toArray n)) (fa : FpOk X pins H a) (rv : Vals xs us) (hlen : ds.length = xs.length) (hz : xs.length ≤ sizeLine) (hal : AllAlike ds) (hsk : Sortable ds) (hu : ∀ d ∈ ds, A.units + d.depth < cLine)
    (turn : ∀ (i : Nat) x d, xs[i]? = some x → ds[i]? = some d → ∀ H', Same H H' → sp [x] H' (fun v H'' => Same H' H'' ∧ Dp X.K H'' v d) E0)
    (done : ∀ s' H', Same H H' → H' a = none → Inv X pins σ (upd H' a (.lst (sortBy xs ds))) s' → P (.done (.ret .none)) s') :
    wpAny (model X.prog X.w) A (ksk_tree a (.ref kf) false) P E' s := by
  have ul : us.length = xs.length := rv.length.symm
  have hz' : us.length ≤ sizeLine := by omega
  have al : a < s.heap.objs.size := Heap.lt_size ho
  have kept := Heap.SameBut.update s.heap a (Obj.mapSeq fun _ => (#[] : Array Value))
  obtain ⟨e1, ho1⟩ : ∃ e1, (s.heap.update a (Obj.mapSeq fun _ => (#[] : Array Value))).get? a = some (seqObj "list" #[] e1) := ⟨_, get?_update_seq ho _⟩
  have sz1 : (s.heap.update a (Obj.mapSeq fun _ => (#[] : Array Value))).objs.size = s.heap.objs.size := Heap.size_update ..
  unfold ksk_tree
  refine wpAny_bind (listItems_at ho rfl (wpAny_bind (listUpdate_at ho rfl ?_ (by rw [List.size_toArray]; omega) (Nat.zero_le _))))
  generalize s.heap.update a (Obj.mapSeq fun _ => (#[] : Array Value)) = g1 at kept ho1 sz1 ⊢
  refine wpAny_bind (seqEpoch_at ho1 rfl (wpAny_bind (wpAny_newTuple (wpAny_bind (wpAny_newList (wpAny_holding ?_) (Nat.zero_le _))) hz')))
  have c_ : (g1.push (seqObj "tuple" us.toArray 0)).objs.size = s.heap.objs.size + 1 := by rw [size_push', sz1]
  have up2 : ∀ b o, g1.get? b = some o → ((g1.push (seqObj "tuple" us.toArray 0)).push (seqObj "list" #[] 0)).get? b = some o := fun b o q => Heap.get?_push_of_some _ (Heap.get?_push_of_some _ q)
  have atc : ((g1.push (seqObj "tuple" us.toArray 0)).push (seqObj "list" #[] 0)).get? (g1.push (seqObj "tuple" us.toArray 0)).objs.size = some (seqObj "list" #[] 0) := Heap.get?_push_size _ rfl
  have sz3 : s.heap.objs.size ≤ (g1.push (seqObj "tuple" us.toArray 0)).objs.size := by omega
  generalize hc : (g1.push (seqObj "tuple" us.toArray 0)).objs.size = c at c_ atc sz3
  generalize hg : (g1.push (seqObj "tuple" us.toArray 0)).push (seqObj "list" #[] 0) = g3 at up2 atc
  have I3 : Inv X pins σ H { s with heap := g3 } := I.turnedL (ch := [a]) (t' := s.toks) (fun b o nb q => up2 b o ((kept.2 b fun e => nb (by simp [e])).trans q)) fun b hb => by rw [List.mem_singleton.mp hb]; exact fa
  have fc : FpOk X pins H c := I.fpOk sz3 (I.hok.fresh sz3)
  have ca : c ≠ a := Nat.ne_of_gt (by rw [c_]; exact Nat.lt_succ_of_lt al)
  show wpAny (model X.prog X.w) A (ksk_rest a (.ref kf) false us.toArray e1 (.ref _)) P E' { s with heap := _ }
  clear hc hg
  unfold ksk_rest
  refine wpAny_bind (wpAny_rule ?_)
  rw [← Array.forIn_toList]
  refine wpAny_bind (ksk_fold (fun j s' => ∃ H' kA e, Mid X pins σ H a c e1 (ds.take j) H' s' kA e) us 0 _ ⟨H, #[], 0, I3, fun _ _ q => q, fa, fc, up2 _ _ ho1, atc, [], .nil, by rw [List.take_zero]; exact .nil⟩ ?_ ?_)
  · rintro j u s' hj ⟨H', kA, e, M⟩
    rw [Nat.zero_add] at M ⊢
    have jl : j < us.length := (List.getElem?_eq_some_iff.mp hj).1
    obtain ⟨d, hd⟩ : ∃ d, ds[j]? = some d := ⟨_, List.getElem?_eq_getElem (by omega)⟩
    obtain ⟨x, hx⟩ : ∃ x, xs[j]? = some x := ⟨_, List.getElem?_eq_getElem (by omega)⟩
    obtain ⟨u', hu', rx⟩ := rv.get hx
    rw [hj] at hu'
    cases hu'
    have run : wpAny (model X.prog X.w) A (call (.ref kf) [u]) (fun v s'' => CE X.stack X.prog X.w H' s' (fun v H'' => Same H' H'' ∧ Dp X.K H'' v d) v s'') (fun _ _ => False) s' := by
      refine wpAny_call (codeAny_mono (F.run A X.stack s' H' ⟨[u], []⟩ [u] [x] _ E0 hr { M.inv.env0 with frames := hfr } (hb s' [u] M.inv.kIn rfl) (.cons rx .nil) (turn j x d hx hd H' M.up)) fun r s'' hq => ?_)
      cases r with
      | error _ => exact hq.elim
      | ok fl => cases fl with
        | ret _ => exact hq
        | next => exact hq.elim
        | brk => exact hq.elim
        | cont => exact hq.elim
    refine wpAny_bind (wpAny_attempt (wpAny_mono run (fun kv s2 he => ?_) fun _ _ z => z.elim))
    obtain ⟨vk, H2, os, bare, un, hok, rk, s2H, dk⟩ := he
    have off : ∀ b, FpOk X pins H' b → b ∉ frs X.stack := fun b fb hm => by
      rcases List.mem_cons.mp (M.inv.stkSub b hm) with z | z
      · exact fb.2.1 z
      · exact fb.2.2.1 z
    have at2 := un.keep _ _ M.at_ M.fa.1 (off _ M.fa) (by simp)
    have ky2 := un.keep _ _ M.keys M.fc.1 (off _ M.fc) (by simp)
    have na2 := un.free _ _ M.at_ M.fa.1 (by simp)
    have nc2 := un.free _ _ M.keys M.fc.1 (by simp)
    obtain ⟨g, gn, dr, tk, os'⟩ := s2
    obtain rfl : os' = s'.os := os
    have I2 : Inv X pins σ H2 ⟨g, gn, dr, tk, s'.os⟩ := M.inv.call (h' := g) (g' := gn) (d' := dr) (t' := tk) (ch := []) un hok bare (fun b z => absurd z (by simp))
    obtain ⟨ks, rks, dks⟩ := M.told
    have kl : kA.size ≤ us.length := by
      have e1 := rks.length
      have e2 := dpl dks
      rw [List.length_take] at e2
      have e3 : kA.toList.length = kA.size := Array.length_toList
      omega
    have kept2 := Heap.SameBut.update g c (Obj.mapSeq (·.push kv))
    obtain ⟨e2, he2⟩ : ∃ e2, (g.update c (Obj.mapSeq (·.push kv))).get? c = some (seqObj "list" (kA.push kv) e2) := ⟨_, get?_update_seq ky2 (·.push kv)⟩
    refine wpAny_bind (listUpdate_at ky2 rfl (wpAny_pure ⟨rfl, H2, kA.push kv, e2, ?_, M.up.trans s2H, fpOn M.fa na2, fpOn M.fc nc2, (kept2.2 a (Ne.symm ca)).trans at2, he2, ks ++ [vk], ?_, ?_⟩) (by omega) (by rw [Array.size_push]; omega))
    · exact I2.turnedL (ch := [c]) (t' := tk) (fun b o nb q => (kept2.2 b fun e => nb (by simp [e])).trans q) fun b hb' => by rw [List.mem_singleton.mp hb']; exact fpOn M.fc nc2
    · rw [Array.toList_push]
      exact rks.append (.cons rk .nil)
    · rw [List.take_succ, hd]
      exact dpAll_snoc (dpAll_same s2H dks) dk
  · rintro s' ⟨H', kA, e, M⟩
    rw [Nat.zero_add, List.take_of_length_le (by omega)] at M
    obtain ⟨ks, rks, dks⟩ := M.told
    have rd := reads_each M.inv dks rks
    have kl : kA.size = us.length := by
      have e1 := rks.length
      have e2 := dpl dks
      have e3 : kA.toList.length = kA.size := Array.length_toList
      omega
    obtain ⟨h1, r1, r2⟩ := L2.restrict s'.heap fun b => decide (b ≠ c)
    have kp : KeepsBut a h1 s'.heap := fun b o _ q => by
      by_cases e : b = c
      · rw [r2 b (by simp [e])] at q; cases q
      · rw [← r1 b (by simp [e])]; exact q
    have bs : (xs.zip ds).map (·.2) = ds := List.map_snd_zip (by omega)
    refine wpAny_bind (listItems_at M.keys rfl ?_)
    refine keyH_end (κ := dataKind s'.heap ds) kp (r2 c (by simp)) M.keys M.at_ ca (SortsAt.data rd hal hsk hu) kl hz' fun h3 tk3 n3 k3 at3 => ?_
    have ko : KeyedOut false ((xs.zip ds).map (·.2)) us (sortVals (dataKind s'.heap ds) false kA.toList us) := by
      rw [bs]
      exact ⟨s'.heap, kA.toList, hal, rfl, rd⟩
    have out := vals_each (keyedOut_each (·.2) ko (each_pairs ds rv hlen))
    refine done _ H' M.up M.fa.1 (track M.inv M.fa M.fc (fun b o na nc q => k3 b o na ((r1 b (by simp [nc])).trans q)) ?_ out at3)
    show (sortBy xs ds).length ≤ sizeLine
    rw [sortBy_len hlen]; exact hz
end
end Sk


set_option Elab.async false
set_option linter.all false
set_option maxRecDepth 100000
set_option maxHeartbeats 4000000
/-! sorted(d, key=f) of a dict whose keys are tuples; sorted(xs, key=f) of a list -/
namespace Sk
open PySem PySem.Spec PyProof.Rows PySem.W L2 Nd
section
variable {X : Cx} {k : Nat} {kf : Addr} {fd : FuncData} {x0 : Str} {sp : Sp}
/-- what is asked of the keys: ds, data that are alike, each what the def gives of its item -/
structure Keyed' (X : Cx) (sp : Sp) (H : Hp) (xs : List V) (ds : List PyData) : Prop where
  len : ds.length = xs.length
  alike : AllAlike ds
  srt : Sortable ds
  dep : ∀ d ∈ ds, d.depth ≤ 50
  turn : ∀ (i : Nat) x d, xs[i]? = some x → ds[i]? = some d → ∀ H', Same H H' → sp [x] H' (fun v H'' => Same H' H'' ∧ Dp X.K H'' v d) E0
/-- a list of our own, untracked, is sorted in place and is from then on known -/
theorem own_sort {pins : List (Addr × Obj)} {σ : L2.St} {H : Hp} {s : Shared} {us : List Value} {xs : List V} {ds : List PyData} {Q : VK} {E' : Value → Shared → Prop} (I : Inv X pins σ H s) (F : FnOk X.prog X.w X.K X.mg X.base CX0 k kf fd [x0] sp) (hr : Room (k + 2) X.A) (hb : Binds X.K fd [x0] [])
    (rv : Vals xs us) (hz : xs.length ≤ sizeLine) (kd : Keyed' X sp H xs ds) (done : ∀ p H', Same H H' → H' p = none → Q (.ref p) (upd H' p (.lst (sortBy xs ds)))) :
    wpAny (model X.prog X.w) X.A.in1.in1 (ksk_tree s.heap.objs.size (.ref kf) false) (fun f s' => f = .done (.ret .none) ∧ EP X pins σ Q (.ref s.heap.objs.size) s') E' { s with heap := s.heap.push (seqObj "list" us.toArray 0) } := by
  have fr := I.hok.fresh (Nat.le_refl s.heap.objs.size)
  have I2 : Inv X pins σ H { s with heap := s.heap.push (seqObj "list" us.toArray 0) } := I.turnedL (ch := []) (t' := s.toks) (fun b o _ q => Heap.get?_push_of_some _ q) fun b hb => nomatch hb
  have fa : FpOk X pins H s.heap.objs.size := I.fpOk (Nat.le_refl _) fr
  refine key_run (A := X.A.in1.in1) I2 I.ok.frames F hr.in1.in1 hb (Heap.get?_push_size _ rfl) fa rv kd.len hz kd.alike kd.srt (fun d hd => ?_) kd.turn fun s' H' up na J => ⟨rfl, .ref s.heap.objs.size, _, J, rfl, done _ H' up na⟩
  have h1 := hr.un
  have h2 := kd.dep d hd
  show X.A.units + 2 + d.depth < cLine
  omega
theorem cr_sortKeyD (hc : X.calm = true) (F : FnOk X.prog X.w X.K X.mg X.base CX0 k kf fd [x0] sp) (hr : Room (k + 2) X.A) (hb : Binds X.K fd [x0] []) : CallRK X (.builtin "sorted") [Str.ofString "key"]
    (fun vs zs H Q => ∃ (d : Addr) (kvs : List (List Key × V)) (ds : List PyData), vs = [.ref d] ∧ zs = [.ref kf] ∧ Rd H d (.dT kvs) ∧ ∀ bs, IsKeys H kvs bs → Keyed' X sp H (bs.map V.ref) ds ∧ ∀ p H', Same H H' → H' p = none → Q (.ref p) (upd H' p (.lst (sortBy (bs.map V.ref) ds)))) := by
  intro pins s σ H vs zs us ws Q I rv rz h
  obtain ⟨d, kvs, ds, rfl, rfl, hd, h⟩ := h
  obtain ⟨u, rfl, rx⟩ := vals1 rv
  cases rx
  obtain ⟨u2, rfl, ry⟩ := vals1 rz
  cases ry
  obtain ⟨z, hs, ks, pr, o, es, ep, ho, hx, hdt, he, hn⟩ := (show ObjOk X.prog X.w H s.heap d (.dT kvs) from hd.ok I.hok)
  have l1 : es.size = ks.length := size_of_entries he
  have l2 : kvs.length = ks.length := Paired.length pr
  obtain ⟨kd, done⟩ := h _ (isKeys_of pr)
  refine call_function_entry_kw kind_sorted plain_sorted entry_sorted (ksk_s1 _ _) ?_
  unfold Builtin.«sorted»
  refine wpAny_bind (m := checkCount "sorted" 1 1 _) (wpAny_pure (wpAny_bind (kdu_collect (A := X.A.in1) (kdl_raw hs hx hdt) (I.ok.hd hc) ho (by omega) fun h' tk acc kp it => ?_)))
  have ea : acc.toList = ks.map fun x => Value.ref x.2.1 := by
    refine List.ext_getElem (by rw [Array.length_toList, it.1, List.length_map]; exact l1) fun j h1 h2 => ?_
    obtain ⟨en, hen, hv⟩ := it.2 j _ (by rw [← Array.getElem?_toList]; exact List.getElem?_eq_getElem h1)
    rw [hv, List.getElem_map]
    have qe := entry_at he j
    rw [hen, List.getElem?_eq_getElem (by rw [List.length_map] at h2; exact h2)] at qe
    rw [Option.some.inj qe]
    rfl
  have I2 : Inv X pins σ H { s with heap := h', toks := tk } := I.turnedL (ch := []) (t' := tk) (fun b o _ q => kp b o q) fun b hb => nomatch hb
  have rvs : Vals ((ks.map fun x => x.2.1).map V.ref) acc.toList := by
    rw [ea, show (ks.map fun x => Value.ref x.2.1) = (ks.map fun x => x.2.1).map Value.ref by rw [List.map_map]; rfl]
    exact vals_refs _
  have sz : ((ks.map fun x => x.2.1).map V.ref).length ≤ sizeLine := by rw [List.length_map, List.length_map]; omega
  refine wpAny_bind (wpAny_newList (wpAny_bind (wpAny_holding (wpAny_call_entry_kw slot_list_sort ⟨_, Heap.get?_push_size _ rfl, rfl⟩ entry_list_sort ?_ (ksk_l1 _ _)))) (by rw [← rvs.length]; exact sz))
  show wpAny (model X.prog X.w) X.A.in1.in1 (Builtin.«list.sort» ⟨[.ref h'.objs.size], [(Str.ofString "key", .ref kf)]⟩) _ _ _
  rw [ksk_t1]
  refine wpAny_mono (own_sort (s := { s with heap := h', toks := tk }) (us := acc.toList) (Q := Q) I2 F hr hb rvs sz kd done) (fun f s2 hq => ?_) fun _ _ z => z
  obtain ⟨rfl, hq⟩ := hq
  exact ⟨_, rfl, wpAny_pure ⟨_, rfl, hq⟩⟩
theorem cr_sortKeyL (F : FnOk X.prog X.w X.K X.mg X.base CX0 k kf fd [x0] sp) (hr : Room (k + 2) X.A) (hb : Binds X.K fd [x0] []) : CallRK X (.builtin "sorted") [Str.ofString "key"]
    (fun vs zs H Q => ∃ (a : Addr) (xs : List V) (ds : List PyData), vs = [.ref a] ∧ zs = [.ref kf] ∧ SqL X.K H a xs ∧ Keyed' X sp H xs ds ∧ ∀ p H', Same H H' → H' p = none → Q (.ref p) (upd H' p (.lst (sortBy xs ds)))) := by
  intro pins s σ H vs zs us ws Q I rv rz h
  obtain ⟨a, xs, ds, rfl, rfl, hs, kd, done⟩ := h
  obtain ⟨u, rfl, rx⟩ := vals1 rv
  cases rx
  obtain ⟨u2, rfl, ry⟩ := vals1 rz
  cases ry
  obtain ⟨its, rvs, hl, hz⟩ := I.list hs
  refine sorted_of_sort hl.isList (by rw [← rvs.length]; exact hz) (ksk_s1 _ _) (fun _ => ksk_l1 _ _) fun E' => ?_
  rw [show ([Str.ofString "key"].zip [Value.ref kf]) = [(Str.ofString "key", Value.ref kf)] from rfl, ksk_t1]
  have fr : H (s.heap.objs.size + 1) = none := I.hok.fresh (Nat.le_succ _)
  have I2 : Inv X pins σ H { s with heap := copyHeap s.heap its } := I.turnedL (ch := []) (t' := s.toks) (fun b o _ q => copyHeap_old q) fun b hb => nomatch hb
  have fa : FpOk X pins H (s.heap.objs.size + 1) := I.fpOk (Nat.le_succ _) fr
  refine key_run (A := X.A.in1.in1) I2 I.ok.frames F hr.in1.in1 hb (copyHeap_at s.heap its) fa rvs kd.len hz kd.alike kd.srt (fun d hd => ?_) kd.turn fun s' H' up na J => ⟨rfl, .ref (s.heap.objs.size + 1), _, J, rfl, done _ H' up na⟩
  have h1 := hr.un
  have h2 := kd.dep d hd
  show X.A.units + 2 + d.depth < cLine
  omega
end
end Sk


set_option Elab.async false
set_option linter.all false
set_option maxRecDepth 100000
set_option maxHeartbeats 8000000
/-! a dict of sets, its keys sorted by size and then as they stand -/
namespace K26
open PySem L2 Nd Bk Gd
def lenK (o : List Str) : Int × List Str := ((o.length : Int), o)
theorem lenK_inj {a b : List Str} (h : lenK a = lenK b) : a = b := congrArg Prod.snd h
/-- the dict that has these sets as its keys -/
def dks (ks : List (List Str)) : List (List Key × V) := ks.map fun o => (o.map Sum.inr, V.bl true)
def addS (ks : List (List Str)) (o : List Str) : List (List Str) := if o ∈ ks then ks else ks ++ [o]
theorem any_dks {ks : List (List Str)} {o : List Str} : ((dks ks).any fun kv => decide (kv.1 = o.map Sum.inr)) = decide (o ∈ ks) := by
  rw [Bool.eq_iff_iff, List.any_eq_true, decide_eq_true_eq]
  constructor
  · rintro ⟨kv, h, e⟩
    obtain ⟨x, hx, rfl⟩ := List.mem_map.mp h
    rw [← inr_inj (of_decide_eq_true e)]
    exact hx
  · exact fun h => ⟨_, List.mem_map.mpr ⟨o, h, rfl⟩, decide_eq_true rfl⟩
theorem put_dks (ks : List (List Str)) (o : List Str) : putK (dks ks) (o.map Sum.inr) (.bl true) = dks (addS ks o) := by
  unfold putK addS
  rw [any_dks]
  by_cases h : o ∈ ks
  · rw [if_pos (decide_eq_true h), if_pos h]
    unfold dks
    rw [List.map_map]
    refine List.map_congr_left fun x _ => ?_
    show (if x.map Sum.inr = o.map Sum.inr then _ else _) = _
    split <;> rfl
  · rw [if_neg (by rw [decide_eq_false h]; exact Bool.false_ne_true), if_neg h]
    unfold dks
    rw [List.map_append]
    rfl
theorem addS_nd {ks : List (List Str)} {o : List Str} (h : ks.Nodup) : (addS ks o).Nodup := by
  unfold addS
  split
  · exact h
  · rename_i n
    exact List.nodup_append.mpr ⟨h, List.pairwise_singleton _ _, fun a ha b hb e => n (by rw [← List.mem_singleton.mp hb, ← e]; exact ha)⟩
theorem addS_mem {ks : List (List Str)} {o x : List Str} : x ∈ addS ks o ↔ x ∈ ks ∨ x = o := by
  unfold addS
  split
  · rename_i h
    exact ⟨.inl, fun z => z.elim id fun e => e ▸ h⟩
  · rw [List.mem_append, List.mem_singleton]
theorem addS_len {ks : List (List Str)} {o : List Str} : (addS ks o).length ≤ ks.length + 1 := by
  unfold addS
  split
  · omega
  · rw [List.length_append]; exact Nat.le_refl _
section
variable {κ : Type} [DecidableEq κ] [Ky κ]
theorem ascK_extG {l m : List κ} (h1 : AscK l) (h2 : AscK m) (h : ∀ k, k ∈ l ↔ k ∈ m) : l = m := by
  have e : (l.map fun k => (k, (0 : Int))) = m.map fun k => (k, (0 : Int)) := by
    refine asc_ext (by unfold Asc; rw [List.pairwise_map]; exact h1) (by unfold Asc; rw [List.pairwise_map]; exact h2) fun p => ?_
    simp only [List.mem_map (f := fun k : κ => (k, (0 : Int)))]
    exact ⟨fun ⟨k, hk, q⟩ => ⟨k, (h k).mp hk, q⟩, fun ⟨k, hk, q⟩ => ⟨k, (h k).mpr hk, q⟩⟩
  have inv : ∀ l : List κ, (l.map fun k => (k, (0 : Int))).map (·.1) = l := fun l => by
    induction l with
    | nil => rfl
    | cons x r ih => rw [List.map_cons, List.map_cons, ih]
  have := congrArg (List.map (·.1)) e
  rwa [inv, inv] at this
theorem merge_up {ks : List κ} (nd : ks.Nodup) : ks.mergeSort (PySem.W.dataLe false Ky.enc) = sortU ks := by
  have le : PySem.W.dataLe false (Ky.enc (κ := κ)) = fun a b : κ => !lt b a := rfl
  rw [le]
  have tr : ∀ a b c : κ, (!lt b a) = true → (!lt c b) = true → (!lt c a) = true := fun a b c x y => by
    rw [Bool.not_eq_true'] at x y ⊢
    cases q : lt c a with
    | false => rfl
    | true =>
      cases z : lt a b with
      | true => rw [lt_trans q z] at y; exact absurd y (by decide)
      | false => rw [lt_total z x] at q; rw [q] at y; exact absurd y (by decide)
  have tot : ∀ a b : κ, ((!lt b a) || (!lt a b)) = true := fun a b => by
    cases q : lt b a with
    | false => rfl
    | true => rw [lt_asymm q]; rfl
  have p : (ks.mergeSort fun a b => !lt b a).Perm ks := List.mergeSort_perm ..
  have s : (ks.mergeSort fun a b => !lt b a).Pairwise fun a b => (!lt b a) = true := List.pairwise_mergeSort tr tot ks
  refine ascK_extG ?_ (sortU_asc ks) fun k => by rw [p.mem_iff, sortU_mem]
  refine List.Pairwise.imp (fun {a b} ⟨x, y⟩ => ?_) (List.Pairwise.and s (p.nodup_iff.mpr nd))
  cases q : lt a b with
  | true => rfl
  | false => exact absurd (lt_total q (by simpa using x)) y
theorem sortU_ext {l m : List κ} (h : ∀ k, k ∈ l ↔ k ∈ m) : sortU l = sortU m := ascK_extG (sortU_asc l) (sortU_asc m) fun k => by rw [sortU_mem, sortU_mem, h]
end
theorem tupA_of {H : Hp} : ∀ (l : List (Addr × List Str)), (∀ p ∈ l, H p.1 = some (.tup (p.2.map V.str))) → TupA H (l.map fun p => V.ref p.1) (l.map (·.2))
  | [], _ => .nil
  | p :: l, h => .cons ⟨p.1, rfl, h p List.mem_cons_self⟩ (tupA_of l fun q hq => h q (List.mem_cons_of_mem _ hq))
theorem keys_at {H : Hp} : ∀ {ks : List (List Str)} {bs : List Addr}, IsKeys H (dks ks) bs → bs.length = ks.length ∧ ∀ p ∈ bs.zip ks, H p.1 = some (.tup (p.2.map V.str))
  | [], [], _ => ⟨rfl, fun p h => by simp at h⟩
  | [], _ :: _, h => by cases h
  | _ :: _, [], h => by cases h
  | o :: ks, b :: bs, h => by
    have h : Paired (fun p b => H b = some (.tup (p.1.map kV))) ((o.map Sum.inr, V.bl true) :: dks ks) (b :: bs) := h
    cases h with
    | cons a t =>
      obtain ⟨e, r⟩ := keys_at (ks := ks) (bs := bs) t
      refine ⟨congrArg (· + 1) e, fun p hp => ?_⟩
      rw [List.zip_cons_cons] at hp
      rcases List.mem_cons.mp hp with q | q
      · subst q
        have a : H b = some (.tup ((o.map Sum.inr).map kV)) := a
        rw [List.map_map] at a
        exact a
      · exact r p q
/-- the keys by size and then as they stand -/
theorem sort_keys {H : Hp} {ks : List (List Str)} {bs : List Addr} (nd : ks.Nodup) (h : IsKeys H (dks ks) bs) : TupA H (Sk.sortBy (bs.map V.ref) (ks.map fun o => lsD (lenK o))) ((sortU (ks.map lenK)).map (·.2)) := by
  obtain ⟨len, at_⟩ := keys_at h
  let r : Addr × List Str → Addr × List Str → Bool := fun a b => PySem.W.dataLe false Ky.enc (lenK a.2) (lenK b.2)
  have e1 : Sk.sortBy (bs.map V.ref) (ks.map fun o => lsD (lenK o)) = ((bs.zip ks).mergeSort r).map fun p => V.ref p.1 := by
    unfold Sk.sortBy
    rw [List.zip_map, ← List.map_mergeSort (r := r) (s := PySem.W.dataLe false fun x => x.snd) (f := Prod.map V.ref fun o => lsD (lenK o)) (l := bs.zip ks) (fun a _ b _ => rfl), List.map_map]
    rfl
  have z : (bs.zip ks).map (fun x => lenK x.2) = ks.map lenK := by
    rw [show (fun x : Addr × List Str => lenK x.2) = lenK ∘ Prod.snd from rfl, ← List.map_map, List.map_snd_zip (by omega)]
  have e2 : ((bs.zip ks).mergeSort r).map (fun x => lenK x.2) = sortU (ks.map lenK) := by
    rw [List.map_mergeSort (s := PySem.W.dataLe false Ky.enc) (fun a _ b _ => rfl), z, merge_up]
    rw [List.Nodup, List.pairwise_map]
    exact List.Pairwise.imp (fun n e => n (lenK_inj e)) nd
  rw [e1, ← e2, List.map_map]
  refine tupA_of _ fun p hp => at_ p ((List.mergeSort_perm ..).mem_iff.mp hp)
end K26


set_option Elab.async false
set_option linter.all false
set_option maxRecDepth 100000
set_option maxHeartbeats 8000000
/-! _least_sets -/
namespace K26
open PySem L2 Nd Bk Gd
def szs (os : List (List Str)) : List (List Str) := (sortU (os.map lenK)).map (·.2)
/-- the least of these sets, by size and then as they stand -/
def leastOf (os : List (List Str)) : List (List Str) := least (fun _ => true) (szs os)
theorem szs_mem {os : List (List Str)} {o : List Str} (h : o ∈ szs os) : o ∈ os := by
  obtain ⟨p, hp, rfl⟩ := List.mem_map.mp h
  obtain ⟨x, hx, rfl⟩ := List.mem_map.mp (sortU_mem.mp hp)
  exact hx
theorem byM_least (p : Poly) : byM p = leastOf (p.map tsOf) := by
  unfold byM leastOf szs sized
  rw [List.map_map]
  rfl
def spLSets (K : PySem.W.Frag) : Sp := fun vs H Q _ => ∃ (L : Addr) (ys : List V) (os : List (List Str)), vs = [.ref L] ∧ H L = some (.lst ys) ∧ TupA H ys os ∧ os.flatten.length ≤ 1000 ∧ os.length ≤ 1000 ∧ (∀ o ∈ os, o.Nodup) ∧
  ∀ (v : V) (H' : Hp), Same H H' → Dp K H' v (.tuple ((leastOf os).map sD)) → Q v H'
theorem in_flat {os : List (List Str)} {o : List Str} (h : o ∈ os) : o.length ≤ os.flatten.length := by
  induction os with
  | nil => exact nomatch h
  | cons x r ih =>
    rw [List.flatten_cons, List.length_append]
    rcases List.mem_cons.mp h with e | e
    · rw [e]; omega
    · have := ih e; omega
theorem same_kvs {ks l : List (List Str)} (h : ∀ o, o ∈ ks ↔ o ∈ l) : sortU (ks.map lenK) = sortU (l.map lenK) := sortU_ext fun k => by
  rw [List.mem_map, List.mem_map]
  exact ⟨fun ⟨a, b, c⟩ => ⟨a, (h a).mp b, c⟩, fun ⟨a, b, c⟩ => ⟨a, (h a).mpr b, c⟩⟩
theorem and_up (a b : Nat) : Builtin.bitAnd (a : Int) (b : Int) = ((a &&& b : Nat) : Int) := by
  rw [PyProof.Rows.bitAnd_pp (by omega) (by omega), Int.toNat_natCast, Int.toNat_natCast]
theorem mask_is {ts q o : List Str} (h1 : q.Nodup) (h2 : o.Nodup) (h3 : ∀ t ∈ q, t ∈ ts) (h4 : ∀ t ∈ o, t ∈ ts) : decide (V.int ((bitsSum (bitOf ts) q &&& bitsSum (bitOf ts) o : Nat) : Int) = V.int (bitsSum (bitOf ts) q : Nat)) = subS q o := by
  rw [Bool.eq_iff_iff, decide_eq_true_eq, subS_iff, ← mask_sub h1 h2 h3 h4]
  exact ⟨fun e => Int.ofNat_inj.mp (V.int.inj e), fun e => by rw [e]⟩
section
variable {P : Program} {w : World} {K : PySem.W.Frag} {mg : Str → Option Value} {base : Heap}
abbrev lsN : List Str := ["sets", "bits", "found", "masks", "tokens", "mask", "each", "other"]
theorem scLSets : FnScope lsN ["sets"] (defScope sLSets) := ⟨rfl, rfl, rfl, by decide +kernel, rfl, by decide +kernel, by decide +kernel⟩
theorem ok_lsets {f : Addr} {fd : FuncData} (F : Fun K "_least_sets" "_least_sets" sLSets f fd) (N : Nm mg) (srt : mg "sorted" = none) (an : mg "any" = none)
    (Gb : Df P w K mg base 1 "_bits_of" ["sets"] (spBits K)) (Go : Df P w K mg base 1 "set_order" ["tokens"] (spOrd K)) (Gm : Df P w K mg base 1 "_mask" ["tokens", "bits"] (spMask K)) : FnOk P w K mg base CX0 4 f fd ["sets"] (spLSets K) := by
  obtain ⟨fb, fdb, gB, kB, bB, GB⟩ := Gb.ok
  obtain ⟨fo, fdo, gO, kO, bO, GO⟩ := Go.ok
  obtain ⟨fm, fdm, gM, kM, bM, GM⟩ := Gm.ok
  refine F.ok scLSets (fun vs H Q E h => ?_) (fun cdv A outer s H vs Q E hr h => ?_)
  · obtain ⟨L, ys, os, rfl, _⟩ := h
    rfl
  · obtain ⟨L, ys, os, rfl, hL, tu, fl, ol, nd, k⟩ := h
    have hr1 : Room 1 _ := hr.mono (by decide)
    have hr3 : Room 3 _ := hr
    refine ⟨_, pss_cons (ps_set (i := 1) scLSets.nd rfl (Or.inl rfl) (pe_call GB hr1 rfl gB kB bB .nil pass0 (pa_cons (pv 0) pa_nil)))
      (pss_cons (ps_set (i := 2) scLSets.nd rfl (Or.inl rfl) (pe_lst pa_nil))
      (pss_cons (ps_set (i := 3) scLSets.nd rfl (Or.inl rfl) (pe_lst pa_nil))
      (pss_cons (ps_for PassesOwn.never rfl (pi_list (pe_callBK (Sk.cr_sortKeyD rfl GO hr3 bO) (by rfl) srt (by rfl) (pa_cons
          (pe_dcT (own := [("each", 6)]) (g := gName 6) rfl (Nat.lt_of_succ_lt (u1 hr)) scLSets.nd (pi_list (pv 0)) (blkOk_by (N := lsN) (sc := defScope sLSets) (by decide +kernel)) (fun _ _ _ _ _ => pg_name (i := 6) scLSets.nd rfl (Or.inl rfl)) (fun _ _ _ _ _ => pv 6) (fun _ _ _ _ _ => pe_bl)) pa_nil) (pk_cons (pe_glob (v := .ref fo) rfl gO rfl) pk_nil))) (pg_name (i := 4) scLSets.nd rfl (Or.inl rfl))
        (pss_cons (ps_set (i := 5) scLSets.nd rfl (Or.inr rfl) (pe_call GM hr1 rfl gM kM bM .nil pass0 (pa_cons (pv 4) (pa_cons (pv 1) pa_nil))))
        (pss_one (ps_if (pt_not (pt_val (pe_callB (show CallR _ _ (rAny K) from cr_any rfl) (by rfl) an (by rfl) (pa_cons
          (pe_lc (own := [("other", 7)]) (g := gName 7) (tt := tYes) rfl scLSets.nd (pi_list (pv 3)) (blkOk_by (N := lsN) (sc := defScope sLSets) (by decide +kernel)) (fun _ _ _ _ _ => pg_name (i := 7) scLSets.nd rfl (Or.inl rfl)) (fun _ _ _ _ _ => pts_nil)
            (fun _ _ _ _ _ => pe_cmpR op_eq (pe_op op_and (pv 7) (pv 5)) (pv 7) (nomark _))) pa_nil))))
          (pss_cons (ps_expr (pe_bm PySem.F.plainAttrs_list PySem.F.slot_list_append PySem.F.type_list_append mt_append (pv 2) (pa_cons (pv 4) pa_nil)))
          (pss_one (ps_expr (pe_bm PySem.F.plainAttrs_list PySem.F.slot_list_append PySem.F.type_list_append mt_append (pv 3) (pa_cons (pv 5) pa_nil))))) pss_nil))))
      (pss_one (ps_ret (pe_callTy call_tuple_of (by rfl) N.tup (by rfl) (pa_cons (pv 2) pa_nil))))))), ?_⟩
    have yl := tu.len
    have f1 : ∀ o ∈ os, o.length ≤ 1000 := fun o ho => Nat.le_trans (in_flat ho) fl
    refine ⟨_, rfl, L, ys, os, rfl, hL, tu, fl, fun B kvs ts H1 s1 hB mem val => ?_⟩
    refine ⟨(by show 0 ≤ sizeLine; decide), fun Fo nF => ?_⟩
    have sF : Same H1 (upd H1 Fo (.lst [])) := sm_new sm_refl nF
    have hF : upd H1 Fo (.lst []) Fo = some (.lst []) := upd_same
    generalize upd H1 Fo (.lst []) = H2 at sF hF ⊢
    refine ⟨(by show 0 ≤ sizeLine; decide), fun Mo nM => ?_⟩
    have sM : Same H2 (upd H2 Mo (.lst [])) := sm_new sm_refl nM
    have hM : upd H2 Mo (.lst []) Mo = some (.lst []) := upd_same
    generalize upd H2 Mo (.lst []) = H3 at sM hM ⊢
    have FM : Fo ≠ Mo := ne_of_none hF nM
    have nFH : H Fo = none := s1.free nF
    have nMH : H1 Mo = none := sF.free nM
    have nMH0 : H Mo = none := s1.free nMH
    have s13 := sF.trans sM
    have s03 := s1.trans s13
    have hF3 := sM _ _ hF
    -- the dict of sets
    refine ⟨_, rfl, L, rfl, ⟨_, SqL.of (s03 _ _ hL)⟩, fun D nD => ?_⟩
    refine dcT_it walk_list (fun i H4 => Same H3 H4 ∧ ∃ ks, H4 D = some (.dT (dks ks)) ∧ ks.Nodup ∧ (∀ o, o ∈ ks ↔ o ∈ os.take i) ∧ ks.length ≤ i) ⟨sm_new sm_refl nD, [], upd_same, List.nodup_nil, fun o => by rw [List.take_zero], Nat.le_refl _⟩ (fun i H4 _ ⟨s4, _⟩ => SqL.of (s4 _ _ (s03 _ _ hL))) ?_ ?_
    · rintro i x _ H4 hi ⟨s4, ks, hD, kn, km, kl⟩ ⟨rfl, hx⟩
      obtain ⟨o, b, ho, rfl, hb⟩ := TupA.get (tu.same (s03.trans s4)) hx
      have hk : H4 b = some (.tup ((o.map (Sum.inr : Str → Key)).map kV)) := by rw [hb, List.map_map]; rfl
      refine ⟨rfl, _, rfl, dks ks, o.map Sum.inr, b, rfl, hD, hk, ?_, hi, sm_new s4 nD, addS ks o, by rw [put_dks]; exact upd_same, addS_nd kn, fun z => ?_, ?_⟩
      · unfold dks
        rw [List.length_map, sizeLine_eq]
        omega
      · rw [addS_mem, km, List.take_succ, ho, List.mem_append]
        simp
      · exact Nat.le_trans addS_len (by omega)
    rintro H4 ⟨s4, ks, hD, kn, km, kl⟩
    rw [yl, List.take_length] at km
    refine ⟨D, dks ks, ks.map fun o => lsD (lenK o), rfl, rfl, .inl hD, fun bs hbs => ⟨⟨?_, ?_, ?_, ?_, ?_⟩, fun S H5 s5 nS => ?_⟩⟩
    · rw [List.length_map, List.length_map, (keys_at hbs).1]
    · intro a ha b hb
      obtain ⟨x, _, rfl⟩ := List.mem_map.mp ha
      obtain ⟨y, _, rfl⟩ := List.mem_map.mp hb
      exact Ky.al (lenK x) (lenK y)
    · exact .inl fun d hd => by
        obtain ⟨x, _, rfl⟩ := List.mem_map.mp hd
        exact ⟨_, _, rfl⟩
    · intro d hd
      obtain ⟨x, _, rfl⟩ := List.mem_map.mp hd
      exact Nat.le_trans (Ky.dep (lenK x)) (by decide)
    · intro i x d hx hd H' s'
      obtain ⟨kl2, at_⟩ := keys_at hbs
      rw [List.getElem?_map] at hx hd
      obtain ⟨b, hb, rfl⟩ := Option.map_eq_some_iff.mp hx
      obtain ⟨o, ho, rfl⟩ := Option.map_eq_some_iff.mp hd
      have hz : (bs.zip ks)[i]? = some (b, o) := by rw [List.getElem?_zip_eq_some]; exact ⟨hb, ho⟩
      exact ⟨b, o, rfl, SqT.of (s' _ _ (at_ _ (List.mem_of_getElem? hz))), fun v H'' s'' d'' => ⟨s'', d''⟩⟩
    have tS := sort_keys kn hbs
    have eS : (sortU (ks.map lenK)).map (·.2) = szs os := by rw [same_kvs km]; rfl
    rw [eS] at tS
    have zl : (szs os).length ≤ 1000 := by
      unfold szs
      rw [List.length_map]
      have := sortU_len (os.map lenK)
      rw [List.length_map] at this
      omega
    generalize Sk.sortBy (bs.map V.ref) (ks.map fun o => lsD (lenK o)) = zs at tS ⊢
    have sS : Same H5 (upd H5 S (.lst zs)) := sm_new sm_refl nS
    have hS : upd H5 S (.lst zs) S = some (.lst zs) := upd_same
    have tZ := (tS.same s5).same sS
    have FS : Fo ≠ S := ne_of_none ((s4.trans s5) _ _ hF3) nS
    have MS : Mo ≠ S := ne_of_none ((s4.trans s5) _ _ hM) nS
    have s36 := (s4.trans s5).trans sS
    generalize upd H5 S (.lst zs) = H6 at sS hS tZ s36 ⊢
    have s16 := s13.trans s36
    refine ⟨S, rfl, ⟨_, SqL.of hS⟩, ?_⟩
    refine for_list (K := K) (a := S) (xs := zs) (fun j σ H7 => (∃ u4 u5, σ = [some (.ref L), some (.ref B), some (.ref Fo), some (.ref Mo), u4, u5, none, none]) ∧ Same H1 H7 ∧ H7 S = some (.lst zs) ∧ TupA H7 zs (szs os) ∧ ∃ fv, H7 Fo = some (.lst fv) ∧ TupA H7 fv (least (fun _ => true) ((szs os).take j)) ∧ H7 Mo = some (.lst ((least (fun _ => true) ((szs os).take j)).map fun o => V.int (bitsSum (bitOf ts) o : Nat)))) ⟨⟨_, _, rfl⟩, s16, hS, tZ, [], s36 _ _ hF3, .nil, s36 _ _ hM⟩ (fun j σ H7 _ ⟨_, _, h, _⟩ => SqL.of h) ?_ ?_
    · rintro j x σ H7 hj ⟨⟨u4, u5, rfl⟩, s7, hS7, tZ7, fv, hFv, tf, hMv⟩
      obtain ⟨o, b, ho, rfl, hb⟩ := TupA.get tZ7 hj
      have om := szs_mem (List.mem_of_getElem? ho)
      have jl := (List.getElem?_eq_some_iff.mp ho).1
      have fl1 := tf.len
      have fl2 := least_len (fun _ => true) (szs os) j
      have lm : ∀ q ∈ least (fun _ => true) ((szs os).take j), q ∈ os := fun q hq => szs_mem (List.mem_of_mem_take (least_mem _ hq))
      generalize hLs : least (fun _ => true) ((szs os).take j) = ls at tf hMv fl1 fl2 lm
      have hB7 := s7 _ _ hB
      refine ⟨_, rfl, _, rfl, b, B, o, kvs, bitOf ts, rfl, SqT.of hb, hB7, fun t ht => val t (mem o om t ht), f1 o om, fun H8 s8 => ?_⟩
      have hM8 := s8 _ _ hMv
      refine ⟨_, rfl, Mo, rfl, ⟨_, SqL.of hM8⟩, fun D2 nD2 => ?_⟩
      refine lc_list (K := K) (a := Mo) (xs := ls.map fun o => V.int (bitsSum (bitOf ts) o : Nat)) (fun m H9 => Same H8 H9 ∧ H9 D2 = some (.lst (((ls.take m).map fun q => subS q o).map V.bl))) ⟨sm_new sm_refl nD2, upd_same⟩ (fun m H9 _ ⟨s9, _⟩ => SqL.of (s9 _ _ hM8)) ?_ ?_
      · rintro m x H9 hm ⟨s9, hD2⟩
        rw [List.getElem?_map] at hm
        obtain ⟨q, hq, rfl⟩ := Option.map_eq_some_iff.mp hm
        have qm := lm q (List.mem_of_getElem? hq)
        refine ⟨rfl, _, rfl, _, rfl, _, _, rfl, rfl, _, rfl, rfl, _, hD2, ?_, sm_new s9 nD2, ?_⟩
        · rw [List.length_map, List.length_map, List.length_take, sizeLine_eq]
          omega
        · rw [upd_same]
          show some (HO.lst (_ ++ [V.bl (decide (V.int (Builtin.bitAnd ((bitsSum (bitOf ts) q : Nat) : Int) ((bitsSum (bitOf ts) o : Nat) : Int)) = V.int (bitsSum (bitOf ts) q : Nat)))])) = _
          rw [and_up, List.take_succ, hq, List.map_append, List.map_append, mask_is (nd q qm) (nd o om) (mem q qm) (mem o om)]
          rfl
      · rintro H9 ⟨s9, hD2⟩
        rw [List.length_map, List.take_length] at hD2
        refine ⟨D2, _, rfl, SqL.of hD2, _, rfl, ?_⟩
        have e : ((ls.map fun q => subS q o).any id) = ls.any fun q => subS q o := by rw [List.any_map]; rfl
        rw [e]
        have hF9 := (s8.trans s9) _ _ hFv
        have hM9 := s9 _ _ hM8
        have s79 := s8.trans s9
        have hS9 := s79 _ _ hS7
        have tZ9 := tZ7.same s79
        have tf9 := tf.same s79
        have nx : least (fun _ => true) ((szs os).take (j + 1)) = if (ls.any fun q => subS q o) = true then ls else ls ++ [o] := by
          rw [least_take ho, hLs]
          unfold leastF
          cases ls.any fun q => subS q o <;> rfl
        cases q : ls.any (fun q => subS q o) with
        | true =>
          rw [q, if_pos rfl] at nx
          refine iteF ⟨⟨_, _, rfl⟩, s7.trans s79, hS9, tZ9, fv, hF9, ?_, ?_⟩
          · rw [nx]; exact tf9
          · rw [nx]; exact hM9
        | false =>
          rw [q, if_neg Bool.false_ne_true] at nx
          have ntF : NotT (H9 Fo) := by rw [hF9]; exact notT_lst
          refine iteT ⟨_, rfl, .inl ⟨rfl, _, SqL.of hF9⟩, _, rfl, Fo, fv, _, rfl, rfl, hF9, by rw [sizeLine_eq]; omega, ?_⟩
          have hM10 : upd H9 Fo (.lst (fv ++ [.ref b])) Mo = some (.lst (ls.map fun o => V.int (bitsSum (bitOf ts) o : Nat))) := by rw [upd_ne (Ne.symm FM)]; exact hM9
          have s10 : Same H1 (upd H9 Fo (.lst (fv ++ [.ref b]))) := fun a u z => by rw [upd_ne (ne_of_none z nF)]; exact (s7.trans s79) a u z
          have hS10 : upd H9 Fo (.lst (fv ++ [.ref b])) S = some (.lst zs) := by rw [upd_ne (Ne.symm FS)]; exact hS9
          have tZ10 := TupA.put (D := Fo) (u := .lst (fv ++ [.ref b])) ntF tZ9
          have tf10 : TupA (upd H9 Fo (.lst (fv ++ [.ref b]))) (fv ++ [.ref b]) (ls ++ [o]) := TupA.app (.put ntF tf9) (.put ntF (.cons ⟨b, rfl, s79 _ _ hb⟩ .nil))
          have hF10 : upd H9 Fo (.lst (fv ++ [.ref b])) Fo = some (.lst (fv ++ [.ref b])) := upd_same
          generalize upd H9 Fo (.lst (fv ++ [.ref b])) = H10 at hM10 s10 hS10 tZ10 tf10 hF10 ⊢
          have ntM : NotT (H10 Mo) := by rw [hM10]; exact notT_lst
          refine ⟨_, rfl, .inl ⟨rfl, _, SqL.of hM10⟩, _, rfl, Mo, _, _, rfl, rfl, hM10, by rw [List.length_map, sizeLine_eq]; omega, ⟨_, _, rfl⟩, fun a u z => by rw [upd_ne (ne_of_none z nMH)]; exact s10 a u z, by rw [upd_ne (Ne.symm MS)]; exact hS10, tZ10.put ntM, _, by rw [upd_ne FM]; exact hF10, ?_, ?_⟩
          · rw [nx]; exact tf10.put ntM
          · rw [nx, upd_same, List.map_append]; rfl
    · rintro σ H7 ⟨⟨u4, u5, rfl⟩, s7, hS7, tZ7, fv, hFv, tf, hMv⟩
      rw [tZ7.len, List.take_length] at tf
      refine ⟨_, rfl, Fo, fv, rfl, .inl ⟨SqL.of hFv, fun v nv => ?_⟩⟩
      have sv : Same H7 (upd H7 v (.tup fv)) := sm_new sm_refl nv
      exact k _ _ ((s1.trans s7).trans sv) (.tup (SqT.of upd_same) (TupA.dps (tf.same sv)))
end
end K26


set_option Elab.async false
set_option linter.all false
set_option maxRecDepth 100000
set_option maxHeartbeats 8000000
/-! least_lacking, witnesses -/
namespace K26
open PySem L2 Nd Bk Gd
/-- a product's tokens that the dict hasn't -/
def lackT (kvs : List (Key × V)) (t : Mono × Int) : List Str := (t.1.map (·.1)).filter fun z => !(valV kvs (.inr z)).isSome
def spLack (K : PySem.W.Frag) : Sp := fun vs H Q _ => ∃ (v : V) (D : Addr) (p : Poly) (kvs : List (Key × V)), vs = [v, .ref D] ∧ FD K H v (bD p) ∧ H D = some (.dK kvs) ∧ (toksP p).length ≤ 1000 ∧ p.length ≤ 1000 ∧ (∀ t ∈ p, (t.1.map (·.1)).Nodup) ∧
  ∀ (v' : V) (H' : Hp), Same H H' → Dp K H' v' (.tuple ((leastOf (p.map (lackT kvs))).map sD)) → Q v' H'
theorem lack_flat (kvs : List (Key × V)) : ∀ p : Poly, (p.map (lackT kvs)).flatten.length ≤ (toksP p).length
  | [] => Nat.le_refl _
  | t :: p => by
    have a := lack_flat kvs p
    have b : (lackT kvs t).length ≤ (t.1.map (·.1)).length := List.length_filter_le ..
    have e : toksP (t :: p) = t.1.map (·.1) ++ toksP p := rfl
    rw [e, List.map_cons, List.flatten_cons, List.length_append, List.length_append]
    omega
theorem mono_len {p : Poly} {t : Mono × Int} (h : t ∈ p) : t.1.length ≤ (toksP p).length := by
  induction p with
  | nil => exact nomatch h
  | cons x r ih =>
    have e : toksP (x :: r) = x.1.map (·.1) ++ toksP r := rfl
    rw [e, List.length_append, List.length_map]
    rcases List.mem_cons.mp h with q | q
    · rw [q]; omega
    · have := ih q; omega
section
variable {P : Program} {w : World} {K : PySem.W.Frag} {mg : Str → Option Value} {base : Heap}
abbrev lkN : List Str := ["p", "held", "term", "pair"]
theorem scLack : FnScope lkN ["p", "held"] (defScope sLLack) := ⟨rfl, rfl, rfl, by decide +kernel, rfl, by decide +kernel, by decide +kernel⟩
theorem ok_lack {f : Addr} {fd : FuncData} (F : Fun K "least_lacking" "least_lacking" sLLack f fd) (N : Nm mg) (Gl : Df P w K mg base 4 "_least_sets" ["sets"] (spLSets K)) : FnOk P w K mg base CX0 5 f fd ["p", "held"] (spLack K) := by
  obtain ⟨fl, fdl, gL, kL, bL, GL⟩ := Gl.ok
  refine F.ok scLack (fun vs H Q E h => ?_) (fun cdv A outer s H vs Q E hr h => ?_)
  · obtain ⟨v, D, p, kvs, rfl, _⟩ := h
    rfl
  · obtain ⟨v, D, p, kvs, rfl, hd, hD, tl, pl, nd, k⟩ := h
    have hr4 : Room 4 _ := hr
    refine ⟨_, pss_one (ps_ret (pe_call GL hr4 rfl gL kL bL .nil pass0 (pa_cons
      (pe_lc (own := [("term", 2)]) (g := gName 2) (tt := tYes) rfl scLack.nd (pi_seq (pv 0)) (blkOk_by (N := lkN) (sc := defScope sLLack) (by decide +kernel)) (fun _ _ _ _ _ => pg_name (i := 2) scLack.nd rfl (Or.inl rfl)) (fun _ _ _ _ _ => pts_nil)
        (fun _ _ _ _ _ => (pe_callTy (show CallR _ _ (rTupO K) from call_tuple_of) (by rfl) N.tup (by rfl) (pa_cons
          (pe_lc (own := [("pair", 3)]) (g := gName 3) (tt := tB (tDNotIn (tOp (rIx K) (tVar 3) (tC (.int 0))) (tVar 1))) rfl scLack.nd (show PI _ _ _ (iSeq K (tOp (rIx K) (tVar 2) (tC (.int 0)))) from pi_seq (pe_ix ix_seq (pv 2) pe_int (fun _ _ => rfl))) (blkOk_by (N := lkN) (by rfl)) (fun _ _ _ _ _ => pg_name (i := 3) scLack.nd rfl (Or.inl rfl))
            (fun _ _ _ _ _ => pts_one (pt_cmp (pc_dnotin (u1 hr) (pe_ix (show IxR _ (rIx K) from ix_seq) (pv 3) pe_int (fun _ _ => rfl)) (pv 1)))) (fun _ _ _ _ _ => (pe_ix (show IxR _ (rIx K) from ix_seq) (pv 3) pe_int (fun _ _ => rfl)))) pa_nil)))) pa_nil))), ?_⟩
    obtain ⟨a, xs, rfl, hs, hl, hget⟩ := fd_bag hd
    refine seq_go rfl hs fun J G walk hG L nL => ?_
    refine lc_it walk (fun i H2 => Same H H2 ∧ ∃ ys, H2 L = some (.lst ys) ∧ TupA H2 ys ((p.take i).map (lackT kvs))) ⟨sm_new sm_refl nL, [], upd_same, .nil⟩ (fun i H2 _ ⟨s2, _⟩ => hG H2 s2.seq (sqT_same s2)) ?_ ?_
    · rintro i x _ H2 hi ⟨s2, ys, hL2, tu⟩ ⟨rfl, hx⟩
      obtain ⟨t, ht, hxt⟩ := hget i x hx
      obtain ⟨T, kk, rfl, hT, hk⟩ := fd_pair hxt
      obtain ⟨b, zs, rfl, hb, hbl, hbget⟩ := fd_bag (κ := Str) hk
      have tm := List.mem_of_getElem? ht
      have ml := mono_len tm
      have il := (List.getElem?_eq_some_iff.mp ht).1
      refine ⟨rfl, ?_⟩
      refine seq_goS (a := b) (xs := zs) (fun Q q => ⟨_, rfl, (fd_ix (sq_same s2 hT) Q).2 q⟩) s2 hb fun J2 G2 walk2 hG2 D2 nD2 => ?_
      refine lc_it walk2 (fun j H3 => Same H2 H3 ∧ H3 D2 = some (.lst ((((t.1.map (·.1)).take j).filter fun z => !(valV kvs (.inr z)).isSome).map V.str))) ⟨sm_new sm_refl nD2, upd_same⟩ (fun j H3 _ ⟨s3, _⟩ => hG2 H3 (s2.trans s3)) ?_ ?_
      · rintro j y _ H3 hj ⟨s3, hD2⟩ ⟨rfl, hy⟩
        obtain ⟨q, hq, hyq⟩ := hbget j y hy
        obtain ⟨U, kk2, rfl, hU, hkk⟩ := fd_pair hyq
        cases fd_str (z := q.1) hkk
        have s03 := s2.trans s3
        have jl := (List.getElem?_eq_some_iff.mp hq).1
        refine ⟨rfl, _, rfl, (fd_ix (K := K) (sq_same s03 hU) _).2 ⟨_, rfl, D, _, rfl, DGet.k (k := .inr q.1) (s03 _ _ hD), _, rfl, ?_⟩⟩
        have st := filt_one (q := fun z => !(valV kvs (.inr z)).isSome) (show (t.1.map (·.1))[j]? = some q.1 by rw [List.getElem?_map, hq]; rfl)
        have len : (((t.1.map (·.1)).take j).filter (fun z => !(valV kvs (.inr z)).isSome)).length ≤ 1000 := by
          refine Nat.le_trans (List.length_filter_le ..) ?_
          rw [List.length_take, List.length_map]
          omega
        cases e : !(valV kvs (.inr q.1)).isSome with
        | true =>
          rw [e, if_pos rfl] at st
          refine iteT ⟨_, rfl, (fd_ix (K := K) (sq_same s03 hU) _).2 ⟨_, hD2, small1000 (by rw [List.length_map]; exact len), sm_new s3 nD2, ?_⟩⟩
          rw [upd_same, st, List.map_append]
          rfl
        | false =>
          rw [e, if_neg Bool.false_ne_true, List.append_nil] at st
          refine iteF ⟨s3, ?_⟩
          rw [st]
          exact hD2
      · rintro H3 ⟨s3, hD2⟩
        rw [List.take_of_length_le (by rw [List.length_map]; omega)] at hD2
        have hD2 : H3 D2 = some (.lst ((lackT kvs t).map V.str)) := hD2
        refine ⟨D2, (lackT kvs t).map V.str, rfl, .inl ⟨SqL.of hD2, fun U nU => ?_⟩⟩
        have sU : Same H3 (upd H3 U (.tup ((lackT kvs t).map V.str))) := sm_new sm_refl nU
        have gU : upd H3 U (.tup ((lackT kvs t).map V.str)) U = some (.tup ((lackT kvs t).map V.str)) := upd_same
        have s25 := s3.trans sU
        refine ⟨ys, s25 _ _ hL2, ?_, ?_⟩
        · rw [tu.len, List.length_map, List.length_take, sizeLine_eq]
          omega
        show Same H (upd (upd H3 U (.tup ((lackT kvs t).map V.str))) L _) ∧ _
        generalize upd H3 U (.tup ((lackT kvs t).map V.str)) = H5 at sU gU s25 ⊢
        have hL5 := s25 _ _ hL2
        have nt : NotT (H5 L) := by rw [hL5]; exact notT_lst
        refine ⟨sm_new (s2.trans s25) nL, _, upd_same, ?_⟩
        rw [List.take_succ, ht, List.map_append]
        exact TupA.app (.put nt (tu.same s25)) (.put nt (.cons ⟨U, rfl, gU⟩ .nil))
    · rintro H2 ⟨s2, ys, hL2, tu⟩
      rw [hl, List.take_length] at tu
      refine ⟨L, ys, _, rfl, hL2, tu, Nat.le_trans (lack_flat kvs p) tl, by rw [List.length_map]; exact pl, fun o ho => ?_, fun v H' s' d' => k v H' (s2.trans s') d'⟩
      obtain ⟨t, ht, rfl⟩ := List.mem_map.mp ho
      exact List.Pairwise.sublist (List.filter_sublist ..) (nd t ht)
end
end K26


set_option Elab.async false
set_option linter.all false
set_option maxRecDepth 100000
set_option maxHeartbeats 8000000
/-! witnesses -/
namespace K26
open PySem L2 Nd Bk Gd
theorem sortU_self {κ : Type} [DecidableEq κ] [Ky κ] {l : List κ} (h : AscK l) : sortU l = l := ascK_extG (sortU_asc l) h fun k => sortU_mem
theorem lack_none (t : Mono × Int) : lackT [] t = t.1.map (·.1) := by
  unfold lackT
  exact List.filter_eq_self.mpr fun z _ => rfl
theorem mono_ts {t : Mono × Int} (h : MOk t.1) : lackT [] t = tsOf t := by
  rw [lack_none]
  unfold tsOf
  refine (sortU_self ?_).symm
  have a := h.1
  unfold AscK
  rw [List.pairwise_map]
  exact a
def spWits (K : PySem.W.Frag) : Sp := fun vs H Q _ => ∃ (v : V) (p : Poly), vs = [v] ∧ FD K H v (bD p) ∧ (toksP p).length ≤ 1000 ∧ p.length ≤ 1000 ∧ (∀ t ∈ p, MOk t.1) ∧
  ∀ (v' : V) (H' : Hp), Same H H' → Dp K H' v' (.tuple ((byM p).map sD)) → Q v' H'
section
variable {P : Program} {w : World} {K : PySem.W.Frag} {mg : Str → Option Value} {base : Heap}
theorem scWits : FnScope ["p"] ["p"] (defScope sWits) := ⟨rfl, rfl, rfl, by decide +kernel, rfl, by decide +kernel, by decide +kernel⟩
theorem ok_wits {f : Addr} {fd : FuncData} (F : Fun K "witnesses" "witnesses" sWits f fd) (Gl : Df P w K mg base 5 "least_lacking" ["p", "held"] (spLack K)) : FnOk P w K mg base CX0 6 f fd ["p"] (spWits K) := by
  obtain ⟨fl, fdl, gL, kL, bL, GL⟩ := Gl.ok
  refine F.ok scWits (fun vs H Q E h => ?_) (fun cdv A outer s H vs Q E hr h => ?_)
  · obtain ⟨v, p, rfl, _⟩ := h
    rfl
  · obtain ⟨v, p, rfl, hd, tl, pl, mo, k⟩ := h
    have hr5 : Room 5 _ := hr
    refine ⟨_, pss_one (ps_ret (pe_call GL hr5 rfl gL kL bL .nil pass0 (pa_cons (pv 0) (pa_cons pe_dnewK pa_nil)))), ?_⟩
    refine ⟨_, rfl, fun D nD => ?_⟩
    have sD' : Same H (upd H D (.dK [])) := sm_new sm_refl nD
    have gD : upd H D (.dK []) D = some (.dK []) := upd_same
    generalize upd H D (.dK []) = H1 at sD' gD ⊢
    refine ⟨v, D, p, [], rfl, hd.same sD', gD, tl, pl, fun t ht => ?_, fun v' H' s' d' => k v' H' (sD'.trans s') ?_⟩
    · have := asc_nd (κ := Str) (l := t.1.map (·.1)) (by
        have a := (mo t ht).1
        unfold AscK
        rw [List.pairwise_map]
        exact a)
      exact this
    · rw [byM_least]
      have e : p.map tsOf = p.map (lackT []) := List.map_congr_left fun t ht => (mono_ts (mo t ht)).symm
      rw [e]
      exact d'
end
end K26


set_option Elab.async false
set_option linter.all false
set_option maxRecDepth 100000
set_option maxHeartbeats 8000000
/-! law -/
namespace K26
open PySem L2 Nd Bk Gd
section
variable {fs : List Str} {n : Nat} {p : Poly}
theorem keys_nd {m : Mono} (h : MOk m) : (m.map (·.1)).Nodup := asc_nd (κ := Str) (by
  have a := h.1
  unfold AscK
  rw [List.pairwise_map]
  exact a)
theorem YP.mono (y : YP fs n p) {t : Mono × Int} (h : t ∈ p) : t.1.length ≤ fs.length := by
  have a := nd_le (keys_nd (y.ok.2.2 t h)) (m := fs) fun z hz => by
    obtain ⟨x, hx, rfl⟩ := List.mem_map.mp hz
    exact y.keys t h x hx
  rw [List.length_map] at a
  exact a
theorem YP.toks (y : YP fs n p) : (toksP p).length ≤ p.length * fs.length := flatL_len fun t ht => by
  rw [List.length_map]
  exact y.mono ht
theorem YP.few (y : YP fs n p) : (sortU (fk p)).length ≤ fs.length := nd_le (asc_nd (sortU_asc _)) fun z hz => by
  obtain ⟨t, ht, hz⟩ := List.mem_flatMap.mp (sortU_mem.mp hz)
  obtain ⟨x, hx, rfl⟩ := List.mem_map.mp hz
  exact y.keys t ht x hx
theorem YP.in_ (y : YP fs n p) : ∀ z ∈ fk p, z ∈ fs := fun z hz => by
  obtain ⟨t, ht, hz⟩ := List.mem_flatMap.mp hz
  obtain ⟨x, hx, rfl⟩ := List.mem_map.mp hz
  exact y.keys t ht x hx
end
theorem okd_sets {os : List (List Str)} (h : os.length ≤ 1000) (h2 : ∀ o ∈ os, o.length ≤ 1000) : Okd 3 (.tuple (os.map sD)) := by
  refine .inr (.inr ⟨_, rfl, by rw [List.length_map]; exact h, fun e he => ?_⟩)
  obtain ⟨o, ho, rfl⟩ := List.mem_map.mp he
  refine .inr (.inr ⟨_, rfl, by rw [List.length_map]; exact h2 o ho, fun e he => ?_⟩)
  obtain ⟨z, _, rfl⟩ := List.mem_map.mp he
  exact .inr (.inl ⟨_, rfl⟩)
theorem byM_few (p : Poly) : (byM p).length ≤ p.length := by
  have a := least_len (fun _ => true) ((sized p).map (·.2)) ((sized p).map (·.2)).length
  rw [List.take_length] at a
  have b := sortU_len (p.map fun t => (((tsOf t).length : Int), tsOf t))
  rw [List.length_map] at a b
  exact Nat.le_trans a b
theorem byM_len {p : Poly} {o : List Str} (h : o ∈ byM p) : ∃ t ∈ p, o.length ≤ t.1.length := by
  obtain ⟨⟨t, ht, e⟩, _⟩ := byM_iff.mp h
  refine ⟨t, ht, ?_⟩
  rw [← e]
  have := sortU_len (t.1.map (·.1))
  rw [List.length_map] at this
  exact this
theorem YP.okd {fs : List Str} {n : Nat} {p : Poly} (y : YP fs n p) (hn : n ≤ 1000) (hf : fs.length ≤ 1000) : Okd 3 (.tuple ((byM p).map sD)) :=
  okd_sets (Nat.le_trans (byM_few p) (Nat.le_trans y.len hn)) fun o ho => by
    obtain ⟨t, ht, l⟩ := byM_len ho
    exact Nat.le_trans l (Nat.le_trans (y.mono ht) hf)
theorem tu_sets (os : List (List Str)) : tupOnly (.tuple (os.map sD)) = true := by
  have := tupOnlyAll_of (tu_sDs os)
  simpa [tupOnly] using this
theorem Shw.flat {d d' : PyData} {c n : Nat} (e : K26.flat d' = d) (h : Shw d c n) : Shw d' c n := by
  obtain ⟨h1, h2, h3⟩ := flat_short d'
  exact ⟨by rw [h1, e]; exact h.sh, by rw [h2, e]; exact h.co, by rw [h3, e]; exact h.de⟩
section
variable {P : Program} {w : World} {K : PySem.W.Frag} {mg : Str → Option Value} {base : Heap}
end
end K26


set_option Elab.async false
set_option linter.all false
/-! sets that meet all sets: as bits of numbers, one set after another -/
namespace Bg
open Ch
theorem and_sub {a b : Nat} : a &&& b = a ↔ Sub a b := by
  constructor
  · intro e i h
    have q := congrArg (fun n => n.testBit i) e
    simp only [Nat.testBit_and] at q
    rw [h, Bool.true_and] at q
    exact q
  · intro s
    apply Nat.eq_of_testBit_eq
    intro i
    rw [Nat.testBit_and]
    cases q : a.testBit i with
    | false => rfl
    | true => rw [s i q]; rfl
theorem sub_le {a b : Nat} (h : Sub a b) : a ≤ b := by
  rw [← and_sub.mpr h]
  exact Nat.and_le_right
theorem sub_refl (a : Nat) : Sub a a := fun _ h => h
theorem sub_trans {a b c : Nat} (h : Sub a b) (g : Sub b c) : Sub a c := fun i q => g i (h i q)
theorem sub_anti {a b : Nat} (h : Sub a b) (g : Sub b a) : a = b := Nat.le_antisymm (sub_le h) (sub_le g)
def hit (a b : Nat) : Prop := ∃ i, a.testBit i = true ∧ b.testBit i = true
theorem hit_and {a b : Nat} : (a &&& b != 0) = true ↔ hit a b := by
  rw [bne_iff_ne]
  constructor
  · intro n
    apply Classical.byContradiction
    intro c
    refine n (Nat.eq_of_testBit_eq fun i => ?_)
    rw [Nat.testBit_and, Nat.zero_testBit]
    cases q : a.testBit i with
    | false => rfl
    | true =>
      cases z : b.testBit i with
      | false => rfl
      | true => exact absurd ⟨i, q, z⟩ c
  · rintro ⟨i, h1, h2⟩ e
    have q := congrArg (fun n => n.testBit i) e
    simp [Nat.testBit_and, h1, h2] at q
theorem hit_mono {a b c : Nat} (h : hit a c) (s : Sub a b) : hit b c := let ⟨i, h1, h2⟩ := h; ⟨i, s i h1, h2⟩
def Tr (os : List Nat) (m : Nat) : Prop := ∀ o ∈ os, hit m o
/-- the least that meet all -/
def MT (os : List Nat) (m : Nat) : Prop := Tr os m ∧ ∀ m', Sub m' m → Tr os m' → m' = m
theorem tr_mono {os : List Nat} {a b : Nat} (h : Tr os a) (s : Sub a b) : Tr os b := fun o ho => hit_mono (h o ho) s
theorem tr_snoc {os : List Nat} {o m : Nat} : Tr (os ++ [o]) m ↔ Tr os m ∧ hit m o := by
  constructor
  · exact fun h => ⟨fun x hx => h x (List.mem_append_left _ hx), h o (List.mem_append_right _ List.mem_cons_self)⟩
  · rintro ⟨a, b⟩ x hx
    rcases List.mem_append.mp hx with h | h
    · exact a x h
    · rw [List.mem_singleton.mp h]; exact b
theorem mt_under {os : List Nat} : ∀ (m : Nat), Tr os m → ∃ x, MT os x ∧ Sub x m := by
  intro m
  induction m using Nat.strongRecOn with
  | ind m ih =>
    intro h
    rcases Classical.em (MT os m) with c | c
    · exact ⟨m, c, sub_refl m⟩
    · have : ∃ m', Sub m' m ∧ Tr os m' ∧ m' ≠ m := Classical.byContradiction fun n => c ⟨h, fun m' s t => Classical.byContradiction fun e => n ⟨m', s, t, e⟩⟩
      obtain ⟨m', s, t, ne⟩ := this
      obtain ⟨x, hx, sx⟩ := ih m' (Nat.lt_of_le_of_ne (sub_le s) ne) t
      exact ⟨x, hx, sub_trans sx s⟩
def meeting (ms : List Nat) (w : Nat) : List Nat := ms.filter fun m => m &&& w != 0
def lacking (ms : List Nat) (w : Nat) : List Nat := ms.filter fun m => !(m &&& w != 0)
def grow (ms : List Nat) (w b : Nat) : List Nat := ((lacking ms w).map fun m => m ||| b).filter fun g => !(((meeting ms w).filter fun m => m &&& b != 0).any fun p => p &&& g == p)
def met (ms bs : List Nat) : List Nat := meeting ms bs.sum ++ bs.flatMap (grow ms bs.sum)
def pows (is : List Nat) : List Nat := is.map fun i => 2 ^ i
theorem pows_sum (is : List Nat) : (pows is).sum = msk is := rfl
theorem or_bit (x i j : Nat) : (x ||| 2 ^ i).testBit j = (x.testBit j || decide (i = j)) := by
  rw [Nat.testBit_or, Nat.testBit_two_pow]
theorem and_bit (m i : Nat) : (m &&& 2 ^ i != 0) = m.testBit i := by
  rw [Bool.eq_iff_iff, hit_and]
  constructor
  · rintro ⟨j, h1, h2⟩
    rw [Nat.testBit_two_pow] at h2
    rw [of_decide_eq_true h2]; exact h1
  · exact fun h => ⟨i, h, by rw [Nat.testBit_two_pow]; exact decide_eq_true rfl⟩
section
variable {ms is : List Nat}
theorem hit_msk (nd : is.Nodup) {m : Nat} : hit m (msk is) ↔ ∃ i ∈ is, m.testBit i = true := by
  constructor
  · rintro ⟨i, h1, h2⟩
    rw [msk_bit nd] at h2
    exact ⟨i, of_decide_eq_true h2, h1⟩
  · rintro ⟨i, h1, h2⟩
    exact ⟨i, h2, by rw [msk_bit nd]; exact decide_eq_true h1⟩
theorem mem_meeting {w m : Nat} : m ∈ meeting ms w ↔ m ∈ ms ∧ hit m w := by
  unfold meeting
  rw [List.mem_filter, hit_and]
theorem mem_lacking {w m : Nat} : m ∈ lacking ms w ↔ m ∈ ms ∧ ¬ hit m w := by
  unfold lacking
  rw [List.mem_filter, ← hit_and]
  simp
theorem mem_grow {w i g : Nat} : g ∈ grow ms w (2 ^ i) ↔ (∃ x ∈ ms, ¬ hit x w ∧ g = x ||| 2 ^ i) ∧ ∀ p ∈ ms, hit p w → p.testBit i = true → ¬ Sub p g := by
  unfold grow
  rw [List.mem_filter, List.mem_map]
  constructor
  · rintro ⟨⟨x, hx, e⟩, h⟩
    obtain ⟨h1, h2⟩ := mem_lacking.mp hx
    refine ⟨⟨x, h1, h2, e.symm⟩, fun p hp hh hb s => ?_⟩
    rw [Bool.not_eq_true', List.any_eq_false] at h
    refine h p (List.mem_filter.mpr ⟨mem_meeting.mpr ⟨hp, hh⟩, by rw [and_bit]; exact hb⟩) ?_
    exact beq_iff_eq.mpr (and_sub.mpr s)
  · rintro ⟨⟨x, hx, nh, e⟩, h⟩
    refine ⟨⟨x, mem_lacking.mpr ⟨hx, nh⟩, e.symm⟩, ?_⟩
    rw [Bool.not_eq_true', List.any_eq_false]
    intro p hp q
    obtain ⟨hp1, hp2⟩ := List.mem_filter.mp hp
    obtain ⟨hp3, hp4⟩ := mem_meeting.mp hp1
    rw [and_bit] at hp2
    exact h p hp3 hp4 hp2 (and_sub.mp (beq_iff_eq.mp q))
theorem mem_met {m : Nat} : m ∈ met ms (pows is) ↔ (m ∈ ms ∧ hit m (msk is)) ∨ ∃ i ∈ is, m ∈ grow ms (msk is) (2 ^ i) := by
  unfold met
  rw [pows_sum, List.mem_append, mem_meeting, List.mem_flatMap]
  refine or_congr Iff.rfl ?_
  constructor
  · rintro ⟨b, hb, h⟩
    obtain ⟨i, hi, rfl⟩ := List.mem_map.mp hb
    exact ⟨i, hi, h⟩
  · rintro ⟨i, hi, h⟩
    exact ⟨2 ^ i, List.mem_map.mpr ⟨i, hi, rfl⟩, h⟩
/-- one more set to meet -/
theorem met_iff {os : List Nat} (nd : is.Nodup) (h : ∀ m, m ∈ ms ↔ MT os m) : ∀ m, m ∈ met ms (pows is) ↔ MT (os ++ [msk is]) m := by
  intro m
  rw [mem_met]
  constructor
  · rintro (⟨h1, h2⟩ | ⟨i, hi, hg⟩)
    · obtain ⟨t, l⟩ := (h m).mp h1
      exact ⟨tr_snoc.mpr ⟨t, h2⟩, fun m' s t' => l m' s (tr_snoc.mp t').1⟩
    · obtain ⟨⟨x, hx, nh, rfl⟩, np⟩ := mem_grow.mp hg
      obtain ⟨t, l⟩ := (h x).mp hx
      have sx : Sub x (x ||| 2 ^ i) := fun j q => by rw [or_bit, q]; rfl
      refine ⟨tr_snoc.mpr ⟨tr_mono t sx, (hit_msk nd).mpr ⟨i, hi, by rw [or_bit]; simp⟩⟩, fun m' s t' => ?_⟩
      obtain ⟨t1, t2⟩ := tr_snoc.mp t'
      have bit : m'.testBit i = true := by
        obtain ⟨j, hj, hb⟩ := (hit_msk nd).mp t2
        have := s j hb
        rw [or_bit, Bool.or_eq_true, decide_eq_true_eq] at this
        rcases this with q | q
        · exact absurd ((hit_msk nd).mpr ⟨j, hj, q⟩) nh
        · rw [q]; exact hb
      obtain ⟨y, hy, sy⟩ := mt_under m' t1
      cases q : y.testBit i with
      | true => exact absurd (sub_trans sy s) (np y ((h y).mpr hy) ((hit_msk nd).mpr ⟨i, hi, q⟩) q)
      | false =>
        have yx : Sub y x := fun j hj => by
          have := s j (sy j hj)
          rw [or_bit, Bool.or_eq_true, decide_eq_true_eq] at this
          rcases this with z | z
          · exact z
          · rw [← z, q] at hj; cases hj
        have e := l y yx hy.1
        refine sub_anti s fun j hj => ?_
        rw [or_bit, Bool.or_eq_true, decide_eq_true_eq] at hj
        rcases hj with z | z
        · rw [← e] at z; exact sy j z
        · rw [← z]; exact bit
  · rintro ⟨t, l⟩
    obtain ⟨t1, t2⟩ := tr_snoc.mp t
    by_cases c : MT os m
    · exact .inl ⟨(h m).mpr c, t2⟩
    · obtain ⟨y, hy, sy⟩ := mt_under m t1
      have ny : ¬ hit y (msk is) := fun q => c (by
        have e := l y sy (tr_snoc.mpr ⟨hy.1, q⟩)
        rw [← e]; exact hy)
      obtain ⟨i, hi, hb⟩ := (hit_msk nd).mp t2
      have yi : Sub (y ||| 2 ^ i) m := fun j hj => by
        rw [or_bit, Bool.or_eq_true, decide_eq_true_eq] at hj
        rcases hj with z | z
        · exact sy j z
        · rw [← z]; exact hb
      have e := l _ yi (tr_snoc.mpr ⟨tr_mono hy.1 fun j q => by rw [or_bit, q]; rfl, (hit_msk nd).mpr ⟨i, hi, by rw [or_bit]; simp⟩⟩)
      refine .inr ⟨i, hi, mem_grow.mpr ⟨⟨y, (h y).mpr hy, ny, e.symm⟩, fun p hp hh hbp sp => ?_⟩⟩
      have ep := l p sp (tr_snoc.mpr ⟨((h p).mp hp).1, hh⟩)
      exact c (by rw [← ep]; exact (h p).mp hp)
theorem met_nodup (nd : is.Nodup) (h : ms.Nodup) : (met ms (pows is)).Nodup := by
  unfold met
  rw [pows_sum, List.nodup_append]
  have lack : ∀ x, ¬ hit x (msk is) → ∀ j ∈ is, x.testBit j = false := fun x n j hj => by
    cases q : x.testBit j with
    | false => rfl
    | true => exact absurd ((hit_msk nd).mpr ⟨j, hj, q⟩) n
  refine ⟨List.Pairwise.filter _ h, ?_, fun a ha b hb e => ?_⟩
  · unfold pows
    rw [List.Nodup, List.pairwise_flatMap]
    refine ⟨fun b hb => ?_, ?_⟩
    · obtain ⟨i, hi, rfl⟩ := List.mem_map.mp hb
      unfold grow
      refine List.Pairwise.filter _ ?_
      rw [List.pairwise_map]
      refine List.Pairwise.imp_of_mem (fun {x y} hx hy n e => n ?_) (List.Pairwise.filter (fun m => !(m &&& msk is != 0)) h)
      have nx := lack x (mem_lacking.mp hx).2 i hi
      have ny := lack y (mem_lacking.mp hy).2 i hi
      apply Nat.eq_of_testBit_eq
      intro j
      have q := congrArg (fun n => n.testBit j) e
      simp only [or_bit] at q
      by_cases z : i = j
      · rw [← z, nx, ny]
      · simpa [z] using q
    · rw [List.pairwise_map]
      refine List.Pairwise.imp_of_mem (fun {i j} hi hj n a ha b hb e => n ?_) nd
      obtain ⟨⟨x, _, nx, rfl⟩, _⟩ := mem_grow.mp ha
      obtain ⟨⟨y, _, ny, rfl⟩, _⟩ := mem_grow.mp hb
      have q := congrArg (fun n => n.testBit i) e
      simp only [or_bit, lack y ny i hi] at q
      have q2 : j = i := by simpa using q
      exact q2.symm
  · obtain ⟨h1, h2⟩ := mem_meeting.mp ha
    obtain ⟨b', hb', hg⟩ := List.mem_flatMap.mp hb
    obtain ⟨i, hi, rfl⟩ := List.mem_map.mp hb'
    obtain ⟨⟨x, hx, nx, ex⟩, np⟩ := mem_grow.mp hg
    obtain ⟨j, hj, hbj⟩ := (hit_msk nd).mp h2
    have ji : j = i := by
      rw [e, ex, or_bit, lack x nx j hj, Bool.false_or] at hbj
      exact (of_decide_eq_true hbj).symm
    exact np a h1 h2 (by rw [← ji]; exact hbj) (by rw [e]; exact sub_refl _)
end
/-- set after set -/
def brk (ms : List Nat) (iss : List (List Nat)) : List Nat := iss.foldl (fun ms is => met ms (pows is)) ms
theorem brk_snoc (ms : List Nat) (iss : List (List Nat)) (is : List Nat) : brk ms (iss ++ [is]) = met (brk ms iss) (pows is) := by
  unfold brk
  rw [List.foldl_append]
  rfl
theorem brk_iff : ∀ (iss : List (List Nat)), (∀ is ∈ iss, is.Nodup) → (∀ m, m ∈ brk [0] iss ↔ MT (iss.map msk) m) ∧ (brk [0] iss).Nodup := by
  have key : ∀ (iss : List (List Nat)) (ms os : List Nat), (∀ is ∈ iss, is.Nodup) → (∀ m, m ∈ ms ↔ MT os m) → ms.Nodup → (∀ m, m ∈ brk ms iss ↔ MT (os ++ iss.map msk) m) ∧ (brk ms iss).Nodup := by
    intro iss
    induction iss with
    | nil => exact fun ms os _ h n => ⟨fun m => by rw [List.map_nil, List.append_nil]; exact h m, n⟩
    | cons is r ih =>
      intro ms os nd h n
      have := ih (met ms (pows is)) (os ++ [msk is]) (fun x hx => nd x (List.mem_cons_of_mem _ hx)) (met_iff (nd is List.mem_cons_self) h) (met_nodup (nd is List.mem_cons_self) n)
      rw [List.append_assoc] at this
      exact this
  intro iss nd
  refine key iss [0] [] nd (fun m => ?_) (List.pairwise_singleton _ _)
  rw [List.mem_singleton]
  constructor
  · rintro rfl
    exact ⟨(fun o ho => nomatch ho), fun m' s _ => Nat.le_antisymm (sub_le s) (Nat.zero_le _)⟩
  · rintro ⟨_, l⟩
    exact (l 0 (fun i q => by rw [Nat.zero_testBit] at q; cases q) fun o ho => nomatch ho).symm
end Bg


set_option Elab.async false
set_option linter.all false
set_option maxRecDepth 100000
set_option maxHeartbeats 8000000
/-! the program: _met_besides -/
namespace K26
open PySem L2 Nd Bk Gd PySem.ExE
/-- numbers as they stand in a list -/
def VL (ms : List Nat) : List V := ms.map fun m => V.int (m : Nat)
def spMet (K : PySem.W.Frag) : Sp := fun vs H Q _ => ∃ (A B : Addr) (ms bs : List Nat), vs = [.ref A, .ref B] ∧ H A = some (.lst (VL ms)) ∧ H B = some (.lst (VL bs)) ∧ ms.length ≤ 400 ∧ bs.length ≤ 1000 ∧ (Bg.met ms bs).length ≤ 400 ∧
  ∀ (l : Addr) (H' : Hp), Same H H' → H l = none → H' l = some (.lst (VL (Bg.met ms bs))) → Q (.ref l) H'
def spMetX (K : PySem.W.Frag) (C : Addr) : Sp := fun vs H Q E => ∃ (A B : Addr) (ms bs : List Nat), vs = [.ref A, .ref B] ∧ H A = some (.lst (VL ms)) ∧ H B = some (.lst (VL bs)) ∧ ms.length ≤ 400 ∧ bs.length ≤ 1000 ∧ 400 < (Bg.met ms bs).length ∧
  ∀ x H', Same H H' → H' x = some (.xd [("word", .str "sets")]) → E (.ref C) (some x) H'
/-- whether two numbers have a bit in common, as a test -/
def tAndB (K : PySem.W.Frag) (i j : Nat) : TT := fun σ H Q => tOp (rI0 fun i j => .int (Builtin.bitAnd i j)) (tVar i) (tVar j) σ H fun x H' => ∃ k, TruV K x H' k ∧ Q k H'
/-- what is found behind so many bits -/
def fAt (ms bs : List Nat) (j : Nat) : List Nat := Bg.meeting ms bs.sum ++ (bs.take j).flatMap (Bg.grow ms bs.sum)
theorem fAt_zero (ms bs : List Nat) : fAt ms bs 0 = Bg.meeting ms bs.sum := by
  unfold fAt
  simp
theorem met_nil (ms : List Nat) : Bg.met ms [] = [] := by
  unfold Bg.met Bg.meeting
  rw [List.flatMap_nil, List.append_nil, List.filter_eq_nil_iff]
  intro m _
  simp
theorem sum_natL : ∀ bs : List Nat, (bs.map fun n : Nat => (n : Int)).sum = ((bs.sum : Nat) : Int)
  | [] => rfl
  | b :: r => by
    rw [List.map_cons, List.sum_cons, sum_natL r, List.sum_cons]
    omega
theorem vl_len (ms : List Nat) : (VL ms).length = ms.length := List.length_map ..
theorem vl_get {ms : List Nat} {i : Nat} {x : V} (h : (VL ms)[i]? = some x) : ∃ m : Nat, ms[i]? = some m ∧ V.int (m : Nat) = x := by
  unfold VL at h
  rw [List.getElem?_map] at h
  exact Option.map_eq_some_iff.mp h
theorem and_ne (a b : Nat) : (Builtin.bitAnd (a : Int) (b : Int) != 0) = (a &&& b != 0) := by
  rw [and_up, Bool.eq_iff_iff, bne_iff_ne, bne_iff_ne]
  exact not_congr ⟨fun h => by omega, fun h => by rw [h]; rfl⟩
theorem or_up (a b : Nat) : Builtin.bitOr (a : Int) (b : Int) = ((a ||| b : Nat) : Int) := by
  unfold Builtin.bitOr
  rw [PyProof.Rows.bitAnd_nn (by unfold Builtin.bitNot; omega) (by unfold Builtin.bitNot; omega)]
  have e : ∀ x : Int, Builtin.bitNot (Builtin.bitNot x) = x := fun x => by unfold Builtin.bitNot; omega
  rw [e, e, e, Int.toNat_natCast, Int.toNat_natCast]
theorem and_eqb (p g : Nat) : decide (V.int (Builtin.bitAnd (p : Int) (g : Int)) = V.int (p : Nat)) = (p &&& g == p) := by
  rw [and_up, Bool.eq_iff_iff, decide_eq_true_eq, beq_iff_eq]
  exact ⟨fun e => Int.ofNat_inj.mp (V.int.inj e), fun e => by rw [e]⟩
theorem vl_few {ms : List Nat} {q : Nat → Bool} {i : Nat} (h : i < 1000) : (VL ((ms.take i).filter q)).length < sizeLine := by
  rw [vl_len, sizeLine_eq]
  have := List.length_filter_le q (ms.take i)
  rw [List.length_take] at this
  omega
theorem vl_snoc {ms : List Nat} {q : Nat → Bool} {i m : Nat} (h : ms[i]? = some m) (hq : q m = true) : some (HO.lst (VL ((ms.take i).filter q) ++ [V.int (m : Nat)])) = some (HO.lst (VL ((ms.take (i + 1)).filter q))) := by
  rw [filt_one h, if_pos hq]
  unfold VL
  rw [List.map_append]
  rfl
theorem vl_skip {ms : List Nat} {q : Nat → Bool} {i m : Nat} (h : ms[i]? = some m) (hq : q m = false) : (ms.take (i + 1)).filter q = (ms.take i).filter q := by
  rw [filt_one h, if_neg (by rw [hq]; exact Bool.false_ne_true), List.append_nil]
theorem vl_filt {ms : List Nat} {q : Nat → Bool} {i m : Nat} {A B : Prop} (h : ms[i]? = some m) (hi : i < 1000) (h1 : q m = true → A) (h2 : q m = false → B) : if q m = true then A else B := by
  cases e : q m with
  | true => exact h1 e
  | false => exact h2 e
section
variable {P : Program} {w : World} {K : PySem.W.Frag} {mg : Str → Option Value} {base : Heap} {T C fI : Addr}
abbrev mtN : List Str := ["masks", "bits", "whole", "meeting", "lacking", "found", "bit", "parts", "mask", "grown", "part"]
theorem scMet : FnScope mtN ["masks", "bits"] (defScope sMet) := ⟨rfl, rfl, rfl, by decide +kernel, rfl, by decide +kernel, by decide +kernel⟩
theorem ok_met {f : Addr} {fd : FuncData} (F : Fun K "_met_besides" "_met_besides" sMet f fd) (N : Nm mg) (sm : mg "sum" = none) (an : mg "any" = none) (most : ∃ t, mg "MOST_SETS" = some (.int 400 t)) : FnOk P w K mg base CX0 1 f fd ["masks", "bits"] (spMet K) := by
  obtain ⟨tm, hm⟩ := most
  refine F.ok scMet (fun vs H Q E h => ?_) (fun cdv A outer s H vs Q E hr h => ?_)
  · obtain ⟨A, B, ms, bs, rfl, _⟩ := h
    rfl
  · obtain ⟨A1, B1, ms, bs, rfl, hA, hB, ml, bl, few, k⟩ := h
    --BODY0
    refine ⟨_, pss_cons (ps_set (i := 2) scMet.nd rfl (Or.inr rfl) (pe_callB (show CallR _ _ (rSum K) from cr_sum rfl) (by rfl) sm (by rfl) (pa_cons (pv 1) pa_nil)))
      (pss_cons (ps_setLc (i := 3) (own := [("mask", 8)]) (g := gName 8) (tt := (tAndB K 8 2)) rfl scMet.nd rfl rfl (sw_true rfl rfl rfl (by decide +kernel)) (pi_list (pv 0)) (blkOk_by (N := mtN) (sc := defScope sMet) (by decide +kernel)) (fun _ _ _ _ _ => pg_name (i := 8) scMet.nd rfl (Or.inl rfl)) (fun _ _ _ _ _ => pts_one (pt_truth (pe_op op_and (pv 8) (pv 2)) (fun _ => rfl))) (fun _ _ _ _ _ => pv 8))
      (pss_cons (ps_setLc (i := 4) (own := [("mask", 8)]) (g := gName 8) (tt := (tNot (tAndB K 8 2))) rfl scMet.nd rfl rfl (sw_true rfl rfl rfl (by decide +kernel)) (pi_list (pv 0)) (blkOk_by (N := mtN) (sc := defScope sMet) (by decide +kernel)) (fun _ _ _ _ _ => pg_name (i := 8) scMet.nd rfl (Or.inl rfl)) (fun _ _ _ _ _ => pts_one (pt_not (pt_truth (pe_op op_and (pv 8) (pv 2)) (fun _ => rfl)))) (fun _ _ _ _ _ => pv 8))
      (pss_cons (ps_set (i := 5) scMet.nd rfl (Or.inl rfl) (pe_callTy call_list_of (by rfl) N.lst (by decide +kernel) (pa_cons (pv 3) pa_nil)))
      (pss_cons (ps_for PassesOwn.never rfl (pi_list (pv 1)) (pg_name (i := 6) scMet.nd rfl (Or.inr rfl))
      (pss_cons (ps_setLc (i := 7) (own := [("mask", 8)]) (g := gName 8) (tt := (tAndB K 8 6)) rfl scMet.nd rfl rfl (sw_true rfl rfl rfl (by decide +kernel)) (pi_list (pv 3)) (blkOk_by (N := mtN) (sc := defScope sMet) (by decide +kernel)) (fun _ _ _ _ _ => pg_name (i := 8) scMet.nd rfl (Or.inl rfl)) (fun _ _ _ _ _ => pts_one (pt_truth (pe_op op_and (pv 8) (pv 6)) (fun _ => rfl))) (fun _ _ _ _ _ => pv 8))
      (pss_cons (ps_for PassesOwn.never rfl (pi_list (pv 4)) (pg_name (i := 8) scMet.nd rfl (Or.inl rfl))
      (pss_cons (ps_set (i := 9) scMet.nd rfl (Or.inr rfl) (pe_op op_or (pv 8) (pv 6)))
      (pss_one (ps_if (pt_not (pt_val (pe_callB (show CallR _ _ (rAny K) from cr_any rfl) (by rfl) an (by rfl) (pa_cons (pe_lc (own := [("part", 10)]) (g := gName 10) (tt := tYes) rfl scMet.nd (pi_list (pv 7)) (blkOk_by (N := mtN) (sc := defScope sMet) (by decide +kernel)) (fun _ _ _ _ _ => pg_name (i := 10) scMet.nd rfl (Or.inl rfl)) (fun _ _ _ _ _ => pts_nil) (fun _ _ _ _ _ => pe_cmpR op_eq (pe_op op_and (pv 10) (pv 9)) (pv 10) (nomark _))) pa_nil)))) (pss_one (ps_expr (pe_bm PySem.F.plainAttrs_list PySem.F.slot_list_append PySem.F.type_list_append mt_append (pv 5) (pa_cons (pv 9) pa_nil)))) pss_nil))))
      (pss_one (ps_if (pt_cmpR op_gt (pe_callB call_len_seq (by rfl) N.len PySem.boot_len (pa_cons (pv 5) pa_nil)) (pe_glob (v := .int 400) (by rfl) hm ⟨tm, rfl⟩) (nomark _)) (pss_one ps_never) pss_nil)))))
      (pss_one (ps_ret (pv 5))))))), ?_⟩
    --END
    have eB : (bs.map fun n : Nat => (n : Int)).map V.int = VL bs := by rw [List.map_map]; rfl
    refine ⟨_, rfl, B1, bs.map fun n : Nat => (n : Int), rfl, by rw [eB]; exact SqL.of hB, ?_⟩
    rw [sum_natL]
    -- meeting
    refine ⟨_, rfl, A1, rfl, ⟨_, SqL.of hA⟩, fun Me nMe => ?_⟩
    refine lc_list (K := K) (a := A1) (xs := VL ms) (fun i H2 => Same H H2 ∧ H2 Me = some (.lst (VL ((ms.take i).filter fun m => m &&& bs.sum != 0)))) ⟨sm_new sm_refl nMe, upd_same⟩ (fun i H2 _ ⟨s2, _⟩ => SqL.of (s2 _ _ hA)) ?_ ?_
    · rintro i x H2 hi ⟨s2, hD⟩
      obtain ⟨m, hm', rfl⟩ := vl_get hi
      have il := (List.getElem?_eq_some_iff.mp hm').1
      refine ⟨rfl, _, rfl, _, rfl, _, _, rfl, rfl, (m &&& bs.sum != 0), (and_ne m bs.sum).symm, ?_⟩
      exact vl_filt (q := fun m => m &&& bs.sum != 0) hm' (by omega) (fun q => ⟨_, rfl, _, hD, vl_few (by omega), sm_new s2 nMe, by rw [upd_same, vl_snoc hm' q]⟩) (fun q => ⟨s2, by rw [vl_skip hm' q]; exact hD⟩)
    rintro H2 ⟨s2, hMe⟩
    rw [vl_len, List.take_length] at hMe
    have hMe : H2 Me = some (.lst (VL (Bg.meeting ms bs.sum))) := hMe
    -- lacking
    refine ⟨_, rfl, A1, rfl, ⟨_, SqL.of (s2 _ _ hA)⟩, fun La nLa => ?_⟩
    refine lc_list (K := K) (a := A1) (xs := VL ms) (fun i H3 => Same H2 H3 ∧ H3 La = some (.lst (VL ((ms.take i).filter fun m => !(m &&& bs.sum != 0))))) ⟨sm_new sm_refl nLa, upd_same⟩ (fun i H3 _ ⟨s3, _⟩ => SqL.of (s3 _ _ (s2 _ _ hA))) ?_ ?_
    · rintro i x H3 hi ⟨s3, hD⟩
      obtain ⟨m, hm', rfl⟩ := vl_get hi
      have il := (List.getElem?_eq_some_iff.mp hm').1
      refine ⟨rfl, _, rfl, _, rfl, _, _, rfl, rfl, (m &&& bs.sum != 0), (and_ne m bs.sum).symm, ?_⟩
      exact vl_filt (q := fun m => !(m &&& bs.sum != 0)) hm' (by omega) (fun q => ⟨_, rfl, _, hD, vl_few (by omega), sm_new s3 nLa, by rw [upd_same, vl_snoc hm' q]⟩) (fun q => ⟨s3, by rw [vl_skip hm' q]; exact hD⟩)
    rintro H3 ⟨s3, hLa⟩
    rw [vl_len, List.take_length] at hLa
    have hLa : H3 La = some (.lst (VL (Bg.lacking ms bs.sum))) := hLa
    have hMe3 := s3 _ _ hMe
    have s03 := s2.trans s3
    have hB3 := s03 _ _ hB
    -- found
    refine ⟨_, rfl, Me, _, rfl, .inl (SqL.of hMe3), fun Fo nFo => ?_⟩
    have nFo0 := s03.free nFo
    have sF : Same H3 (upd H3 Fo (.lst (VL (Bg.meeting ms bs.sum)))) := sm_new sm_refl nFo
    have hF : upd H3 Fo (.lst (VL (Bg.meeting ms bs.sum))) Fo = some (.lst (VL (Bg.meeting ms bs.sum))) := upd_same
    generalize upd H3 Fo (.lst (VL (Bg.meeting ms bs.sum))) = H4 at sF hF ⊢
    have lMe : (Bg.meeting ms bs.sum).length ≤ 400 := Nat.le_trans (List.length_filter_le ..) ml
    have lLa : (Bg.lacking ms bs.sum).length ≤ 400 := Nat.le_trans (List.length_filter_le ..) ml
    have step : ∀ {j b : Nat}, bs[j]? = some b → fAt ms bs (j + 1) = fAt ms bs j ++ Bg.grow ms bs.sum b := fun {j b} h => by
      unfold fAt
      rw [List.take_succ, h, List.flatMap_append, List.append_assoc]
      simp
    have le_end : ∀ j, (fAt ms bs j).length ≤ (Bg.met ms bs).length := fun j => by
      unfold fAt Bg.met
      rw [List.length_append, List.length_append]
      have : bs.flatMap (Bg.grow ms bs.sum) = (bs.take j).flatMap (Bg.grow ms bs.sum) ++ (bs.drop j).flatMap (Bg.grow ms bs.sum) := by rw [← List.flatMap_append, List.take_append_drop]
      rw [this, List.length_append]
      omega
    have at_end : fAt ms bs bs.length = Bg.met ms bs := by
      unfold fAt Bg.met
      rw [List.take_length]
    refine ⟨_, rfl, B1, rfl, ⟨_, SqL.of (sF _ _ hB3)⟩, ?_⟩
    refine for_list (K := K) (a := B1) (xs := VL bs) (fun j σ H5 => (∃ u6 u7 u8 u9, σ = [some (.ref A1), some (.ref B1), some (.int (bs.sum : Nat)), some (.ref Me), some (.ref La), some (.ref Fo), u6, u7, u8, u9, none]) ∧ Same H3 H5 ∧ H5 Fo = some (.lst (VL (fAt ms bs j))) ∧ (j = 0 ∨ (fAt ms bs j).length ≤ 400))
      ⟨⟨_, _, _, _, rfl⟩, sF, by rw [fAt_zero]; exact hF, .inl rfl⟩ (fun j σ H5 _ ⟨_, s5, _⟩ => SqL.of (s5 _ _ hB3)) ?_ ?_
    · rintro j x σ H5 hj ⟨⟨u6, u7, u8, u9, rfl⟩, s5, hF5, lim⟩
      obtain ⟨b, hb, rfl⟩ := vl_get hj
      have l5 : (fAt ms bs j).length ≤ 400 := lim.elim (fun e => by rw [e, fAt_zero]; exact lMe) id
      have hMe5 := s5 _ _ hMe3
      have hLa5 := s5 _ _ hLa
      -- parts
      refine ⟨_, rfl, Me, rfl, ⟨_, SqL.of hMe5⟩, fun Pa nPa => ?_⟩
      have FP : Fo ≠ Pa := ne_of_none hF5 nPa
      refine lc_list (K := K) (a := Me) (xs := VL (Bg.meeting ms bs.sum)) (fun i H6 => Same H5 H6 ∧ H6 Pa = some (.lst (VL (((Bg.meeting ms bs.sum).take i).filter fun m => m &&& b != 0)))) ⟨sm_new sm_refl nPa, upd_same⟩ (fun i H6 _ ⟨s6, _⟩ => SqL.of (s6 _ _ hMe5)) ?_ ?_
      · rintro i x H6 hi ⟨s6, hD⟩
        obtain ⟨m, hm', rfl⟩ := vl_get hi
        have il := (List.getElem?_eq_some_iff.mp hm').1
        refine ⟨rfl, _, rfl, _, rfl, _, _, rfl, rfl, (m &&& b != 0), (and_ne m b).symm, ?_⟩
        exact vl_filt (q := fun m => m &&& b != 0) hm' (by omega) (fun q => ⟨_, rfl, _, hD, vl_few (by omega), sm_new s6 nPa, by rw [upd_same, vl_snoc hm' q]⟩) (fun q => ⟨s6, by rw [vl_skip hm' q]; exact hD⟩)
      rintro H6 ⟨s6, hPa⟩
      rw [vl_len, List.take_length] at hPa
      have hF6 := s6 _ _ hF5
      have s36 := s5.trans s6
      generalize hps : ((Bg.meeting ms bs.sum).filter fun m => m &&& b != 0) = ps at hPa
      have pl : ps.length ≤ 400 := by rw [← hps]; exact Nat.le_trans (List.length_filter_le ..) lMe
      -- what grows
      refine ⟨_, rfl, La, rfl, ⟨_, SqL.of (s36 _ _ hLa)⟩, ?_⟩
      refine for_list (K := K) (a := La) (xs := VL (Bg.lacking ms bs.sum)) (fun i σ H7 => (∃ u8 u9, σ = [some (.ref A1), some (.ref B1), some (.int (bs.sum : Nat)), some (.ref Me), some (.ref La), some (.ref Fo), some (.int (b : Nat)), some (.ref Pa), u8, u9, none]) ∧ Same H3 H7 ∧ H7 Pa = some (.lst (VL ps)) ∧
        H7 Fo = some (.lst (VL (fAt ms bs j ++ (((Bg.lacking ms bs.sum).take i).map fun m => m ||| b).filter fun g => !(ps.any fun p => p &&& g == p))))) ⟨⟨_, _, rfl⟩, s36, hPa, by simpa using hF6⟩ (fun i σ H7 _ ⟨_, s7, _⟩ => SqL.of (s7 _ _ hLa)) ?_ ?_
      · rintro i x σ H7 hi ⟨⟨u8, u9, rfl⟩, s7, hPa7, hF7⟩
        obtain ⟨m, hm', rfl⟩ := vl_get hi
        have il := (List.getElem?_eq_some_iff.mp hm').1
        refine ⟨_, rfl, _, rfl, _, _, rfl, rfl, ?_⟩
        show gName 9 (.int (Builtin.bitOr ((m : Nat) : Int) ((b : Nat) : Int))) _ _ _
        rw [or_up]
        refine ⟨_, rfl, Pa, rfl, ⟨_, SqL.of hPa7⟩, fun D2 nD2 => ?_⟩
        refine lc_list (K := K) (a := Pa) (xs := VL ps) (fun t H8 => Same H7 H8 ∧ H8 D2 = some (.lst (((ps.take t).map fun p => p &&& (m ||| b) == p).map V.bl))) ⟨sm_new sm_refl nD2, upd_same⟩ (fun t H8 _ ⟨s8, _⟩ => SqL.of (s8 _ _ hPa7)) ?_ ?_
        · rintro t y H8 ht ⟨s8, hD2⟩
          obtain ⟨p, hp, rfl⟩ := vl_get ht
          have tl := (List.getElem?_eq_some_iff.mp hp).1
          refine ⟨rfl, _, rfl, _, rfl, _, _, rfl, rfl, _, rfl, rfl, _, hD2, ?_, sm_new s8 nD2, ?_⟩
          · rw [List.length_map, List.length_map, List.length_take, sizeLine_eq]
            omega
          · rw [upd_same]
            show some (HO.lst (_ ++ [V.bl (decide (V.int (Builtin.bitAnd ((p : Nat) : Int) ((m ||| b : Nat) : Int)) = V.int (p : Nat)))])) = _
            rw [and_eqb, List.take_succ, hp, List.map_append, List.map_append]
            rfl
        rintro H8 ⟨s8, hD2⟩
        rw [vl_len, List.take_length] at hD2
        have ea : ((ps.map fun p => p &&& (m ||| b) == p).any id) = ps.any fun p => p &&& (m ||| b) == p := by rw [List.any_map]; rfl
        refine ⟨D2, _, rfl, SqL.of hD2, _, rfl, ?_⟩
        rw [ea]
        have hF8 := s8 _ _ hF7
        have hPa8 := s8 _ _ hPa7
        have s38 := s7.trans s8
        have sg : (((Bg.lacking ms bs.sum).take (i + 1)).map fun m => m ||| b).filter (fun g => !(ps.any fun p => p &&& g == p)) = (((Bg.lacking ms bs.sum).take i).map fun m => m ||| b).filter (fun g => !(ps.any fun p => p &&& g == p)) ++ if (!(ps.any fun p => p &&& (m ||| b) == p)) = true then [m ||| b] else [] := by
          have e1 : ((Bg.lacking ms bs.sum).map fun m => m ||| b)[i]? = some (m ||| b) := by rw [List.getElem?_map, hm']; rfl
          have e2 := filt_one (q := fun g => !(ps.any fun p => p &&& g == p)) e1
          rw [← List.map_take, ← List.map_take] at e2
          exact e2
        have lg : (fAt ms bs j ++ (((Bg.lacking ms bs.sum).take i).map fun m => m ||| b).filter fun g => !(ps.any fun p => p &&& g == p)).length ≤ 800 := by
          rw [List.length_append]
          have := List.length_filter_le (fun g => !(ps.any fun p => p &&& g == p)) (((Bg.lacking ms bs.sum).take i).map fun m => m ||| b)
          rw [List.length_map, List.length_take] at this
          omega
        cases q : ps.any fun p => p &&& (m ||| b) == p with
        | true =>
          rw [q] at sg
          refine iteF ⟨⟨_, _, rfl⟩, s38, hPa8, ?_⟩
          rw [sg, if_neg (by decide), List.append_nil]
          exact hF8
        | false =>
          rw [q] at sg
          refine iteT ⟨_, rfl, .inl ⟨rfl, _, SqL.of hF8⟩, _, rfl, Fo, _, _, rfl, rfl, hF8, small1000 (by rw [vl_len]; omega), ⟨_, _, rfl⟩, fun a u z => by rw [upd_ne (ne_of_none z nFo)]; exact s38 a u z, by rw [upd_ne (Ne.symm FP)]; exact hPa8, ?_⟩
          rw [upd_same, sg, if_pos (show (!false) = true from rfl), ← List.append_assoc]
          unfold VL
          rw [List.map_append (l₂ := [m ||| b])]
          rfl
      rintro σ H7 ⟨⟨u8, u9, rfl⟩, s7, hPa7, hF7⟩
      rw [vl_len, List.take_length] at hF7
      have hF7 : H7 Fo = some (.lst (VL (fAt ms bs (j + 1)))) := by
        rw [step hb, hF7, ← hps]
        rfl
      refine ⟨_, rfl, Fo, _, rfl, .inl (SqL.of hF7), _, _, rfl, rfl, _, rfl, ?_⟩
      refine ite2 (fun hc => ?_) (fun hc => ⟨⟨_, _, _, _, rfl⟩, s7, hF7, .inr ?_⟩)
      · have hc := of_decide_eq_true hc
        rw [vl_len] at hc
        have := le_end (j + 1)
        omega
      · have hc := mt decide_eq_true hc
        rw [vl_len] at hc
        omega
    · rintro σ H5 ⟨⟨u6, u7, u8, u9, rfl⟩, s5, hF5, lim⟩
      rw [vl_len, at_end] at hF5
      rw [vl_len, at_end] at lim
      exact ⟨_, rfl, k Fo H5 (s03.trans s5) nFo0 hF5⟩
theorem ok_metX {f : Addr} {fd : FuncData} (F : Fun K "_met_besides" "_met_besides" sMet f fd) (N : Nm mg) (sm : mg "sum" = none) (an : mg "any" = none) (most : ∃ t, mg "MOST_SETS" = some (.int 400 t)) (X : Tm K mg T C fI) : FnOk P w K mg base (L2.CX P w) 1 f fd ["masks", "bits"] (spMetX K C) := by
  obtain ⟨tm, hm⟩ := most
  refine F.okX scMet (fun vs H Q E h => ?_) (fun cdv A outer s H vs Q E hr h => ?_)
  · obtain ⟨A, B, ms, bs, rfl, _⟩ := h
    rfl
  · obtain ⟨A1, B1, ms, bs, rfl, hA, hB, ml, bl, over, out⟩ := h
    have tk := takes_of (X := cxOf (L2.CX P w) P w K mg base mtN "_met_besides" (defScope sMet) f cdv A outer s H E) (E := E) rfl rfl rfl rfl
    --BODYX
    refine ⟨_, pss_cons (ps_set (i := 2) scMet.nd rfl (Or.inr rfl) (pe_callB (show CallR _ _ (rSum K) from cr_sum rfl) (by rfl) sm (by rfl) (pa_cons (pv 1) pa_nil)))
      (pss_cons (ps_setLc (i := 3) (own := [("mask", 8)]) (g := gName 8) (tt := (tAndB K 8 2)) rfl scMet.nd rfl rfl (sw_true rfl rfl rfl (by decide +kernel)) (pi_list (pv 0)) (blkOk_by (N := mtN) (sc := defScope sMet) (by decide +kernel)) (fun _ _ _ _ _ => pg_name (i := 8) scMet.nd rfl (Or.inl rfl)) (fun _ _ _ _ _ => pts_one (pt_truth (pe_op op_and (pv 8) (pv 2)) (fun _ => rfl))) (fun _ _ _ _ _ => pv 8))
      (pss_cons (ps_setLc (i := 4) (own := [("mask", 8)]) (g := gName 8) (tt := (tNot (tAndB K 8 2))) rfl scMet.nd rfl rfl (sw_true rfl rfl rfl (by decide +kernel)) (pi_list (pv 0)) (blkOk_by (N := mtN) (sc := defScope sMet) (by decide +kernel)) (fun _ _ _ _ _ => pg_name (i := 8) scMet.nd rfl (Or.inl rfl)) (fun _ _ _ _ _ => pts_one (pt_not (pt_truth (pe_op op_and (pv 8) (pv 2)) (fun _ => rfl)))) (fun _ _ _ _ _ => pv 8))
      (pss_cons (ps_set (i := 5) scMet.nd rfl (Or.inl rfl) (pe_callTy call_list_of (by rfl) N.lst (by decide +kernel) (pa_cons (pv 3) pa_nil)))
      (pss_cons (ps_for (passes_of rfl) rfl (pi_list (pv 1)) (pg_name (i := 6) scMet.nd rfl (Or.inr rfl))
      (pss_cons (ps_setLc (i := 7) (own := [("mask", 8)]) (g := gName 8) (tt := (tAndB K 8 6)) rfl scMet.nd rfl rfl (sw_true rfl rfl rfl (by decide +kernel)) (pi_list (pv 3)) (blkOk_by (N := mtN) (sc := defScope sMet) (by decide +kernel)) (fun _ _ _ _ _ => pg_name (i := 8) scMet.nd rfl (Or.inl rfl)) (fun _ _ _ _ _ => pts_one (pt_truth (pe_op op_and (pv 8) (pv 6)) (fun _ => rfl))) (fun _ _ _ _ _ => pv 8))
      (pss_cons (ps_for (passes_of rfl) rfl (pi_list (pv 4)) (pg_name (i := 8) scMet.nd rfl (Or.inl rfl))
      (pss_cons (ps_set (i := 9) scMet.nd rfl (Or.inr rfl) (pe_op op_or (pv 8) (pv 6)))
      (pss_one (ps_if (pt_not (pt_val (pe_callB (show CallR _ _ (rAny K) from cr_any rfl) (by rfl) an (by rfl) (pa_cons (pe_lc (own := [("part", 10)]) (g := gName 10) (tt := tYes) rfl scMet.nd (pi_list (pv 7)) (blkOk_by (N := mtN) (sc := defScope sMet) (by decide +kernel)) (fun _ _ _ _ _ => pg_name (i := 10) scMet.nd rfl (Or.inl rfl)) (fun _ _ _ _ _ => pts_nil) (fun _ _ _ _ _ => pe_cmpR op_eq (pe_op op_and (pv 10) (pv 9)) (pv 10) (nomark _))) pa_nil)))) (pss_one (ps_expr (pe_bm PySem.F.plainAttrs_list PySem.F.slot_list_append PySem.F.type_list_append mt_append (pv 5) (pa_cons (pv 9) pa_nil)))) pss_nil))))
      (pss_one (ps_if (pt_cmpR op_gt (pe_callB call_len_seq (by rfl) N.len PySem.boot_len (pa_cons (pv 5) pa_nil)) (pe_glob (v := .int 400) (by rfl) hm ⟨tm, rfl⟩) (nomark _)) (pss_one (ps_raise rfl tk (pmk_mk X.E X.mks X.g hr (pa_cons pe_str pa_nil) rfl))) pss_nil)))))
      (pss_one (ps_ret (pv 5))))))), ?_⟩
    --END
    have eB : (bs.map fun n : Nat => (n : Int)).map V.int = VL bs := by rw [List.map_map]; rfl
    refine ⟨_, rfl, B1, bs.map fun n : Nat => (n : Int), rfl, by rw [eB]; exact SqL.of hB, ?_⟩
    rw [sum_natL]
    -- meeting
    refine ⟨_, rfl, A1, rfl, ⟨_, SqL.of hA⟩, fun Me nMe => ?_⟩
    refine lc_list (K := K) (a := A1) (xs := VL ms) (fun i H2 => Same H H2 ∧ H2 Me = some (.lst (VL ((ms.take i).filter fun m => m &&& bs.sum != 0)))) ⟨sm_new sm_refl nMe, upd_same⟩ (fun i H2 _ ⟨s2, _⟩ => SqL.of (s2 _ _ hA)) ?_ ?_
    · rintro i x H2 hi ⟨s2, hD⟩
      obtain ⟨m, hm', rfl⟩ := vl_get hi
      have il := (List.getElem?_eq_some_iff.mp hm').1
      refine ⟨rfl, _, rfl, _, rfl, _, _, rfl, rfl, (m &&& bs.sum != 0), (and_ne m bs.sum).symm, ?_⟩
      exact vl_filt (q := fun m => m &&& bs.sum != 0) hm' (by omega) (fun q => ⟨_, rfl, _, hD, vl_few (by omega), sm_new s2 nMe, by rw [upd_same, vl_snoc hm' q]⟩) (fun q => ⟨s2, by rw [vl_skip hm' q]; exact hD⟩)
    rintro H2 ⟨s2, hMe⟩
    rw [vl_len, List.take_length] at hMe
    have hMe : H2 Me = some (.lst (VL (Bg.meeting ms bs.sum))) := hMe
    -- lacking
    refine ⟨_, rfl, A1, rfl, ⟨_, SqL.of (s2 _ _ hA)⟩, fun La nLa => ?_⟩
    refine lc_list (K := K) (a := A1) (xs := VL ms) (fun i H3 => Same H2 H3 ∧ H3 La = some (.lst (VL ((ms.take i).filter fun m => !(m &&& bs.sum != 0))))) ⟨sm_new sm_refl nLa, upd_same⟩ (fun i H3 _ ⟨s3, _⟩ => SqL.of (s3 _ _ (s2 _ _ hA))) ?_ ?_
    · rintro i x H3 hi ⟨s3, hD⟩
      obtain ⟨m, hm', rfl⟩ := vl_get hi
      have il := (List.getElem?_eq_some_iff.mp hm').1
      refine ⟨rfl, _, rfl, _, rfl, _, _, rfl, rfl, (m &&& bs.sum != 0), (and_ne m bs.sum).symm, ?_⟩
      exact vl_filt (q := fun m => !(m &&& bs.sum != 0)) hm' (by omega) (fun q => ⟨_, rfl, _, hD, vl_few (by omega), sm_new s3 nLa, by rw [upd_same, vl_snoc hm' q]⟩) (fun q => ⟨s3, by rw [vl_skip hm' q]; exact hD⟩)
    rintro H3 ⟨s3, hLa⟩
    rw [vl_len, List.take_length] at hLa
    have hLa : H3 La = some (.lst (VL (Bg.lacking ms bs.sum))) := hLa
    have hMe3 := s3 _ _ hMe
    have s03 := s2.trans s3
    have hB3 := s03 _ _ hB
    -- found
    refine ⟨_, rfl, Me, _, rfl, .inl (SqL.of hMe3), fun Fo nFo => ?_⟩
    have nFo0 := s03.free nFo
    have sF : Same H3 (upd H3 Fo (.lst (VL (Bg.meeting ms bs.sum)))) := sm_new sm_refl nFo
    have hF : upd H3 Fo (.lst (VL (Bg.meeting ms bs.sum))) Fo = some (.lst (VL (Bg.meeting ms bs.sum))) := upd_same
    generalize upd H3 Fo (.lst (VL (Bg.meeting ms bs.sum))) = H4 at sF hF ⊢
    have lMe : (Bg.meeting ms bs.sum).length ≤ 400 := Nat.le_trans (List.length_filter_le ..) ml
    have lLa : (Bg.lacking ms bs.sum).length ≤ 400 := Nat.le_trans (List.length_filter_le ..) ml
    have step : ∀ {j b : Nat}, bs[j]? = some b → fAt ms bs (j + 1) = fAt ms bs j ++ Bg.grow ms bs.sum b := fun {j b} h => by
      unfold fAt
      rw [List.take_succ, h, List.flatMap_append, List.append_assoc]
      simp
    have le_end : ∀ j, (fAt ms bs j).length ≤ (Bg.met ms bs).length := fun j => by
      unfold fAt Bg.met
      rw [List.length_append, List.length_append]
      have : bs.flatMap (Bg.grow ms bs.sum) = (bs.take j).flatMap (Bg.grow ms bs.sum) ++ (bs.drop j).flatMap (Bg.grow ms bs.sum) := by rw [← List.flatMap_append, List.take_append_drop]
      rw [this, List.length_append]
      omega
    have at_end : fAt ms bs bs.length = Bg.met ms bs := by
      unfold fAt Bg.met
      rw [List.take_length]
    refine ⟨_, rfl, B1, rfl, ⟨_, SqL.of (sF _ _ hB3)⟩, ?_⟩
    refine for_list (K := K) (a := B1) (xs := VL bs) (fun j σ H5 => (∃ u6 u7 u8 u9, σ = [some (.ref A1), some (.ref B1), some (.int (bs.sum : Nat)), some (.ref Me), some (.ref La), some (.ref Fo), u6, u7, u8, u9, none]) ∧ Same H3 H5 ∧ H5 Fo = some (.lst (VL (fAt ms bs j))) ∧ (j = 0 ∨ (fAt ms bs j).length ≤ 400))
      ⟨⟨_, _, _, _, rfl⟩, sF, by rw [fAt_zero]; exact hF, .inl rfl⟩ (fun j σ H5 _ ⟨_, s5, _⟩ => SqL.of (s5 _ _ hB3)) ?_ ?_
    · rintro j x σ H5 hj ⟨⟨u6, u7, u8, u9, rfl⟩, s5, hF5, lim⟩
      obtain ⟨b, hb, rfl⟩ := vl_get hj
      have l5 : (fAt ms bs j).length ≤ 400 := lim.elim (fun e => by rw [e, fAt_zero]; exact lMe) id
      have hMe5 := s5 _ _ hMe3
      have hLa5 := s5 _ _ hLa
      -- parts
      refine ⟨_, rfl, Me, rfl, ⟨_, SqL.of hMe5⟩, fun Pa nPa => ?_⟩
      have FP : Fo ≠ Pa := ne_of_none hF5 nPa
      refine lc_list (K := K) (a := Me) (xs := VL (Bg.meeting ms bs.sum)) (fun i H6 => Same H5 H6 ∧ H6 Pa = some (.lst (VL (((Bg.meeting ms bs.sum).take i).filter fun m => m &&& b != 0)))) ⟨sm_new sm_refl nPa, upd_same⟩ (fun i H6 _ ⟨s6, _⟩ => SqL.of (s6 _ _ hMe5)) ?_ ?_
      · rintro i x H6 hi ⟨s6, hD⟩
        obtain ⟨m, hm', rfl⟩ := vl_get hi
        have il := (List.getElem?_eq_some_iff.mp hm').1
        refine ⟨rfl, _, rfl, _, rfl, _, _, rfl, rfl, (m &&& b != 0), (and_ne m b).symm, ?_⟩
        exact vl_filt (q := fun m => m &&& b != 0) hm' (by omega) (fun q => ⟨_, rfl, _, hD, vl_few (by omega), sm_new s6 nPa, by rw [upd_same, vl_snoc hm' q]⟩) (fun q => ⟨s6, by rw [vl_skip hm' q]; exact hD⟩)
      rintro H6 ⟨s6, hPa⟩
      rw [vl_len, List.take_length] at hPa
      have hF6 := s6 _ _ hF5
      have s36 := s5.trans s6
      generalize hps : ((Bg.meeting ms bs.sum).filter fun m => m &&& b != 0) = ps at hPa
      have pl : ps.length ≤ 400 := by rw [← hps]; exact Nat.le_trans (List.length_filter_le ..) lMe
      -- what grows
      refine ⟨_, rfl, La, rfl, ⟨_, SqL.of (s36 _ _ hLa)⟩, ?_⟩
      refine for_list (K := K) (a := La) (xs := VL (Bg.lacking ms bs.sum)) (fun i σ H7 => (∃ u8 u9, σ = [some (.ref A1), some (.ref B1), some (.int (bs.sum : Nat)), some (.ref Me), some (.ref La), some (.ref Fo), some (.int (b : Nat)), some (.ref Pa), u8, u9, none]) ∧ Same H3 H7 ∧ H7 Pa = some (.lst (VL ps)) ∧
        H7 Fo = some (.lst (VL (fAt ms bs j ++ (((Bg.lacking ms bs.sum).take i).map fun m => m ||| b).filter fun g => !(ps.any fun p => p &&& g == p))))) ⟨⟨_, _, rfl⟩, s36, hPa, by simpa using hF6⟩ (fun i σ H7 _ ⟨_, s7, _⟩ => SqL.of (s7 _ _ hLa)) ?_ ?_
      · rintro i x σ H7 hi ⟨⟨u8, u9, rfl⟩, s7, hPa7, hF7⟩
        obtain ⟨m, hm', rfl⟩ := vl_get hi
        have il := (List.getElem?_eq_some_iff.mp hm').1
        refine ⟨_, rfl, _, rfl, _, _, rfl, rfl, ?_⟩
        show gName 9 (.int (Builtin.bitOr ((m : Nat) : Int) ((b : Nat) : Int))) _ _ _
        rw [or_up]
        refine ⟨_, rfl, Pa, rfl, ⟨_, SqL.of hPa7⟩, fun D2 nD2 => ?_⟩
        refine lc_list (K := K) (a := Pa) (xs := VL ps) (fun t H8 => Same H7 H8 ∧ H8 D2 = some (.lst (((ps.take t).map fun p => p &&& (m ||| b) == p).map V.bl))) ⟨sm_new sm_refl nD2, upd_same⟩ (fun t H8 _ ⟨s8, _⟩ => SqL.of (s8 _ _ hPa7)) ?_ ?_
        · rintro t y H8 ht ⟨s8, hD2⟩
          obtain ⟨p, hp, rfl⟩ := vl_get ht
          have tl := (List.getElem?_eq_some_iff.mp hp).1
          refine ⟨rfl, _, rfl, _, rfl, _, _, rfl, rfl, _, rfl, rfl, _, hD2, ?_, sm_new s8 nD2, ?_⟩
          · rw [List.length_map, List.length_map, List.length_take, sizeLine_eq]
            omega
          · rw [upd_same]
            show some (HO.lst (_ ++ [V.bl (decide (V.int (Builtin.bitAnd ((p : Nat) : Int) ((m ||| b : Nat) : Int)) = V.int (p : Nat)))])) = _
            rw [and_eqb, List.take_succ, hp, List.map_append, List.map_append]
            rfl
        rintro H8 ⟨s8, hD2⟩
        rw [vl_len, List.take_length] at hD2
        have ea : ((ps.map fun p => p &&& (m ||| b) == p).any id) = ps.any fun p => p &&& (m ||| b) == p := by rw [List.any_map]; rfl
        refine ⟨D2, _, rfl, SqL.of hD2, _, rfl, ?_⟩
        rw [ea]
        have hF8 := s8 _ _ hF7
        have hPa8 := s8 _ _ hPa7
        have s38 := s7.trans s8
        have sg : (((Bg.lacking ms bs.sum).take (i + 1)).map fun m => m ||| b).filter (fun g => !(ps.any fun p => p &&& g == p)) = (((Bg.lacking ms bs.sum).take i).map fun m => m ||| b).filter (fun g => !(ps.any fun p => p &&& g == p)) ++ if (!(ps.any fun p => p &&& (m ||| b) == p)) = true then [m ||| b] else [] := by
          have e1 : ((Bg.lacking ms bs.sum).map fun m => m ||| b)[i]? = some (m ||| b) := by rw [List.getElem?_map, hm']; rfl
          have e2 := filt_one (q := fun g => !(ps.any fun p => p &&& g == p)) e1
          rw [← List.map_take, ← List.map_take] at e2
          exact e2
        have lg : (fAt ms bs j ++ (((Bg.lacking ms bs.sum).take i).map fun m => m ||| b).filter fun g => !(ps.any fun p => p &&& g == p)).length ≤ 800 := by
          rw [List.length_append]
          have := List.length_filter_le (fun g => !(ps.any fun p => p &&& g == p)) (((Bg.lacking ms bs.sum).take i).map fun m => m ||| b)
          rw [List.length_map, List.length_take] at this
          omega
        cases q : ps.any fun p => p &&& (m ||| b) == p with
        | true =>
          rw [q] at sg
          refine iteF ⟨⟨_, _, rfl⟩, s38, hPa8, ?_⟩
          rw [sg, if_neg (by decide), List.append_nil]
          exact hF8
        | false =>
          rw [q] at sg
          refine iteT ⟨_, rfl, .inl ⟨rfl, _, SqL.of hF8⟩, _, rfl, Fo, _, _, rfl, rfl, hF8, small1000 (by rw [vl_len]; omega), ⟨_, _, rfl⟩, fun a u z => by rw [upd_ne (ne_of_none z nFo)]; exact s38 a u z, by rw [upd_ne (Ne.symm FP)]; exact hPa8, ?_⟩
          rw [upd_same, sg, if_pos (show (!false) = true from rfl), ← List.append_assoc]
          unfold VL
          rw [List.map_append (l₂ := [m ||| b])]
          rfl
      rintro σ H7 ⟨⟨u8, u9, rfl⟩, s7, hPa7, hF7⟩
      rw [vl_len, List.take_length] at hF7
      have hF7 : H7 Fo = some (.lst (VL (fAt ms bs (j + 1)))) := by
        rw [step hb, hF7, ← hps]
        rfl
      refine ⟨_, rfl, Fo, _, rfl, .inl (SqL.of hF7), _, _, rfl, rfl, _, rfl, ?_⟩
      refine ite2 (fun hc => ?_) (fun hc => ⟨⟨_, _, _, _, rfl⟩, s7, hF7, .inr ?_⟩)
      · have hc := of_decide_eq_true hc
        rw [vl_len] at hc
        have := le_end (j + 1)
        exact ⟨_, rfl, fun x nx => out x _ (sm_new (s03.trans s7) (s03.free (s7.free nx))) upd_same⟩
      · have hc := mt decide_eq_true hc
        rw [vl_len] at hc
        omega
    · rintro σ H5 ⟨⟨u6, u7, u8, u9, rfl⟩, s5, hF5, lim⟩
      rw [vl_len, at_end] at hF5
      rw [vl_len, at_end] at lim
      exfalso
      rcases lim with e | e
      · have e0 : bs = [] := List.length_eq_zero_iff.mp e
        rw [e0] at over
        have : Bg.met ms [] = [] := met_nil ms
        rw [this] at over
        exact absurd over (by decide)
      · omega
end
end K26


set_option Elab.async false
set_option linter.all false
set_option maxRecDepth 100000
set_option maxHeartbeats 8000000
/-! _bits_of, of sets as witnesses tells them: just which dict -/
namespace K26
open PySem L2 Nd Bk Gd
/-- the tokens of these sets, rising -/
def tksOf (os : List (List Str)) : List Str := sortU os.flatten
theorem tks_mem {os : List (List Str)} {z : Str} : z ∈ tksOf os ↔ ∃ o ∈ os, z ∈ o := by
  unfold tksOf
  rw [sortU_mem, List.mem_flatten]
theorem tks_nd (os : List (List Str)) : (tksOf os).Nodup := asc_nd (sortU_asc _)
def kvB (ts : List Str) : List (Key × V) := ts.map fun t => (.inr t, .int (bitOf ts t : Nat))
theorem kvB_val {ts : List Str} {t : Str} (h : t ∈ ts) : valV (kvB ts) (.inr t) = some (.int (bitOf ts t : Nat)) := by
  unfold kvB
  have key : ∀ (l : List Str), t ∈ l → valV (l.map fun t => ((Sum.inr t : Key), V.int (bitOf ts t : Nat))) (.inr t) = some (.int (bitOf ts t : Nat)) := by
    intro l
    induction l with
    | nil => exact fun h => nomatch h
    | cons a r ih =>
      intro h
      rw [List.map_cons]
      by_cases e : a = t
      · rw [valV_pos (by rw [e]), e]
      · rw [valV_neg fun z => e (Sum.inr.inj z)]
        exact ih ((List.mem_cons.mp h).resolve_left fun z => e z.symm)
  exact key ts h
def spBitsT (K : PySem.W.Frag) : Sp := fun vs H Q _ => ∃ (L : Addr) (ys : List V) (os : List (List Str)), vs = [.ref L] ∧ (SqL K H L ys ∨ SqT K H L ys) ∧ DpAll K H ys (os.map sD) ∧ os.flatten.length ≤ 1000 ∧
  ∀ (D : Addr) (H' : Hp), Same H H' → H D = none → H' D = some (.dK (kvB (tksOf os))) → Q (.ref D) H'
theorem sets_at {K : PySem.W.Frag} {H : Hp} {ys : List V} {os : List (List Str)} (h : DpAll K H ys (os.map sD)) {i : Nat} {x : V} (hx : ys[i]? = some x) : ∃ o b, os[i]? = some o ∧ x = .ref b ∧ SqT K H b (o.map V.str) := by
  obtain ⟨d, h1, h2⟩ := dpAll_get h hx
  rw [List.getElem?_map] at h1
  obtain ⟨o, ho, rfl⟩ := Option.map_eq_some_iff.mp h1
  obtain ⟨b, zs, rfl, hb, hzs⟩ := dp_tup h2
  cases dp_strs hzs
  exact ⟨o, b, ho, rfl, hb⟩
section
variable {P : Program} {w : World} {K : PySem.W.Frag} {mg : Str → Option Value} {base : Heap}
theorem ok_bitsT {f : Addr} {fd : FuncData} (F : Fun K "_bits_of" "_bits_of" sBits f fd) (srt : mg "sorted" = none) (en : mg "enumerate" = none) : FnOk P w K mg base CX0 1 f fd ["sets"] (spBitsT K) := by
  refine F.ok scBits (fun vs H Q E h => ?_) (fun cdv A outer s H vs Q E hr h => ?_)
  · obtain ⟨L, ys, os, rfl, _⟩ := h
    rfl
  · obtain ⟨L, ys, os, rfl, hL, dy, fl, k⟩ := h
    refine ⟨_, pss_cons (ps_set (i := 1) scBits.nd rfl (Or.inl rfl) (pe_callB (Sx.cr_sortS rfl (u64 hr)) (by rfl) srt (by rfl) (pa_cons
        (Sx.pe_sc2 (own := [("each", 2), ("token", 3)]) (vs1 := [3]) (g := gName 2) (g1 := gName 3) rfl scBits.nd (pi_seq (pv 0)) (blkOk_by (N := btN) (sc := defScope sBits) (by decide +kernel)) (by decide)
          (fun _ _ _ _ _ => pg_name (i := 2) scBits.nd rfl (Or.inl rfl)) (fun _ _ _ _ _ => show PI _ _ _ (iTup K (tVar 2)) from pi_tup (pv 2))
          (fun _ _ _ _ _ => pg_name (i := 3) scBits.nd rfl (Or.inl rfl)) (fun _ _ _ _ _ => pv 3)) pa_nil)))
      (pss_one (ps_ret (pe_dc (own := [("at", 4), ("token", 3)]) (g := gSeq K 2 (gCons (gName 4) (gCons (gName 3) gNil))) (tt := tYes) rfl scBits.nd (pi_enum (by rfl) en (pa_cons (pv 1) pa_nil)) (blkOk_by (N := btN) (sc := defScope sBits) (by decide +kernel))
          (fun _ _ _ _ _ => pg_seq rfl (pgs_cons (pg_name (i := 4) scBits.nd rfl (Or.inl rfl)) (pgs_cons (pg_name (i := 3) scBits.nd rfl (Or.inl rfl)) pgs_nil))) (fun _ _ _ _ _ => pts_nil)
          (fun _ _ _ _ _ => pv 3) (fun _ _ _ _ _ => pe_op op_oneShl pe_int (pv 4))))), ?_⟩
    have yl : ys.length = os.length := by rw [dpAll_len dy, List.length_map]
    refine seq_go rfl hL fun J G walk hG D nD => ?_
    refine turns walk (fun i H2 => Same H H2 ∧ H2 D = some (Sx.SetSO w D (so (os.take i).flatten))) ⟨sm_new sm_refl nD, upd_same⟩ (fun i H2 _ ⟨s2, _⟩ => hG H2 s2.seq (sqT_same s2)) ?_ ?_
    · rintro i x _ H2 hi ⟨s2, hD⟩ ⟨rfl, hx⟩
      obtain ⟨o, b, ho, rfl, hb⟩ := sets_at dy hx
      refine ⟨rfl, ?_⟩
      refine ⟨_, rfl, b, rfl, ⟨_, sqT_same s2 hb⟩, ?_⟩
      refine turns walk_tup (fun j H3 => Same H H3 ∧ H3 D = some (Sx.SetSO w D (so ((os.take i).flatten ++ o.take j)))) ⟨s2, by simpa using hD⟩ (fun j H3 _ ⟨s3, _⟩ => sqT_same s3 hb) ?_ ?_
      · rintro j y _ H3 hj ⟨s3, hD3⟩ ⟨rfl, hy⟩
        rw [List.getElem?_map] at hy
        obtain ⟨t, ht, rfl⟩ := Option.map_eq_some_iff.mp hy
        have lim := so_le ((os.take i).flatten ++ o.take j)
        have lim2 := flat_part ho j
        rw [List.length_append] at lim
        refine ⟨rfl, _, rfl, t, _, rfl, hD3, (by show _ < 4096; omega), sm_new s3 nD, ?_⟩
        rw [upd_same, so_snoc, List.take_succ, ht, List.append_assoc]
        rfl
      · rintro H3 ⟨s3, hD3⟩
        rw [List.length_map, List.take_length, ← flat_snoc ho] at hD3
        exact ⟨s3, hD3⟩
    · rintro H2 ⟨s2, hD⟩
      rw [yl, List.take_length] at hD
      have lim := so_le os.flatten
      refine ⟨D, _, rfl, hD, by omega, fun ks l pk nl => ?_⟩
      have pts : (Sx.srtT ks).Perm (so os.flatten) := (List.mergeSort_perm ..).trans pk
      have e : Sx.srtT ks = tksOf os := by
        rw [srtT_sortK (pk.nodup_iff.mpr (so_nd _)), ← sortU_sortK (pk.nodup_iff.mpr (so_nd _))]
        exact sortU_ext fun z => by rw [pk.mem_iff, so_mem]
      have tl : (tksOf os).length ≤ 1000 := by rw [← e, pts.length_eq]; omega
      rw [e]
      have nd := tks_nd os
      generalize hts : tksOf os = ts at nd tl k ⊢
      have s3 : Same H (upd H2 l (.lst (ts.map V.str))) := s2.trans (sm_new sm_refl nl)
      have hl : upd H2 l (.lst (ts.map V.str)) l = some (.lst (ts.map V.str)) := upd_same
      generalize upd H2 l (.lst (ts.map V.str)) = H3 at s3 hl ⊢
      refine ⟨_, rfl, l, _, rfl, SqL.of hl, fun B nB => ?_⟩
      refine dc_it walk_enum (fun i H4 => Same H3 H4 ∧ H4 B = some (.dK ((ts.take i).map fun t => (.inr t, .int (bitOf ts t : Nat))))) ⟨sm_new sm_refl nB, upd_same⟩ (fun i H4 _ ⟨s4, _⟩ => SqL.of (s4 _ _ hl)) ?_ ?_
      · rintro i x H4 H5 hi ⟨s4, hB⟩ ⟨U, u, y, rfl, nU, rfl, hu, hy⟩
        cases hu
        have hy : (ts.map V.str)[i]? = some y := hy
        rw [List.getElem?_map] at hy
        obtain ⟨t, ht, rfl⟩ := Option.map_eq_some_iff.mp hy
        have sU : Same H4 (upd H4 U (.tup [.int (i : Int), .str t])) := sm_new sm_refl nU
        have hU : SqT K (upd H4 U (.tup [.int (i : Int), .str t])) U [.int (i : Int), .str t] := SqT.of upd_same
        generalize upd H4 U (.tup [.int (i : Int), .str t]) = H5 at sU hU ⊢
        rw [List.length_map] at hi
        have tn : t ∉ ts.take i := fun h => by
          obtain ⟨j, hj, e⟩ := List.mem_iff_getElem.mp h
          rw [List.length_take] at hj
          rw [List.getElem_take] at e
          have e2 : ts[j]? = some t := by rw [List.getElem?_eq_getElem (by omega), e]
          have := ixT_is nd e2
          rw [ixT_is nd ht] at this
          omega
        refine ⟨U, _, rfl, .inr hU, rfl, _, _, rfl, _, _, rfl, rfl, rfl, _, rfl, _, rfl, i, rfl, rfl, (by omega), _, .inr t, rfl, sU _ _ hB, by rw [List.length_map, List.length_take, sizeLine_eq]; omega, sm_new (s4.trans sU) nB, ?_⟩
        rw [upd_same, List.take_succ, ht, List.map_append]
        have pk : putK ((ts.take i).map fun t => ((Sum.inr t : Key), V.int (bitOf ts t : Nat))) (.inr t) (.int (2 ^ i)) = ((ts.take i).map fun t => ((Sum.inr t : Key), V.int (bitOf ts t : Nat))) ++ [(.inr t, .int (2 ^ i))] := by
          unfold putK
          rw [if_neg]
          intro h
          obtain ⟨kv, h1, h2⟩ := List.any_eq_true.mp h
          obtain ⟨z, hz, rfl⟩ := List.mem_map.mp h1
          have := Sum.inr.inj (of_decide_eq_true h2)
          exact tn (this ▸ hz)
        rw [pk]
        have eb : (2 : Int) ^ i = ((bitOf ts t : Nat) : Int) := by
          rw [pow_up]
          unfold bitOf
          rw [ixT_is nd ht]
        rw [eb]
        rfl
      · rintro H4 ⟨s4, hB⟩
        rw [List.length_map, List.take_length] at hB
        exact k B H4 (s3.trans s4) (s3.free nB) hB
end
end K26


set_option Elab.async false
set_option linter.all false
set_option maxRecDepth 100000
set_option maxHeartbeats 4000000
/-! a list comprehension whose element may raise -/
namespace L2
open PySem PySem.Spec PyProof.Rows PySem.HandSPX
section
variable {M : Model} {A : Around} {E : Value → Shared → Prop} {s : Shared} {env : Env} {outer : List Env} {L e : Addr} {base : Heap} {Z : Obj → Prop} {fl : Value}
/-- this frame notes the exception, whatever its flight says -/
theorem note_any {Q : Unit → Shared → Prop} (hZ : Steady Z) (hfr : A.frames = some (env :: outer)) (hf : env.frame = some L) (kb : base.StaysIn s.heap) (ne : base.get? e = none) (ff : s.heap.FunFrames base (env :: outer)) (t : TracedZ s.heap base e Z fl)
    (k : ∀ h', HeldZ base (env :: outer) e Z L h' → s.heap.UpToSlots h' → Q () { s with heap := h' }) : wpAny M A (noteFrame (.ref e) env) Q E s := by
  by_cases q : fl = rawInt L
  · subst q
    exact againZ hf t (k s.heap ⟨kb, ne, ff, t⟩ (Heap.UpToSlots.refl _))
  obtain ⟨oe, vs, T, oT, ts, g1, z1, d1, f1, nT, Te, g2, d2, f3⟩ := t
  have same : ∀ b, b ≠ T → (s.heap.update T (Obj.mapFields (·.setIfInBounds 3 .none))).get? b = s.heap.get? b := fun b nb => Heap.get?_update_other _ _ (Ne.symm nb)
  have noT : ∀ {b o}, s.heap.get? b = some o → (∀ vs, o.data ≠ .fields vs) → b ≠ T := fun {b o} gb nf eb => by
    subst eb
    rw [g2] at gb
    cases gb
    exact nf ts d2
  have inB : ∀ {b o}, base.get? b = some o → b ≠ T := fun {b o} gb eb => by subst eb; rw [nT] at gb; cases gb
  unfold noteFrame
  simp only [hf]
  refine wpAny_bind (wpAny_field g1 d1 f1 ?_)
  rw [if_pos (by simp)]
  refine wpAny_bind (wpAny_field g2 d2 f3 ?_)
  rw [if_neg (by simpa using q)]
  refine wpAny_bind (wpAny_setField g2 d2 (Array.getElem?_eq_some_iff.mp f3).1 (wpAny_entryZ hZ hfr (ff.of_keeps fun b o gb nf => ⟨o, (same b (noT gb nf)).trans gb, rfl⟩) hf ((same e (Ne.symm Te)).trans g1) (fun b o gb => (same b (inB gb)).trans (kb b o gb)) ne d1 (Array.getElem?_eq_some_iff.mp f1).1 z1 ?_))
  rintro h' ⟨y1, y2, y3, y4⟩
  exact k h' ⟨y1, ne, y2, y3⟩ fun b o gb nf => y4 b o ((same b (noT gb nf)).trans gb) nf
/-- a frame notes as its block does: both have one frame -/
theorem note_same {env' : Env} (h : env'.frame = env.frame) : noteFrame (.ref e) env' = noteFrame (.ref e) env := by
  unfold noteFrame PySem.frameOf
  rw [h]
end
theorem ff_on {h h' base base' : Heap} : ∀ {l : List Env}, h.FunFrames base l → (∀ L ∈ frs l, base'.get? L = none ∧ h'.get? L = h.get? L) → h'.FunFrames base' l
  | [], _, _ => trivial
  | env :: l, ⟨kd, ⟨L, o, e1, _, e3, e4⟩, r⟩, k => by
    obtain ⟨k1, k2⟩ := k L (List.mem_filterMap.mpr ⟨env, List.mem_cons_self, e1⟩)
    refine ⟨kd, ⟨L, o, e1, k1, k2.trans e3, e4⟩, ff_on r fun b hb => ?_⟩
    obtain ⟨e, he, q⟩ := List.mem_filterMap.mp hb
    exact k b (List.mem_filterMap.mpr ⟨e, List.mem_cons_of_mem _ he, q⟩)
section
variable {X : Cx} {pins : List (Addr × Obj)} {σ : St} {H : Hp} {sI s' : Shared} {B : Heap} {E : XK} {a : Addr} {cls : Value} {d : Option Addr} {fl : Value} {E₁ : Value → Shared → Prop}
/-- an exception leaves the def, whatever its flight says -/
theorem leave_any (hs : X.stack = X.env :: X.outer) (hf : X.env.frame = some X.env.locals) (hex : X.ex = []) (I : Inv X pins σ H sI) (nb : ∀ b o, sI.heap.get? b = some o → b ∉ frs X.stack → B.get? b = some o) (up : sI.heap.UpToSlots s'.heap)
    (kb : B.StaysIn s'.heap) (nB : B.get? a = none) (ff : s'.heap.FunFrames B X.stack) (t : TracedZ s'.heap B a (Zc cls d) fl) (na : H a = none) (os : s'.os = sI.os) (ag : AllBare s'.gens) (w : E cls d H) :
    wpAny (model X.prog X.w) X.A (leaving X.env (.ref a)) (fun _ s2 => CX X.prog X.w X.outer X.H_0 X.s_0 E (.ref a) s2) E₁ s' := by
  have frames : X.A.frames = some (X.env :: X.outer) := by rw [← hs]; exact I.ok.frames
  have nx : ∀ b, b ∉ X.ex := fun b h => by rw [hex] at h; cases h
  have low : ∀ {b o}, X.s_0.heap.get? b = some o → b ∉ X.fs → b ∉ frs X.stack := fun {b o} g h m => by
    rcases List.mem_cons.mp (I.stkSub b m) with z | z
    · have h1 := Heap.lt_size g
      rw [z] at h1
      exact Nat.lt_irrefl _ (Nat.lt_of_lt_of_le h1 I.ok.above)
    · exact h z
  rw [hs] at ff
  unfold leaving
  refine wpAny_bind (note_any Zc.steady frames hf kb nB ff t fun h1 hh up1 => landsZ hh fun h2 fz up2 => ?_)
  obtain ⟨y1, y2, ⟨_, _, y3⟩, y4⟩ := fz
  refine ⟨a, B, H, cls, d, rfl, ⟨y1, y2, y3, y4⟩, I.inGround nb, ⟨?_, ?_, ?_, ?_, I.base.tups, I.base.frzs, I.base.tbls⟩, na, os.trans I.os, ag, w⟩
  · exact fun b o g n h => nb b o (I.base.keep b o g n h (nx b)) (low g h)
  · intro b o g h
    obtain ⟨_, o0, g0, nf⟩ := I.ok.funs.mem h
    rw [g] at g0
    cases g0
    obtain ⟨l1, g1⟩ := I.base.slot b o g (I.ok.frf b h) h (nx b)
    obtain ⟨l2, g2⟩ := up b _ g1 nf
    obtain ⟨l3, g3⟩ := up1 b _ g2 nf
    obtain ⟨l4, g4⟩ := up2 b _ g3 nf
    exact ⟨l4, g4⟩
  · exact fun b o g n => I.base.free b o g n (nx b)
  · intro b o g h
    obtain ⟨o1, g1⟩ := I.base.there b o g (nx b)
    exact ⟨o1, nb b o1 g1 (low g h)⟩
/-- .. goes on out of a comprehension's block: the block's own dict at C goes -/
theorem pass_block {C : Addr} {what : String} {cenv : Env} {h' : Heap} (hs : X.stack = X.env :: X.outer) (hf : X.env.frame = some X.env.locals) (hex : X.ex = [])
    (hx : X.xe = fun e s' => wpAny (model X.prog X.w) X.A (leaving X.env e) (fun _ s2 => CX X.prog X.w X.outer X.H_0 X.s_0 E e s2) E₁ s')
    (I : Inv X pins σ H sI) (fC : FpOk X pins H C) (nb : ∀ b o, sI.heap.get? b = some o → b ∉ frs X.stack → B.get? b = some o) (up : sI.heap.UpToSlots s'.heap)
    (kb : B.StaysIn s'.heap) (nB : B.get? a = none) (ff : s'.heap.FunFrames B X.stack) (t : TracedZ s'.heap B a (Zc cls d) fl) (hC : ∃ o, B.get? C = some o) (na : H a = none) (os : s'.os = sI.os) (ag : AllBare s'.gens) (w : E cls d H) (sb : Heap.SameBut C s'.heap h') :
    wpAny (model X.prog X.w) X.A (PySem.passOn what (.ref a) cenv : Sem Value) (fun _ _ => False) X.xe { s' with heap := h' } := by
  obtain ⟨oC, gC⟩ := hC
  obtain ⟨oe, vs, T, oT, ts, g1, z1, d1, f1, nT, Te, g2, d2, f3⟩ := t
  have aC : a ≠ C := fun e => by subst e; rw [nB] at gC; cases gC
  have TC : T ≠ C := fun e => by subst e; rw [nT] at gC; cases gC
  obtain ⟨B1, r1, r2⟩ := restrict B fun b => decide (b ≠ C)
  have b1 : ∀ b o, B1.get? b = some o → b ≠ C ∧ B.get? b = some o := fun b o q => by
    by_cases e : b = C
    · rw [r2 b (by simp [e])] at q; cases q
    · exact ⟨e, (r1 b (by simp [e])) ▸ q⟩
  obtain ⟨G, q1, q2⟩ := restrict sI.heap fun b => decide (b ≠ C)
  have gG : ∀ b o, G.get? b = some o → b ≠ C ∧ sI.heap.get? b = some o := fun b o q => by
    by_cases e : b = C
    · rw [q2 b (by simp [e])] at q; cases q
    · exact ⟨e, (q1 b (by simp [e])) ▸ q⟩
  have none1 : ∀ {b}, B.get? b = none → B1.get? b = none := fun {b} n => by
    cases q : B1.get? b with
    | none => rfl
    | some o => rw [(b1 b o q).2] at n; cases n
  have J : Inv X pins σ H { sI with heap := G } := I.turned (t' := sI.toks) (fun b o nb' q => (q1 b (by simp [nb'])).trans q) fC.1 fC.2.1 fC.2.2.2.1 fC.2.2.2.2.1 fC.2.2.2.2.2
  have nS : C ∉ frs X.stack := fun m => by
    rcases List.mem_cons.mp (I.stkSub C m) with z | z
    · exact fC.2.1 z
    · exact fC.2.2.1 z
  have ff1 : h'.FunFrames B1 X.stack := ff_on ff fun L hL => ⟨none1 (ff.mem hL).1, sb.2 L fun e => nS (e ▸ hL)⟩
  have at1 : h'.get? a = some oe := (sb.2 a aC).trans g1
  have at2 : h'.get? T = some oT := (sb.2 T TC).trans g2
  unfold PySem.passOn
  refine wpAny_bind (wpAny_field at1 d1 f1 ?_)
  rw [if_neg (by simp)]
  refine wpAny_bind (setFlight_anyZ (base := B1) (l := X.stack) (fl := fl) (fun b o q => (sb.2 b (b1 b o q).1).trans (kb b o (b1 b o q).2)) ff1 ⟨oe, vs, T, oT, ts, at1, z1, d1, f1, none1 nT, Te, at2, d2, f3⟩ fun h3 k1 k2 k3 up3 => wpAny_throw ?_)
  rw [hx]
  refine leave_any hs hf hex J (B := B1) (fun b o q h => ?_) (fun b o q nf => ?_) k1 (none1 nB) k2 k3 na os ag w
  · obtain ⟨n1, n2⟩ := gG b o q
    exact (r1 b (by simp [n1])).trans (nb b o n2 h)
  · obtain ⟨n1, n2⟩ := gG b o q
    obtain ⟨l1, e1⟩ := up b o n2 nf
    obtain ⟨l2, e2⟩ := up3 b _ ((sb.2 b n1).trans e1) nf
    exact ⟨l2, e2⟩
end
/-! ### the comprehension -/
/-- the block with a wish about exceptions -/
abbrev Cx.blkX (X : Cx) (s : Shared) (H : Hp) (scope : Scope) (ce : Env) (fp : List Addr) (xe : Value → Shared → Prop) : Cx := { X.blk s H scope ce fp with xe := xe }
theorem inv_xe {Y : Cx} {pins : List (Addr × Obj)} {σ : St} {H : Hp} {s : Shared} (xe : Value → Shared → Prop) (I : Inv Y pins σ H s) : Inv { Y with xe := xe } pins σ H s :=
  have ok := I.ok
  ⟨⟨ok.mod, ok.kind, ok.glob, ok.blt, ok.above, ok.inj, ok.has, ok.cab, ok.hd, ok.frames, ok.stk, ok.exf, ok.bs, ok.bsz, ok.noex, ok.exfs, ok.funs, ok.frf⟩, I.os, I.bare, I.base, I.loc, I.cell, I.free, I.freeC, I.pin, I.hok, I.len⟩
theorem inv_ex {Y : Cx} {pins : List (Addr × Obj)} {σ : St} {H : Hp} {s : Shared} {xe : Value → Shared → Prop} (I : Inv { Y with xe := xe } pins σ H s) : Inv Y pins σ H s :=
  have ok := I.ok
  ⟨⟨ok.mod, ok.kind, ok.glob, ok.blt, ok.above, ok.inj, ok.has, ok.cab, ok.hd, ok.frames, ok.stk, ok.exf, ok.bs, ok.bsz, ok.noex, ok.exfs, ok.funs, ok.frf⟩, I.os, I.bare, I.base, I.loc, I.cell, I.free, I.freeC, I.pin, I.hok, I.len⟩
/-- what a block lets out -/
def xeOf (Y : Cx) (E : XK) : Value → Shared → Prop := fun u s' => XE Y (fun cls d _ H => E cls d H) u s'
theorem takes_xeOf {Y : Cx} {E : XK} : Takes { Y with xe := xeOf Y E } (fun cls d _ H => E cls d H) := fun u s' ⟨a, B, sI, pins, σ, H, cls, d, e, I, r⟩ => ⟨a, B, sI, pins, σ, H, cls, d, e, inv_ex I, r⟩
/-- [elt for target in iter]: D the new list; Pv by the turn; N turns at most -/
def tLcX (wi : TI) (g : TG) (te : TE) (vs : List Nat) : TE := fun σ H Q => wi σ H fun J H1 => ∀ D, H1 D = none → ∃ (N : Nat) (Pv : Nat → Hp → Prop), Pv 0 (upd H1 D (.lst [])) ∧ ∀ i H, Pv i H →
  (J.stop i H ∧ Q (.ref D) H) ∨ (i < N ∧ J.go i H ∧ ∀ x H', J.yld i H x H' → g x (wipe σ vs) H' fun σ2 H2 => wipe σ2 vs = wipe σ vs ∧ te σ2 H2 fun y H4 => ∃ acc, H4 D = some (.lst acc) ∧ acc.length < sizeLine ∧ Pv (i + 1) (upd H4 D (.lst (acc ++ [y]))))
section
variable {X : Cx} {pins : List (Addr × Obj)} {σ : St} {H3 : Hp} {s3 : Shared} {E : XK} {E₁ : Value → Shared → Prop} {scope : Scope} {ce : Env} {fp : List Addr} {Qf : Value → Shared → Prop} {acc : Value}
/-- an exception of the block goes on out of the comprehension -/
theorem block_lets (hs : X.stack = X.env :: X.outer) (hf : X.env.frame = some X.env.locals) (hex : X.ex = []) (hx : X.xe = fun e s' => wpAny (model X.prog X.w) X.A (leaving X.env e) (fun _ s2 => CX X.prog X.w X.outer X.H_0 X.s_0 E e s2) E₁ s')
    (I3 : Inv X pins σ H3 s3) (hfr : ce.frame = X.env.frame) (hC : s3.heap.objs.size ≤ ce.locals) (f3 : ∀ b ∈ fp, FpOk X pins H3 b) {u : Value} {s' : Shared} (x : xeOf (X.blk s3 H3 scope ce fp) E u s') :
    notedBy (model X.prog X.w) X.A ce (fun e s2 => compPost (model X.prog X.w) X.A X.xe none Qf acc ce.locals (.error e) s2) u s' := by
  obtain ⟨a, B, sI, pins', σ', H', cls, d, rfl, I', nb, up, sky, na, os, ag, w⟩ := x
  have frames : X.A.frames = some (X.env :: X.outer) := by rw [← hs]; exact I3.ok.frames
  have I : Inv X pins σ H' sI := I3.call' (ch := fp) I'.os I'.base I'.hok I'.bare fun b hb => ⟨(f3 b hb).2.2.2.1, (f3 b hb).2.1, (f3 b hb).2.2.2.2.1, (f3 b hb).2.2.2.2.2⟩
  have fC : FpOk X pins H' ce.locals := I3.fpOk hC I'.free
  have off : ce.locals ∉ frs X.stack := fun m => by
    rcases List.mem_cons.mp (I3.stkSub _ m) with z | z
    · exact fC.2.1 z
    · exact fC.2.2.1 z
  obtain ⟨m, ⟨o, es, ep, ho, r⟩, _⟩ := id I'.loc
  have hB : B.get? ce.locals = some o := nb _ _ ho off
  have fin : ∀ h1, HeldZ B X.stack a (Zc cls d) X.env.locals h1 → s'.heap.UpToSlots h1 → compPost (model X.prog X.w) X.A X.xe none Qf acc ce.locals (.error (.ref a)) { s' with heap := h1 } := fun h1 ⟨y1, y2, y3, y4⟩ up1 =>
    ⟨m, ⟨o, es, ep, y1 _ _ hB, r⟩, fun h2 sb cenv _ => pass_block hs hf hex hx I fC nb (up.trans up1) y1 y2 y3 y4 ⟨o, hB⟩ na os ag w sb⟩
  show wpAny _ _ (noteFrame (.ref a) ce) _ _ _
  rw [note_same hfr]
  have sky : Sky B (X.env :: X.outer) a (Zc cls d) ce.locals s'.heap := by rw [← hs]; exact sky
  rw [hs] at fin
  rcases sky with ⟨z1, z2, z3, oe, vs, z4, z5, z6, z7⟩ | ⟨z1, z2, z3, z4⟩ | ⟨z1, z2, z3, z4⟩
  · exact look_newZ Zc.steady frames z3 hf z4 z1 z2 z6 z7 z5 fin
  · exact note_any Zc.steady frames hf z1 z2 z3 z4 fin
  · exact note_any Zc.steady frames hf z1 z2 z3 z4 fin
theorem pe_lcX {elt tg iter : Expr} {own : List (Str × Nat)} {pos : Pos} {wi : TI} {g : TG} {te : TE} (hc : X.calm = true) (hN : X.N.Nodup) (hi : PI X tg iter wi) (ok : BlkOk X.N X.env.scope scope own) (hs : X.stack = X.env :: X.outer) (hf : X.env.frame = some X.env.locals) (hex : X.ex = [])
    (hx : X.xe = fun e s' => wpAny (model X.prog X.w) X.A (leaving X.env e) (fun _ s2 => CX X.prog X.w X.outer X.H_0 X.s_0 E e s2) E₁ s')
    (hg : ∀ (s : Shared) (H : Hp) (C : Addr) (cl : List (Str × Addr)) (fp : List Addr) (xe : Value → Shared → Prop), PG (X.blkX s H scope (compEnvC scope cl C X.env) fp xe) tg g)
    (he : ∀ (s : Shared) (H : Hp) (C : Addr) (cl : List (Str × Addr)) (fp : List Addr) (xe : Value → Shared → Prop), Takes (X.blkX s H scope (compEnvC scope cl C X.env) fp xe) (fun cls d _ H => E cls d H) → PE (X.blkX s H scope (compEnvC scope cl C X.env) fp xe) elt te)
    (hset : ∀ x, foldedSetIterable iter X.env x = pure x := by intro _; rfl) : PE X (.ListComp elt [⟨tg, iter, [], 0⟩] scope pos) (tLcX wi g te (own.map (·.2))) := by
  refine ⟨fun pins s σ H Q I h => ?_⟩
  have cells : ∀ y ∈ scope.names, y.2 = .free → ∃ c, X.env.cells.lookup y.1 = some c := fun y hy e => I.ok.has _ ((ok.free y hy e).imp id id)
  rw [eval_ListComp]
  refine wpAny_comprehension_free (use := none) rfl hset (closure_ok cells) ok.kind (fun y hy e => (ok.uniq y hy).trans (congrArg some e)) (thn (hi.run pins s σ H _ I h) fun _ _ h1 => thn h1 fun _ s2 h2 => ?_)
  obtain ⟨it, fp, tn, J, H2, rfl, I2, T, st2, f2, q⟩ := h2
  have D0 : H2 s2.heap.objs.size = none := I2.hok.fresh (Nat.le_refl _)
  obtain ⟨N, Pv, p0, turn⟩ := q _ D0
  refine wpAny_newObj_type (newEnv_comp ?_) (Nat.zero_le _)
  generalize hD : s2.heap.objs.size = D at D0 p0 turn ⊢
  generalize hs3 : ({ s2 with heap := s2.heap.push { cls := .type "list", data := .seq (#[] : Array Value) } } : Shared) = s3 at ⊢
  have e3 : s3.heap = s2.heap.push { cls := .type "list", data := .seq (#[] : Array Value) } := by rw [← hs3]
  have I3 : Inv X pins σ (upd H2 D (.lst [])) s3 := by
    rw [← hs3]
    exact I2.laid (t' := s2.toks) (fun b o e => Heap.get?_push_of_some _ e) (Nat.le_of_eq hD) ⟨Nat.zero_le _, [], 0, .nil, by rw [← hD]; exact Heap.get?_push_size _ rfl⟩
  have fp3 : ∀ b ∈ fp, FpOk X pins (upd H2 D (.lst [])) b ∧ b < s3.heap.objs.size := fun b hb => by
    obtain ⟨o, e, _⟩ := T.obj _ _ st2 b hb
    have lt := Heap.lt_size e
    refine ⟨⟨?_, (f2 b hb).2⟩, by rw [e3, Heap.size_push]; exact Nat.lt_succ_of_lt lt⟩
    rw [upd_ne (Nat.ne_of_lt (by rw [← hD]; exact lt))]
    exact (f2 b hb).1
  have st3 : tn 0 s3.heap := T.keep _ _ _ st2 fun b _ o e => by rw [e3]; exact Heap.get?_push_of_some _ e
  have I4 := block_start I3 ok hN fp3
  show codeAny _ _ (.compStart _ 0 (.ref it) (.ref D) (compEnvC scope (cellsFrom (s3.heap.objs.size + 1) scope.names (cloFrom X.env.cells scope.names [])) s3.heap.objs.size X.env)) (compPost _ _ _ none _ _ (compEnvC scope (cellsFrom (s3.heap.objs.size + 1) scope.names (cloFrom X.env.cells scope.names [])) s3.heap.objs.size X.env).locals) { s3 with heap := pushCells (s3.heap.push { cls := .type "dict", data := .dict #[] }) scope.names }
  have pg := hg s3 (upd H2 D (.lst [])) s3.heap.objs.size (cellsFrom (s3.heap.objs.size + 1) scope.names (cloFrom X.env.cells scope.names [])) fp
  have pe := he s3 (upd H2 D (.lst [])) s3.heap.objs.size (cellsFrom (s3.heap.objs.size + 1) scope.names (cloFrom X.env.cells scope.names [])) fp
  have eL : (compEnvC scope (cellsFrom (s3.heap.objs.size + 1) scope.names (cloFrom X.env.cells scope.names [])) s3.heap.objs.size X.env).locals = s3.heap.objs.size := rfl
  have eF : (compEnvC scope (cellsFrom (s3.heap.objs.size + 1) scope.names (cloFrom X.env.cells scope.names [])) s3.heap.objs.size X.env).frame = X.env.frame := rfl
  generalize compEnvC scope (cellsFrom (s3.heap.objs.size + 1) scope.names (cloFrom X.env.cells scope.names [])) s3.heap.objs.size X.env = ce at I4 pg pe eL eF ⊢
  have st4 : tn 0 ({ s3 with heap := pushCells (s3.heap.push { cls := .type "dict", data := .dict #[] }) scope.names } : Shared).heap := T.keep _ _ _ st3 fun b _ o e => pushCells_keeps _ _ _ _ (Heap.get?_push_of_some _ e)
  generalize ({ s3 with heap := pushCells (s3.heap.push { cls := .type "dict", data := .dict #[] }) scope.names } : Shared) = s4 at I4 st4 ⊢
  generalize hH3 : upd H2 D (.lst []) = H3 at I3 I4 pg pe p0 fp3
  have stat : ∀ {σ' : St} {H' : Hp} {s' : Shared}, Inv (X.blk s3 H3 scope ce fp) [] σ' H' s' → (∀ b ∈ fp, H' b = none) → ∀ b ∈ fp, FpOk (X.blk s3 H3 scope ce fp) [] H' b := fun J1 n b hb =>
    ⟨n b hb, (J1.ok.exf b hb).1, J1.ok.exfs b hb, .inl hb, fun x c e => (J1.ok.exf b hb).2 x c e, fun p hp => nomatch (show p ∈ ([] : List (Addr × Obj)) from hp)⟩
  have lets := fun u s' => @block_lets X pins σ H3 s3 E E₁ scope ce fp (EP X pins σ Q) (.ref D) hs hf hex hx I3 eF (Nat.le_of_eq eL.symm) (fun b hb => (fp3 b hb).1) u s'
  have loop : codeAny (model X.prog X.w) X.A (.compLoop (.ListComp elt [⟨tg, iter, [], 0⟩] scope pos) 0 (.ref it) (.ref D) ce) (compPost (model X.prog X.w) X.A X.xe none (EP X pins σ Q) (.ref D) ce.locals) s4 := by
    refine compLoop_any (fun n s' => ∃ i H', n = N - i ∧ Inv (X.blk s3 H3 scope ce fp) [] (wipe σ (own.map (·.2))) H' s' ∧ tn i s'.heap ∧ (∀ b ∈ fp, H' b = none) ∧ Pv i H') ?_ N ⟨0, H3, rfl, I4, st4, fun b hb => (fp3 b hb).1.1, p0⟩
    rintro n s5 ⟨i, H5, rfl, I5, st5, n5, v5⟩
    rcases turn i H5 v5 with ⟨stop, qq⟩ | ⟨lt, go, step⟩
    · refine wpAny_mono (T.done (X.blk s3 H3 scope ce fp) rfl rfl rfl hc i [] s5 _ H5 _ I5 (stat I5 n5) st5 stop) (fun r s6 hr => ?_) fun _ _ z => z
      obtain ⟨rfl, I6⟩ := hr
      obtain ⟨m, hn, _⟩ := id I6.loc
      have I7 : Inv X pins σ H5 s6 := I3.call' (ch := fp) I6.os I6.base I6.hok I6.bare fun b hb => ⟨(fp3 b hb).1.2.2.2.1, (fp3 b hb).1.2.1, (fp3 b hb).1.2.2.2.2.1, (fp3 b hb).1.2.2.2.2.2⟩
      obtain ⟨y0, y1, _, y3, y4, y5⟩ := I3.fpOk (H' := H5) (Nat.le_of_eq eL.symm) I6.free
      exact ⟨m, hn, fun h2 sb => ⟨.ref D, H5, I7.turned (t' := s6.toks) (fun b o nb e => (sb.2 b nb).trans e) y0 y1 y3 y4 y5, rfl, qq⟩⟩
    · refine wpAny_mono (T.item (X.blk s3 H3 scope ce fp) rfl rfl rfl hc i [] s5 _ H5 _ I5 (stat I5 n5) st5 go) (fun r s6 hr => ?_) fun _ _ z => z
      obtain ⟨u, rfl, h6⟩ := hr
      refine wpAny_mono h6 (fun _ s7 h7 => ?_) fun _ _ z => z
      obtain ⟨x, H7, I7, r7, y7, st7, n7⟩ := h7
      have P7 := inv_xe (xeOf (X.blk s3 H3 scope ce fp) E) (I7.pinned (stat I7 n7) (T.obj _ _ st7))
      refine wpAny_mono ((pg _).run _ s7 _ H7 x u _ P7 r7 (step x H7 y7)) (fun _ s8 h8 => ?_) lets
      obtain ⟨σ8, H8, I8, w8, q8⟩ := h8
      rw [List.forIn_nil]
      refine wpAny_pure ?_
      rw [if_pos rfl]
      refine wpAny_mono ((pe _ takes_xeOf).run _ s8 σ8 H8 _ I8 q8) (fun z s9 h9 => ?_) lets
      obtain ⟨yv, H9, I9, r9, acc, gD, az, nx⟩ := h9
      refine app_ok (X := X.blk s3 H3 scope ce fp) (inv_ex I9) gD az r9 fun s10 I10 => ?_
      have pin : ∀ b ∈ fp, ∀ o, s7.heap.get? b = some o → s10.heap.get? b = some o ∧ upd H9 D (.lst (acc ++ [yv])) b = none := fun b hb o e =>
        let z := I10.pin (b, o) (List.mem_append_right _ (List.mem_append_right _ (mem_pinsAt hb e)))
        ⟨z.1, z.2.1⟩
      refine ⟨N - (i + 1), by omega, i + 1, _, rfl, (I10.unpinned (pins := [])).weak (by rw [← w8, wipe_length]) fun j v e => ?_, T.keep _ _ _ st7 fun b hb o e => (pin b hb o e).1, fun b hb => ?_, nx⟩
      · rw [← w8] at e
        exact (wipe_some e).1
      · obtain ⟨o, e, _⟩ := T.obj _ _ st7 b hb
        exact (pin b hb o e).2
  exact codeAny_compStart_list loop (T.self X.A 0 _ _ _ st4 loop)
end
theorem lcx_it {J : It} {n : Nat} {G : Hp → Prop} {Y : Nat → Hp → V → Hp → Prop} (w : Walk J n G Y) {g : TG} {te : TE} {vs : List Nat} {σ : St} {H1 : Hp} {D : Addr} {Qd : Hp → Prop} (Pv : Nat → Hp → Prop) (h0 : Pv 0 (upd H1 D (.lst []))) (hG : ∀ i H, i ≤ n → Pv i H → G H)
    (hs : ∀ i x H H', i < n → Pv i H → Y i H x H' → g x (wipe σ vs) H' fun σ2 H2 => wipe σ2 vs = wipe σ vs ∧ te σ2 H2 fun y H4 => ∃ acc, H4 D = some (.lst acc) ∧ acc.length < sizeLine ∧ Pv (i + 1) (upd H4 D (.lst (acc ++ [y])))) (hd : ∀ H, Pv n H → Qd H) :
    ∃ (N : Nat) (W : Nat → Hp → Prop), W 0 (upd H1 D (.lst [])) ∧ ∀ i H, W i H → (J.stop i H ∧ Qd H) ∨ (i < N ∧ J.go i H ∧ ∀ x H', J.yld i H x H' → g x (wipe σ vs) H' fun σ2 H2 => wipe σ2 vs = wipe σ vs ∧ te σ2 H2 fun y H4 => ∃ acc, H4 D = some (.lst acc) ∧ acc.length < sizeLine ∧ W (i + 1) (upd H4 D (.lst (acc ++ [y])))) := by
  refine ⟨n, fun i H => i ≤ n ∧ Pv i H, ⟨Nat.zero_le _, h0⟩, fun i H ⟨le, p⟩ => ?_⟩
  have gH := hG i H le p
  rcases Nat.lt_or_ge i n with lt | ge
  · refine .inr ⟨lt, w.goes i H lt gH, fun x H' y => ?_⟩
    have r := hs i x H H' lt p (w.yields i H x H' lt gH y)
    have e : (fun (y : V) (H4 : Hp) => ∃ acc, H4 D = some (.lst acc) ∧ acc.length < sizeLine ∧ i + 1 ≤ n ∧ Pv (i + 1) (upd H4 D (.lst (acc ++ [y])))) = fun y H4 => ∃ acc, H4 D = some (.lst acc) ∧ acc.length < sizeLine ∧ Pv (i + 1) (upd H4 D (.lst (acc ++ [y]))) := by
      funext y H4
      exact propext ⟨fun ⟨a, b, c, _, d⟩ => ⟨a, b, c, d⟩, fun ⟨a, b, c, d⟩ => ⟨a, b, c, lt, d⟩⟩
    rw [e]
    exact r
  · have e : i = n := Nat.le_antisymm le ge
    subst e
    exact .inl ⟨w.stops H gH, hd H p⟩
end L2


set_option Elab.async false
set_option linter.all false
set_option maxRecDepth 100000
set_option maxHeartbeats 4000000
/-! isinstance(e, c) of an exception that a clause holds by its name -/
namespace L2
open PySem PySem.Spec PyProof.Rows PySem.ExE
def rIsX (K : PySem.W.Frag) (a : Addr) (cls : Value) (d : Option Addr) : List V → Hp → VK → Prop := fun xs H Q => ∃ (C T fI : Addr) (f : Str) (c : V) (u : Value) (b : Bool) (dd : Addr) (fs : List (Str × V)),
  xs = [.ref a, c] ∧ cls = .ref C ∧ ClsV c u ∧ EC K C T f fI ∧ d = some dd ∧ H dd = some (.xd fs) ∧ PySem.W.kitOne K (.ref C) u = some b ∧ Q (.bl b) H
theorem call_isX {X : Cx} {a : Addr} {oe : Obj} {cls : Value} {d : Option Addr} {pn : List (Addr × Obj)} (Z : HasCls X.K) (hz : Zc cls d oe) (hf : ∃ vs, oe.data = .fields vs) : CallR (X.suite a ((a, oe) :: pn)) (.builtin "isinstance") (rIsX X.K a cls d) := by
  intro pins s σ H xs us Q I r h
  obtain ⟨C, T, fI, f, c, u, b, dd, fs, rfl, rfl, cu, Ec, rfl, hd, hk, q⟩ := h
  obtain ⟨u1, u2, rfl, r1, r2⟩ := vals2 r
  have e2 := cu.eq r2
  subst e2
  cases (show u1 = Value.ref a from r1)
  obtain ⟨ha, _⟩ := I.pin (a, oe) (List.mem_append_left _ List.mem_cons_self)
  obtain ⟨vs, hv⟩ := hf
  obtain ⟨mA, hns, _⟩ : ObjOk X.prog X.w H s.heap dd (.xd fs) := I.hok dd _ hd
  obtain ⟨od, ho, _⟩ := lookIn_ns hns
  have J : PySem.W.InstAt s.heap a oe C (some od) := ⟨ha, hz.1, by unfold PySem.W.notCls; rw [hv] <;> rfl, by rw [hz.2]; exact ho⟩
  have hob : PySem.W.mroIn X.K C (.type "object") = some true := Ec.has (by decide)
  exact PySem.W.kia_one (PySem.W.kitx_exc Ec.isCls Ec.ga Ec.gg Ec.exC Ec.ca Z.hn Z.ht hob) I.kIn J hk (fun z => nomatch z) fun tk => ⟨.bl b, H, I.tok tk, rfl, q⟩
/-- what lets no exception out may be called where exceptions are looked for -/
theorem FnOk.lift {P : Program} {w : World} {K : PySem.W.Frag} {mg : Str → Option Value} {base : Heap} {k : Nat} {f : Addr} {fd : FuncData} {ps : List Str} {sp : Sp} (F : FnOk P w K mg base CX0 k f fd ps sp) : FnOk P w K mg base (L2.CX P w) k f fd ps sp :=
  ⟨F.len, fun A outer s H args us vs Q E hr he hb hv hs => codeAny_mono (F.run A outer s H args us vs Q E hr he hb hv hs) fun r s' q => by
    cases r with
    | error e => exact q.elim
    | ok fl => cases fl with
      | ret u => exact q
      | next => exact q.elim
      | brk => exact q.elim
      | cont => exact q.elim⟩
/-- one of two specs -/
theorem FnOk.or {P : Program} {w : World} {K : PySem.W.Frag} {mg : Str → Option Value} {base : Heap} {CX : CXT} {k : Nat} {f : Addr} {fd : FuncData} {ps : List Str} {sp sp' : Sp} (F : FnOk P w K mg base CX k f fd ps sp) (G : FnOk P w K mg base CX k f fd ps sp') :
    FnOk P w K mg base CX k f fd ps (fun vs H Q E => sp vs H Q E ∨ sp' vs H Q E) :=
  ⟨fun vs H Q E h => h.elim (F.len vs H Q E) (G.len vs H Q E), fun A outer s H args us vs Q E hr he hb hv hs => hs.elim (F.run A outer s H args us vs Q E hr he hb hv) (G.run A outer s H args us vs Q E hr he hb hv)⟩
end L2


set_option Elab.async false
set_option linter.all false
set_option maxRecDepth 100000
set_option maxHeartbeats 8000000
/-! breakers -/
namespace K26
open PySem L2 Nd Bk Gd PySem.ExE
/-- the places of the tokens of these sets -/
def plc (os : List (List Str)) : List (List Nat) := os.map fun o => o.map (ixT (tksOf os))
/-- the masks behind so many sets -/
def brkAt (os : List (List Str)) (j : Nat) : List Nat := Bg.brk [0] ((plc os).take j)
/-- the tokens of a mask -/
def ofMask (ts : List Str) (m : Nat) : List Str := ts.filter fun t => bitOf ts t &&& m != 0
/-- the sets that meet all, by size and then as they stand -/
def brkS (os : List (List Str)) : List (List Str) := szs ((brkAt os os.length).map (ofMask (tksOf os)))
def spBrk (K : PySem.W.Frag) : Sp := fun vs H Q _ => ∃ (v : V) (p : Poly), vs = [v] ∧ FD K H v (bD p) ∧ (toksP p).length ≤ 1000 ∧ p.length ≤ 1000 ∧ (∀ t ∈ p, MOk t.1) ∧ (byM p).flatten.length ≤ 1000 ∧ (∀ j, j ≤ (byM p).length → (brkAt (byM p) j).length ≤ 400) ∧
  ∀ (v' : V) (H' : Hp), Same H H' → Dp K H' v' (.tuple ((brkS (byM p)).map sD)) → Q v' H'
def spBrkX (K : PySem.W.Frag) (C : Addr) : Sp := fun vs H Q E => ∃ (v : V) (p : Poly) (n : Nat), vs = [v] ∧ FD K H v (bD p) ∧ (toksP p).length ≤ 1000 ∧ p.length ≤ 1000 ∧ (∀ t ∈ p, MOk t.1) ∧ (byM p).flatten.length ≤ 1000 ∧ n < (byM p).length ∧ (∀ j, j ≤ n → (brkAt (byM p) j).length ≤ 400) ∧ 400 < (brkAt (byM p) (n + 1)).length ∧
  ∀ x H', Same H H' → H' x = some (.xd [("word", .str "sets")]) → E (.ref C) (some x) H'
/-- whether the token's bit is in the mask, as a test -/
def tBitM (K : PySem.W.Frag) : TT := fun σ H Q => tOp (rI0 fun i j => .int (Builtin.bitAnd i j)) (tDGet (tVar 2) (tVar 7)) (tVar 6) σ H fun x H' => ∃ k, TruV K x H' k ∧ Q k H'
theorem brkAt_succ {os : List (List Str)} {j : Nat} {o : List Str} (h : os[j]? = some o) : brkAt os (j + 1) = Bg.met (brkAt os j) (Bg.pows (o.map (ixT (tksOf os)))) := by
  unfold brkAt plc
  have e : (os.map fun o => o.map (ixT (tksOf os)))[j]? = some (o.map (ixT (tksOf os))) := by rw [List.getElem?_map, h]; rfl
  rw [List.take_succ, e]
  exact Bg.brk_snoc _ _ _
theorem brk_bits : ∀ (iss : List (List Nat)) (ms : List Nat) (R : Nat → Prop), (∀ m ∈ ms, ∀ i, m.testBit i = true → R i) → (∀ is ∈ iss, ∀ i ∈ is, R i) → ∀ m ∈ Bg.brk ms iss, ∀ i, m.testBit i = true → R i
  | [], ms, R, h, _ => h
  | is :: r, ms, R, h, g => brk_bits r (Bg.met ms (Bg.pows is)) R (fun m hm i hi => by
      rcases Bg.mem_met.mp hm with ⟨a, _⟩ | ⟨j, hj, hg⟩
      · exact h m a i hi
      · obtain ⟨⟨x, hx, _, rfl⟩, _⟩ := Bg.mem_grow.mp hg
        rw [Bg.or_bit, Bool.or_eq_true, decide_eq_true_eq] at hi
        rcases hi with q | q
        · exact h x hx i q
        · rw [← q]; exact g is List.mem_cons_self j hj) fun is' h' => g is' (List.mem_cons_of_mem _ h')
theorem mem_ofMask {ts : List Str} {m : Nat} {t : Str} : t ∈ ofMask ts m ↔ t ∈ ts ∧ m.testBit (ixT ts t) = true := by
  unfold ofMask bitOf
  rw [List.mem_filter, Nat.and_comm, Bg.and_bit]
theorem plc_nd {os : List (List Str)} (nd : ∀ o ∈ os, o.Nodup) : ∀ is ∈ plc os, is.Nodup := fun is h => by
  obtain ⟨o, ho, rfl⟩ := List.mem_map.mp h
  exact ixT_nd (nd o ho) fun t ht => tks_mem.mpr ⟨o, ho, ht⟩
theorem brk_in {os : List (List Str)} {j : Nat} : ∀ m ∈ brkAt os j, ∀ i, m.testBit i = true → ∃ t ∈ tksOf os, ixT (tksOf os) t = i :=
  brk_bits _ [0] _ (fun m hm i hi => by rw [List.mem_singleton.mp hm, Nat.zero_testBit] at hi; cases hi) fun is his i hi => by
    obtain ⟨o, ho, rfl⟩ := List.mem_map.mp (List.mem_of_mem_take his)
    obtain ⟨t, ht, rfl⟩ := List.mem_map.mp hi
    exact ⟨t, tks_mem.mpr ⟨o, ho, ht⟩, rfl⟩
theorem brkAt_all (os : List (List Str)) : brkAt os os.length = Bg.brk [0] (plc os) := by
  unfold brkAt
  rw [List.take_of_length_le (by unfold plc; rw [List.length_map]; exact Nat.le_refl _)]
theorem masks_nd {os : List (List Str)} (nd : ∀ o ∈ os, o.Nodup) : ((brkAt os os.length).map (ofMask (tksOf os))).Nodup := by
  have n := (Bg.brk_iff (plc os) (plc_nd nd)).2
  rw [← brkAt_all] at n
  rw [List.Nodup, List.pairwise_map]
  refine List.Pairwise.imp_of_mem (fun {a b} ha hb ne e => ne ?_) n
  have one : ∀ {a b : Nat}, (∀ i, a.testBit i = true → ∃ t ∈ tksOf os, ixT (tksOf os) t = i) → ofMask (tksOf os) a = ofMask (tksOf os) b → Ch.Sub a b := fun {a b} h e i hi => by
    obtain ⟨t, ht, rfl⟩ := h i hi
    have : t ∈ ofMask (tksOf os) a := mem_ofMask.mpr ⟨ht, hi⟩
    rw [e] at this
    exact (mem_ofMask.mp this).2
  exact Bg.sub_anti (one (brk_in a ha) e) (one (brk_in b hb) e.symm)
/-- a list of sets, each in cells of its own, by size and then as they stand -/
theorem sort_list {H : Hp} {ys : List V} {ks : List (List Str)} (nd : ks.Nodup) (h : TupA H ys ks) : TupA H (Sk.sortBy ys (ks.map fun o => lsD (lenK o))) (szs ks) := by
  obtain ⟨bs, rfl, len, at_⟩ : ∃ bs : List Addr, ys = bs.map V.ref ∧ bs.length = ks.length ∧ ∀ p ∈ bs.zip ks, H p.1 = some (.tup (p.2.map V.str)) := by
    clear nd
    unfold TupA at h
    induction h with
    | nil => exact ⟨[], rfl, rfl, fun p hp => by simp at hp⟩
    | cons a _ ih =>
      obtain ⟨bs, e, l, at_⟩ := ih
      obtain ⟨b, e2, hb⟩ := a
      refine ⟨b :: bs, by rw [List.map_cons, ← e, ← e2], by rw [List.length_cons, List.length_cons, l], fun p hp => ?_⟩
      rw [List.zip_cons_cons] at hp
      rcases List.mem_cons.mp hp with q | q
      · subst q; exact hb
      · exact at_ p q
  let r : Addr × List Str → Addr × List Str → Bool := fun a b => PySem.W.dataLe false Ky.enc (lenK a.2) (lenK b.2)
  have e1 : Sk.sortBy (bs.map V.ref) (ks.map fun o => lsD (lenK o)) = ((bs.zip ks).mergeSort r).map fun p => V.ref p.1 := by
    unfold Sk.sortBy
    rw [List.zip_map, ← List.map_mergeSort (r := r) (s := PySem.W.dataLe false fun x => x.snd) (f := Prod.map V.ref fun o => lsD (lenK o)) (l := bs.zip ks) (fun a _ b _ => rfl), List.map_map]
    rfl
  have z : (bs.zip ks).map (fun x => lenK x.2) = ks.map lenK := by
    rw [show (fun x : Addr × List Str => lenK x.2) = lenK ∘ Prod.snd from rfl, ← List.map_map, List.map_snd_zip (by omega)]
  have e2 : ((bs.zip ks).mergeSort r).map (fun x => lenK x.2) = sortU (ks.map lenK) := by
    rw [List.map_mergeSort (s := PySem.W.dataLe false Ky.enc) (fun a _ b _ => rfl), z, merge_up]
    rw [List.Nodup, List.pairwise_map]
    exact List.Pairwise.imp (fun n e => n (lenK_inj e)) nd
  unfold szs
  rw [e1, ← e2, List.map_map]
  exact tupA_of _ fun p hp => at_ p ((List.mergeSort_perm ..).mem_iff.mp hp)
theorem unlock_same {H H' : Hp} {D : Addr} {u f : HO} (e : H D = some u) (s : Same (upd H D f) H') : Same H (upd H' D u) := fun a x h => by
  by_cases q : a = D
  · subst q
    rw [upd_same, ← e]; exact h
  · rw [upd_ne q]
    exact s a x (by rw [upd_ne q]; exact h)
section
variable {P : Program} {w : World} {K : PySem.W.Frag} {mg : Str → Option Value} {base : Heap} {T C fI : Addr}
abbrev brN : List Str := ["p", "sets", "bits", "masks", "witness", "found", "mask", "token"]
theorem scBrk : FnScope brN ["p"] (defScope sBrk) := ⟨rfl, rfl, rfl, by decide +kernel, rfl, by decide +kernel, by decide +kernel⟩
theorem ok_brk {f : Addr} {fd : FuncData} (F : Fun K "breakers" "breakers" sBrk f fd) (N : Nm mg) (srt : mg "sorted" = none) (Gw : Df P w K mg base 6 "witnesses" ["p"] (spWits K)) (Gb : Df P w K mg base 1 "_bits_of" ["sets"] (spBitsT K)) (Gm : Df P w K mg base 1 "_met_besides" ["masks", "bits"] (spMet K)) (Go : Df P w K mg base 1 "set_order" ["tokens"] (spOrd K)) :
    FnOk P w K mg base CX0 7 f fd ["p"] (spBrk K) := by
  obtain ⟨fw, fdw, gW, kW, bW, GW⟩ := Gw.ok
  obtain ⟨fb, fdb, gB, kB, bB, GB⟩ := Gb.ok
  obtain ⟨fm, fdm, gM, kM, bM, GM⟩ := Gm.ok
  obtain ⟨fo, fdo, gO, kO, bO, GO⟩ := Go.ok
  refine F.ok scBrk (fun vs H Q E h => ?_) (fun cdv A outer s H vs Q E hr h => ?_)
  · obtain ⟨v, p, rfl, _⟩ := h
    rfl
  · obtain ⟨v, p, rfl, hd, tl, pl, mo, fl, few, k⟩ := h
    have hr1 : Room 1 _ := hr.mono (by decide)
    have hr3 : Room 3 _ := hr.mono (by decide)
    have hr6 : Room 6 _ := hr
    --BODY0
    refine ⟨_, pss_cons (ps_set (i := 1) scBrk.nd rfl (Or.inl rfl) (pe_call GW hr6 rfl gW kW bW .nil pass0 (pa_cons (pv 0) pa_nil)))
      (pss_cons (ps_set (i := 2) scBrk.nd rfl (Or.inr rfl) (pe_call GB hr1 rfl gB kB bB .nil pass0 (pa_cons (pv 1) pa_nil)))
      (pss_cons (ps_set (i := 3) scBrk.nd rfl (Or.inl rfl) (pe_lst (pa_cons pe_int pa_nil)))
      (pss_cons (ps_for PassesOwn.never rfl (pi_tup (pv 1)) (pg_name (i := 4) scBrk.nd rfl (Or.inl rfl))
      (pss_one (ps_set (i := 3) scBrk.nd rfl (Or.inl rfl) (pe_call GM hr1 rfl gM kM bM .nil pass0 (pa_cons (pv 3) (pa_cons (pe_lc (own := [("token", 7)]) (g := gName 7) (tt := tYes) rfl scBrk.nd (pi_tup (pv 4)) (blkOk_by (N := brN) (sc := defScope sBrk) (by decide +kernel)) (fun _ _ _ _ _ => pg_name (i := 7) scBrk.nd rfl (Or.inl rfl)) (fun _ _ _ _ _ => pts_nil) (fun _ _ _ _ _ => (pe_dget (u1 hr) (pv 2) (pv 7) (fun _ _ => rfl)))) pa_nil))))))
      (pss_cons (ps_setLc (i := 5) (own := [("mask", 6)]) (g := gName 6) (tt := tYes) rfl scBrk.nd rfl rfl (sw_true rfl rfl rfl (by decide +kernel)) (pi_list (pv 3)) (blkOk_by (N := brN) (sc := defScope sBrk) (by decide +kernel)) (fun _ _ _ _ _ => pg_name (i := 6) scBrk.nd rfl (Or.inr rfl)) (fun _ _ _ _ _ => pts_nil) (fun _ _ _ _ _ => (pe_callTy (show CallR _ _ (rTupO K) from call_tuple_of) (by rfl) N.tup (by rfl) (pa_cons (pe_lock (pe_lc (own := [("token", 7)]) (g := gName 7) (tt := tBitM K) rfl scBrk.nd (pi_keys (pv 2)) (blkOk_by (N := brN) (by rfl)) (fun _ _ _ _ _ => pg_name (i := 7) scBrk.nd rfl (Or.inl rfl)) (fun _ _ _ _ _ => pts_one (pt_truth (pe_op op_and (pe_dget (u1 hr) (pv 2) (pv 7) (fun _ _ => rfl)) (pv 6)) (fun _ => rfl))) (fun _ _ _ _ _ => pv 7))) pa_nil))))
      (pss_one (ps_ret (pe_callTy (show CallR _ _ (rTupO K) from call_tuple_of) (by rfl) N.tup (by rfl) (pa_cons (pe_callBK (Sk.cr_sortKeyL GO hr3 bO) (by rfl) srt (by rfl) (pa_cons (pv 5) pa_nil) (pk_cons (pe_glob (v := .ref fo) rfl gO rfl) pk_nil)) pa_nil)))))))), ?_⟩
    --END
    refine ⟨_, rfl, v, p, rfl, hd, tl, pl, mo, fun vs' H1 s1 dr => ?_⟩
    obtain ⟨T1, zs, rfl, hT, hzs⟩ := dp_tup dr
    have hnd : ∀ o ∈ byM p, o.Nodup := fun o ho => by
      obtain ⟨⟨t, _, e⟩, _⟩ := byM_iff.mp ho
      rw [← e]
      exact asc_nd (sortU_asc _)
    generalize byM p = os at *
    have zl : zs.length = os.length := by rw [dpAll_len hzs, List.length_map]
    refine ⟨_, rfl, T1, zs, os, rfl, .inr hT, hzs, fl, fun D H2 s2 nD hD => ?_⟩
    have hT2 := sqT_same s2 hT
    have hz2 := dpAll_same s2 hzs
    refine ⟨(by show 1 ≤ sizeLine; decide), fun Ma nMa => ?_⟩
    have sM : Same H2 (upd H2 Ma (.lst [.int 0])) := sm_new sm_refl nMa
    have hM : upd H2 Ma (.lst [.int 0]) Ma = some (.lst (VL [0])) := upd_same
    generalize upd H2 Ma (.lst [.int 0]) = H3 at sM hM ⊢
    refine ⟨_, rfl, T1, rfl, ⟨_, sqT_same sM hT2⟩, ?_⟩
    refine for_tup (K := K) (a := T1) (xs := zs) (fun j σ H4 => (∃ Mj u4, σ = [some v, some (.ref T1), some (.ref D), some (.ref Mj), u4, none, none, none] ∧ H4 Mj = some (.lst (VL (brkAt os j)))) ∧ Same H2 H4 ) ⟨⟨Ma, _, rfl, hM⟩, sM ⟩ (fun j σ H4 _ ⟨_, s4 ⟩ => sqT_same s4 hT2) ?_ ?_
    · rintro j x σ H4 hj ⟨⟨Mj, u4, rfl, hMj⟩, s4 ⟩
      obtain ⟨o, b, ho, rfl, hb⟩ := sets_at (dpAll_same s4 hz2) hj
      have om := List.mem_of_getElem? ho
      have jl := (List.getElem?_eq_some_iff.mp ho).1
      have f1 : o.length ≤ 1000 := Nat.le_trans (in_flat om) fl
      have hD4 := s4 _ _ hD
      refine ⟨_, rfl, _, rfl, b, rfl, ⟨_, hb⟩, fun L nL => ?_⟩
      refine lc_tup (K := K) (a := b) (xs := o.map V.str) (fun i H5 => Same H4 H5 ∧ H5 L = some (.lst (VL (Bg.pows ((o.take i).map (ixT (tksOf os))))))) ⟨sm_new sm_refl nL, upd_same⟩ (fun i H5 _ ⟨s5, _⟩ => sqT_same s5 hb) ?_ ?_
      · rintro i x H5 hi ⟨s5, hL⟩
        rw [List.getElem?_map] at hi
        obtain ⟨t, ht, rfl⟩ := Option.map_eq_some_iff.mp hi
        have il := (List.getElem?_eq_some_iff.mp ht).1
        have g := DGet.k (k := .inr t) (s5 _ _ hD4)
        rw [kvB_val (tks_mem.mpr ⟨o, om, List.mem_of_getElem? ht⟩)] at g
        refine ⟨rfl, _, rfl, _, rfl, D, _, rfl, g, _, hL, small1000 ?_, sm_new s5 nL, ?_⟩
        · rw [vl_len]
          unfold Bg.pows
          rw [List.length_map, List.length_map, List.length_take]
          omega
        · rw [upd_same, List.take_succ, ht, List.map_append]
          unfold VL Bg.pows
          rw [List.map_append, List.map_append]
          rfl
      rintro H5 ⟨s5, hL⟩
      rw [List.length_map, List.take_length] at hL
      have bl : (Bg.pows (o.map (ixT (tksOf os)))).length ≤ 1000 := by
        unfold Bg.pows
        rw [List.length_map, List.length_map]
        exact f1
      have es := brkAt_succ ho
      have hM5 := s5 _ _ hMj
      refine ⟨Mj, L, brkAt os j, _, rfl, hM5, hL, few j (by omega), bl, by rw [← es]; exact few (j + 1) (by omega), fun l H6 s6 nl hl => ⟨⟨l, _, rfl, ?_⟩, (s4.trans s5).trans s6⟩⟩
      rw [es]
      exact hl
    · rintro σ H4 ⟨⟨Mj, u4, rfl, hMj⟩, s4 ⟩
      rw [zl] at hMj
      have few2 := few os.length (Nat.le_refl _)
      have mnd := masks_nd hnd
      have hD4 := s4 _ _ hD
      unfold brkS at k
      generalize hms : brkAt os os.length = ms at hMj few2 mnd k
      have tsl : (tksOf os).length ≤ 1000 := by
        have := sortU_len os.flatten
        unfold tksOf
        omega
      generalize tksOf os = ts at *
      refine ⟨_, rfl, Mj, rfl, ⟨_, SqL.of hMj⟩, fun Fo nF => ?_⟩
      refine lc_list (K := K) (a := Mj) (xs := VL ms) (fun i H5 => Same H4 H5 ∧ ∃ ys, H5 Fo = some (.lst ys) ∧ TupA H5 ys ((ms.take i).map (ofMask ts))) ⟨sm_new sm_refl nF, [], upd_same, .nil⟩ (fun i H5 _ ⟨s5, _⟩ => SqL.of (s5 _ _ hMj)) ?_ ?_
      · rintro i x H5 hi ⟨s5, ys, hF, tu⟩
        obtain ⟨m, hm, rfl⟩ := vl_get hi
        have il := (List.getElem?_eq_some_iff.mp hm).1
        have hD5 := s5 _ _ hD4
        refine ⟨rfl, D, .dK (kvB ts), hD5, trivial, fun od => ⟨_, rfl, D, od, rfl, .inl ⟨kvB ts, upd_same, fun L nL => ?_⟩⟩⟩
        have LD : L ≠ D := fun e => by
          rw [e, upd_same] at nL
          cases nL
        refine lc_it walk_keys (fun t H6 => Same (upd H5 D (.frz od (.dK (kvB ts)))) H6 ∧ H6 L = some (.lst (((ts.take t).filter fun t => bitOf ts t &&& m != 0).map V.str))) ⟨sm_new sm_refl nL, upd_same⟩ (fun t H6 _ ⟨s6, _⟩ => s6 _ _ upd_same) ?_ ?_
        · rintro t x _ H6 ht ⟨s6, hL⟩ ⟨rfl, kk, vv, hkv, rfl⟩
          unfold kvB at hkv
          rw [List.getElem?_map] at hkv
          obtain ⟨z, hz, e⟩ := Option.map_eq_some_iff.mp hkv
          cases e
          have zl2 := (List.getElem?_eq_some_iff.mp hz).1
          have g : DGet H6 D (.str z) (valV (kvB ts) (.inr z)) := .inl ⟨kvB ts, .inr z, .inr ⟨od, s6 _ _ upd_same⟩, rfl, rfl⟩
          rw [kvB_val (List.mem_of_getElem? hz)] at g
          refine ⟨rfl, _, rfl, _, rfl, D, _, rfl, g, _, rfl, _, _, rfl, rfl, (bitOf ts z &&& m != 0), (and_ne _ m).symm, ?_⟩
          have st := filt_one (q := fun t => bitOf ts t &&& m != 0) hz
          have len : ((ts.take t).filter fun t => bitOf ts t &&& m != 0).length ≤ 1000 := by
            refine Nat.le_trans (List.length_filter_le ..) ?_
            rw [List.length_take]
            omega
          cases q : (bitOf ts z &&& m != 0) with
          | true =>
            refine iteT ⟨_, rfl, _, hL, small1000 (by rw [List.length_map]; exact len), sm_new s6 nL, ?_⟩
            rw [upd_same, st, if_pos q, List.map_append]
            rfl
          | false =>
            refine iteF ⟨s6, ?_⟩
            rw [st, if_neg (by rw [q]; exact Bool.false_ne_true), List.append_nil]
            exact hL
        · rintro H6 ⟨s6, hL⟩
          have kl : (kvB ts).length = ts.length := List.length_map ..
          rw [kl, List.take_length] at hL
          refine ⟨s6 _ _ upd_same, L, (ofMask ts m).map V.str, rfl, .inl ⟨SqL.of (by rw [upd_ne LD]; exact hL), fun U nU => ?_⟩⟩
          have s56 := unlock_same hD5 s6
          generalize upd H6 D (.dK (kvB ts)) = H7 at s56 nU ⊢
          have sU : Same H7 (upd H7 U (.tup ((ofMask ts m).map V.str))) := sm_new sm_refl nU
          have gU : upd H7 U (.tup ((ofMask ts m).map V.str)) U = some (.tup ((ofMask ts m).map V.str)) := upd_same
          have s58 := s56.trans sU
          generalize upd H7 U (.tup ((ofMask ts m).map V.str)) = H8 at sU gU s58 ⊢
          have hF8 := s58 _ _ hF
          have nt : NotT (H8 Fo) := by rw [hF8]; exact notT_lst
          refine ⟨ys, hF8, ?_, sm_new (s5.trans s58) nF, _, upd_same, ?_⟩
          · rw [tu.len, List.length_map, List.length_take, sizeLine_eq]
            omega
          rw [List.take_succ, hm, List.map_append]
          exact TupA.app (.put nt (tu.same s58)) (.put nt (.cons ⟨U, rfl, gU⟩ .nil))
      rintro H5 ⟨s5, ys, hF, tu⟩
      rw [vl_len, List.take_length] at tu
      generalize ms.map (ofMask ts) = fs at tu mnd k
      refine ⟨_, rfl, Fo, ys, fs.map fun o => lsD (lenK o), rfl, rfl, SqL.of hF, ⟨?_, ?_, ?_, ?_, ?_⟩, fun S H6 s6 nS => ?_⟩
      · rw [List.length_map, tu.len]
      · intro a ha b hb
        obtain ⟨x, _, rfl⟩ := List.mem_map.mp ha
        obtain ⟨y, _, rfl⟩ := List.mem_map.mp hb
        exact Ky.al (lenK x) (lenK y)
      · exact .inl fun d hd => by
          obtain ⟨x, _, rfl⟩ := List.mem_map.mp hd
          exact ⟨_, _, rfl⟩
      · intro d hd
        obtain ⟨x, _, rfl⟩ := List.mem_map.mp hd
        exact Nat.le_trans (Ky.dep (lenK x)) (by decide)
      · intro i x d hx hd' H' s'
        obtain ⟨o, b, ho, rfl, hb⟩ := TupA.get (tu.same s') hx
        rw [List.getElem?_map, ho] at hd'
        cases hd'
        exact ⟨b, o, rfl, SqT.of hb, fun v H'' s'' d'' => ⟨s'', d''⟩⟩
      have tS := sort_list mnd tu
      generalize Sk.sortBy ys (fs.map fun o => lsD (lenK o)) = zs' at tS ⊢
      have sS : Same H6 (upd H6 S (.lst zs')) := sm_new sm_refl nS
      have hS : upd H6 S (.lst zs') S = some (.lst zs') := upd_same
      have tZ := (tS.same s6).same sS
      generalize upd H6 S (.lst zs') = H7 at sS hS tZ ⊢
      refine ⟨S, zs', rfl, .inl ⟨SqL.of hS, fun U nU => ?_⟩⟩
      have sU : Same H7 (upd H7 U (.tup zs')) := sm_new sm_refl nU
      exact k _ _ (((((s1.trans s2).trans s4).trans s5).trans s6).trans (sS.trans sU)) (.tup (SqT.of upd_same) (TupA.dps (tZ.same sU)))
theorem ok_brkX {f : Addr} {fd : FuncData} (F : Fun K "breakers" "breakers" sBrk f fd) (Gw : Df P w K mg base 6 "witnesses" ["p"] (spWits K)) (Gb : Df P w K mg base 1 "_bits_of" ["sets"] (spBitsT K)) (X : Tm K mg T C fI)
    {fm : Addr} {fdm : FuncData} (gM : mg "_met_besides" = some (.ref fm)) (kM : PySem.W.keepIn K (.ref fm) = true) (bM : Binds K fdm ["masks", "bits"] []) (GM : FnOk P w K mg base (L2.CX P w) 1 fm fdm ["masks", "bits"] (fun vs H Q E => spMet K vs H Q E ∨ spMetX K C vs H Q E)) :
    FnOk P w K mg base (L2.CX P w) 7 f fd ["p"] (spBrkX K C) := by
  obtain ⟨fw, fdw, gW, kW, bW, GW⟩ := Gw.ok
  obtain ⟨fb, fdb, gB, kB, bB, GB⟩ := Gb.ok
  refine F.okX scBrk (fun vs H Q E h => ?_) (fun cdv A outer s H vs Q E hr h => ?_)
  · obtain ⟨v, p, n, rfl, _⟩ := h
    rfl
  · obtain ⟨v, p, n, rfl, hd, tl, pl, mo, fl, nl, few, over, out⟩ := h
    have hr1 : Room 1 _ := hr.mono (by decide)
    have hr6 : Room 6 _ := hr
    have tk := takes_of (X := cxOf (L2.CX P w) P w K mg base brN "breakers" (defScope sBrk) f cdv A outer s H E) (E := E) rfl rfl rfl rfl
    --BODYX
    refine ⟨_, pss_cons (ps_set (i := 1) scBrk.nd rfl (Or.inl rfl) (pe_call GW hr6 rfl gW kW bW .nil pass0 (pa_cons (pv 0) pa_nil)))
      (pss_cons (ps_set (i := 2) scBrk.nd rfl (Or.inr rfl) (pe_call GB hr1 rfl gB kB bB .nil pass0 (pa_cons (pv 1) pa_nil)))
      (pss_cons (ps_set (i := 3) scBrk.nd rfl (Or.inl rfl) (pe_lst (pa_cons pe_int pa_nil)))
      (pss_cons (ps_for (passes_of rfl) rfl (pi_tup (pv 1)) (pg_name (i := 4) scBrk.nd rfl (Or.inl rfl))
      (pss_one (ps_set (i := 3) scBrk.nd rfl (Or.inl rfl) (pe_callS GM hr1 rfl gM kM bM (fun σ => passAt tk σ) (pa_cons (pv 3) (pa_cons (pe_lc (own := [("token", 7)]) (g := gName 7) (tt := tYes) rfl scBrk.nd (pi_tup (pv 4)) (blkOk_by (N := brN) (sc := defScope sBrk) (by decide +kernel)) (fun _ _ _ _ _ => pg_name (i := 7) scBrk.nd rfl (Or.inl rfl)) (fun _ _ _ _ _ => pts_nil) (fun _ _ _ _ _ => (pe_dget (u1 hr) (pv 2) (pv 7) (fun _ _ => rfl)))) pa_nil))))))
      pss_never))), ?_⟩
    --END
    refine ⟨_, rfl, v, p, rfl, hd, tl, pl, mo, fun vs' H1 s1 dr => ?_⟩
    obtain ⟨T1, zs, rfl, hT, hzs⟩ := dp_tup dr
    have hnd : ∀ o ∈ byM p, o.Nodup := fun o ho => by
      obtain ⟨⟨t, _, e⟩, _⟩ := byM_iff.mp ho
      rw [← e]
      exact asc_nd (sortU_asc _)
    generalize byM p = os at *
    have zl : zs.length = os.length := by rw [dpAll_len hzs, List.length_map]
    refine ⟨_, rfl, T1, zs, os, rfl, .inr hT, hzs, fl, fun D H2 s2 nD hD => ?_⟩
    have hT2 := sqT_same s2 hT
    have hz2 := dpAll_same s2 hzs
    refine ⟨(by show 1 ≤ sizeLine; decide), fun Ma nMa => ?_⟩
    have sM : Same H2 (upd H2 Ma (.lst [.int 0])) := sm_new sm_refl nMa
    have hM : upd H2 Ma (.lst [.int 0]) Ma = some (.lst (VL [0])) := upd_same
    generalize upd H2 Ma (.lst [.int 0]) = H3 at sM hM ⊢
    refine ⟨_, rfl, T1, rfl, ⟨_, sqT_same sM hT2⟩, ?_⟩
    refine for_tup (K := K) (a := T1) (xs := zs) (fun j σ H4 => (∃ Mj u4, σ = [some v, some (.ref T1), some (.ref D), some (.ref Mj), u4, none, none, none] ∧ H4 Mj = some (.lst (VL (brkAt os j)))) ∧ Same H2 H4 ∧ j ≤ n) ⟨⟨Ma, _, rfl, hM⟩, sM , Nat.zero_le _⟩ (fun j σ H4 _ ⟨_, s4 , _⟩ => sqT_same s4 hT2) ?_ ?_
    · rintro j x σ H4 hj ⟨⟨Mj, u4, rfl, hMj⟩, s4 , jn⟩
      obtain ⟨o, b, ho, rfl, hb⟩ := sets_at (dpAll_same s4 hz2) hj
      have om := List.mem_of_getElem? ho
      have jl := (List.getElem?_eq_some_iff.mp ho).1
      have f1 : o.length ≤ 1000 := Nat.le_trans (in_flat om) fl
      have hD4 := s4 _ _ hD
      refine ⟨_, rfl, _, rfl, b, rfl, ⟨_, hb⟩, fun L nL => ?_⟩
      refine lc_tup (K := K) (a := b) (xs := o.map V.str) (fun i H5 => Same H4 H5 ∧ H5 L = some (.lst (VL (Bg.pows ((o.take i).map (ixT (tksOf os))))))) ⟨sm_new sm_refl nL, upd_same⟩ (fun i H5 _ ⟨s5, _⟩ => sqT_same s5 hb) ?_ ?_
      · rintro i x H5 hi ⟨s5, hL⟩
        rw [List.getElem?_map] at hi
        obtain ⟨t, ht, rfl⟩ := Option.map_eq_some_iff.mp hi
        have il := (List.getElem?_eq_some_iff.mp ht).1
        have g := DGet.k (k := .inr t) (s5 _ _ hD4)
        rw [kvB_val (tks_mem.mpr ⟨o, om, List.mem_of_getElem? ht⟩)] at g
        refine ⟨rfl, _, rfl, _, rfl, D, _, rfl, g, _, hL, small1000 ?_, sm_new s5 nL, ?_⟩
        · rw [vl_len]
          unfold Bg.pows
          rw [List.length_map, List.length_map, List.length_take]
          omega
        · rw [upd_same, List.take_succ, ht, List.map_append]
          unfold VL Bg.pows
          rw [List.map_append, List.map_append]
          rfl
      rintro H5 ⟨s5, hL⟩
      rw [List.length_map, List.take_length] at hL
      have bl : (Bg.pows (o.map (ixT (tksOf os)))).length ≤ 1000 := by
        unfold Bg.pows
        rw [List.length_map, List.length_map]
        exact f1
      have es := brkAt_succ ho
      have hM5 := s5 _ _ hMj
      rcases Nat.lt_or_eq_of_le jn with lt | rfl
      · refine .inl ⟨Mj, L, brkAt os j, _, rfl, hM5, hL, few j (by omega), bl, by rw [← es]; exact few (j + 1) (by omega), fun l H6 s6 nl hl => ⟨⟨l, _, rfl, ?_⟩, (s4.trans s5).trans s6, by omega⟩⟩
        rw [es]
        exact hl
      · exact .inr ⟨Mj, L, brkAt os j, _, rfl, hM5, hL, few j (Nat.le_refl _), bl, by rw [← es]; exact over, fun x H6 s6 hx => out x H6 (((s1.trans s2).trans s4).trans (s5.trans s6)) hx⟩
    · rintro σ H4 ⟨⟨Mj, u4, rfl, hMj⟩, s4 , jn⟩
      rw [zl] at hMj
      omega
end
end K26


set_option Elab.async false
set_option linter.all false
set_option maxRecDepth 100000
set_option maxHeartbeats 8000000
/-! the least sets that meet all, told without masks -/
namespace K26
open PySem L2 Nd Bk Gd PySem.ExE
/-- some token of each -/
def meets (x : List Str) (os : List (List Str)) : Prop := ∀ o ∈ os, ∃ z ∈ x, z ∈ o
def MinS (os : List (List Str)) (x : List Str) : Prop := meets x os ∧ ∀ y, (∀ z ∈ y, z ∈ x) → meets y os → ∀ z ∈ x, z ∈ y
theorem szs_iff {os : List (List Str)} {o : List Str} : o ∈ szs os ↔ o ∈ os := by
  refine ⟨szs_mem, fun h => ?_⟩
  unfold szs
  exact List.mem_map.mpr ⟨lenK o, sortU_mem.mpr (List.mem_map.mpr ⟨o, h, rfl⟩), rfl⟩
theorem szs_ord (os : List (List Str)) : (szs os).Pairwise Ord := by
  unfold szs
  rw [List.pairwise_map]
  refine List.Pairwise.imp_of_mem (fun {a b} ha hb h => ?_) (sortU_asc (os.map lenK))
  obtain ⟨x, _, rfl⟩ := List.mem_map.mp (sortU_mem.mp ha)
  obtain ⟨y, _, rfl⟩ := List.mem_map.mp (sortU_mem.mp hb)
  exact h
theorem ord_ext {l m : List (List Str)} (h1 : l.Pairwise Ord) (h2 : m.Pairwise Ord) (h : ∀ x, x ∈ l ↔ x ∈ m) : l = m :=
  sorted_ext (R := Ord) (fun a h => by unfold Ord at h; rw [lt_irrefl] at h; cases h) (fun a b h g => by unfold Ord at h g; rw [lt_asymm h] at g; cases g) h1 h2 h
/-- the mask of some tokens -/
def maskS (ts x : List Str) : Nat := Ch.msk ((ts.filter fun t => decide (t ∈ x)).map (ixT ts))
section
variable {ts x : List Str}
theorem filt_nd (nd : ts.Nodup) : (ts.filter fun t => decide (t ∈ x)).Nodup := List.Pairwise.filter _ nd
theorem mask_bit (nd : ts.Nodup) {t : Str} (ht : t ∈ ts) : (maskS ts x).testBit (ixT ts t) = decide (t ∈ x) := by
  unfold maskS
  rw [Ch.msk_bit (ixT_nd (filt_nd nd) fun t h => (List.mem_filter.mp h).1)]
  refine decide_eq_decide.mpr ⟨fun h => ?_, fun h => List.mem_map.mpr ⟨t, List.mem_filter.mpr ⟨ht, decide_eq_true h⟩, rfl⟩⟩
  obtain ⟨u, hu, e⟩ := List.mem_map.mp h
  obtain ⟨h1, h2⟩ := List.mem_filter.mp hu
  rw [← ixT_inj h1 ht e]
  exact of_decide_eq_true h2
theorem mask_in (nd : ts.Nodup) {i : Nat} (h : (maskS ts x).testBit i = true) : ∃ t ∈ ts, t ∈ x ∧ ixT ts t = i := by
  unfold maskS at h
  rw [Ch.msk_bit (ixT_nd (filt_nd nd) fun t h => (List.mem_filter.mp h).1)] at h
  obtain ⟨t, ht, e⟩ := List.mem_map.mp (of_decide_eq_true h)
  obtain ⟨h1, h2⟩ := List.mem_filter.mp ht
  exact ⟨t, h1, of_decide_eq_true h2, e⟩
theorem of_mask (nd : ts.Nodup) {z : Str} : z ∈ ofMask ts (maskS ts x) ↔ z ∈ ts ∧ z ∈ x := by
  rw [mem_ofMask]
  refine and_congr_right fun hz => ?_
  rw [mask_bit nd hz, decide_eq_true_eq]
end
section
variable {os : List (List Str)}
theorem tr_meets (nd : ∀ o ∈ os, o.Nodup) (m : Nat) : Bg.Tr ((plc os).map Ch.msk) m ↔ meets (ofMask (tksOf os) m) os := by
  unfold Bg.Tr meets
  constructor
  · intro h o ho
    have := h (Ch.msk (o.map (ixT (tksOf os)))) (List.mem_map.mpr ⟨_, List.mem_map.mpr ⟨o, ho, rfl⟩, rfl⟩)
    obtain ⟨i, hi, hb⟩ := (Bg.hit_msk (plc_nd nd _ (List.mem_map.mpr ⟨o, ho, rfl⟩))).mp this
    obtain ⟨t, ht, rfl⟩ := List.mem_map.mp hi
    exact ⟨t, mem_ofMask.mpr ⟨tks_mem.mpr ⟨o, ho, ht⟩, hb⟩, ht⟩
  · intro h b hb
    obtain ⟨is, his, rfl⟩ := List.mem_map.mp hb
    obtain ⟨o, ho, rfl⟩ := List.mem_map.mp his
    obtain ⟨z, hz, hzo⟩ := h o ho
    exact (Bg.hit_msk (plc_nd nd _ his)).mpr ⟨_, List.mem_map.mpr ⟨z, hzo, rfl⟩, (mem_ofMask.mp hz).2⟩
theorem meets_mono {x y : List Str} (h : meets x os) (s : ∀ z ∈ x, z ∈ y) : meets y os := fun o ho => let ⟨z, h1, h2⟩ := h o ho; ⟨z, s z h1, h2⟩
theorem brkS_iff (nd : ∀ o ∈ os, o.Nodup) {x : List Str} : x ∈ brkS os ↔ AscK x ∧ MinS os x := by
  have tn := tks_nd os
  have mt := (Bg.brk_iff (plc os) (plc_nd nd)).1
  unfold brkS
  rw [szs_iff, List.mem_map, brkAt_all]
  constructor
  · rintro ⟨m, hm, rfl⟩
    obtain ⟨t, l⟩ := (mt m).mp hm
    refine ⟨List.Pairwise.filter _ (sortU_asc _), (tr_meets nd m).mp t, fun y hy my z hz => ?_⟩
    have s : Ch.Sub (maskS (tksOf os) y) m := fun i hi => by
      obtain ⟨u, _, hu, rfl⟩ := mask_in tn hi
      exact (mem_ofMask.mp (hy u hu)).2
    have e := l _ s ((tr_meets nd _).mpr (fun o ho => by
      obtain ⟨u, hu, huo⟩ := my o ho
      exact ⟨u, (of_mask tn).mpr ⟨tks_mem.mpr ⟨o, ho, huo⟩, hu⟩, huo⟩))
    rw [← e] at hz
    exact ((of_mask tn).mp hz).2
  · rintro ⟨a, h, l⟩
    have sub : ∀ z ∈ x, z ∈ tksOf os := fun z hz => by
      have := l (x.filter fun z => decide (z ∈ tksOf os)) (fun z h => (List.mem_filter.mp h).1) (fun o ho => by
        obtain ⟨u, hu, huo⟩ := h o ho
        exact ⟨u, List.mem_filter.mpr ⟨hu, decide_eq_true (tks_mem.mpr ⟨o, ho, huo⟩)⟩, huo⟩) z hz
      exact of_decide_eq_true (List.mem_filter.mp this).2
    have ex : ofMask (tksOf os) (maskS (tksOf os) x) = x := ascK_extG (List.Pairwise.filter _ (sortU_asc _)) a fun z => (of_mask tn).trans ⟨And.right, fun hz => ⟨sub z hz, hz⟩⟩
    refine ⟨_, (mt _).mpr ⟨(tr_meets nd _).mpr (by rw [ex]; exact h), fun m' s t' => ?_⟩, ex⟩
    have := l (ofMask (tksOf os) m') (fun z hz => by
      obtain ⟨h1, h2⟩ := mem_ofMask.mp hz
      have := s _ h2
      rw [mask_bit tn h1] at this
      exact of_decide_eq_true this) ((tr_meets nd m').mp t')
    refine Bg.sub_anti s fun i hi => ?_
    obtain ⟨u, _, hu, rfl⟩ := mask_in tn hi
    exact (mem_ofMask.mp (this u hu)).2
/-- a set that meets all has one of the least within -/
theorem brkS_under (nd : ∀ o ∈ os, o.Nodup) {g : List Str} (h : meets g os) : ∃ x ∈ brkS os, ∀ z ∈ x, z ∈ g := by
  have tn := tks_nd os
  obtain ⟨m, hm, s⟩ := Bg.mt_under (os := (plc os).map Ch.msk) (maskS (tksOf os) g) ((tr_meets nd _).mpr fun o ho => by
    obtain ⟨u, hu, huo⟩ := h o ho
    exact ⟨u, (of_mask tn).mpr ⟨tks_mem.mpr ⟨o, ho, huo⟩, hu⟩, huo⟩)
  refine ⟨ofMask (tksOf os) m, ?_, fun z hz => ?_⟩
  · unfold brkS
    rw [szs_iff, brkAt_all]
    exact List.mem_map.mpr ⟨m, ((Bg.brk_iff (plc os) (plc_nd nd)).1 m).mpr hm, rfl⟩
  · obtain ⟨h1, h2⟩ := mem_ofMask.mp hz
    have := s _ h2
    rw [mask_bit tn h1] at this
    exact of_decide_eq_true this
theorem brkS_ord (os : List (List Str)) : (brkS os).Pairwise Ord := szs_ord _
/-- to and fro -/
theorem brk_brk (nd : ∀ o ∈ os, AscK o) (ord : os.Pairwise Ord) (anti : ∀ a ∈ os, ∀ b ∈ os, (∀ z ∈ a, z ∈ b) → a = b) : brkS (brkS os) = os := by
  have nd1 : ∀ o ∈ os, o.Nodup := fun o ho => asc_nd (nd o ho)
  have nd2 : ∀ o ∈ brkS os, o.Nodup := fun o ho => asc_nd ((brkS_iff nd1).mp ho).1
  have meet2 : ∀ o ∈ os, meets o (brkS os) := fun o ho b hb => by
    obtain ⟨z, hz, hzo⟩ := ((brkS_iff nd1).mp hb).2.1 o ho
    exact ⟨z, hzo, hz⟩
  refine ord_ext (brkS_ord _) ord fun x => ?_
  rw [brkS_iff nd2]
  constructor
  · rintro ⟨a, h, l⟩
    have : ∃ o ∈ os, ∀ z ∈ o, z ∈ x := Classical.byContradiction fun n => by
      have g : meets ((tksOf os).filter fun z => decide (z ∉ x)) os := fun o ho => Classical.byContradiction fun c => n ⟨o, ho, fun z hz => Classical.byContradiction fun q => c ⟨z, List.mem_filter.mpr ⟨tks_mem.mpr ⟨o, ho, hz⟩, decide_eq_true q⟩, hz⟩⟩
      obtain ⟨b, hb, sb⟩ := brkS_under nd1 g
      obtain ⟨z, hz, hzb⟩ := h b hb
      exact (of_decide_eq_true (List.mem_filter.mp (sb z hzb)).2) hz
    obtain ⟨o, ho, so⟩ := this
    have back := l o so (meet2 o ho)
    have e : x = o := ascK_extG a (nd o ho) fun z => ⟨back z, so z⟩
    rw [e]; exact ho
  · intro hx
    refine ⟨nd x hx, meet2 x hx, fun y hy my => Classical.byContradiction fun n => ?_⟩
    have g : meets ((tksOf os).filter fun z => decide (z ∉ y)) os := fun o ho => Classical.byContradiction fun c => n (by
      have oy : ∀ z ∈ o, z ∈ y := fun z hz => Classical.byContradiction fun q => c ⟨z, List.mem_filter.mpr ⟨tks_mem.mpr ⟨o, ho, hz⟩, decide_eq_true q⟩, hz⟩
      have e := anti o ho x hx fun z hz => hy z (oy z hz)
      rw [← e]; exact oy)
    obtain ⟨b, hb, sb⟩ := brkS_under nd1 g
    obtain ⟨z, hz, hzb⟩ := my b hb
    exact (of_decide_eq_true (List.mem_filter.mp (sb z hzb)).2) hz
end
section
variable (p : Poly)
theorem byM_asc : ∀ o ∈ byM p, AscK o := fun o ho => by
  obtain ⟨⟨t, _, e⟩, _⟩ := byM_iff.mp ho
  rw [← e]
  exact sortU_asc _
theorem byM_anti : ∀ a ∈ byM p, ∀ b ∈ byM p, (∀ z ∈ a, z ∈ b) → a = b := fun a ha b hb s => by
  obtain ⟨⟨t, ht, e⟩, _⟩ := byM_iff.mp ha
  rw [← e]
  exact (byM_iff.mp hb).2 t ht (subS_iff.mpr (by rw [e]; exact s))
theorem byM_brk : brkS (brkS (byM p)) = byM p := brk_brk (byM_asc p) (byM_ord p) (byM_anti p)
theorem byM_some {t : Mono × Int} (ht : t ∈ p) : ∃ o ∈ byM p, subS o (tsOf t) = true := least_under (hd := fun _ => true) _ (tsOf t) (by
  unfold sized
  rw [List.mem_map]
  exact ⟨(((tsOf t).length : Int), tsOf t), sortU_mem.mpr (List.mem_map.mpr ⟨t, ht, rfl⟩), rfl⟩) rfl
/-- gone: whether the row is lost -/
theorem lost_iff {g : List Str} : hasT p ((sortU (fk p)).filter fun z => decide (z ∉ g)) = false ↔ meets g (byM p) := by
  have tk : ∀ t ∈ p, ∀ z ∈ tsOf t, z ∈ sortU (fk p) := fun t ht z hz => by
    obtain ⟨x, hx, rfl⟩ := List.mem_map.mp (sortU_mem.mp hz)
    exact sortU_mem.mpr (List.mem_flatMap.mpr ⟨t, ht, List.mem_map.mpr ⟨x, hx, rfl⟩⟩)
  constructor
  · intro h o ho
    obtain ⟨⟨t, ht, e⟩, _⟩ := byM_iff.mp ho
    refine Classical.byContradiction fun c => ?_
    have : hasT p ((sortU (fk p)).filter fun z => decide (z ∉ g)) = true := hasT_iff.mpr ⟨t, ht, subS_iff.mpr fun z hz => List.mem_filter.mpr ⟨tk t ht z hz, decide_eq_true fun q => c ⟨z, q, by rw [← e]; exact hz⟩⟩⟩
    rw [h] at this
    cases this
  · intro h
    cases q : hasT p ((sortU (fk p)).filter fun z => decide (z ∉ g)) with
    | false => rfl
    | true =>
      obtain ⟨t, ht, s⟩ := hasT_iff.mp q
      obtain ⟨o, ho, so⟩ := byM_some p ht
      obtain ⟨z, hz, hzo⟩ := h o ho
      exact absurd hz (of_decide_eq_true (List.mem_filter.mp (subS_iff.mp s z (subS_iff.mp so z hzo))).2)
/-- the same by trying all sets -/
theorem brk_all : least (fun o => !hasT p ((sortU (fk p)).filter fun z => decide (z ∉ o))) (allS (sortU (fk p))) = brkS (byM p) := by
  have nd1 : ∀ o ∈ byM p, o.Nodup := fun o ho => asc_nd (byM_asc p o ho)
  have ord : (allS (sortU (fk p))).Pairwise Ord := allS_lt (sortU_asc _)
  have asc : ∀ o ∈ allS (sortU (fk p)), AscK o := fun o ho => (allS_iff.mp ho).1
  have noin : (allS (sortU (fk p))).Pairwise fun a b => subS b a = false := List.Pairwise.imp_of_mem (fun {a b} ha hb h => not_within (asc a ha) (asc b hb) h) ord
  have hdi : ∀ o, (!hasT p ((sortU (fk p)).filter fun z => decide (z ∉ o))) = true ↔ meets o (byM p) := fun o => by
    rw [Bool.not_eq_true']
    exact lost_iff p
  have tk : ∀ z ∈ tksOf (byM p), z ∈ sortU (fk p) := fun z hz => by
    obtain ⟨o, ho, hzo⟩ := tks_mem.mp hz
    obtain ⟨⟨t, ht, e⟩, _⟩ := byM_iff.mp ho
    rw [← e] at hzo
    obtain ⟨x, hx, rfl⟩ := List.mem_map.mp (sortU_mem.mp hzo)
    exact sortU_mem.mpr (List.mem_flatMap.mpr ⟨t, ht, List.mem_map.mpr ⟨x, hx, rfl⟩⟩)
  refine ord_ext (List.Pairwise.sublist (least_sub _) ord) (brkS_ord _) fun x => ?_
  rw [least_iff _ noin x, brkS_iff nd1, allS_iff, hdi]
  constructor
  · rintro ⟨⟨a, s⟩, h, l⟩
    refine ⟨a, h, fun y hy my z hz => ?_⟩
    have e := l (x.filter fun z => decide (z ∈ y)) (allS_iff.mpr ⟨List.Pairwise.filter _ a, fun z h => s z (List.mem_filter.mp h).1⟩) ((hdi _).mpr fun o ho => by
      obtain ⟨u, hu, huo⟩ := my o ho
      exact ⟨u, List.mem_filter.mpr ⟨hy u hu, decide_eq_true hu⟩, huo⟩) (subS_iff.mpr fun z h => (List.mem_filter.mp h).1)
    rw [← e] at hz
    exact of_decide_eq_true (List.mem_filter.mp hz).2
  · rintro ⟨a, h, l⟩
    have sub : ∀ z ∈ x, z ∈ sortU (fk p) := fun z hz => by
      have := l (x.filter fun z => decide (z ∈ tksOf (byM p))) (fun z h => (List.mem_filter.mp h).1) (fun o ho => by
        obtain ⟨u, hu, huo⟩ := h o ho
        exact ⟨u, List.mem_filter.mpr ⟨hu, decide_eq_true (tks_mem.mpr ⟨o, ho, huo⟩)⟩, huo⟩) z hz
      exact tk z (of_decide_eq_true (List.mem_filter.mp this).2)
    refine ⟨⟨a, sub⟩, h, fun y hy hm s => ?_⟩
    have sy := subS_iff.mp s
    have back := l y sy ((hdi y).mp hm)
    exact ascK_extG (allS_iff.mp hy).1 a fun z => ⟨sy z, back z⟩
end
end K26


set_option Elab.async false
set_option linter.all false
/-! how many they are, when no two sets have a bit in common -/
namespace Bg
open Ch
def prodN : List Nat → Nat
  | [] => 1
  | a :: r => a * prodN r
theorem prodN_snoc : ∀ (l : List Nat) (a : Nat), prodN (l ++ [a]) = prodN l * a
  | [], a => by simp [prodN]
  | b :: l, a => by
    show b * prodN (l ++ [a]) = b * prodN l * a
    rw [prodN_snoc l a, Nat.mul_assoc]
theorem flat_const {α β : Type} {f : α → List β} {n : Nat} : ∀ {l : List α}, (∀ a ∈ l, (f a).length = n) → (l.flatMap f).length = l.length * n
  | [], _ => by simp
  | a :: l, h => by
    rw [List.flatMap_cons, List.length_append, h a List.mem_cons_self, flat_const (l := l) fun b hb => h b (List.mem_cons_of_mem _ hb), List.length_cons, Nat.add_mul, Nat.one_mul, Nat.add_comm]
theorem met_apart {ms is : List Nat} (nd : is.Nodup) (h : ∀ m ∈ ms, ∀ i ∈ is, m.testBit i = false) : (met ms (pows is)).length = ms.length * is.length := by
  have nohit : ∀ m ∈ ms, ¬ hit m (msk is) := fun m hm q => by
    obtain ⟨i, hi, hb⟩ := (hit_msk nd).mp q
    rw [h m hm i hi] at hb
    cases hb
  have e1 : meeting ms (msk is) = [] := List.filter_eq_nil_iff.mpr fun m hm q => nohit m hm (hit_and.mp q)
  have e2 : lacking ms (msk is) = ms := List.filter_eq_self.mpr fun m hm => by
    rw [Bool.not_eq_true']
    cases q : (m &&& msk is != 0) with
    | false => rfl
    | true => exact absurd (hit_and.mp q) (nohit m hm)
  unfold met
  rw [pows_sum, e1, List.nil_append, flat_const (n := ms.length)]
  · unfold pows
    rw [List.length_map, Nat.mul_comm]
  · intro b _
    unfold grow
    rw [e1, e2, List.filter_eq_self.mpr (fun g _ => by simp), List.length_map]
theorem brk_count : ∀ (iss : List (List Nat)) (ms : List Nat), (∀ is ∈ iss, is.Nodup) → (iss.Pairwise fun a b => ∀ i ∈ a, i ∉ b) → (∀ is ∈ iss, ∀ m ∈ ms, ∀ i ∈ is, m.testBit i = false) → (brk ms iss).length = ms.length * prodN (iss.map List.length)
  | [], ms, _, _, _ => by
    show ms.length = ms.length * 1
    rw [Nat.mul_one]
  | is :: r, ms, nd, dj, fr => by
    obtain ⟨d1, d2⟩ := List.pairwise_cons.mp dj
    have n1 := nd is List.mem_cons_self
    show (brk (met ms (pows is)) r).length = ms.length * (is.length * prodN (r.map List.length))
    rw [brk_count r (met ms (pows is)) (fun x hx => nd x (List.mem_cons_of_mem _ hx)) d2 ?_, met_apart n1 fun m hm i hi => fr is List.mem_cons_self m hm i hi, Nat.mul_assoc]
    intro js hjs m hm j hj
    rcases mem_met.mp hm with ⟨a, _⟩ | ⟨i, hi, hg⟩
    · exact fr js (List.mem_cons_of_mem _ hjs) m a j hj
    · obtain ⟨⟨x, hx, _, rfl⟩, _⟩ := mem_grow.mp hg
      rw [or_bit, fr js (List.mem_cons_of_mem _ hjs) x hx j hj, Bool.false_or]
      exact decide_eq_false fun e => d1 js hjs i hi (e ▸ hj)
/-- the first place at which a product is more than so much -/
theorem first_over {f : Nat → Nat} {M : Nat} (h0 : f 0 ≤ M) : ∀ n, M < f n → ∃ k, k < n ∧ (∀ j, j ≤ k → f j ≤ M) ∧ M < f (k + 1)
  | 0, h => absurd h (by omega)
  | n + 1, h => by
    by_cases c : ∃ i, i ≤ n ∧ M < f i
    · obtain ⟨i, hi, hM⟩ := c
      induction i using Nat.strongRecOn with
      | ind i ih =>
        cases i with
        | zero => omega
        | succ i =>
          by_cases d : ∃ i', i' ≤ i ∧ M < f i'
          · obtain ⟨i', h1, h2⟩ := d
            exact ih i' (by omega) (by omega) h2
          · exact ⟨i, by omega, fun j hj => Nat.le_of_not_lt fun q => d ⟨j, hj, q⟩, hM⟩
    · exact ⟨n, Nat.lt_succ_self _, fun j hj => Nat.le_of_not_lt fun q => c ⟨j, hj, q⟩, h⟩
end Bg


set_option Elab.async false
set_option linter.all false
set_option maxRecDepth 100000
set_option maxHeartbeats 8000000
/-! how many breakers there are -/
namespace K26
open PySem L2 Nd Bk Gd PySem.ExE
section
variable {os : List (List Str)}
theorem ixT_lt {ts : List Str} {t : Str} (h : t ∈ ts) : ixT ts t < ts.length := (List.getElem?_eq_some_iff.mp (ixT_get h)).1
/-- few tokens, few sets -/
theorem brk_small (nd : ∀ o ∈ os, o.Nodup) (j : Nat) : (brkAt os j).length ≤ 2 ^ (tksOf os).length := by
  have n := (Bg.brk_iff ((plc os).take j) fun is h => plc_nd nd is (List.mem_of_mem_take h)).2
  have a := nd_le (m := List.range (2 ^ (tksOf os).length)) n fun m hm => List.mem_range.mpr (Nat.lt_pow_two_of_testBit _ fun i hi => by
    cases q : m.testBit i with
    | false => rfl
    | true =>
      obtain ⟨t, ht, e⟩ := brk_in m hm i q
      have := ixT_lt ht
      omega)
  rwa [List.length_range] at a
/-- sets without a common token -/
theorem brk_apart (nd : ∀ o ∈ os, o.Nodup) {j : Nat} (dj : (os.take j).Pairwise fun a b => ∀ z ∈ a, z ∉ b) : (brkAt os j).length = Bg.prodN ((os.take j).map List.length) := by
  unfold brkAt
  have e : (plc os).take j = (os.take j).map fun o => o.map (ixT (tksOf os)) := by
    unfold plc
    rw [List.map_take]
  rw [Bg.brk_count _ [0] (fun is h => plc_nd nd is (List.mem_of_mem_take h)) ?_ (fun is _ m hm i _ => by rw [List.mem_singleton.mp hm, Nat.zero_testBit])]
  · rw [e, List.map_map]
    have : (List.length ∘ fun o : List Str => o.map (ixT (tksOf os))) = List.length := by
      funext o
      exact List.length_map ..
    rw [this]
    exact Nat.one_mul _
  · rw [e, List.pairwise_map]
    refine List.Pairwise.imp_of_mem (fun {a b} ha hb h i hi hj => ?_) dj
    obtain ⟨t, ht, rfl⟩ := List.mem_map.mp hi
    obtain ⟨u, hu, e⟩ := List.mem_map.mp hj
    have := ixT_inj (tks_mem.mpr ⟨b, List.mem_of_mem_take hb, hu⟩) (tks_mem.mpr ⟨a, List.mem_of_mem_take ha, ht⟩) e
    exact h t ht (this ▸ hu)
theorem brkS_len (os : List (List Str)) : (brkS os).length ≤ (brkAt os os.length).length := by
  unfold brkS szs
  rw [List.length_map]
  have := sortU_len (((brkAt os os.length).map (ofMask (tksOf os))).map lenK)
  rw [List.length_map, List.length_map] at this
  exact this
theorem brkS_count (nd : ∀ o ∈ os, o.Nodup) : (brkS os).length = (brkAt os os.length).length := by
  have mn := masks_nd nd
  have n2 : (((brkAt os os.length).map (ofMask (tksOf os))).map lenK).Nodup := by
    rw [List.Nodup, List.pairwise_map]
    exact List.Pairwise.imp (fun n e => n (lenK_inj e)) mn
  unfold brkS szs
  rw [List.length_map]
  have h1 := nd_le n2 (m := sortU (((brkAt os os.length).map (ofMask (tksOf os))).map lenK)) fun x hx => sortU_mem.mpr hx
  have h2 := sortU_len (((brkAt os os.length).map (ofMask (tksOf os))).map lenK)
  rw [List.length_map, List.length_map] at h1 h2
  omega
end
/-! the polynomial that has these sets as its products -/
def monoS (o : List Str) : Mono := o.map fun z => (z, 1)
theorem monoS_ok {o : List Str} (h : AscK o) : MOk (monoS o) := by
  refine ⟨?_, fun x hx => ?_⟩
  · unfold Asc monoS
    rw [List.pairwise_map]
    exact h
  · obtain ⟨z, _, rfl⟩ := List.mem_map.mp hx
    show (0 : Int) < 1
    decide
theorem monoS_inj {a b : List Str} (h : monoS a = monoS b) : a = b := by
  have := congrArg (List.map (·.1)) h
  unfold monoS at this
  rwa [List.map_map, List.map_map, show ((fun x : Str × Int => x.1) ∘ fun z : Str => (z, (1 : Int))) = id from rfl, List.map_id, List.map_id] at this
theorem monoS_keys (o : List Str) : (monoS o).map (·.1) = o := by
  unfold monoS
  rw [List.map_map, show ((fun x : Str × Int => x.1) ∘ fun z : Str => (z, (1 : Int))) = id from rfl, List.map_id]
/-- a polynomial of just these products -/
def IsSum (q : Poly) (B : List (List Str)) : Prop := ∀ m : Mono, (∃ c, (m, c) ∈ q) ↔ ∃ o ∈ B, m = monoS o
theorem sum_ts {q : Poly} {B : List (List Str)} (h : IsSum q B) (asc : ∀ o ∈ B, AscK o) {x : List Str} : (∃ t ∈ q, tsOf t = x) ↔ x ∈ B := by
  constructor
  · rintro ⟨⟨m, c⟩, ht, rfl⟩
    obtain ⟨o, ho, rfl⟩ := (h m).mp ⟨c, ht⟩
    have : tsOf (monoS o, c) = o := by
      unfold tsOf
      show sortU ((monoS o).map (·.1)) = o
      rw [monoS_keys]
      exact sortU_self (asc o ho)
    rw [this]; exact ho
  · intro hx
    obtain ⟨c, hc⟩ := (h (monoS x)).mpr ⟨x, hx, rfl⟩
    refine ⟨_, hc, ?_⟩
    unfold tsOf
    show sortU ((monoS x).map (·.1)) = x
    rw [monoS_keys]
    exact sortU_self (asc x hx)
theorem sum_byM {q : Poly} {B : List (List Str)} (h : IsSum q B) (asc : ∀ o ∈ B, AscK o) (anti : ∀ a ∈ B, ∀ b ∈ B, (∀ z ∈ a, z ∈ b) → a = b) : ∀ x, x ∈ byM q ↔ x ∈ B := fun x => by
  rw [byM_iff, sum_ts h asc]
  constructor
  · exact And.left
  · intro hx
    refine ⟨hx, fun t ht s => ?_⟩
    have := (sum_ts h asc).mp ⟨t, ht, rfl⟩
    exact anti _ this _ hx (subS_iff.mp s)
theorem sum_byM_eq {q : Poly} {B : List (List Str)} (h : IsSum q B) (asc : ∀ o ∈ B, AscK o) (ord : B.Pairwise Ord) (anti : ∀ a ∈ B, ∀ b ∈ B, (∀ z ∈ a, z ∈ b) → a = b) : byM q = B := ord_ext (byM_ord q) ord (sum_byM h asc anti)
theorem brkS_anti {os : List (List Str)} (nd : ∀ o ∈ os, o.Nodup) : ∀ a ∈ brkS os, ∀ b ∈ brkS os, (∀ z ∈ a, z ∈ b) → a = b := fun a ha b hb s => by
  obtain ⟨a1, a2, _⟩ := (brkS_iff nd).mp ha
  obtain ⟨b1, _, b3⟩ := (brkS_iff nd).mp hb
  exact ascK_extG a1 b1 fun z => ⟨s z, b3 a s a2 z⟩
end K26


set_option Elab.async false
set_option linter.all false
set_option maxRecDepth 100000
set_option maxHeartbeats 8000000
/-! _law_breakers -/
namespace K26
open PySem L2 Nd Bk Gd
def spYBrk (K : PySem.W.Frag) : Sp := fun vs H Q _ => ∃ (v : V) (p : Poly), vs = [v] ∧ Dp K H v (bD p) ∧ (∀ k ∈ fk p, SeqAt.shaped (Ky.enc k) = true) ∧ (fk p).length ≤ 1000 ∧ (∀ t ∈ p, t.1.length ≤ 1000) ∧ (sortU (fk p)).length ≤ 6 ∧
  ∀ (v' : V) (H' : Hp), Same H H' → Dp K H' v' (.tuple ((brkS (byM p)).map sD)) → Q v' H'
section
variable {P : Program} {w : World} {K : PySem.W.Frag} {mg : Str → Option Value} {base : Heap}
abbrev ybkN : List Str := ["p", "tokens", "sets", "holds", "one", "token"]
theorem scYBrk : FnScope ybkN ["p"] (defScope yBrk) := ⟨rfl, rfl, rfl, by decide +kernel, rfl, by decide +kernel, by decide +kernel⟩
theorem ok_ybrk {f : Addr} {fd : FuncData} (F : Fun K "_law_breakers" "_law_breakers" yBrk f fd) (Gs : Df P w K mg base 1 "_law_sets" ["tokens"] (spYSets K)) (Go : Df P w K mg base 2 "_law_of" ["p"] (spYOf K)) (Gt : Df P w K mg base 1 "_law_there" ["p", "tokens"] (spYThere K))
    (Gl : Df P w K mg base 2 "_law_least" ["sets", "holds"] (spYLeast K)) : FnOk P w K mg base CX0 3 f fd ["p"] (spYBrk K) := by
  obtain ⟨fs, fds, gS, kS, bS, GS⟩ := Gs.ok
  obtain ⟨fo, fdo, gO, kO, bO, GO⟩ := Go.ok
  obtain ⟨ft, fdt, gT, kT, bT, GT⟩ := Gt.ok
  obtain ⟨fl, fdl, gL, kL, bL, GL⟩ := Gl.ok
  refine F.ok scYBrk (fun vs H Q E h => ?_) (fun cdv A outer s H vs Q E hr h => ?_)
  · obtain ⟨v, p, rfl, _⟩ := h
    rfl
  · obtain ⟨v, p, rfl, hv, shp, fkl, tl, z6, k⟩ := h
    have hr1 : Room 1 _ := hr.mono (by decide)
    have hr2 : Room 2 _ := hr
    refine ⟨_, pss_cons (ps_set (i := 1) scYBrk.nd rfl (Or.inl rfl) (pe_call GO hr2 rfl gO kO bO .nil pass0 (pa_cons (pv 0) pa_nil)))
      (pss_cons (ps_set (i := 2) scYBrk.nd rfl (Or.inl rfl) (pe_call GS hr1 rfl gS kS bS .nil pass0 (pa_cons (pv 1) pa_nil)))
      (pss_cons (ps_set (i := 3) scYBrk.nd rfl (Or.inl rfl) pe_dnewT)
      (pss_cons (ps_for PassesOwn.never rfl (pi_list (pv 2)) (pg_name (i := 4) scYBrk.nd rfl (Or.inr rfl))
        (pss_one (ps_dput (u1 hr) (pv 3) (pv 4) (pe_not (pe_call GT hr1 rfl gT kT bT .nil pass0 (pa_cons (pv 0) (pa_cons
          (pe_lc (own := [("token", 5)]) (g := gName 5) (tt := tTest (tOp (rIn K true) (tVar 5) (tVar 4))) rfl scYBrk.nd (pi_list (pv 1)) (blkOk_by (N := ybkN) (sc := defScope yBrk) (by decide +kernel)) (fun _ _ _ _ _ => pg_name (i := 5) scYBrk.nd rfl (Or.inl rfl)) (fun _ _ _ _ _ => pts_one (pt_cmpR (show OpR _ _ (rIn K true) from op_notIn_seq) (pv 5) (pv 4) (by rfl))) (fun _ _ _ _ _ => pv 5)) pa_nil)))) rfl)))
      (pss_one (ps_ret (pe_call GL hr2 rfl gL kL bL .nil pass0 (pa_cons (pv 2) (pa_cons (pv 3) pa_nil)))))))), ?_⟩
    refine ⟨_, rfl, v, p, rfl, hv, shp, fkl, tl, fun l H1 nl s1 hl => ⟨_, rfl, l, _, rfl, hl, z6, fun L ys H2 nL s2 hL tu D nD => ?_⟩⟩
    have s12 := s1.trans s2
    have hl2 := s2 _ _ hl
    have sD' : Same H2 (upd H2 D (.dT [])) := sm_new sm_refl nD
    have hD : upd H2 D (.dT []) D = some (.dT []) := upd_same
    have tu3 := tu.same sD'
    have hL3 := sD' _ _ hL
    have hl3 := sD' _ _ hl2
    have s13 := s12.trans sD'
    have nDH : H D = none := s12.free nD
    generalize upd H2 D (.dT []) = H3 at sD' hD tu3 hL3 hl3 s13 ⊢
    have ba := brk_all p
    generalize hz : sortU (fk p) = zs at z6 tu tu3 ba hl3
    have LD : L ≠ D := ne_of_none hL nD
    have lD : l ≠ D := ne_of_none hl2 nD
    have yl := tu3.len
    have al : (allS zs).length ≤ 7 * 46656 := by
      refine Nat.le_trans (flatL_len (n := 46656) fun i hi => Nat.le_trans (lev_len z6 i) (Nat.le_trans (Nat.pow_le_pow_right (by decide) (by have := List.mem_range.mp hi; omega : i ≤ 6)) (by decide))) ?_
      rw [List.length_range]
      omega
    generalize hg : (fun o : List Str => !hasT p (zs.filter fun z => decide (z ∉ o))) = g at ba
    refine ⟨_, rfl, L, rfl, ⟨_, SqL.of hL3⟩, ?_⟩
    refine for_list (K := K) (a := L) (xs := ys) (fun j σ HX => (∃ u4, σ = [some v, some (.ref l), some (.ref L), some (.ref D), u4, none]) ∧ Same H HX ∧ HX L = some (.lst ys) ∧ HX l = some (.lst (zs.map V.str)) ∧ TupA HX ys (allS zs) ∧ ∃ kvs, HX D = some (.dT kvs) ∧ kvs.length ≤ j ∧ ∀ o ∈ (allS zs).take j, valV kvs (o.map Sum.inr) = some (.bl (g o))) ⟨⟨_, rfl⟩, s13, hL3, hl3, tu3, [], hD, Nat.le_refl _, fun o ho => by rw [List.take_zero] at ho; exact nomatch ho⟩ (fun j σ HX _ ⟨_, _, h, _⟩ => SqL.of h) ?_ ?_
    · rintro j x σ HX hj ⟨⟨u4, rfl⟩, sX, hLX, hlX, tX, kvs, hDX, kl, hv'⟩
      obtain ⟨o, b, ho, rfl, hb⟩ := TupA.get tX hj
      have jl := (List.getElem?_eq_some_iff.mp ho).1
      refine ⟨_, rfl, _, rfl, l, rfl, ⟨_, SqL.of hlX⟩, fun D2 nD2 => ?_⟩
      refine lc_list (K := K) (a := l) (xs := zs.map V.str) (fun i H3 => Same HX H3 ∧ H3 D2 = some (.lst (((zs.take i).filter fun z => decide (z ∉ o)).map V.str))) ⟨sm_new sm_refl nD2, upd_same⟩ (fun i H3 _ ⟨s3, _⟩ => SqL.of (s3 _ _ hlX)) ?_ ?_
      · rintro i x H3 hi ⟨s3, hD2⟩
        rw [List.getElem?_map] at hi
        obtain ⟨z, hz', rfl⟩ := Option.map_eq_some_iff.mp hi
        have st := filt_one (q := fun z => decide (z ∉ o)) hz'
        have len : ((zs.take i).filter fun z => decide (z ∉ o)).length ≤ 1000 := by
          refine Nat.le_trans (List.length_filter_le ..) ?_
          rw [List.length_take]
          omega
        refine ⟨rfl, _, rfl, _, rfl, b, _, rfl, .inr (SqT.of (s3 _ _ hb)), rfl, flat_strs' _, _, rfl, ?_⟩
        show if (!inV (V.str z) (o.map V.str)) = true then _ else _
        rw [inV_strs]
        by_cases q : z ∉ o
        · rw [decide_eq_true q]
          refine iteT ⟨_, rfl, _, hD2, small1000 (by rw [List.length_map]; exact len), sm_new s3 nD2, ?_⟩
          rw [upd_same, st, if_pos (decide_eq_true q), List.map_append]
          rfl
        · rw [decide_eq_false q]
          refine iteF ⟨s3, ?_⟩
          rw [st, if_neg (by rw [decide_eq_false q]; exact Bool.false_ne_true), List.append_nil]
          exact hD2
      rintro H3 ⟨s3, hD2⟩
      rw [List.length_map, List.take_length] at hD2
      refine ⟨v, p, D2, _, rfl, dp_same (sX.trans s3) hv, tl, .inl (SqL.of hD2), fun HY sY' => ⟨_, rfl, ?_⟩⟩
      have sY := s3.trans sY'
      have eg : (!hasT p (zs.filter fun z => decide (z ∉ o))) = g o := by rw [← hg]
      show ∃ _, _
      rw [eg]
      have hbY := sY _ _ hb
      have hk : HY b = some (.tup ((o.map (Sum.inr : Str → Key)).map kV)) := by rw [hbY, List.map_map]; rfl
      have hDY := sY _ _ hDX
      have ntD : NotT (HY D) := by rw [hDY]; exact notT_dT
      refine ⟨_, rfl, _, rfl, D, _, rfl, DPut.t hDY hk (by rw [sizeLine_eq]; omega), ⟨_, rfl⟩, fun a u z => by rw [upd_ne (ne_of_none z nDH)]; exact (sX.trans sY) a u z, by rw [upd_ne LD]; exact sY _ _ hLX, by rw [upd_ne lD]; exact sY _ _ hlX, (tX.same sY).put ntD, _, upd_same, ?_, fun o' ho' => ?_⟩
      · have := length_putK kvs (o.map (Sum.inr : Str → Key)) (.bl (g o))
        omega
      · rw [valV_put]
        by_cases e : o'.map (Sum.inr : Str → Key) = o.map Sum.inr
        · rw [if_pos e, inr_inj e]
        · rw [if_neg e]
          rw [List.take_succ, ho] at ho'
          rcases List.mem_append.mp ho' with h | h
          · exact hv' o' h
          · have : o' = o := by simpa using h
            exact absurd (by rw [this]) e
    · rintro σ HX ⟨⟨u4, rfl⟩, sX, hLX, hlX, tX, kvs, hDX, kl, hv'⟩
      rw [yl, List.take_length] at hv'
      refine ⟨_, rfl, _, rfl, L, D, ys, allS zs, kvs, g, rfl, hLX, tX, hDX, hv', by omega, fun o ho => ?_, fun v' H' s' d' => k v' H' (sX.trans s') (by rw [← ba]; exact d')⟩
      obtain ⟨i, hi, ho'⟩ := List.mem_flatMap.mp ho
      have := lev_one i o ho'
      have := List.mem_range.mp hi
      omega
end
end K26


set_option Elab.async false
set_option linter.all false
set_option maxRecDepth 100000
set_option maxHeartbeats 8000000
/-! _law_summed -/
namespace K26
open PySem L2 Nd Bk Gd
theorem put_stays {κ : Type} [DecidableEq κ] {l : Bag κ} {k k' : κ} {v : Int} (h : (k', v) ∈ l) : (k', v) ∈ put l k v := by
  unfold put
  split
  · refine List.mem_map.mpr ⟨_, h, ?_⟩
    by_cases q : k' = k
    · rw [if_pos q]
    · rw [if_neg q]
  · exact List.mem_append_left _ h
def spSumd (K : PySem.W.Frag) : Sp := fun vs H Q _ => ∃ (L : Addr) (ys : List V) (B : List (List Str)), vs = [.ref L] ∧ (SqL K H L ys ∨ SqT K H L ys) ∧ DpAll K H ys (B.map sD) ∧ (∀ o ∈ B, AscK o ∧ o.length ≤ 1000 ∧ ∀ z ∈ o, shU z = true) ∧ B.length ≤ 900 ∧
  ∀ (v : V) (q : Poly) (H' : Hp), Same H H' → Dp K H' v (bD q) → POk q → IsSum q B → q.length ≤ B.length → Q v H'
section
variable {P : Program} {w : World} {K : PySem.W.Frag} {mg : Str → Option Value} {base : Heap}
abbrev sdN : List Str := ["sets", "book", "one", "token"]
end
end K26


set_option Elab.async false
set_option linter.all false
set_option maxRecDepth 100000
set_option maxHeartbeats 8000000
/-! _law_refused -/
namespace K26
open PySem L2 Nd Bk Gd PySem.ExE
/-- the classes of errors -/
structure Tz (K : PySem.W.Frag) (mg : Str → Option Value) (T C cN fI fN : Addr) : Prop where
  X : Tm K mg T C fI
  EN : EC K cN T "name" fN
  gN : mg "NothingThere" = some (.ref cN)
  gT : mg "TraceError" = some (.ref T)
  nd : [T, C, cN].Nodup
  hdT : PySem.W.hasDictIn K T = true
  tT : PySem.W.typeIn K (.ref T) = some (.type "type")
  hc : HasCls K
theorem cls_of {K : PySem.W.Frag} {T : Addr} (h : PySem.W.hasDictIn K T = true) : (PySem.W.clsIn K T).isSome = true := by
  unfold PySem.W.hasDictIn at h
  cases e : PySem.W.clsIn K T with
  | none => rw [e] at h; cases h
  | some c => rfl
/-- a polynomial of which too many breakers are found, at just which set -/
structure Over (K : PySem.W.Frag) (v : V) (p : Poly) (H : Hp) : Prop where
  fd : FD K H v (bD p)
  tl : (toksP p).length ≤ 1000
  pl : p.length ≤ 1000
  mo : ∀ t ∈ p, MOk t.1
  fl : (byM p).flatten.length ≤ 1000
  ov : ∃ n, n < (byM p).length ∧ (∀ j, j ≤ n → (brkAt (byM p) j).length ≤ 400) ∧ 400 < (brkAt (byM p) (n + 1)).length
section
variable {P : Program} {w : World} {K : PySem.W.Frag} {mg : Str → Option Value} {base : Heap} {T C cN fI fN : Addr}
end
end K26


set_option Elab.async false
set_option linter.all false
set_option maxRecDepth 100000
set_option maxHeartbeats 8000000
/-! _law_rising of a tuple -/
namespace K26
open PySem L2 Nd Bk Gd
def spRisT (K : PySem.W.Frag) (κ : Type) [DecidableEq κ] [Ky κ] : Sp := fun vs H Q _ => ∃ (a : Addr) (xs : List V) (ks : List κ), vs = [.ref a] ∧ SqT K H a xs ∧ DpAll K H xs (ks.map Ky.enc) ∧ (∀ k ∈ ks, tupOnly (Ky.enc k) = true) ∧ (∀ k ∈ ks, SeqAt.shaped (Ky.enc k) = true) ∧ ks.length ≤ 1000 ∧
  ∀ (l : Addr) (ys : List V) (H' : Hp), H l = none → Same H H' → H' l = some (.lst ys) → DpAll K H' ys ((sortU ks).map Ky.enc) → Paired (AtB xs ks) ys (sortU ks) → Q (.ref l) H'
section
variable {P : Program} {w : World} {K : PySem.W.Frag} {mg : Str → Option Value} {base : Heap}
theorem ok_risT (κ : Type) [DecidableEq κ] [Ky κ] {f : Addr} {fd : FuncData} (F : Fun K "_law_rising" "_law_rising" yRis f fd) (N : Nm mg) : FnOk P w K mg base CX0 1 f fd ["rows"] (spRisT K κ) := by
  refine F.ok scRis (fun vs H Q E h => ?_) (fun cdv A outer s H vs Q E hr h => ?_)
  · obtain ⟨a, xs, ks, rfl, _⟩ := h
    rfl
  · obtain ⟨a, xs, ks, rfl, hs, hd, tuk, hsh, hl, k⟩ := h
    --BODYA
    refine ⟨_, pss_cons (ps_set (i := 1) scRis.nd rfl (Or.inl rfl) (pe_lst pa_nil))
      (pss_cons (ps_for PassesOwn.never rfl (pi_tup (pv 0)) (pg_name (i := 2) scRis.nd rfl (Or.inr rfl))
      (pss_one (ps_if (pt_cmpR (show OpR _ _ (rNotInD K) from op_notInD (u65 hr)) (pv 2) (pv 1) (by rfl)) (pss_one (ps_expr (pe_bm PySem.F.plainAttrs_list PySem.F.slot_list_insert PySem.F.type_list_insert mt_insert (pv 1) (pa_cons (pe_callB call_len_seq (by rfl) N.len PySem.boot_len (pa_cons (pe_lc (own := [("other", 3)]) (g := gName 3) (tt := tTest (tOp (rLtD K) (tVar 3) (tVar 2))) rfl scRis.nd (pi_list (pv 1)) (blkOk_by (N := risN) (sc := defScope yRis) (by decide +kernel)) (fun _ _ _ _ _ => pg_name (i := 3) scRis.nd rfl (Or.inl rfl)) (fun _ _ _ _ _ => pts_one (pt_cmpR (show OpR _ _ (rLtD K) from op_ltD (u64 hr)) (pv 3) (pv 2) (nomark _))) (fun _ _ _ _ _ => pv 3)) pa_nil)) (pa_cons (pv 2) pa_nil))))) pss_nil)))
      (pss_one (ps_ret (pv 1)))), ?_⟩
    --END
    refine ⟨(by show 0 ≤ sizeLine; decide), fun l nl => ?_⟩
    have s0 : Same H (upd H l (.lst [])) := sm_new sm_refl nl
    have h0 : upd H l (.lst []) l = some (.lst []) := upd_same
    generalize upd H l (.lst []) = H0 at s0 h0 ⊢
    refine ⟨_, rfl, a, rfl, ⟨_, sqT_same s0 hs⟩, ?_⟩
    refine for_tup (K := K) (a := a) (xs := xs) (fun i σ H4 => ∃ (v2 : Option V) (ys : List V), σ = [some (.ref a), some (.ref l), v2, none] ∧ Same H H4 ∧ H4 l = some (.lst ys) ∧ DpAll K H4 ys ((sortU (ks.take i)).map Ky.enc) ∧ Paired (AtB xs ks) ys (sortU (ks.take i))) ⟨none, [], rfl, s0, h0, .nil, .nil⟩
      (fun i σ H4 _ ⟨_, _, _, s4, _⟩ => sqT_same s4 hs) ?_ ?_
    · rintro i x σ H4 hi ⟨v2, ys, rfl, s4, h4, d4, pd⟩
      obtain ⟨k1, hk, hx⟩ := enc_get hd hi
      have k1m := List.mem_of_getElem? hk
      have lks : (sortU (ks.take i)).length ≤ 1000 := by
        have := sortU_len (ks.take i)
        rw [List.length_take] at this
        omega
      have lk : (sortU (ks.take i)).length = ys.length := by rw [dpAll_len d4, List.length_map]
      have asc := sortU_asc (ks.take i)
      have shp : ∀ o ∈ sortU (ks.take i), SeqAt.shaped (Ky.enc o) = true := fun o ho => hsh o (List.mem_of_mem_take (sortU_mem.mp ho))
      refine ⟨_, rfl, _, rfl, _, _, dp_same s4 hx, .lst (SqL.of h4) d4, hsh k1 k1m, shaped_keys shp, _, rfl, ?_⟩
      rw [any_key]
      by_cases inn : k1 ∈ sortU (ks.take i)
      · rw [decide_eq_true inn]
        refine iteF ⟨_, ys, rfl, s4, h4, ?_⟩
        rw [sortU_take hk, show insU (sortU (ks.take i)) k1 = sortU (ks.take i) from if_pos inn]
        exact ⟨d4, pd⟩
      rw [decide_eq_false inn]
      refine iteT ⟨_, rfl, .inl ⟨rfl, _, SqL.of h4⟩, _, rfl, l, rfl, ⟨_, SqL.of h4⟩, fun D nD => ?_⟩
      refine lc_list (K := K) (a := l) (xs := ys) (fun j H5 => Same H4 H5 ∧ ∃ acc, H5 D = some (.lst acc) ∧ acc.length = (((sortU (ks.take i)).take j).filter fun o => lt o k1).length) ⟨sm_new sm_refl nD, [], upd_same, rfl⟩ (fun j H5 _ ⟨s5, _⟩ => s5.seq (SqL.of h4)) ?_ ?_
      · rintro j y H5 hj ⟨s5, acc, hD, hlen⟩
        obtain ⟨o, ho, hy⟩ := enc_get d4 hj
        have hd1 := Ky.dep o
        refine ⟨rfl, _, rfl, _, rfl, _, _, dp_same s5 hy, dp_same (s4.trans s5) hx, Ky.al _ _, Ky.nn _, by omega, _, rfl, ?_⟩
        have hacc : acc.length ≤ 1000 := by
          rw [hlen]
          refine Nat.le_trans (List.length_filter_le _ _) ?_
          rw [List.length_take]
          omega
        show if lt o k1 = true then _ else _
        cases e : lt o k1 with
        | true =>
          refine iteT ⟨_, rfl, acc, hD, small1000 hacc, sm_new s5 nD, _, upd_same, ?_⟩
          rw [List.length_append, hlen, List.take_succ, ho, List.filter_append, List.length_append]
          simp [e]
        | false =>
          refine iteF ⟨s5, acc, hD, ?_⟩
          rw [hlen, List.take_succ, ho, List.filter_append, List.length_append]
          simp [e]
      · rintro H5 ⟨s5, acc, hD, hlen⟩
        rw [← lk, List.take_length] at hlen
        have hcnt : acc.length = cnt (sortU (ks.take i)) k1 := hlen
        have h5 := s5 _ _ h4
        have hle : acc.length ≤ ys.length := by rw [hcnt, ← lk]; exact cnt_le _ _
        refine ⟨D, acc, rfl, .inl (SqL.of hD), _, rfl, l, ys, _, _, rfl, rfl, h5, by rw [sizeLine_eq]; omega, by omega, by omega, ?_⟩
        have nt : NotT (H5 l) := by rw [h5]; exact notT_lst
        refine ⟨_, _, rfl, ?_, upd_same, ?_⟩
        · exact fun b o e => by rw [upd_ne (ne_of_none e nl)]; exact (s4.trans s5) b o e
        rw [sortU_take hk, show insU (sortU (ks.take i)) k1 = insK (sortU (ks.take i)) k1 from if_neg inn, Int.toNat_natCast, hcnt]
        unfold insK
        have tu : ∀ d ∈ (sortU (ks.take i)).map Ky.enc, tupOnly d = true := fun d hd => by
          obtain ⟨o, ho, rfl⟩ := List.mem_map.mp hd
          exact tuk o (List.mem_of_mem_take (sortU_mem.mp ho))
        have d9 := dpAll_put (o := .lst (ys.take (cnt (sortU (ks.take i)) k1) ++ [x] ++ ys.drop (cnt (sortU (ks.take i)) k1))) nt (tupOnlyAll_of tu) (dpAll_same s5 d4)
        have dx := dp_put (o := .lst (ys.take (cnt (sortU (ks.take i)) k1) ++ [x] ++ ys.drop (cnt (sortU (ks.take i)) k1))) nt (tuk k1 k1m) (dp_same (s4.trans s5) hx)
        rw [List.map_append, List.map_append, List.map_take, List.map_drop]
        exact ⟨dpAll_append (dpAll_append (dpAll_take _ d9) (.cons dx .nil)) (dpAll_drop _ d9), pd_app (pd_app (pd_take _ pd) (.cons ⟨i, hi, hk⟩ .nil)) (pd_drop _ pd)⟩
    · rintro σ H4 ⟨v2, ys, rfl, s4, h4, d4, pd⟩
      have e : xs.length = ks.length := by rw [dpAll_len hd, List.length_map]
      rw [e, List.take_length] at d4 pd
      exact ⟨_, rfl, k l ys H4 nl s4 h4 d4 pd⟩
end
end K26


set_option Elab.async false
set_option linter.all false
set_option maxRecDepth 100000
set_option maxHeartbeats 8000000
/-! _law_blocks -/
namespace K26
open PySem L2 Nd Bk Gd
/-- a1 .. a60 -/
def tok60 : List Str := (List.range 60).map fun k => Str.ofString "a" ++ Str.ofString (toString ((0 : Int) + (k : Nat) + 1))
theorem tok60_nd : tok60.Nodup := by decide +kernel
theorem tok60_sh : ∀ z ∈ tok60, shU z = true := by decide +kernel
theorem slog {n : Int} (h0 : 0 ≤ n) (h1 : n ≤ 99999) : n.natAbs.log2 < 1920 := by
  by_cases e : n.natAbs = 0
  · rw [e]; decide
  · exact Nat.lt_trans ((Nat.log2_lt e).mpr (by omega : n.natAbs < 2 ^ 17)) (by decide)
theorem sadd {x : Str} {n : Int} (h0 : 0 ≤ n) (h1 : n ≤ 99999) (hx : x.length ≤ 10 := by decide) : x.length + (Str.ofString (toString n)).length ≤ sizeLine := by
  have l4 : (Str.ofString (toString n)).length ≤ 5 := PyProof.Rows.toString_length_le h0 (by decide) (by omega)
  rw [sizeLine_eq]
  omega
theorem tok60_get {i : Nat} (h : i < 60) : tok60[i]? = some (Str.ofString "a" ++ Str.ofString (toString ((0 : Int) + (i : Nat) + 1))) := by
  unfold tok60
  rw [List.getElem?_map, List.getElem?_range h]
  rfl
theorem tok60_len : tok60.length = 60 := by
  unfold tok60
  rw [List.length_map, List.length_range]
theorem flat_one (bs : List (List Str)) (b : List Str) : (bs ++ [b]).flatten = bs.flatten ++ b := by
  rw [List.flatten_append]
  simp
/-- blocks without a common token -/
structure BlkOk (bs : List (List Str)) : Prop where
  nd : bs.flatten.Nodup
  sz : ∀ b ∈ bs, 2 ≤ b.length ∧ b.length ≤ 3
  sh : ∀ b ∈ bs, ∀ z ∈ b, shU z = true
  few : bs.length ≤ 10
def spBlk (K : PySem.W.Frag) : Sp := fun vs H Q _ => ∃ (p c : Addr) (ns : List Int), vs = [.ref p] ∧ StAt H p c ns ∧
  ∀ (R Bl : Addr) (v : V) (q : Poly) (ys : List V) (bs : List (List Str)) (H' : Hp), But p H H' → StAt H' p c ns → H' R = some (.lst [v, .int (Bg.prodN (bs.map List.length) : Nat), .ref Bl]) → H' Bl = some (.lst ys) → DpAll K H' ys (bs.map sD) → R ≠ p → Bl ≠ p → Dp K H' v (bD q) → POk q → IsSum q (bs.map sortU) → q.length ≤ 9 → BlkOk bs → Q (.ref R) H'
section
variable {P : Program} {w : World} {K : PySem.W.Frag} {mg : Str → Option Value} {base : Heap}
abbrev bkN : List Str := ["state", "tokens", "blocks", "total", "turn", "size", "k", "block"]
end
end K26


set_option Elab.async false
set_option linter.all false
set_option maxRecDepth 100000
set_option maxHeartbeats 8000000
/-! blocks without a common token: how many sets meet all, and which -/
namespace K26
open PySem L2 Nd Bk Gd
section
variable {bs : List (List Str)} {q : Poly}
theorem blk_same (h : BlkOk bs) {a b : List Str} (ha : a ∈ bs) (hb : b ∈ bs) {z : Str} (za : z ∈ a) (zb : z ∈ b) : a = b := by
  have dj := (List.pairwise_flatten.mp h.nd).2
  refine Classical.byContradiction fun n => ?_
  obtain ⟨i, hi, ei⟩ := List.mem_iff_getElem.mp ha
  obtain ⟨j, hj, ej⟩ := List.mem_iff_getElem.mp hb
  have ij : i ≠ j := fun e => n (by rw [← ei, ← ej]; simp only [e])
  rcases Nat.lt_or_gt_of_ne ij with l | l
  · exact (List.pairwise_iff_getElem.mp dj) i j hi hj l z (by rw [ei]; exact za) z (by rw [ej]; exact zb) rfl
  · exact (List.pairwise_iff_getElem.mp dj) j i hj hi l z (by rw [ej]; exact zb) z (by rw [ei]; exact za) rfl
theorem blk_nd (h : BlkOk bs) {b : List Str} (hb : b ∈ bs) : b.Nodup := (List.pairwise_flatten.mp h.nd).1 b hb
theorem sortU_same_len {l : List Str} (nd : l.Nodup) : (sortU l).length = l.length := by
  have a := sortU_len l
  have b := nd_le nd (m := sortU l) fun z hz => sortU_mem.mpr hz
  omega
theorem blk_anti (h : BlkOk bs) : ∀ a ∈ bs.map sortU, ∀ b ∈ bs.map sortU, (∀ z ∈ a, z ∈ b) → a = b := fun a ha b hb s => by
  obtain ⟨x, hx, rfl⟩ := List.mem_map.mp ha
  obtain ⟨y, hy, rfl⟩ := List.mem_map.mp hb
  have lx := (h.sz x hx).1
  obtain ⟨z, hz⟩ : ∃ z, z ∈ x := ⟨x[0], List.getElem_mem (by omega)⟩
  rw [blk_same h hx hy hz (sortU_mem.mp (s z (sortU_mem.mpr hz)))]
theorem blk_mem (h : BlkOk bs) (hq : IsSum q (bs.map sortU)) : ∀ x, x ∈ byM q ↔ ∃ b ∈ bs, x = sortU b := fun x => by
  rw [sum_byM hq (fun o ho => by obtain ⟨b, _, rfl⟩ := List.mem_map.mp ho; exact sortU_asc b) (blk_anti h), List.mem_map]
  exact ⟨fun ⟨b, h1, h2⟩ => ⟨b, h1, h2.symm⟩, fun ⟨b, h1, h2⟩ => ⟨b, h1, h2.symm⟩⟩
theorem byM_nodup (q : Poly) : (byM q).Nodup := List.Pairwise.imp (fun {a b} h e => by
  rw [e] at h
  unfold Ord at h
  rw [lt_irrefl] at h
  cases h) (byM_ord q)
theorem blk_apart (h : BlkOk bs) (hq : IsSum q (bs.map sortU)) : (byM q).Pairwise fun a b => ∀ z ∈ a, z ∉ b := List.Pairwise.imp_of_mem (fun {a b} ha hb n z za zb => n (by
  obtain ⟨x, hx, rfl⟩ := (blk_mem h hq _).mp ha
  obtain ⟨y, hy, rfl⟩ := (blk_mem h hq _).mp hb
  rw [blk_same h hx hy (sortU_mem.mp za) (sortU_mem.mp zb)])) (byM_nodup q)
theorem blk_perm (h : BlkOk bs) (hq : IsSum q (bs.map sortU)) : (byM q).Perm (bs.map sortU) := by
  refine (List.perm_ext_iff_of_nodup (byM_nodup q) ?_).mpr fun x => by
    rw [blk_mem h hq, List.mem_map]
    exact ⟨fun ⟨b, h1, h2⟩ => ⟨b, h1, h2.symm⟩, fun ⟨b, h1, h2⟩ => ⟨b, h1, h2.symm⟩⟩
  rw [List.Nodup, List.pairwise_map]
  refine List.Pairwise.imp_of_mem (fun {a b} ha hb dj e => ?_) (List.pairwise_flatten.mp h.nd).2
  have la := (h.sz a ha).1
  obtain ⟨z, hz⟩ : ∃ z, z ∈ a := ⟨a[0], List.getElem_mem (by omega)⟩
  have zb : z ∈ b := sortU_mem.mp (by rw [← e]; exact sortU_mem.mpr hz)
  exact dj z hz z zb rfl
theorem prodN_perm {l m : List Nat} (p : l.Perm m) : Bg.prodN l = Bg.prodN m := by
  induction p with
  | nil => rfl
  | cons x _ ih =>
    show x * Bg.prodN _ = x * Bg.prodN _
    rw [ih]
  | swap x y l =>
    show y * (x * Bg.prodN l) = x * (y * Bg.prodN l)
    rw [← Nat.mul_assoc, Nat.mul_comm y x, Nat.mul_assoc]
  | trans _ _ a b => exact a.trans b
theorem blk_total (h : BlkOk bs) (hq : IsSum q (bs.map sortU)) : Bg.prodN ((byM q).map List.length) = Bg.prodN (bs.map List.length) := by
  rw [prodN_perm ((blk_perm h hq).map List.length), List.map_map]
  congr 1
  exact List.map_congr_left fun b hb => sortU_same_len (blk_nd h hb)
theorem blk_at (h : BlkOk bs) (hq : IsSum q (bs.map sortU)) (j : Nat) : (brkAt (byM q) j).length = Bg.prodN (((byM q).take j).map List.length) :=
  brk_apart (fun o ho => asc_nd (byM_asc q o ho)) ((blk_apart h hq).sublist (List.take_sublist _ _))
theorem prodN_pos : ∀ {l : List Nat}, (∀ x ∈ l, 1 ≤ x) → 1 ≤ Bg.prodN l
  | [], _ => Nat.le_refl 1
  | x :: l, h => by
    have a := h x List.mem_cons_self
    have b := prodN_pos (l := l) fun y hy => h y (List.mem_cons_of_mem _ hy)
    show 1 ≤ x * Bg.prodN l
    exact Nat.mul_le_mul a b
theorem prodN_append : ∀ (l m : List Nat), Bg.prodN (l ++ m) = Bg.prodN l * Bg.prodN m
  | [], m => (Nat.one_mul _).symm
  | x :: l, m => by
    show x * Bg.prodN (l ++ m) = x * Bg.prodN l * Bg.prodN m
    rw [prodN_append l m, Nat.mul_assoc]
theorem blk_pos (h : BlkOk bs) (hq : IsSum q (bs.map sortU)) : ∀ o ∈ byM q, 1 ≤ o.length := fun o ho => by
  obtain ⟨b, hb, rfl⟩ := (blk_mem h hq _).mp ho
  rw [sortU_same_len (blk_nd h hb)]
  have := (h.sz b hb).1
  omega
theorem blk_few (h : BlkOk bs) (hq : IsSum q (bs.map sortU)) (t : Bg.prodN (bs.map List.length) ≤ 400) : ∀ j, j ≤ (byM q).length → (brkAt (byM q) j).length ≤ 400 := fun j _ => by
  rw [blk_at h hq]
  refine Nat.le_trans ?_ t
  rw [← blk_total h hq]
  have e : (byM q).map List.length = ((byM q).take j).map List.length ++ ((byM q).drop j).map List.length := by rw [← List.map_append, List.take_append_drop]
  rw [e, prodN_append]
  exact Nat.le_mul_of_pos_right _ (prodN_pos fun x hx => by
    obtain ⟨o, ho, rfl⟩ := List.mem_map.mp hx
    exact blk_pos h hq o (List.mem_of_mem_drop ho))
theorem blk_over (h : BlkOk bs) (hq : IsSum q (bs.map sortU)) (t : 400 < Bg.prodN (bs.map List.length)) : ∃ n, n < (byM q).length ∧ (∀ j, j ≤ n → (brkAt (byM q) j).length ≤ 400) ∧ 400 < (brkAt (byM q) (n + 1)).length := by
  have := Bg.first_over (f := fun j => (brkAt (byM q) j).length) (M := 400) (by rw [blk_at h hq, List.take_zero]; decide) (byM q).length (by
    show 400 < (brkAt (byM q) (byM q).length).length
    rw [blk_at h hq, List.take_length, blk_total h hq]
    exact t)
  exact this
theorem blk_count (h : BlkOk bs) (hq : IsSum q (bs.map sortU)) : (brkS (byM q)).length = Bg.prodN (bs.map List.length) := by
  rw [brkS_count fun o ho => asc_nd (byM_asc q o ho), blk_at h hq, List.take_length, blk_total h hq]
theorem one_len {α : Type} [DecidableEq α] {l : List α} (nd : l.Nodup) {z : α} (hz : z ∈ l) (u : ∀ y ∈ l, y = z) : l.length = 1 := by
  have a := nd_le nd (m := [z]) fun y hy => by rw [u y hy]; exact List.mem_cons_self
  have b := List.length_pos_of_mem hz
  rw [List.length_singleton] at a
  omega
/-- each block has just one of a least set that meets all -/
theorem blk_one (h : BlkOk bs) (hq : IsSum q (bs.map sortU)) {x : List Str} (hx : x ∈ brkS (byM q)) {b : List Str} (hb : b ∈ bs) : (b.filter fun z => decide (z ∈ x)).length = 1 := by
  obtain ⟨ax, mx, lx⟩ := (brkS_iff fun o ho => asc_nd (byM_asc q o ho)).mp hx
  have ob : sortU b ∈ byM q := (blk_mem h hq _).mpr ⟨b, hb, rfl⟩
  obtain ⟨z, zx, zb⟩ := mx _ ob
  have zb := sortU_mem.mp zb
  refine one_len (List.Pairwise.filter _ (blk_nd h hb)) (List.mem_filter.mpr ⟨zb, decide_eq_true zx⟩) fun y hy => ?_
  obtain ⟨yb, yx⟩ := List.mem_filter.mp hy
  have yx := of_decide_eq_true yx
  refine Classical.byContradiction fun n => ?_
  have := lx (x.filter fun w => decide (w ≠ y)) (fun w hw => (List.mem_filter.mp hw).1) (fun o ho => by
    by_cases zo : z ∈ o
    · exact ⟨z, List.mem_filter.mpr ⟨zx, decide_eq_true fun e => n e.symm⟩, zo⟩
    · obtain ⟨w, wx, wo⟩ := mx o ho
      refine ⟨w, List.mem_filter.mpr ⟨wx, decide_eq_true fun e => zo ?_⟩, wo⟩
      obtain ⟨b2, hb2, rfl⟩ := (blk_mem h hq _).mp ho
      rw [e] at wo
      rw [← blk_same h hb hb2 yb (sortU_mem.mp wo)]
      exact sortU_mem.mpr zb) y yx
  exact absurd rfl (of_decide_eq_true (List.mem_filter.mp this).2)
theorem flat_filt {α : Type} {f : α → Bool} : ∀ {l : List (List α)}, (∀ b ∈ l, (b.filter f).length = 1) → (l.flatten.filter f).length = l.length
  | [], _ => rfl
  | b :: l, h => by
    rw [List.flatten_cons, List.filter_append, List.length_append, h b List.mem_cons_self, flat_filt (l := l) fun c hc => h c (List.mem_cons_of_mem _ hc), List.length_cons]
    omega
theorem blk_len (h : BlkOk bs) (hq : IsSum q (bs.map sortU)) {x : List Str} (hx : x ∈ brkS (byM q)) : x.length = bs.length := by
  obtain ⟨ax, mx, lx⟩ := (brkS_iff fun o ho => asc_nd (byM_asc q o ho)).mp hx
  have inb : ∀ z ∈ x, z ∈ bs.flatten := fun z hz => by
    have := lx (x.filter fun w => decide (w ∈ bs.flatten)) (fun w hw => (List.mem_filter.mp hw).1) (fun o ho => by
      obtain ⟨w, wx, wo⟩ := mx o ho
      refine ⟨w, List.mem_filter.mpr ⟨wx, decide_eq_true ?_⟩, wo⟩
      obtain ⟨b, hb, rfl⟩ := (blk_mem h hq _).mp ho
      exact List.mem_flatten.mpr ⟨b, hb, sortU_mem.mp wo⟩) z hz
    exact of_decide_eq_true (List.mem_filter.mp this).2
  have p : (bs.flatten.filter fun z => decide (z ∈ x)).Perm x := (List.perm_ext_iff_of_nodup (List.Pairwise.filter _ h.nd) (asc_nd ax)).mpr fun z => by
    rw [List.mem_filter, decide_eq_true_eq]
    exact ⟨And.right, fun hz => ⟨inb z hz, hz⟩⟩
  rw [← p.length_eq]
  exact flat_filt fun b hb => blk_one h hq hx hb
end
end K26


set_option Elab.async false
set_option linter.all false
set_option maxRecDepth 100000
set_option maxHeartbeats 8000000
/-! the same data at both, of two lists -/
namespace K26
open PySem L2 Nd Bk Gd
def spSmL (K : PySem.W.Frag) (n : Nat) : Sp := fun vs H Q _ => ∃ (a c : Addr) (xs ys : List V) (ds : List PyData), vs = [.ref a, .ref c] ∧ SqL K H a xs ∧ SqL K H c ys ∧ DpAll K H xs ds ∧ DpAll K H ys ds ∧ ds.length ≤ 1000 ∧ (∀ d ∈ ds, Okd n d) ∧ ∀ H', Same H H' → Q (.bl true) H'
section
variable {P : Program} {w : World} {K : PySem.W.Frag} {mg : Str → Option Value} {base : Heap}
theorem ok_ysameL {n : Nat} {f : Addr} {fd : FuncData} (F : Fun K "_law_same" "_law_same" ySame f fd) (b : Binds K fd ["actual", "due"] []) (g : mg "_law_same" = some (.ref f)) (kp : PySem.W.keepIn K (.ref f) = true) (N : Nm mg)
    (ih : FnOk P w K mg base CX0 (n + 1) f fd ["actual", "due"] (spSm K n)) : FnOk P w K mg base CX0 (n + 2) f fd ["actual", "due"] (spSmL K n) := by
    refine F.ok scYSame (fun vs H Q E h => ?_) (fun cdv A outer s H vs Q E hr h => ?_)
    · obtain ⟨a, c, xs, ys, ds, rfl, _⟩ := h
      rfl
    obtain ⟨a, c, xs, ys, ds, rfl, sa, sc, da, dc, h1, h2, k⟩ := h
    --BODYA
    refine ⟨_, pss_cons (ps_if (pt_cmpR op_isN (pv 1) pe_non (nomark _)) (pss_one (ps_ret (pe_cmpR op_isN (pv 0) pe_non (nomark _)))) pss_nil)
      (pss_cons (ps_if (pt_val (pe_callB call_isi (by rfl) N.isi (by decide +kernel) (pa_cons (pv 1) (pa_cons (pe_bltn (v := .ty "bool") (by rfl) N.bool (by decide +kernel) rfl) pa_nil)))) (pss_one (ps_ret (pe_and (pe_callB call_isi (by rfl) N.isi (by decide +kernel) (pa_cons (pv 0) (pa_cons (pe_bltn (v := .ty "bool") (by rfl) N.bool (by decide +kernel) rfl) pa_nil))) (pe_one (pe_cmpR op_eq (pv 0) (pv 1) (nomark _)))))) pss_nil)
      (pss_cons (ps_if (pt_val (pe_callB call_isi (by rfl) N.isi (by decide +kernel) (pa_cons (pv 1) (pa_cons (pe_bltn (v := .ty "int") (by rfl) N.int (by decide +kernel) rfl) pa_nil)))) (pss_one (ps_ret (pe_and (pe_callB call_isi (by rfl) N.isi (by decide +kernel) (pa_cons (pv 0) (pa_cons (pe_bltn (v := .ty "int") (by rfl) N.int (by decide +kernel) rfl) pa_nil))) (pe_and (pe_not (pe_callB call_isi (by rfl) N.isi (by decide +kernel) (pa_cons (pv 0) (pa_cons (pe_bltn (v := .ty "bool") (by rfl) N.bool (by decide +kernel) rfl) pa_nil)))) (pe_one (pe_cmpR op_eq (pv 0) (pv 1) (nomark _))))))) pss_nil)
      (pss_cons (ps_if (pt_val (pe_callB call_isi (by rfl) N.isi (by decide +kernel) (pa_cons (pv 1) (pa_cons (pe_bltn (v := .ty "str") (by rfl) N.str (by decide +kernel) rfl) pa_nil)))) (pss_one (ps_ret (pe_and (pe_callB call_isi (by rfl) N.isi (by decide +kernel) (pa_cons (pv 0) (pa_cons (pe_bltn (v := .ty "str") (by rfl) N.str (by decide +kernel) rfl) pa_nil))) (pe_one (pe_cmpR op_eq (pv 0) (pv 1) (nomark _)))))) pss_nil)
      (pss_cons (ps_if (PW.pt (pw_or (pt_cmpR op_ne (pe_callB call_isi (by rfl) N.isi (by decide +kernel) (pa_cons (pv 1) (pa_cons (pe_bltn (v := .ty "list") (by rfl) N.lst (by decide +kernel) rfl) pa_nil))) (pe_callB call_isi (by rfl) N.isi (by decide +kernel) (pa_cons (pv 0) (pa_cons (pe_bltn (v := .ty "list") (by rfl) N.lst (by decide +kernel) rfl) pa_nil))) (nomark _)) (pw_or1 (pt_cmpR op_ne (pe_callB call_isi (by rfl) N.isi (by decide +kernel) (pa_cons (pv 1) (pa_cons (pe_bltn (v := .ty "tuple") (by rfl) N.tup (by decide +kernel) rfl) pa_nil))) (pe_callB call_isi (by rfl) N.isi (by decide +kernel) (pa_cons (pv 0) (pa_cons (pe_bltn (v := .ty "tuple") (by rfl) N.tup (by decide +kernel) rfl) pa_nil))) (nomark _))))) (pss_one (ps_ret pe_bl)) pss_nil)
      (pss_cons (ps_if (pt_cmpR op_ne (pe_callB call_len_seq (by rfl) N.len PySem.boot_len (pa_cons (pv 0) pa_nil)) (pe_callB call_len_seq (by rfl) N.len PySem.boot_len (pa_cons (pv 1) pa_nil)) (nomark _)) (pss_one (ps_ret pe_bl)) pss_nil)
      (pss_cons (ps_for PassesOwn.never rfl (pi_range1 rfl N.rng (pa_cons (pe_callB call_len_seq (by rfl) N.len PySem.boot_len (pa_cons (pv 1) pa_nil)) pa_nil)) (pg_name (i := 2) scYSame.nd rfl (Or.inl rfl))
      (pss_one (ps_if (pt_not (pt_val (pe_call ih hr rfl g kp b .nil pass0 (pa_cons (pe_ix ix_seq (pv 0) (pv 2) (fun _ _ => rfl)) (pa_cons (pe_ix ix_seq (pv 1) (pv 2) (fun _ _ => rfl)) pa_nil))))) (pss_one (ps_ret pe_bl)) pss_nil)))
      (pss_one (ps_ret pe_bl)))))))), ?_⟩
    --END
    have la := dpAll_len da
    have lc := dpAll_len dc
    refine ⟨_, rfl, rfl, _, rfl, iteF ?_⟩
    refine ⟨_, rfl, _, _, _, _, false, rfl, .ty _, tyX_L sc, kit_ty (by decide +kernel), false, rfl, iteF ?_⟩
    refine ⟨_, rfl, _, _, _, _, false, rfl, .ty _, tyX_L sc, kit_ty (by decide +kernel), false, rfl, iteF ?_⟩
    refine ⟨_, rfl, _, _, _, _, false, rfl, .ty _, tyX_L sc, kit_ty (by decide +kernel), false, rfl, iteF ?_⟩
    refine ⟨_, rfl, _, _, _, _, true, rfl, .ty _, tyX_L sc, kit_ty (by decide +kernel), _, rfl, _, _, _, _, true, rfl, .ty _, tyX_L sa, kit_ty (by decide +kernel), rfl, _, rfl, iteF ?_⟩
    refine ⟨_, rfl, _, _, _, _, false, rfl, .ty _, tyX_L sc, kit_ty (by decide +kernel), _, rfl, _, _, _, _, false, rfl, .ty _, tyX_L sa, kit_ty (by decide +kernel), rfl, _, rfl, iteF ?_⟩
    refine ⟨_, rfl, a, xs, rfl, .inl sa, _, rfl, c, ys, rfl, .inl sc, rfl, _, rfl, ?_⟩
    rw [la, lc, show (!decide (V.int (ds.length : Int) = V.int (ds.length : Int))) = false by simp]
    refine iteF ⟨_, rfl, c, ys, rfl, .inl sc, _, rfl, (by omega), (by omega), ?_⟩
    rw [lc]
    refine for_range (n := ds.length) (fun i σ H2 => (∃ v, σ = [some (.ref a), some (.ref c), v]) ∧ Same H H2) ⟨⟨none, rfl⟩, sm_refl⟩ ?_ ?_
    · rintro i σ H2 hi ⟨⟨v, rfl⟩, s2⟩
      have ha : i < xs.length := by omega
      have hc : i < ys.length := by omega
      obtain ⟨e1, q1, p1⟩ := dpAll_get da (List.getElem?_eq_getElem ha)
      obtain ⟨e2, q2, p2⟩ := dpAll_get dc (List.getElem?_eq_getElem hc)
      rw [q1] at q2
      cases q2
      have em := h2 e1 (List.mem_of_getElem? q1)
      exact ⟨_, rfl, _, rfl, .inl ⟨a, xs, _, _, rfl, rfl, s2.seq sa, atI_some ha, _, rfl, _, rfl, .inl ⟨c, ys, _, _, rfl, rfl, s2.seq sc, atI_some hc,
        _, _, e1, rfl, dp_same s2 p1, dp_same s2 p2, em, fun H3 s3 => ⟨_, rfl, iteF ⟨⟨_, rfl⟩, s2.trans s3⟩⟩⟩⟩⟩
    · rintro σ H2 ⟨_, s2⟩
      exact k _ s2
end
end K26


set_option Elab.async false
set_option linter.all false
set_option maxRecDepth 100000
set_option maxHeartbeats 8000000
/-! law -/
namespace K26
open PySem L2 Nd Bk Gd PySem.ExE
/-- the sets that lie within what is gone -/
def withinS (os : List (List Str)) (g : List Str) : List (List Str) := os.filter fun o => decide ((((o.filter fun z => decide (z ∉ g)).length : Nat) : Int) = 0)
theorem within_is (p : Poly) (g : List Str) : hasT p ((sortU (fk p)).filter fun z => decide (z ∉ g)) = decide ((((withinS (brkS (byM p)) g).length : Nat) : Int) = 0) := by
  have nd : ∀ o ∈ byM p, o.Nodup := fun o ho => asc_nd (byM_asc p o ho)
  have key : meets g (byM p) ↔ withinS (brkS (byM p)) g ≠ [] := by
    constructor
    · intro h e
      obtain ⟨x, hx, sx⟩ := brkS_under nd h
      have : x ∈ withinS (brkS (byM p)) g := List.mem_filter.mpr ⟨hx, decide_eq_true (by
        have : (x.filter fun z => decide (z ∉ g)) = [] := List.filter_eq_nil_iff.mpr fun z hz q => (of_decide_eq_true q) (sx z hz)
        rw [this]
        rfl)⟩
      rw [e] at this
      cases this
    · intro h
      obtain ⟨x, hx⟩ := List.exists_mem_of_ne_nil _ h
      obtain ⟨h1, h2⟩ := List.mem_filter.mp hx
      have h2 := of_decide_eq_true h2
      have e : (x.filter fun z => decide (z ∉ g)) = [] := List.length_eq_zero_iff.mp (by omega)
      exact meets_mono ((brkS_iff nd).mp h1).2.1 fun z hz => Classical.byContradiction fun q => (List.filter_eq_nil_iff.mp e) z hz (decide_eq_true q)
  cases q : hasT p ((sortU (fk p)).filter fun z => decide (z ∉ g)) with
  | false =>
    have := key.mp (lost_iff p |>.mp q)
    refine (decide_eq_false fun e => this (List.length_eq_zero_iff.mp (by omega))).symm
  | true =>
    refine (decide_eq_true ?_).symm
    have : ¬ meets g (byM p) := fun m => by
      rw [(lost_iff p).mpr m] at q
      cases q
    have e : withinS (brkS (byM p)) g = [] := Classical.byContradiction fun n => this (key.mpr n)
    rw [e]
    rfl
/-- what is known of a drawn polynomial -/
structure PyF (fs : List Str) (pl : Poly) : Prop where
  yp : YP fs 6 pl
  nd : fs.Nodup
  sh : ∀ z ∈ fs, shU z = true
  few : fs.length ≤ 6
section
variable {fs : List Str} {pl : Poly}
theorem PyF.pl6 (f : PyF fs pl) : pl.length ≤ 6 := f.yp.len
theorem PyF.toks (f : PyF fs pl) : (toksP pl).length ≤ 1000 := Nat.le_trans f.yp.toks (Nat.le_trans (Nat.mul_le_mul f.yp.len f.few) (by decide))
theorem PyF.ml (f : PyF fs pl) : ∀ t ∈ pl, t.1.length ≤ 1000 := fun t ht => by have := f.yp.mono ht; have := f.few; omega
theorem PyF.mo (f : PyF fs pl) : ∀ t ∈ pl, MOk t.1 := f.yp.ok.2.2
theorem PyF.szd (f : PyF fs pl) : Szd pl := ⟨Nat.le_trans f.pl6 (by decide), f.ml⟩
theorem PyF.tk6 (f : PyF fs pl) : (sortU (fk pl)).length ≤ 6 := Nat.le_trans f.yp.few f.few
theorem PyF.shk (f : PyF fs pl) : ∀ z ∈ fk pl, SeqAt.shaped (Ky.enc z) = true := fun z hz => shU_K (f.sh z (f.yp.in_ z hz))
/-- sets of few tokens -/
structure FewS (fs : List Str) (os : List (List Str)) : Prop where
  asc : ∀ o ∈ os, AscK o
  sub : ∀ o ∈ os, ∀ z ∈ o, z ∈ fs
  few : fs.length ≤ 6
variable {os : List (List Str)}
theorem FewS.nd (h : FewS fs os) : ∀ o ∈ os, o.Nodup := fun o ho => asc_nd (h.asc o ho)
theorem FewS.len (h : FewS fs os) : ∀ o ∈ os, o.length ≤ 6 := fun o ho => Nat.le_trans (nd_le (h.nd o ho) (h.sub o ho)) h.few
theorem FewS.tks (h : FewS fs os) : (tksOf os).length ≤ 6 := Nat.le_trans (nd_le (tks_nd os) fun z hz => by
  obtain ⟨o, ho, hz⟩ := tks_mem.mp hz
  exact h.sub o ho z hz) h.few
theorem FewS.at_ (h : FewS fs os) (j : Nat) : (brkAt os j).length ≤ 64 := Nat.le_trans (brk_small h.nd j) (Nat.pow_le_pow_right (by decide : 0 < 2) h.tks)
theorem FewS.brk (h : FewS fs os) : FewS fs (brkS os) := ⟨fun o ho => ((brkS_iff h.nd).mp ho).1, fun o ho z hz => by
  obtain ⟨_, mx, lx⟩ := (brkS_iff h.nd).mp ho
  have := lx (o.filter fun z => decide (z ∈ fs)) (fun z hz => (List.mem_filter.mp hz).1) (fun b hb => by
    obtain ⟨w, wo, wb⟩ := mx b hb
    exact ⟨w, List.mem_filter.mpr ⟨wo, decide_eq_true (h.sub b hb w wb)⟩, wb⟩) z hz
  exact of_decide_eq_true (List.mem_filter.mp this).2, h.few⟩
theorem FewS.brkl (h : FewS fs os) : (brkS os).length ≤ 64 := by
  rw [brkS_count h.nd]
  exact h.at_ _
theorem FewS.flat (h : FewS fs os) (l : os.length ≤ 64) : os.flatten.length ≤ 1000 := by
  rw [← List.flatMap_id]
  refine Nat.le_trans (flatL_len (f := id) (n := 6) fun o ho => h.len o ho) ?_
  omega
theorem PyF.fewS (f : PyF fs pl) : FewS fs (byM pl) := ⟨byM_asc pl, fun o ho z hz => by
  obtain ⟨⟨t, ht, rfl⟩, _⟩ := byM_iff.mp ho
  obtain ⟨x, hx, rfl⟩ := List.mem_map.mp (sortU_mem.mp hz)
  exact f.yp.keys t ht x hx, f.few⟩
theorem PyF.byl (f : PyF fs pl) : (byM pl).length ≤ 64 := Nat.le_trans (byM_few pl) (Nat.le_trans f.pl6 (by decide))
/-- the sum of the breakers' products -/
theorem sum_back {q : Poly} (f : PyF fs pl) (h : IsSum q (brkS (byM pl))) : byM q = brkS (byM pl) :=
  sum_byM_eq h f.fewS.brk.asc (brkS_ord _) (brkS_anti f.fewS.nd)
end
section
variable {K : PySem.W.Frag} {p c : Addr} {ns : List Int} {v v4 : V} {pl : Poly} {H H' : Hp}
end
section
variable {P : Program} {w : World} {K : PySem.W.Frag} {mg : Str → Option Value} {base : Heap}
end
end K26


set_option Elab.async false
set_option linter.all false
set_option maxRecDepth 100000
set_option maxHeartbeats 4000000
/-! min(xs, key=f, default=d) of a list, f a def of the program, its keys data that are alike -/
namespace Sk
open PySem PySem.Spec PyProof.Rows PySem.W L2 Nd
/-- the place of the first least of the keys up to n -/
def bst (ds : List PyData) : Nat → Nat
  | 0 => 0
  | n + 1 => if dataLt (ds.getD (n + 1) .none) (ds.getD (bst ds n) .none) = true then n + 1 else bst ds n
theorem bst_le (ds : List PyData) : ∀ n, bst ds n ≤ n
  | 0 => Nat.le_refl 0
  | n + 1 => by
    unfold bst
    split
    · exact Nat.le_refl _
    · exact Nat.le_succ_of_le (bst_le ds n)
/-- what stands after j of the items, the best of them the b-th -/
structure MinAt (X : Cx) (pins : List (Addr × Obj)) (σ : L2.St) (H : Hp) (l : Addr) (xs : List V) (ds : List PyData) (S I j b : Nat) (H' : Hp) (s' : Shared) (vb kb : Value) : Prop where
  inv : Inv X pins σ H' s'
  up : Same H H'
  fS : FpOk X pins H' S
  fI : FpOk X pins H' I
  at_ : ∃ c, s'.heap.get? S = some (seqObj "list" #[vb, kb] c)
  it : s'.heap.IsListIter I l j
  best : ∃ x, xs[b]? = some x ∧ RelV x vb
  key : ∃ k, RelV k kb ∧ Dp X.K H' k (ds.getD b .none)
section
variable {X : Cx} {pins : List (Addr × Obj)} {σ : L2.St} {H : Hp} {k : Nat} {kf l S I : Addr} {fd : FuncData} {x0 : Str} {sp : Sp} {A : Around} {xs : List V} {ds : List PyData} {R : Result → Shared → Prop}
theorem getD_of {i : Nat} {d : PyData} (h : ds[i]? = some d) : ds.getD i .none = d := by
  rw [List.getD_eq_getElem?_getD, h]
  rfl
/-- one item more -/
theorem one_key {s' : Shared} {H' : Hp} {u : Value} {x : V} {d : PyData} (hfr : A.frames = some X.stack) (F : FnOk X.prog X.w X.K X.mg X.base CX0 k kf fd [x0] sp) (hr : Room k A) (hb : Binds X.K fd [x0] [])
    (turn : ∀ H', Same H H' → sp [x] H' (fun v H'' => Same H' H'' ∧ Dp X.K H'' v d) E0) (inv : Inv X pins σ H' s') (up : Same H H') (rx : RelV x u) {T : Value → Shared → Prop}
    (done : ∀ kv s2 H2 vk, Inv X pins σ H2 s2 → Same H' H2 → RelV vk kv → Dp X.K H2 vk d → (∀ b o, FpOk X pins H' b → s'.heap.get? b = some o → s2.heap.get? b = some o ∧ H2 b = none) → T kv s2) {E' : Value → Shared → Prop} :
    wpAny (model X.prog X.w) A (call (.ref kf) [u]) T E' s' := by
  refine wpAny_call (codeAny_mono (F.run A X.stack s' H' ⟨[u], []⟩ [u] [x] _ E0 hr { inv.env0 with frames := hfr } (hb s' [u] inv.kIn rfl) (.cons rx .nil) (turn H' up)) fun r s'' hq => ?_)
  cases r with
  | error _ => exact hq.elim
  | ok fl =>
    cases fl with
    | next => exact hq.elim
    | brk => exact hq.elim
    | cont => exact hq.elim
    | ret kv =>
      obtain ⟨vk, H2, os, bare, un, hok, rk, s2H, dk⟩ := hq
      have off : ∀ b, FpOk X pins H' b → b ∉ frs X.stack := fun b fb hm => by
        rcases List.mem_cons.mp (inv.stkSub b hm) with z | z
        · exact fb.2.1 z
        · exact fb.2.2.1 z
      obtain ⟨g, gn, dr, tk, os'⟩ := s''
      obtain rfl : os' = s'.os := os
      have I2 : Inv X pins σ H2 ⟨g, gn, dr, tk, s'.os⟩ := inv.call (h' := g) (g' := gn) (d' := dr) (t' := tk) (ch := []) un hok bare (fun b z => absurd z (by simp))
      exact done kv _ H2 vk I2 s2H rk dk (fun b o fb e => ⟨un.keep _ _ e fb.1 (off _ fb) (by simp), un.free _ _ e fb.1 (by simp)⟩)
theorem it_keep {h h' : Heap} {i : Nat} (it : h.IsListIter I l i) (k : ∀ b o, b = I → h.get? b = some o → h'.get? b = some o) : h'.IsListIter I l i := by
  obtain ⟨o, e, r⟩ := it
  exact ⟨o, k I o rfl e, r⟩
theorem min_loop (hfr : A.frames = some X.stack) (hd : A.handled = none) (F : FnOk X.prog X.w X.K X.mg X.base CX0 k kf fd [x0] sp) (hr : Room k A.in1) (hb : Binds X.K fd [x0] []) (hs : SqL X.K H l xs) (nn : ∀ d ∈ ds, d ≠ .none) (kd : Keyed' X sp H xs ds) (lI : l ≠ I) (SI : S ≠ I) (hu : A.units + 60 < cLine) (kw : List (Str × Value))
    (done : ∀ v s' H', Inv X pins σ H' s' → Same H H' → (∃ x, xs[bst ds (xs.length - 1)]? = some x ∧ RelV x v) → R (.ok (.ret v)) s') :
    ∀ (r j : Nat) (H' : Hp) (s' : Shared) (vb kb : Value), xs.length - (j + 1) = r → j + 1 ≤ xs.length → MinAt X pins σ H l xs ds S I (j + 1) (bst ds j) H' s' vb kb → codeAny (model X.prog X.w) A (.builtin "min.loop" ⟨[.ref I, .ref kf, .ref S], kw⟩) R s' := by
  have nm : (toString "min" ++ toString ".loop" : String) = "min.loop" := by decide
  intro r
  induction r with
  | zero =>
    intro j H' s' vb kb hr0 hj M
    obtain ⟨c, hS⟩ := M.at_
    obtain ⟨its, rv, hl, hz⟩ := M.inv.list (M.up.seq hs)
    have W := Walks.list (prog := X.prog) (w := X.w) (A := A.in1) hd I l lI its.toArray
    have n : j + 1 = its.toArray.size := by
      rw [List.size_toArray, ← rv.length]
      omega
    refine codeAny_builtin PySem.F.entry_min_loop ?_
    rw [Around.under_plainId PySem.F.plain_min_loop _]
    show wpAny _ A.in1 (seqItems? (.ref S) >>= _) _ _ s'
    refine wpAny_bind (wpAny_seqItems hS rfl ?_)
    show wpAny _ A.in1 (tryCatch (pyNext (.ref I)) _ >>= _) _ _ s'
    refine wpAny_bind (wpAny_tryCatch (W.done _ _ _ ⟨n ▸ M.it, hl.isList⟩ fun h' tk' kp => ?_))
    have I1 : Inv X pins σ H' { s' with heap := h', toks := tk' } := M.inv.turnedL (ch := [I]) (t' := tk') (fun b o nb q => kp b o nb q) fun b hb => by rw [List.mem_singleton.mp hb]; exact M.fI
    have hS1 := kp S _ (by simpa using SI) hS
    show wpAny _ A.in1 (updateSeq S (fun _ => #[]) >>= _) _ _ _
    refine wpAny_bind (wpAny_updateSeq hS1 rfl (wpAny_bind (wpAny_letGo (wpAny_pure ?_))))
    have kept := Heap.SameBut.update h' S (Obj.mapSeq fun _ => (#[] : Array Value))
    have e : j = xs.length - 1 := by omega
    refine done _ _ H' (I1.turnedL (ch := [S]) (t' := tk') (fun b o nb q => (kept.2 b fun e => nb (by simp [e])).trans q) fun b hb => by rw [List.mem_singleton.mp hb]; exact M.fS) M.up (e ▸ M.best)
  | succ r ih =>
    intro j H' s' vb kb hr0 hj M
    have hlt : j + 1 < xs.length := by omega
    obtain ⟨c, hS⟩ := M.at_
    obtain ⟨its, rv, hl, hz⟩ := M.inv.list (M.up.seq hs)
    have W := Walks.list (prog := X.prog) (w := X.w) (A := A.in1) hd I l lI its.toArray
    obtain ⟨x, hx⟩ : ∃ x, xs[j + 1]? = some x := ⟨_, List.getElem?_eq_getElem hlt⟩
    obtain ⟨d, hdd⟩ : ∃ d, ds[j + 1]? = some d := ⟨_, List.getElem?_eq_getElem (by rw [kd.len]; exact hlt)⟩
    obtain ⟨u, hu', rx⟩ := rv.get hx
    refine codeAny_builtin PySem.F.entry_min_loop ?_
    rw [Around.under_plainId PySem.F.plain_min_loop _]
    show wpAny _ A.in1 (seqItems? (.ref S) >>= _) _ _ s'
    refine wpAny_bind (wpAny_seqItems hS rfl ?_)
    show wpAny _ A.in1 (tryCatch (pyNext (.ref I)) _ >>= _) _ _ s'
    refine wpAny_bind (wpAny_tryCatch (W.item (j + 1) _ _ _ (by rw [List.size_toArray, ← rv.length]; exact hlt) ⟨M.it, hl.isList⟩ fun v h' tk' hv st kp => ?_))
    have ev : u = v := by
      have : its[j + 1]? = some v := by simpa using hv
      rw [hu'] at this
      exact Option.some.inj this
    subst ev
    have I1 : Inv X pins σ H' { s' with heap := h', toks := tk' } := M.inv.turnedL (ch := [I]) (t' := tk') (fun b o nb q => kp b o nb q) fun b hb => by rw [List.mem_singleton.mp hb]; exact M.fI
    have hS1 : h'.get? S = some (seqObj "list" #[vb, kb] c) := kp S _ (by simpa using SI) hS
    show wpAny _ A.in1 (tryCatch (holding [u] (call (.ref kf) [u])) _ >>= _) _ _ _
    refine wpAny_bind (wpAny_tryCatch (wpAny_holding (one_key (A := A.in1) hfr F hr hb (fun H2 s2 => kd.turn (j + 1) x d hx hdd H2 s2) I1 M.up rx fun kx s2 H2 vk I2 up2 rk dk keep => ?_)))
    obtain ⟨hS2, nS2⟩ := keep S _ M.fS hS1
    have it2 : s2.heap.IsListIter I l (j + 1 + 1) := it_keep st.1 fun b o e q => by
      rw [e] at q ⊢
      exact (keep I o M.fI q).1
    have nI2 : H2 I = none := by
      obtain ⟨o, e, _⟩ := st.1
      exact (keep I o M.fI e).2
    have fS2 : FpOk X pins H2 S := fpOn M.fS nS2
    have fI2 : FpOk X pins H2 I := fpOn M.fI nI2
    obtain ⟨kk, rkb, dkb⟩ := M.key
    have dkb2 := dp_same up2 dkb
    obtain ⟨as, r1⟩ := Dp.reads I2 _ _ _ dk rk
    obtain ⟨bs, r2⟩ := Dp.reads I2 _ _ _ dkb2 rkb
    have bl := bst_le ds j
    obtain ⟨db, hdb⟩ : ∃ db, ds[bst ds j]? = some db := ⟨_, List.getElem?_eq_getElem (by rw [kd.len]; omega)⟩
    have al : alike d db = true := kd.alike _ (List.mem_of_getElem? hdd) _ (List.mem_of_getElem? hdb)
    rw [getD_of hdb] at r2
    have e1 := getD_of hdd
    have e2 := getD_of hdb
    show wpAny _ A.in1 (tryCatch (holding [u, kx] (compareOp .Lt kx kb >>= _)) _ >>= _) _ _ _
    refine wpAny_bind (wpAny_tryCatch (wpAny_holding (wpAny_bind (PySem.W.lt_data r1 r2 al ?_ ?_ ?_))))
    · exact nn d (List.mem_of_getElem? hdd)
    · have := kd.dep d (List.mem_of_getElem? hdd)
      show A.units + 1 + min d.depth db.depth < cLine
      omega
    refine wpAny_bind (wpAny_holding (wpAny_truthy_bool ?_))
    refine wpAny_bind (wpAny_letGo (wpAny_pure ?_))
    have bx : bst ds (j + 1) = if dataLt d db = true then j + 1 else bst ds j := by
      show (if dataLt (ds.getD (j + 1) .none) (ds.getD (bst ds j) .none) = true then _ else _) = _
      rw [e1, e2]
    cases q : dataLt d db with
    | true =>
      rw [q, if_pos rfl] at bx
      simp only [if_true]
      refine wpAny_bind (wpAny_updateSeq hS2 rfl (wpAny_bind (wpAny_letGo ?_)))
      rw [nm]
      have kept := Heap.SameBut.update s2.heap S (Obj.mapSeq fun _ => #[u, kx])
      obtain ⟨c2, hc2⟩ : ∃ c2, (s2.heap.update S (Obj.mapSeq fun _ => #[u, kx])).get? S = some (seqObj "list" #[u, kx] c2) := ⟨_, get?_update_seq hS2 fun _ => #[u, kx]⟩
      refine wpAny_pure ⟨plainId_quiet PySem.F.plain_min_loop _, ih (j + 1) H2 _ u kx (by omega) hlt ⟨I2.turnedL (ch := [S]) (t' := s2.toks) (fun b o nb q => (kept.2 b fun e => nb (by simp [e])).trans q) (fun b hb => by rw [List.mem_singleton.mp hb]; exact fS2), M.up.trans up2, fS2, fI2, ⟨c2, hc2⟩, it_keep it2 fun b o e q => (kept.2 b fun e2 => SI (e2.symm.trans e)).trans q, ?_, ?_⟩⟩
      · rw [bx]; exact ⟨x, hx, rx⟩
      · rw [bx, e1]; exact ⟨vk, rk, dk⟩
    | false =>
      rw [q, if_neg Bool.false_ne_true] at bx
      simp only [Bool.false_eq_true, if_false]
      refine wpAny_bind (wpAny_letGo ?_)
      rw [nm]
      refine wpAny_pure ⟨plainId_quiet PySem.F.plain_min_loop _, ih (j + 1) H2 _ vb kb (by omega) hlt ⟨I2, M.up.trans up2, fS2, fI2, ⟨c, hS2⟩, it2, ?_, ?_⟩⟩
      · rw [bx]; exact M.best
      · rw [bx]; exact ⟨kk, rkb, dkb2⟩
/-- the first item -/
theorem min_first (hfr : A.frames = some X.stack) (hd : A.handled = none) (F : FnOk X.prog X.w X.K X.mg X.base CX0 k kf fd [x0] sp) (hr : Room k A.in1) (hb : Binds X.K fd [x0] []) {H' : Hp} {s' : Shared} (up : Same H H') (I0 : Inv X pins σ H' s') (hs : SqL X.K H l xs) (nn : ∀ d ∈ ds, d ≠ .none) (kd : Keyed' X sp H xs ds) (lI : l ≠ I) (SI : S ≠ I) (hu : A.units + 60 < cLine) (kw : List (Str × Value))
    (fS : FpOk X pins H' S) (fI : FpOk X pins H' I) (it : s'.heap.IsListIter I l 0) {c : Nat} (hS : s'.heap.get? S = some (seqObj "list" #[] c)) (ne : 0 < xs.length)
    (done : ∀ v s' H', Inv X pins σ H' s' → Same H H' → (∃ x, xs[bst ds (xs.length - 1)]? = some x ∧ RelV x v) → R (.ok (.ret v)) s') :
    codeAny (model X.prog X.w) A (.builtin "min.loop" ⟨[.ref I, .ref kf, .ref S], kw⟩) R s' := by
  have nm : (toString "min" ++ toString ".loop" : String) = "min.loop" := by decide
  obtain ⟨its, rv, hl, hz⟩ := I0.list (up.seq hs)
  have W := Walks.list (prog := X.prog) (w := X.w) (A := A.in1) hd I l lI its.toArray
  obtain ⟨x, hx⟩ : ∃ x, xs[0]? = some x := ⟨_, List.getElem?_eq_getElem ne⟩
  obtain ⟨d, hdd⟩ : ∃ d, ds[0]? = some d := ⟨_, List.getElem?_eq_getElem (by rw [kd.len]; exact ne)⟩
  obtain ⟨u, hu', rx⟩ := rv.get hx
  refine codeAny_builtin PySem.F.entry_min_loop ?_
  rw [Around.under_plainId PySem.F.plain_min_loop _]
  show wpAny _ A.in1 (seqItems? (.ref S) >>= _) _ _ s'
  refine wpAny_bind (wpAny_seqItems hS rfl ?_)
  show wpAny _ A.in1 (tryCatch (pyNext (.ref I)) _ >>= _) _ _ s'
  refine wpAny_bind (wpAny_tryCatch (W.item 0 _ _ _ (by rw [List.size_toArray, ← rv.length]; exact ne) ⟨it, hl.isList⟩ fun v h' tk' hv st kp => ?_))
  have ev : u = v := by
    have : its[0]? = some v := by simpa using hv
    rw [hu'] at this
    exact Option.some.inj this
  subst ev
  have I1 : Inv X pins σ H' { s' with heap := h', toks := tk' } := I0.turnedL (ch := [I]) (t' := tk') (fun b o nb q => kp b o nb q) fun b hb => by rw [List.mem_singleton.mp hb]; exact fI
  have hS1 : h'.get? S = some (seqObj "list" #[] c) := kp S _ (by simpa using SI) hS
  show wpAny _ A.in1 (tryCatch (holding [u] (call (.ref kf) [u])) _ >>= _) _ _ _
  refine wpAny_bind (wpAny_tryCatch (wpAny_holding (one_key (A := A.in1) hfr F hr hb (fun H2 s2 => kd.turn 0 x d hx hdd H2 s2) I1 up rx fun kx s2 H2 vk I2 up2 rk dk keep => ?_)))
  obtain ⟨hS2, nS2⟩ := keep S _ fS hS1
  have it2 : s2.heap.IsListIter I l 1 := it_keep st.1 fun b o e q => by
    rw [e] at q ⊢
    exact (keep I o fI q).1
  have nI2 : H2 I = none := by
    obtain ⟨o, e, _⟩ := st.1
    exact (keep I o fI e).2
  have fS2 : FpOk X pins H2 S := fpOn fS nS2
  have fI2 : FpOk X pins H2 I := fpOn fI nI2
  show wpAny _ A.in1 (updateSeq S (fun _ => #[u, kx]) >>= _) _ _ _
  refine wpAny_bind (wpAny_updateSeq hS2 rfl ?_)
  rw [nm]
  have kept := Heap.SameBut.update s2.heap S (Obj.mapSeq fun _ => #[u, kx])
  obtain ⟨c2, hc2⟩ : ∃ c2, (s2.heap.update S (Obj.mapSeq fun _ => #[u, kx])).get? S = some (seqObj "list" #[u, kx] c2) := ⟨_, get?_update_seq hS2 fun _ => #[u, kx]⟩
  refine wpAny_pure ⟨plainId_quiet PySem.F.plain_min_loop _, min_loop hfr hd F hr hb hs nn kd lI SI hu kw done _ 0 H2 _ u kx rfl ne ⟨I2.turnedL (ch := [S]) (t' := s2.toks) (fun b o nb q => (kept.2 b fun e => nb (by simp [e])).trans q) (fun b hb => by rw [List.mem_singleton.mp hb]; exact fS2), up.trans up2, fS2, fI2, ⟨c2, hc2⟩, it_keep it2 fun b o e q => (kept.2 b fun e2 => SI (e2.symm.trans e)).trans q, ⟨x, hx, rx⟩, ?_⟩⟩
  show ∃ k, RelV k kx ∧ Dp X.K H2 k (ds.getD 0 .none)
  rw [getD_of hdd]
  exact ⟨vk, rk, dk⟩
end
section
variable {X : Cx} {k : Nat} {kf : Addr} {fd : FuncData} {x0 : Str} {sp : Sp}
theorem cr_minKeyL (hc : X.calm = true) (F : FnOk X.prog X.w X.K X.mg X.base CX0 k kf fd [x0] sp) (hr : Room (k + 2) X.A) (hb : Binds X.K fd [x0] []) : CallRK X (.builtin "min") [Str.ofString "key", Str.ofString "default"]
    (fun vs zs H Q => ∃ (a : Addr) (xs : List V) (ds : List PyData) (dv : V), vs = [.ref a] ∧ zs = [.ref kf, dv] ∧ SqL X.K H a xs ∧ (∀ d ∈ ds, d ≠ .none) ∧ Keyed' X sp H xs ds ∧ (xs = [] → Q dv H) ∧ ∀ x H', Same H H' → xs[bst ds (xs.length - 1)]? = some x → Q x H') := by
  intro pins s σ H vs zs us ws Q I rv rz h
  obtain ⟨a, xs, ds, dv, rfl, rfl, hs, nn, kd, q0, q1⟩ := h
  obtain ⟨u, rfl, rx⟩ := L2.vals1 rv
  cases rx
  obtain ⟨u2, ud, rfl, ry, rd⟩ := vals2 rz
  cases ry
  have nm : (toString "min" ++ toString ".loop" : String) = "min.loop" := by decide
  have hdl := I.ok.hd hc
  obtain ⟨its, rvs, hl, hz⟩ := I.list hs
  have hlu := hl.isList
  obtain ⟨oL, eL, _⟩ := id hlu
  have al : a < s.heap.objs.size := Heap.lt_size eL
  refine kmk_tree PySem.F.kind_min PySem.F.plain_min PySem.F.entry_min (PySem.args_min_key_default _ _ _) ?_
  show wpAny _ X.A.in1 (Builtin.Builtins.bindParams "min" ["key", "default"] 0 ⟨[], [(Str.ofString "key", .ref kf), (Str.ofString "default", ud)]⟩ >>= _) _ _ s
  refine wpAny_bind (wpAny_of_eq (show Builtin.Builtins.bindParams "min" ["key", "default"] 0 ⟨[], [(Str.ofString "key", .ref kf), (Str.ofString "default", ud)]⟩ = pure [some (.ref kf), some ud] from rfl) ?_)
  refine wpAny_bind (wpAny_pure ?_)
  refine wpAny_bind (wpAny_pyIter_list hlu ?_)
  refine wpAny_bind (wpAny_newObj_type ?_)
  rw [nm]
  refine wpAny_pure ⟨plainId_quiet PySem.F.plain_min_loop _, ?_⟩
  have frI : H s.heap.objs.size = none := I.hok.fresh (Nat.le_refl _)
  have frS : H (s.heap.objs.size + 1) = none := I.hok.fresh (Nat.le_succ _)
  have fI := I.fpOk (Nat.le_refl _) frI
  have fS := I.fpOk (Nat.le_succ _) frS
  have I1 : Inv X pins σ H { s with heap := (s.heap.push { cls := .type "list_iterator", data := .fields #[.ref a, .int 0 0] }).push { cls := .type "list", data := .seq #[] 0 } } := I.turnedL (ch := []) (t' := s.toks) (fun b o _ q => Heap.get?_push_of_some _ (Heap.get?_push_of_some _ q)) fun b hb => nomatch hb
  have it : ((s.heap.push { cls := .type "list_iterator", data := .fields #[.ref a, .int 0 0] }).push { cls := .type "list", data := .seq #[] 0 }).IsListIter s.heap.objs.size a 0 := ⟨_, Heap.get?_push_of_some _ (Heap.get?_push_size _ rfl), rfl, rfl⟩
  have zS : (s.heap.push { cls := .type "list_iterator", data := .fields #[.ref a, .int 0 0] }).objs.size = s.heap.objs.size + 1 := size_push' ..
  have hS : ((s.heap.push { cls := .type "list_iterator", data := .fields #[.ref a, .int 0 0] }).push { cls := .type "list", data := .seq #[] 0 }).get? (s.heap.objs.size + 1) = some (seqObj "list" #[] 0) := zS ▸ Heap.get?_push_size _ rfl
  have aI : a ≠ s.heap.objs.size := Nat.ne_of_lt al
  have SI : s.heap.objs.size + 1 ≠ s.heap.objs.size := Nat.succ_ne_self _
  show codeAny (model X.prog X.w) X.A (.builtin "min.loop" ⟨[.ref s.heap.objs.size, .ref kf, .ref (s.heap.push { cls := .type "list_iterator", data := .fields #[.ref a, .int 0 0] }).objs.size], [(Str.ofString "default", ud)]⟩) _ { s with heap := _ }
  rw [zS]
  by_cases e0 : xs = []
  · subst e0
    cases rvs
    have hl1 : ((s.heap.push { cls := .type "list_iterator", data := .fields #[.ref a, .int 0 0] }).push { cls := .type "list", data := .seq #[] 0 }).IsList a #[] := by
      obtain ⟨o, h1, h2⟩ := hlu
      exact ⟨o, Heap.get?_push_of_some _ (Heap.get?_push_of_some _ h1), h2⟩
    have W := (Walks.list (prog := X.prog) (w := X.w) (A := X.A.in1) hdl s.heap.objs.size a aI #[]).toS
    refine PySem.codeAny_min_loop_dflt W (s.heap.objs.size + 1) (fun hm => ?_) ⟨it, hl1⟩ hS fun s' hm => ?_
    · rcases List.mem_cons.mp hm with h | h
      · exact SI h
      · exact absurd al (by rw [← List.mem_singleton.mp h]; exact Nat.not_lt.mpr (Nat.le_succ _))
    · obtain ⟨h', g', dr', tk', os'⟩ := s'
      obtain ⟨m1, m2, m3, m4, m5⟩ := hm
      cases m2
      cases m3
      cases m4
      have I2 := I1.turnedL (ch := [s.heap.objs.size]) (h' := h') (t' := tk') (fun b o nb q => m1 b o nb q) (fun b hb => by rw [List.mem_singleton.mp hb]; exact fI)
      exact ⟨dv, H, I2, rd, q0 rfl⟩
  · have ne : 0 < xs.length := List.length_pos_iff.mpr e0
    have hu := hr.un
    refine min_first (A := X.A) I.ok.frames hdl F (hr.in1.mono (Nat.le_succ _)) hb (fun _ _ q => q) I1 hs nn kd aI SI (by omega) _ fS fI it hS ne fun v s' H' J up ⟨x, hx, rv⟩ => ⟨x, H', J, rv, q1 x H' up hx⟩
end
end Sk


set_option Elab.async false
set_option linter.all false
set_option maxRecDepth 100000
set_option maxHeartbeats 8000000
/-! _contingency: of the rests of the sets that have the token the first, by size and then as they stand -/
namespace K26
open PySem L2 Nd Bk Gd
def restS (os : List (List Str)) (t : Str) : List (List Str) := (os.filter fun o => decide (t ∈ o)).map fun o => o.filter fun z => decide (z ≠ t)
def contS (os : List (List Str)) (t : Str) : Option (List Str) := (szs (restS os t)).head?
def conD : Option (List Str) → PyData
  | none => .none
  | some r => sD r
theorem lt_back {κ : Type} [DecidableEq κ] [Ky κ] {a b c : κ} (h1 : lt a b = false) (h2 : lt b c = false) : lt a c = false := by
  cases q : lt a c with
  | false => rfl
  | true =>
    cases r : lt b a with
    | true => rw [lt_trans r q] at h2; cases h2
    | false =>
      have := lt_total h1 r
      subst this
      rw [q] at h2
      cases h2
theorem bst_least {rs : List (List Str)} : ∀ n, n < rs.length → ∀ i x y, i ≤ n → rs[i]? = some x → rs[Sk.bst (rs.map fun o => lsD (lenK o)) n]? = some y → lt (lenK x) (lenK y) = false
  | 0, h, i, x, y, hi, hx, hy => by
    have : i = 0 := by omega
    subst this
    have hy : rs[0]? = some y := hy
    rw [hx] at hy
    cases hy
    exact lt_irrefl _
  | n + 1, h, i, x, y, hi, hx, hy => by
    obtain ⟨z, hz⟩ : ∃ z, rs[n + 1]? = some z := ⟨_, List.getElem?_eq_getElem h⟩
    have bl := Sk.bst_le (rs.map fun o => lsD (lenK o)) n
    obtain ⟨b, hb⟩ : ∃ b, rs[Sk.bst (rs.map fun o => lsD (lenK o)) n]? = some b := ⟨_, List.getElem?_eq_getElem (by omega)⟩
    have g : ∀ {j : Nat} {o : List Str}, rs[j]? = some o → (rs.map fun o => lsD (lenK o)).getD j .none = lsD (lenK o) := fun {j o} e => Sk.getD_of (by rw [List.getElem?_map, e]; rfl)
    have e : Sk.bst (rs.map fun o => lsD (lenK o)) (n + 1) = if lt (lenK z) (lenK b) = true then n + 1 else Sk.bst (rs.map fun o => lsD (lenK o)) n := by
      show (if PySem.W.dataLt ((rs.map fun o => lsD (lenK o)).getD (n + 1) .none) ((rs.map fun o => lsD (lenK o)).getD (Sk.bst (rs.map fun o => lsD (lenK o)) n) .none) = true then _ else _) = _
      rw [g hz, g hb]
      rfl
    rw [e] at hy
    cases q : lt (lenK z) (lenK b) with
    | true =>
      rw [q, if_pos rfl] at hy
      rw [hz] at hy
      cases hy
      rcases Nat.lt_or_eq_of_le hi with l | l
      · exact lt_back (bst_least n (by omega) i x _ (by omega) hx hb) (lt_asymm q)
      · rw [l, hz] at hx
        cases hx
        exact lt_irrefl _
    | false =>
      rw [q, if_neg Bool.false_ne_true, hb] at hy
      cases hy
      rcases Nat.lt_or_eq_of_le hi with l | l
      · exact bst_least n (by omega) i x _ (by omega) hx hb
      · rw [l, hz] at hx
        cases hx
        exact q
theorem head_least {rs : List (List Str)} {x : List Str} (hx : x ∈ rs) (h : ∀ y ∈ rs, lt (lenK y) (lenK x) = false) : (szs rs).head? = some x := by
  have xm : x ∈ szs rs := szs_iff.mpr hx
  have o := szs_ord rs
  cases e : szs rs with
  | nil => rw [e] at xm; cases xm
  | cons y r =>
    rw [e] at xm o
    obtain ⟨o1, _⟩ := List.pairwise_cons.mp o
    have ym : y ∈ rs := szs_iff.mp (by rw [e]; exact List.mem_cons_self)
    rcases List.mem_cons.mp xm with q | q
    · rw [q]; rfl
    · have := o1 x q
      have b := h y ym
      rw [show lt (lenK y) (lenK x) = true from this] at b
      cases b
theorem cont_bst {rs : List (List Str)} {x : List Str} (h : rs[Sk.bst (rs.map fun o => lsD (lenK o)) (rs.length - 1)]? = some x) : (szs rs).head? = some x := by
  have xm := List.mem_of_getElem? h
  have pos := List.length_pos_of_mem xm
  refine head_least xm fun y hy => ?_
  obtain ⟨i, hi⟩ := List.getElem?_of_mem hy
  have := (List.getElem?_eq_some_iff.mp hi).1
  exact bst_least (rs.length - 1) (by omega) i y x (by omega) hi h
def spCon (K : PySem.W.Frag) : Sp := fun vs H Q _ => ∃ (v : V) (t : Str) (os : List (List Str)), vs = [v, .str t] ∧ Dp K H v (.tuple (os.map sD)) ∧ os.length ≤ 1000 ∧ (∀ o ∈ os, o.length ≤ 1000) ∧ ∀ (v' : V) (H' : Hp), Same H H' → Dp K H' v' (conD (contS os t)) → Q v' H'
section
variable {P : Program} {w : World} {K : PySem.W.Frag} {mg : Str → Option Value} {base : Heap}
abbrev cnN : List Str := ["sets", "token", "rests", "each", "other"]
theorem scCon : FnScope cnN ["sets", "token"] (defScope sCon_) := ⟨rfl, rfl, rfl, by decide +kernel, rfl, by decide +kernel, by decide +kernel⟩
theorem ok_con {f : Addr} {fd : FuncData} (F : Fun K "_contingency" "_contingency" sCon_ f fd) (N : Nm mg) (mn : mg "min" = none) (Go : Df P w K mg base 1 "set_order" ["tokens"] (spOrd K)) : FnOk P w K mg base CX0 4 f fd ["sets", "token"] (spCon K) := by
  obtain ⟨fo, fdo, gO, kO, bO, GO⟩ := Go.ok
  refine F.ok scCon (fun vs H Q E h => ?_) (fun cdv A outer s H vs Q E hr h => ?_)
  · obtain ⟨v, t, os, rfl, _⟩ := h
    rfl
  · obtain ⟨v, t, os, rfl, hd, ol, oz, k⟩ := h
    have hr3 : Room 3 _ := hr
    --BODYA
    refine ⟨_, pss_cons (ps_setLc (i := 2) (own := [("each", 3)]) (g := gName 3) (tt := tTest (tOp (rIn K false) (tVar 1) (tVar 3))) rfl scCon.nd rfl rfl (sw_true rfl rfl rfl (by decide +kernel)) (pi_tup (pv 0)) (blkOk_by (N := cnN) (sc := defScope sCon_) (by decide +kernel)) (fun _ _ _ _ _ => pg_name (i := 3) scCon.nd rfl (Or.inl rfl)) (fun _ _ _ _ _ => pts_one (pt_cmpR (show OpR _ _ (rIn K false) from op_in_seq) (pv 1) (pv 3) (by rfl))) (fun _ _ _ _ _ => (pe_callTy (show CallR _ _ (rTupO K) from call_tuple_of) (by rfl) N.tup (by rfl) (pa_cons (pe_lc (own := [("other", 4)]) (g := gName 4) (tt := tTest (tOp rNe (tVar 4) (tVar 1))) rfl scCon.nd (show PI _ _ _ (iTup K (tVar 3)) from pi_tup (pv 3)) (blkOk_by (N := cnN) (by rfl)) (fun _ _ _ _ _ => pg_name (i := 4) scCon.nd rfl (Or.inl rfl)) (fun _ _ _ _ _ => pts_one (pt_cmpR op_ne (pv 4) (pv 1) (nomark _))) (fun _ _ _ _ _ => pv 4)) pa_nil))))
      (pss_one (ps_ret (pe_callBK (Sk.cr_minKeyL rfl GO hr3 bO) (by rfl) mn (by rfl) (pa_cons (pv 2) pa_nil) (pk_cons (pe_glob (v := .ref fo) rfl gO rfl) (pk_cons pe_non pk_nil))))), ?_⟩
    --END
    obtain ⟨T, zs, rfl, hT, hz⟩ := dp_tup hd
    have zl : zs.length = os.length := by rw [dpAll_len hz, List.length_map]
    refine ⟨_, rfl, T, rfl, ⟨_, hT⟩, fun D nD => ?_⟩
    refine lc_tup (K := K) (a := T) (xs := zs) (fun i H2 => Same H H2 ∧ ∃ ys, H2 D = some (.lst ys) ∧ TupA H2 ys (restS (os.take i) t)) ⟨sm_new sm_refl nD, [], upd_same, .nil⟩ (fun i H2 _ ⟨s2, _⟩ => sqT_same s2 hT) ?_ ?_
    · rintro i x H2 hi ⟨s2, ys, hD, tu⟩
      obtain ⟨o, b, ho, rfl, hb⟩ := sets_at (dpAll_same s2 hz) hi
      have om := List.mem_of_getElem? ho
      have il := (List.getElem?_eq_some_iff.mp ho).1
      have o3 := oz o om
      have yl : ys.length ≤ 1000 := by
        rw [tu.len]
        unfold restS
        rw [List.length_map]
        refine Nat.le_trans (List.length_filter_le ..) ?_
        rw [List.length_take]
        omega
      have st := filt_one (q := fun o : List Str => decide (t ∈ o)) ho
      have rs : restS (os.take (i + 1)) t = restS (os.take i) t ++ (if t ∈ o then [o.filter fun z => decide (z ≠ t)] else []) := by
        unfold restS
        rw [st, List.map_append]
        by_cases q : t ∈ o
        · rw [if_pos (decide_eq_true q), if_pos q]; rfl
        · rw [if_neg (by simpa using q), if_neg q]; rfl
      refine ⟨rfl, _, rfl, _, rfl, b, _, rfl, .inr hb, rfl, flat_strs' _, _, rfl, ?_⟩
      show if inV (V.str t) (o.map V.str) = true then _ else _
      rw [inV_in]
      by_cases q : t ∈ o
      · rw [decide_eq_true q]
        rw [if_pos q] at rs
        refine iteT ⟨_, rfl, b, rfl, ⟨_, hb⟩, fun L nL => ?_⟩
        refine lc_tup (K := K) (a := b) (xs := o.map V.str) (fun j H3 => Same H2 H3 ∧ H3 L = some (.lst (((o.take j).filter fun z => decide (z ≠ t)).map V.str))) ⟨sm_new sm_refl nL, upd_same⟩ (fun j H3 _ ⟨s3, _⟩ => sqT_same s3 hb) ?_ ?_
        · rintro j y H3 hj ⟨s3, hL⟩
          rw [List.getElem?_map] at hj
          obtain ⟨z, hz', rfl⟩ := Option.map_eq_some_iff.mp hj
          have st2 := filt_one (q := fun z => decide (z ≠ t)) hz'
          have len2 : ((o.take j).filter fun z => decide (z ≠ t)).length ≤ 1000 := by
            refine Nat.le_trans (List.length_filter_le ..) ?_
            rw [List.length_take]
            omega
          refine ⟨rfl, _, rfl, _, rfl, rfl, _, rfl, ?_⟩
          have e : (!decide (V.str z = V.str t)) = decide (z ≠ t) := by
            by_cases q : z = t
            · rw [q]; simp
            · rw [decide_eq_true q, decide_eq_false fun z => q (V.str.inj z)]; rfl
          rw [e]
          by_cases q : z ≠ t
          · rw [decide_eq_true q]
            refine iteT ⟨_, rfl, _, hL, small1000 (by rw [List.length_map]; exact len2), sm_new s3 nL, ?_⟩
            rw [upd_same, st2, if_pos (decide_eq_true q), List.map_append]
            rfl
          · rw [decide_eq_false q]
            refine iteF ⟨s3, ?_⟩
            rw [st2, if_neg (by rw [decide_eq_false q]; exact Bool.false_ne_true), List.append_nil]
            exact hL
        rintro H3 ⟨s3, hL⟩
        rw [List.length_map, List.take_length] at hL
        refine ⟨L, _, rfl, .inl ⟨SqL.of hL, fun U nU => ?_⟩⟩
        have sU : Same H3 (upd H3 U (.tup ((o.filter fun z => decide (z ≠ t)).map V.str))) := sm_new sm_refl nU
        have gU : upd H3 U (.tup ((o.filter fun z => decide (z ≠ t)).map V.str)) U = some (.tup ((o.filter fun z => decide (z ≠ t)).map V.str)) := upd_same
        have s24 := s3.trans sU
        generalize upd H3 U (.tup ((o.filter fun z => decide (z ≠ t)).map V.str)) = H4 at sU gU s24 ⊢
        have hD4 := s24 _ _ hD
        have nt : NotT (H4 D) := by rw [hD4]; exact notT_lst
        refine ⟨ys, hD4, small1000 yl, sm_new (s2.trans s24) nD, _, upd_same, ?_⟩
        rw [rs]
        exact TupA.app (.put nt (tu.same s24)) (.put nt (.cons ⟨U, rfl, gU⟩ .nil))
      · rw [decide_eq_false q]
        rw [if_neg q, List.append_nil] at rs
        exact iteF ⟨s2, ys, hD, by rw [rs]; exact tu⟩
    rintro H2 ⟨s2, ys, hD, tu⟩
    rw [zl, List.take_length] at tu
    have yl := tu.len
    refine ⟨_, rfl, D, ys, (restS os t).map fun o => lsD (lenK o), .non, rfl, rfl, SqL.of hD, ?_, ⟨?_, ?_, ?_, ?_, ?_⟩, ?_, ?_⟩
    · intro d hd
      obtain ⟨x, _, rfl⟩ := List.mem_map.mp hd
      exact Ky.nn (lenK x)
    · rw [List.length_map, yl]
    · intro a ha b hb
      obtain ⟨x, _, rfl⟩ := List.mem_map.mp ha
      obtain ⟨y, _, rfl⟩ := List.mem_map.mp hb
      exact Ky.al (lenK x) (lenK y)
    · exact .inl fun d hd => by
        obtain ⟨x, _, rfl⟩ := List.mem_map.mp hd
        exact ⟨_, _, rfl⟩
    · intro d hd
      obtain ⟨x, _, rfl⟩ := List.mem_map.mp hd
      exact Nat.le_trans (Ky.dep (lenK x)) (by decide)
    · intro i x d hx hd' H' s'
      obtain ⟨o, b, ho, rfl, hb⟩ := TupA.get (tu.same s') hx
      rw [List.getElem?_map, ho] at hd'
      cases hd'
      exact ⟨b, o, rfl, SqT.of hb, fun v H'' s'' d'' => ⟨s'', d''⟩⟩
    · intro e
      rw [e] at yl
      have : restS os t = [] := List.length_eq_zero_iff.mp yl.symm
      refine k .non H2 s2 ?_
      unfold contS
      rw [this]
      exact .non
    · intro x H' s' hx
      obtain ⟨o, b, ho, rfl, hb⟩ := TupA.get (tu.same s') hx
      rw [yl] at ho
      have := cont_bst ho
      refine k _ H' (s2.trans s') ?_
      unfold contS
      rw [this]
      exact .tup (SqT.of hb) (strs_dp _)
end
end K26


set_option Elab.async false
set_option linter.all false
set_option maxRecDepth 100000
set_option maxHeartbeats 8000000
/-! contingency, _blame, blame -/
namespace K26
open PySem L2 Nd Bk Gd PySem.ExE
/-- a polynomial of few breakers -/
structure FewB (K : PySem.W.Frag) (v : V) (p : Poly) (H : Hp) : Prop where
  fd : FD K H v (bD p)
  tl : (toksP p).length ≤ 1000
  pl : p.length ≤ 1000
  mo : ∀ t ∈ p, MOk t.1
  fl : (byM p).flatten.length ≤ 1000
  few : ∀ j, j ≤ (byM p).length → (brkAt (byM p) j).length ≤ 400
theorem nd_byM (p : Poly) : ∀ o ∈ byM p, o.Nodup := fun o ho => asc_nd (byM_asc p o ho)
theorem brk_len {p : Poly} (few : ∀ j, j ≤ (byM p).length → (brkAt (byM p) j).length ≤ 400) : (brkS (byM p)).length ≤ 1000 := by
  rw [brkS_count (nd_byM p)]
  exact Nat.le_trans (few _ (Nat.le_refl _)) (by decide)
theorem brk_sub {os : List (List Str)} (nd : ∀ o ∈ os, o.Nodup) {x : List Str} (hx : x ∈ brkS os) : ∀ z ∈ x, ∃ o ∈ os, z ∈ o := fun z hz => by
  obtain ⟨_, mx, lx⟩ := (brkS_iff nd).mp hx
  have := lx (x.filter fun z => decide (z ∈ tksOf os)) (fun z hz => (List.mem_filter.mp hz).1) (fun b hb => by
    obtain ⟨w, wo, wb⟩ := mx b hb
    exact ⟨w, List.mem_filter.mpr ⟨wo, decide_eq_true (tks_mem.mpr ⟨b, hb, wb⟩)⟩, wb⟩) z hz
  exact tks_mem.mp (of_decide_eq_true (List.mem_filter.mp this).2)
theorem brk_each {p : Poly} (fl : (byM p).flatten.length ≤ 1000) : ∀ o ∈ brkS (byM p), o.length ≤ 1000 := fun o ho => by
  refine Nat.le_trans (nd_le (asc_nd ((brkS_iff (nd_byM p)).mp ho).1) (m := (byM p).flatten) fun z hz => ?_) fl
  obtain ⟨b, hb, hzb⟩ := brk_sub (nd_byM p) ho z hz
  exact List.mem_flatten.mpr ⟨b, hb, hzb⟩
def blaD : Option (List Str) → PyData
  | none => .tuple [.int 0, .int 1]
  | some r => .tuple [.int 1, .int (1 + (r.length : Nat))]
def spCont (K : PySem.W.Frag) : Sp := fun vs H Q _ => ∃ (v : V) (p : Poly) (t : Str), vs = [v, .str t] ∧ FewB K v p H ∧ ∀ (v' : V) (H' : Hp), Same H H' → Dp K H' v' (conD (contS (brkS (byM p)) t)) → Q v' H'
def spBla_ (K : PySem.W.Frag) : Sp := fun vs H Q _ => ∃ (v : V) (t : Str) (os : List (List Str)), vs = [v, .str t] ∧ Dp K H v (.tuple (os.map sD)) ∧ os.length ≤ 1000 ∧ (∀ o ∈ os, o.length ≤ 1000) ∧ ∀ (v' : V) (H' : Hp), Same H H' → Dp K H' v' (blaD (contS os t)) → Q v' H'
def spBlame (K : PySem.W.Frag) : Sp := fun vs H Q _ => ∃ (v : V) (p : Poly) (t : Str), vs = [v, .str t] ∧ FewB K v p H ∧ ∀ (v' : V) (H' : Hp), Same H H' → Dp K H' v' (blaD (contS (brkS (byM p)) t)) → Q v' H'
def spTwoX (K : PySem.W.Frag) (C : Addr) : Sp := fun vs H Q E => ∃ (v : V) (p : Poly) (t : Str), vs = [v, .str t] ∧ Over K v p H ∧ ∀ x H', Same H H' → H' x = some (.xd [("word", .str "sets")]) → E (.ref C) (some x) H'
section
variable {P : Program} {w : World} {K : PySem.W.Frag} {mg : Str → Option Value} {base : Heap} {C : Addr}
abbrev coN : List Str := ["p", "token"]
abbrev b_N : List Str := ["sets", "token", "rest"]
theorem scBla_ : FnScope b_N ["sets", "token"] (defScope sBla_) := ⟨rfl, rfl, rfl, by decide +kernel, rfl, by decide +kernel, by decide +kernel⟩
theorem ok_bla_ {f : Addr} {fd : FuncData} (F : Fun K "_blame" "_blame" sBla_ f fd) (N : Nm mg) (Gc : Df P w K mg base 4 "_contingency" ["sets", "token"] (spCon K)) : FnOk P w K mg base CX0 5 f fd ["sets", "token"] (spBla_ K) := by
  obtain ⟨fc, fdc, gC, kC, bC, GC⟩ := Gc.ok
  refine F.ok scBla_ (fun vs H Q E h => ?_) (fun cdv A outer s H vs Q E hr h => ?_)
  · obtain ⟨v, t, os, rfl, _⟩ := h
    rfl
  · obtain ⟨v, t, os, rfl, hd, ol, oz, k⟩ := h
    have hr4 : Room 4 _ := hr
    refine ⟨_, pss_cons (ps_set (i := 2) scBla_.nd rfl (Or.inl rfl) (pe_call GC hr4 rfl gC kC bC .nil pass0 (pa_cons (pv 0) (pa_cons (pv 1) pa_nil))))
      (pss_cons (ps_if (pt_cmpR op_isN (pv 2) pe_non (nomark _)) (pss_one (ps_ret (pe_tup (pa_cons pe_int (pa_cons pe_int pa_nil))))) pss_nil)
      (pss_one (ps_ret (pe_tup (pa_cons pe_int (pa_cons (pe_op op_add pe_int (pe_callB (show CallR _ _ (rLenS K) from call_len_seq) (by rfl) N.len PySem.boot_len (pa_cons (pv 2) pa_nil))) pa_nil)))))), ?_⟩
    refine ⟨_, rfl, _, rfl, v, t, os, rfl, hd, ol, oz, fun v1 H1 s1 d1 => ?_⟩
    cases e : contS os t with
    | none =>
      rw [e] at d1 k
      cases d1
      refine ⟨_, rfl, rfl, _, rfl, iteT ⟨(by show 2 ≤ sizeLine; decide), fun U nU => ?_⟩⟩
      exact k _ _ (s1.trans (sm_new sm_refl nU)) (.tup (SqT.of upd_same) (.cons (.int _) (.cons (.int _) .nil)))
    | some r =>
      rw [e] at d1 k
      obtain ⟨b, zs, rfl, hb, hz⟩ := dp_tup d1
      have zl : zs.length = r.length := by rw [dpAll_len hz, List.length_map]
      refine ⟨_, rfl, rfl, _, rfl, iteF ?_⟩
      refine ⟨_, rfl, b, zs, rfl, .inr hb, _, _, rfl, rfl, (by show 2 ≤ sizeLine; decide), fun U nU => ?_⟩
      refine k _ _ (s1.trans (sm_new sm_refl nU)) (.tup (SqT.of upd_same) (.cons (.int _) (.cons ?_ .nil)))
      rw [zl]
      exact .int _
end
end K26


set_option Elab.async false
set_option linter.all false
set_option maxRecDepth 100000
set_option maxHeartbeats 8000000
/-! pairs without a common token: the contingency of one of them -/
namespace K26
open PySem L2 Nd Bk Gd
def tkA (n : Int) : Str := Str.ofString "a" ++ Str.ofString (toString n)
def pairS (i : Nat) : List Str := sortU [tkA (2 * ((0 : Int) + (i : Nat)) + 1), tkA (2 * ((0 : Int) + (i : Nat)) + 2)]
def hdS (i : Nat) : Str := (pairS i).headD ⟨#[]⟩
def prsS (n : Nat) : List (List Str) := (List.range n).map pairS
theorem pair_asc (i : Nat) : AscK (pairS i) := sortU_asc _
theorem pair_two : ∀ i, i < 10 → (pairS i).length = 2 := by decide +kernel
theorem pair_apart : ∀ i, i < 10 → ∀ j, j < 10 → ∀ z ∈ pairS i, z ∈ pairS j → i = j := by decide +kernel
theorem pair_sh : ∀ i, i < 10 → ∀ z ∈ pairS i, shU z = true := by decide +kernel
theorem prs_blk : ∀ n, n ≤ 10 → BlkOk (prsS n) := fun n hn => ⟨(show ∀ n, n ≤ 10 → (prsS n).flatten.Nodup by decide +kernel) n hn, fun b hb => by
  obtain ⟨i, hi, rfl⟩ := List.mem_map.mp hb
  rw [pair_two i (by have := List.mem_range.mp hi; omega)]
  decide, fun b hb => by
  obtain ⟨i, hi, rfl⟩ := List.mem_map.mp hb
  exact pair_sh i (by have := List.mem_range.mp hi; omega), by unfold prsS; rw [List.length_map, List.length_range]; exact hn⟩
theorem prs_self (n : Nat) : (prsS n).map sortU = prsS n := by
  unfold prsS
  rw [List.map_map]
  exact List.map_congr_left fun i _ => sortU_self (pair_asc i)
theorem hd_mem {i : Nat} (h : i < 10) : hdS i ∈ pairS i := by
  have := pair_two i h
  unfold hdS
  cases e : pairS i with
  | nil => rw [e] at this; cases this
  | cons a r => exact List.mem_cons_self
theorem hd_least {i : Nat} {y : Str} (hy : y ∈ pairS i) : lt y (hdS i) = false := by
  have a := pair_asc i
  unfold hdS
  cases e : pairS i with
  | nil => rw [e] at hy; cases hy
  | cons b r =>
    rw [e] at hy a
    rcases List.mem_cons.mp hy with q | q
    · rw [q]; exact lt_irrefl _
    · exact lt_asymm ((List.pairwise_cons.mp a).1 y q)
/-- one of each in place of the first of each is not before them -/
theorem dom_le (φ : Str → Str) : ∀ {D r : List Str}, AscK D → AscK r → (∀ y ∈ r, φ y ∈ D ∧ lt y (φ y) = false) → (∀ y ∈ r, ∀ y' ∈ r, φ y = φ y' → y = y') → r.length = D.length → lt r D = false
  | [], [], _, _, _, _, _ => lt_irrefl _
  | [], _ :: _, _, _, _, _, l => by cases l
  | _ :: _, [], _, _, _, _, l => by cases l
  | d :: D, y :: r, aD, ar, h, inj, l => by
    obtain ⟨d1, d2⟩ := List.pairwise_cons.mp aD
    obtain ⟨r1, r2⟩ := List.pairwise_cons.mp ar
    obtain ⟨hy, ly⟩ := h y List.mem_cons_self
    rw [lt_consS]
    by_cases e : y = d
    · rw [if_pos e]
      have fy : φ y = d := by
        rcases List.mem_cons.mp hy with q | q
        · exact q
        · rw [e, d1 _ (e ▸ q)] at ly
          cases ly
      refine dom_le φ d2 r2 (fun y' hy' => ⟨?_, (h y' (List.mem_cons_of_mem _ hy')).2⟩) (fun a ha b hb => inj a (List.mem_cons_of_mem _ ha) b (List.mem_cons_of_mem _ hb)) (Nat.succ.inj l)
      rcases List.mem_cons.mp (h y' (List.mem_cons_of_mem _ hy')).1 with q | q
      · have := inj y' (List.mem_cons_of_mem _ hy') y List.mem_cons_self (q.trans fy.symm)
        have l2 := r1 y' hy'
        rw [this, lt_irrefl] at l2
        cases l2
      · exact q
    · rw [if_neg e]
      rcases List.mem_cons.mp hy with q | q
      · rw [← q]; exact ly
      · cases z : lt y d with
        | false => rfl
        | true => rw [lt_trans z (d1 _ q)] at ly; cases ly
theorem lt_alike {n : Int} {a b : List Str} (h : lt a b = false) : lt (n, a) (n, b) = false := by
  cases q : lt (n, a) (n, b) with
  | false => rfl
  | true =>
    cases r : lt b a with
    | true =>
      have := lt_asymm (lt_same (n := n) r)
      rw [q] at this
      cases this
    | false =>
      rw [lt_total h r, lt_irrefl] at q
      cases q
/-- the first of each other pair -/
def dueP (n a : Nat) : List Str := sortU (((List.range n).filter fun k => decide (k ≠ a)).map hdS)
section
variable {n a : Nat} {q : Poly} {t : Str}
theorem due_mem {z : Str} : z ∈ dueP n a ↔ ∃ k, k < n ∧ k ≠ a ∧ z = hdS k := by
  unfold dueP
  rw [sortU_mem, List.mem_map]
  constructor
  · rintro ⟨k, hk, rfl⟩
    obtain ⟨h1, h2⟩ := List.mem_filter.mp hk
    exact ⟨k, List.mem_range.mp h1, of_decide_eq_true h2, rfl⟩
  · rintro ⟨k, h1, h2, rfl⟩
    exact ⟨k, List.mem_filter.mpr ⟨List.mem_range.mpr h1, decide_eq_true h2⟩, rfl⟩
theorem cont_pairs (hn : n ≤ 10) (ha : a < n) (ht : t ∈ pairS a) (hq : IsSum q (prsS n)) : contS (brkS (byM q)) t = some (dueP n a) := by
  have ok := prs_blk n hn
  have hq' : IsSum q ((prsS n).map sortU) := by rw [prs_self]; exact hq
  have nd := nd_byM q
  have mem : ∀ x, x ∈ byM q ↔ ∃ k, k < n ∧ x = pairS k := fun x => by
    rw [blk_mem ok hq']
    constructor
    · rintro ⟨b, hb, rfl⟩
      obtain ⟨k, hk, rfl⟩ := List.mem_map.mp hb
      exact ⟨k, List.mem_range.mp hk, sortU_self (pair_asc k)⟩
    · rintro ⟨k, hk, rfl⟩
      exact ⟨_, List.mem_map.mpr ⟨k, List.mem_range.mpr hk, rfl⟩, (sortU_self (pair_asc k)).symm⟩
  have tnd : t ∉ dueP n a := fun h => by
    obtain ⟨k, h1, h2, e⟩ := due_mem.mp h
    exact h2 (pair_apart k (by omega) a (by omega) t (e ▸ hd_mem (by omega)) ht)
  -- the set of the token and the first ones
  have x0 : sortU (t :: dueP n a) ∈ brkS (byM q) := by
    refine (brkS_iff nd).mpr ⟨sortU_asc _, fun o ho => ?_, fun y sy my z hz => ?_⟩
    · obtain ⟨k, hk, rfl⟩ := (mem o).mp ho
      by_cases e : k = a
      · exact ⟨t, sortU_mem.mpr List.mem_cons_self, e ▸ ht⟩
      · exact ⟨hdS k, sortU_mem.mpr (List.mem_cons_of_mem _ (due_mem.mpr ⟨k, hk, e, rfl⟩)), hd_mem (by omega)⟩
    · have one : ∀ k, k < n → ∀ w ∈ t :: dueP n a, w ∈ pairS k → ∀ v ∈ t :: dueP n a, v ∈ pairS k → w = v := fun k hk w hw hwk v hv hvk => by
        rcases List.mem_cons.mp hw with e | e <;> rcases List.mem_cons.mp hv with g | g
        · rw [e, g]
        · obtain ⟨j, j1, j2, rfl⟩ := due_mem.mp g
          have := pair_apart k (by omega) j (by omega) _ hvk (hd_mem (by omega))
          have := pair_apart k (by omega) a (by omega) _ (e ▸ hwk) ht
          omega
        · obtain ⟨j, j1, j2, rfl⟩ := due_mem.mp e
          have := pair_apart k (by omega) j (by omega) _ hwk (hd_mem (by omega))
          have := pair_apart k (by omega) a (by omega) _ (g ▸ hvk) ht
          omega
        · obtain ⟨j, j1, j2, rfl⟩ := due_mem.mp g
          obtain ⟨i, i1, i2, rfl⟩ := due_mem.mp e
          have := pair_apart k (by omega) j (by omega) _ hvk (hd_mem (by omega))
          have := pair_apart k (by omega) i (by omega) _ hwk (hd_mem (by omega))
          rw [show i = j by omega]
      have hz := sortU_mem.mp hz
      obtain ⟨k, hk, zk⟩ : ∃ k, k < n ∧ z ∈ pairS k := by
        rcases List.mem_cons.mp hz with e | e
        · exact ⟨a, ha, e ▸ ht⟩
        · obtain ⟨j, j1, j2, rfl⟩ := due_mem.mp e
          exact ⟨j, j1, hd_mem (by omega)⟩
      obtain ⟨w, wy, wk⟩ := my (pairS k) ((mem _).mpr ⟨k, hk, rfl⟩)
      rw [one k hk z hz zk w (sortU_mem.mp (sy w wy)) wk]
      exact wy
  have e0 : (sortU (t :: dueP n a)).filter (fun z => decide (z ≠ t)) = dueP n a := ascK_extG (List.Pairwise.filter _ (sortU_asc _)) (sortU_asc _) fun z => by
    rw [List.mem_filter, sortU_mem, List.mem_cons, decide_eq_true_eq]
    constructor
    · rintro ⟨h1 | h1, h2⟩
      · exact absurd h1 h2
      · exact h1
    · intro h
      exact ⟨.inr h, fun e => tnd (e ▸ h)⟩
  refine head_least (e0 ▸ List.mem_map.mpr ⟨_, List.mem_filter.mpr ⟨x0, decide_eq_true (sortU_mem.mpr List.mem_cons_self)⟩, rfl⟩) fun r hr => ?_
  obtain ⟨x, hx, rfl⟩ := List.mem_map.mp hr
  obtain ⟨hx, tx⟩ := List.mem_filter.mp hx
  have tx := of_decide_eq_true tx
  obtain ⟨ax, mx, lx⟩ := (brkS_iff nd).mp hx
  -- as many
  have drop : ∀ {x : List Str}, x ∈ brkS (byM q) → t ∈ x → (x.filter fun z => decide (z ≠ t)).length + 1 = n := fun {x} hx tx => by
    have l := blk_len ok hq' hx
    have nfx : (x.filter fun z => decide (z ≠ t)).Nodup := List.Pairwise.filter _ (asc_nd ((brkS_iff nd).mp hx).1)
    have p : (t :: x.filter fun z => decide (z ≠ t)).Perm x := (List.perm_ext_iff_of_nodup (List.nodup_cons.mpr ⟨fun h => (of_decide_eq_true (List.mem_filter.mp h).2) rfl, nfx⟩) (asc_nd ((brkS_iff nd).mp hx).1)).mpr fun z => by
      rw [List.mem_cons, List.mem_filter, decide_eq_true_eq]
      constructor
      · rintro (h | h)
        · rw [h]; exact tx
        · exact h.1
      · intro h
        by_cases e : z = t
        · exact .inl e
        · exact .inr ⟨h, e⟩
    have := p.length_eq
    rw [List.length_cons] at this
    unfold prsS at l
    rw [List.length_map, List.length_range] at l
    omega
  have l1 := drop hx tx
  have l2 := drop x0 (sortU_mem.mpr List.mem_cons_self)
  rw [e0] at l2
  have len : (x.filter fun z => decide (z ≠ t)).length = (dueP n a).length := by omega
  unfold lenK
  rw [len]
  refine lt_alike ?_
  -- each in its pair
  have inp : ∀ y ∈ x.filter (fun z => decide (z ≠ t)), ∃ k, k < n ∧ k ≠ a ∧ y ∈ pairS k := fun y hy => by
    obtain ⟨y1, y2⟩ := List.mem_filter.mp hy
    obtain ⟨o, ho, yo⟩ := brk_sub nd hx y y1
    obtain ⟨k, hk, rfl⟩ := (mem o).mp ho
    refine ⟨k, hk, fun e => ?_, yo⟩
    have := blk_one ok hq' hx (b := pairS a) (List.mem_map.mpr ⟨a, List.mem_range.mpr ha, rfl⟩)
    have two := nd_le (l := [y, t]) (m := (pairS a).filter fun z => decide (z ∈ x)) (List.nodup_cons.mpr ⟨fun h => (of_decide_eq_true y2) (List.mem_singleton.mp h), List.nodup_cons.mpr ⟨List.not_mem_nil, List.nodup_nil⟩⟩) fun w hw => by
      simp only [List.mem_cons, List.not_mem_nil, or_false] at hw
      rcases hw with rfl | rfl
      · exact List.mem_filter.mpr ⟨e ▸ yo, decide_eq_true y1⟩
      · exact List.mem_filter.mpr ⟨ht, decide_eq_true tx⟩
    rw [this] at two
    exact absurd (show 2 ≤ 1 from two) (by decide)
  have same : ∀ k, k < n → ∀ y ∈ x, y ∈ pairS k → ∀ y' ∈ x, y' ∈ pairS k → y = y' := fun k hk y hy yk y' hy' yk' => Classical.byContradiction fun ne => by
    have := blk_one ok hq' hx (b := pairS k) (List.mem_map.mpr ⟨k, List.mem_range.mpr hk, rfl⟩)
    have two := nd_le (l := [y, y']) (m := (pairS k).filter fun z => decide (z ∈ x)) (List.nodup_cons.mpr ⟨fun h => ne (List.mem_singleton.mp h), List.nodup_cons.mpr ⟨List.not_mem_nil, List.nodup_nil⟩⟩) fun w hw => by
      simp only [List.mem_cons, List.not_mem_nil, or_false] at hw
      rcases hw with rfl | rfl
      · exact List.mem_filter.mpr ⟨yk, decide_eq_true hy⟩
      · exact List.mem_filter.mpr ⟨yk', decide_eq_true hy'⟩
    rw [this] at two
    exact absurd (show 2 ≤ 1 from two) (by decide)
  let φ : Str → Str := fun y => (((List.range n).filter fun k => decide (y ∈ pairS k)).map hdS).headD y
  have φ_is : ∀ {y : Str} {k : Nat}, k < n → y ∈ pairS k → φ y = hdS k := fun {y k} hk yk => by
    have e : ((List.range n).filter fun j => decide (y ∈ pairS j)) = [k] := by
      have all : ∀ j ∈ (List.range n).filter (fun j => decide (y ∈ pairS j)), j = k := fun j hj => by
        obtain ⟨h1, h2⟩ := List.mem_filter.mp hj
        have := List.mem_range.mp h1
        exact pair_apart j (by omega) k (by omega) y (of_decide_eq_true h2) yk
      have km : k ∈ (List.range n).filter (fun j => decide (y ∈ pairS j)) := List.mem_filter.mpr ⟨List.mem_range.mpr hk, decide_eq_true yk⟩
      have lone := one_len (List.Pairwise.filter _ List.nodup_range) km all
      obtain ⟨j, ej⟩ := List.length_eq_one_iff.mp lone
      rw [ej]
      rw [ej] at km
      rw [List.mem_singleton.mp km]
    show (((List.range n).filter fun j => decide (y ∈ pairS j)).map hdS).headD y = hdS k
    rw [e]
    rfl
  refine dom_le φ (sortU_asc _) (List.Pairwise.filter _ ax) (fun y hy => ?_) (fun y hy y' hy' e => ?_) len
  · obtain ⟨k, h1, h2, h3⟩ := inp y hy
    rw [φ_is h1 h3]
    exact ⟨due_mem.mpr ⟨k, h1, h2, rfl⟩, hd_least h3⟩
  · obtain ⟨k, h1, h2, h3⟩ := inp y hy
    obtain ⟨k', g1, g2, g3⟩ := inp y' hy'
    rw [φ_is h1 h3, φ_is g1 g3] at e
    have kk : k = k' := pair_apart k (by omega) k' (by omega) _ (hd_mem (by omega)) (e ▸ hd_mem (by omega))
    exact same k h1 y (List.mem_filter.mp hy).1 h3 y' (List.mem_filter.mp hy').1 (kk ▸ g3)
theorem due_many (hn : n ≤ 10) (ha : a < n) (hq : IsSum q (prsS n)) : (dueP n a).length + 1 = n := by
  have ok := prs_blk n hn
  have nd := nd_byM q
  unfold dueP
  have e1 : (((List.range n).filter fun k => decide (k ≠ a)).map hdS).Nodup := by
    rw [List.Nodup, List.pairwise_map]
    refine List.Pairwise.imp_of_mem (fun {i j} hi hj ne e => ne ?_) (List.Pairwise.filter _ List.nodup_range)
    have := List.mem_range.mp (List.mem_filter.mp hi).1
    have := List.mem_range.mp (List.mem_filter.mp hj).1
    exact pair_apart i (by omega) j (by omega) _ (hd_mem (by omega)) (e ▸ hd_mem (by omega))
  rw [sortU_same_len e1, List.length_map]
  have nfr : ((List.range n).filter fun k => decide (k ≠ a)).Nodup := List.Pairwise.filter _ List.nodup_range
  have p : (a :: (List.range n).filter fun k => decide (k ≠ a)).Perm (List.range n) := (List.perm_ext_iff_of_nodup (List.nodup_cons.mpr ⟨fun h => (of_decide_eq_true (List.mem_filter.mp h).2) rfl, nfr⟩) List.nodup_range).mpr fun z => by
    rw [List.mem_cons, List.mem_filter, decide_eq_true_eq]
    constructor
    · rintro (h | h)
      · rw [h]; exact List.mem_range.mpr ha
      · exact h.1
    · intro h
      by_cases e : z = a
      · exact .inl e
      · exact .inr ⟨h, e⟩
  have := p.length_eq
  rw [List.length_cons, List.length_range] at this
  omega
end
end K26


set_option Elab.async false
set_option linter.all false
set_option maxRecDepth 100000
set_option maxHeartbeats 8000000
/-! _law_pairs -/
namespace K26
open PySem L2 Nd Bk Gd
/-- lists of tokens, none of them at these places -/
def LisA (av : List Addr) (H : Hp) (ys : List V) (os : List (List Str)) : Prop := Paired (fun (y : V) (o : List Str) => ∃ b, y = .ref b ∧ b ∉ av ∧ H b = some (.lst (o.map V.str))) ys os
section
variable {av : List Addr} {H H' : Hp} {ys : List V} {os : List (List Str)}
theorem LisA.same (l : LisA av H ys os) (s : Same H H') : LisA av H' ys os := Paired.mapP l fun _ _ ⟨b, e, n, h⟩ => ⟨b, e, n, s _ _ h⟩
theorem LisA.but {p : Addr} (l : LisA av H ys os) (k : But p H H') (m : p ∈ av) : LisA av H' ys os := Paired.mapP l fun _ _ ⟨b, e, n, h⟩ => ⟨b, e, n, k _ _ h fun q => n (by rw [q]; exact m)⟩
theorem LisA.put {a : Addr} {u : HO} (l : LisA av H ys os) (m : a ∈ av) : LisA av (upd H a u) ys os := Paired.mapP l fun _ _ ⟨b, e, n, h⟩ => ⟨b, e, n, by
  rw [upd_ne fun q => n (by rw [q]; exact m)]
  exact h⟩
theorem LisA.app {b : Addr} {o : List Str} (l : LisA av H ys os) (n : b ∉ av) (h : H b = some (.lst (o.map V.str))) : LisA av H (ys ++ [.ref b]) (os ++ [o]) := by
  unfold LisA at *
  induction l with
  | nil => exact .cons ⟨b, rfl, n, h⟩ .nil
  | cons a _ ih => exact .cons a ih
theorem LisA.len (l : LisA av H ys os) : ys.length = os.length := Paired.length l
theorem LisA.get : ∀ {ys : List V} {os : List (List Str)} {j : Nat} {x : V}, LisA av H ys os → ys[j]? = some x → ∃ o b, os[j]? = some o ∧ x = .ref b ∧ b ∉ av ∧ H b = some (.lst (o.map V.str))
  | _, _, 0, x, .cons ⟨b, e, n, q⟩ _, h => by
    have h' := Option.some.inj h
    subst h'
    exact ⟨_, b, rfl, e, n, q⟩
  | _, _, j + 1, x, .cons _ r, h => LisA.get (j := j) r h
end
theorem pairs_prod : ∀ n, n ≤ 10 → (8 < n → 400 < Bg.prodN ((prsS n).map List.length)) ∧ (n ≤ 8 → Bg.prodN ((prsS n).map List.length) ≤ 400) := by decide +kernel
theorem pairs_toks {n : Nat} {q : Poly} (hn : n ≤ 10) (isum : IsSum q (prsS n)) (ql : q.length ≤ n) : (toksP q).length ≤ 1000 ∧ (byM q).flatten.length ≤ 1000 ∧ ((byM q).length = n) := by
  have ok := prs_blk n hn
  have hq' : IsSum q ((prsS n).map sortU) := by rw [prs_self]; exact isum
  have two : ∀ o ∈ prsS n, o.length ≤ 2 := fun o ho => by
    obtain ⟨i, hi, rfl⟩ := List.mem_map.mp ho
    have := pair_two i (by have := List.mem_range.mp hi; omega)
    omega
  have bl : (byM q).length = n := by
    rw [(blk_perm ok hq').length_eq, List.length_map]
    unfold prsS
    rw [List.length_map, List.length_range]
  refine ⟨?_, ?_, bl⟩
  · refine Nat.le_trans (flatL_len (n := 2) fun t ht => ?_) (by omega)
    obtain ⟨o, ho, e⟩ := (isum t.1).mp ⟨t.2, ht⟩
    rw [List.length_map, e]
    unfold monoS
    rw [List.length_map]
    exact two o ho
  · rw [← List.flatMap_id]
    refine Nat.le_trans (flatL_len (f := id) (n := 2) fun o ho => ?_) (by omega)
    obtain ⟨b, hb, rfl⟩ := (blk_mem ok hq' _).mp ho
    exact Nat.le_trans (sortU_len b) (two b hb)
theorem over_pairs {K : PySem.W.Frag} {v : V} {n : Nat} {q : Poly} {H : Hp} (h8 : 8 < n) (hn : n ≤ 10) (dv : Dp K H v (bD q)) (pok : POk q) (isum : IsSum q (prsS n)) (ql : q.length ≤ n) : Over K v q H := by
  obtain ⟨t1, t2, _⟩ := pairs_toks hn isum ql
  exact ⟨FD.of dv (tu_bD _), t1, by omega, pok.2.2, t2, blk_over (prs_blk n hn) (by rw [prs_self]; exact isum) ((pairs_prod n hn).1 h8)⟩
theorem few_pairs {K : PySem.W.Frag} {v : V} {n : Nat} {q : Poly} {H : Hp} (hn : n ≤ 8) (dv : Dp K H v (bD q)) (pok : POk q) (isum : IsSum q (prsS n)) (ql : q.length ≤ n) : FewB K v q H := by
  obtain ⟨t1, t2, _⟩ := pairs_toks (by omega) isum ql
  exact ⟨FD.of dv (tu_bD _), t1, by omega, pok.2.2, t2, blk_few (prs_blk n (by omega)) (by rw [prs_self]; exact isum) ((pairs_prod n (by omega)).2 hn)⟩
def spPrs (K : PySem.W.Frag) : Sp := fun vs H Q _ => ∃ (p c : Addr) (ns : List Int), vs = [.ref p] ∧ StAt H p c ns ∧ ∀ H', Q (.bl true) H'
section
variable {P : Program} {w : World} {K : PySem.W.Frag} {mg : Str → Option Value} {base : Heap}
abbrev prN : List Str := ["state", "many", "pairs", "k", "book", "pair", "token", "p", "at", "due"]
end
end K26


set_option Elab.async false
set_option linter.all false
set_option maxRecDepth 100000
set_option maxHeartbeats 8000000
/-! law -/
namespace K26
open PySem L2 Nd Bk Gd PySem.ExE
theorem set_seq {i : Nat} {v : V} {t u : TS} {D : Ends} {r : VK} {b c : St → Hp → Prop} {σ : St} {H : Hp} (h : tSeq t u D (σ.set i (some v)) H) : gName i v σ H (Ends.nx { nx := tSeq t u D, rt := r, bk := b, ct := c }) := h
/-- behind an `if` both ways come to the same -/
theorem seq_if {t : TT} {ts u : TS} {D : Ends} {σ : St} {H : Hp} (B : St → Hp → Prop) (h : ∀ D' : Ends, (∀ τ H', B τ H' → D'.nx τ H') → tIfS t ts tNext D' σ H) (n : ∀ τ H', B τ H' → u D τ H') : tSeq (tIfS t ts tNext) u D σ H := h _ n
theorem tu_con : ∀ r, tupOnly (conD r) = true
  | none => rfl
  | some r => tu_sD r
theorem tu_bla : ∀ r, tupOnly (blaD r) = true
  | none => rfl
  | some r => rfl
theorem okd_con {r : Option (List Str)} (h : ∀ x, r = some x → x.length ≤ 1000) : Okd 3 (conD r) := by
  cases r with
  | none => exact .inl .non
  | some x => exact .inr (.inr ⟨_, rfl, by rw [List.length_map]; exact h x rfl, fun e he => by
      obtain ⟨z, _, rfl⟩ := List.mem_map.mp he
      exact .inr (.inl ⟨_, rfl⟩)⟩)
theorem okd_bla : ∀ r, Okd 3 (blaD r)
  | none => .inr (.inr ⟨_, rfl, by show 2 ≤ 1000; decide, fun e he => by
      simp only [List.mem_cons, List.not_mem_nil, or_false] at he
      rcases he with rfl | rfl
      · exact .inl (.int _)
      · exact .inl (.int _)⟩)
  | some r => .inr (.inr ⟨_, rfl, by show 2 ≤ 1000; decide, fun e he => by
      simp only [List.mem_cons, List.not_mem_nil, or_false] at he
      rcases he with rfl | rfl
      · exact .inl (.int _)
      · exact .inl (.int _)⟩)
theorem cont_len {os : List (List Str)} {t : Str} (h : ∀ o ∈ os, o.length ≤ 1000) : ∀ x, contS os t = some x → x.length ≤ 1000 := fun x e => by
  have xm : x ∈ szs (restS os t) := List.mem_of_mem_head? e
  obtain ⟨b, hb, rfl⟩ := List.mem_map.mp (szs_iff.mp xm)
  exact Nat.le_trans (List.length_filter_le ..) (h b (List.mem_filter.mp hb).1)
/-- what stands while a token is asked about -/
structure LwP (K : PySem.W.Frag) (p c : Addr) (ns : List Int) (v v6 : V) (pl : Poly) (t : Str) (H : Hp) : Prop where
  st : StAt H p c ns
  dv : Dp K H v (bD pl)
  du : Dp K H v6 (conD (contS (brkS (byM pl)) t))
section
variable {K : PySem.W.Frag} {p c : Addr} {ns : List Int} {v v6 : V} {pl : Poly} {t : Str} {H H' : Hp}
theorem LwP.but (L : LwP K p c ns v v6 pl t H) (k : But p H H') (s : StAt H' p c ns) : LwP K p c ns v v6 pl t H' :=
  ⟨s, dp_kt0 (.but L.st.notT k) L.dv (tu_bD _), dp_kt0 (.but L.st.notT k) L.du (tu_con _)⟩
theorem LwP.same (L : LwP K p c ns v v6 pl t H) (s : Same H H') : LwP K p c ns v v6 pl t H' := L.but (But.refl.same s) (L.st.same s)
end
def spYLaw (K : PySem.W.Frag) : Sp := fun vs H Q _ => ∃ (a : Addr) (ns : List Int), vs = [.ref a] ∧ SqL K H a (ns.map V.int) ∧ ns.length ≤ 63 ∧ ∀ H', Q (.bl true) H'
section
variable {P : Program} {w : World} {K : PySem.W.Frag} {mg : Str → Option Value} {base : Heap}
abbrev lwN : List Str := ["script", "state", "turn", "tokens", "p", "token", "due", "told", "share"]
end
end K26


set_option Elab.async false
set_option linter.all false
set_option maxRecDepth 100000
set_option maxHeartbeats 8000000
/-! two numbers and a text, and what the law ranks by: keys of their own -/
namespace K26
open PySem L2 Nd Bk Gd
structure TriK where
  a : Int
  b : Int
  c : Str
deriving DecidableEq
structure RnkK where
  r : Int
  t : Str
  n : Int
  d : Int
deriving DecidableEq
def triD (x : TriK) : PyData := .tuple [.int x.a, .int x.b, .str x.c]
def rnkD (x : RnkK) : PyData := .tuple [.int x.r, .str x.t, .tuple [.int x.n, .int x.d]]
theorem toks_tri (x : TriK) : PySem.W.keyToks (triD x) = [.inl 1, .inl x.a, .inl 1, .inl x.b, .inl 1, .inr x.c.cps.toList, .inl 0] := by simp [triD, PySem.W.keyToks, PySem.W.keyToksAll]
theorem toks_rnk (x : RnkK) : PySem.W.keyToks (rnkD x) = [.inl 1, .inl x.r, .inl 1, .inr x.t.cps.toList, .inl 1, .inl 1, .inl x.n, .inl 1, .inl x.d, .inl 0, .inl 0] := by simp [rnkD, PySem.W.keyToks, PySem.W.keyToksAll]
instance : Ky TriK where
  enc := triD
  al := fun a b => by simp [triD, PySem.W.alike, PySem.W.alikeAll]
  inj := fun x y h => by
    rw [toks_tri, toks_tri] at h
    simp only [List.cons.injEq, Sum.inl.injEq, Sum.inr.injEq, and_true, true_and] at h
    obtain ⟨h1, h2, h3⟩ := h
    cases x; cases y
    simp only at h1 h2 h3
    rw [h1, h2, PySem.W.str_of_cps h3]
  eqv := fun x y => by
    by_cases h : x = y
    · subst h
      simp [triD, PyData.eqv, PyData.eqvAll]
    · rw [decide_eq_false h]
      cases x; cases y
      simp only [TriK.mk.injEq, not_and] at h
      simp only [triD, PyData.eqv, PyData.eqvAll, Bool.and_true]
      simp
      exact h
  nn := fun a h => nomatch h
  dep := fun a => by simp [triD, PyData.depth, PyData.depthAll]
instance : Ky RnkK where
  enc := rnkD
  al := fun a b => by simp [rnkD, PySem.W.alike, PySem.W.alikeAll]
  inj := fun x y h => by
    rw [toks_rnk, toks_rnk] at h
    simp only [List.cons.injEq, Sum.inl.injEq, Sum.inr.injEq, and_true, true_and] at h
    obtain ⟨h1, h2, h3, h4⟩ := h
    cases x; cases y
    simp only at h1 h2 h3 h4
    rw [h1, h3, h4, PySem.W.str_of_cps h2]
  eqv := fun x y => by
    by_cases h : x = y
    · subst h
      simp [rnkD, PyData.eqv, PyData.eqvAll]
    · rw [decide_eq_false h]
      cases x; cases y
      simp only [RnkK.mk.injEq, not_and] at h
      simp only [rnkD, PyData.eqv, PyData.eqvAll, Bool.and_true]
      simp
      exact h
  nn := fun a h => nomatch h
  dep := fun a => by simp [rnkD, PyData.depth, PyData.depthAll]
section
variable {x y : TriK}
theorem tri_a (h : x.a ≠ y.a) : lt x y = decide (x.a < y.a) := by
  show PySem.W.dataLt (triD x) (triD y) = _
  unfold PySem.W.dataLt
  rw [toks_tri, toks_tri, PyProof.Rows.lex_self (O := PyProof.Rows.itemOrd), PySem.W.lex_atom (fun z => h (Sum.inl.inj z)), ← PySem.W.dataLt_int]
  rfl
theorem tri_b (e : x.a = y.a) (h : x.b ≠ y.b) : lt x y = decide (x.b < y.b) := by
  show PySem.W.dataLt (triD x) (triD y) = _
  unfold PySem.W.dataLt
  rw [toks_tri, toks_tri, e, PyProof.Rows.lex_self (O := PyProof.Rows.itemOrd), PyProof.Rows.lex_self (O := PyProof.Rows.itemOrd), PyProof.Rows.lex_self (O := PyProof.Rows.itemOrd), PySem.W.lex_atom (fun z => h (Sum.inl.inj z)), ← PySem.W.dataLt_int]
  rfl
theorem tri_c (e : x.a = y.a) (f : x.b = y.b) (h : x.c ≠ y.c) : lt x y = lt x.c y.c := by
  show PySem.W.dataLt (triD x) (triD y) = PySem.W.dataLt (.str x.c) (.str y.c)
  unfold PySem.W.dataLt
  rw [toks_tri, toks_tri, e, f, PyProof.Rows.lex_self (O := PyProof.Rows.itemOrd), PyProof.Rows.lex_self (O := PyProof.Rows.itemOrd), PyProof.Rows.lex_self (O := PyProof.Rows.itemOrd), PyProof.Rows.lex_self (O := PyProof.Rows.itemOrd), PyProof.Rows.lex_self (O := PyProof.Rows.itemOrd), PySem.W.lex_atom (fun z => h (PySem.W.str_of_cps (Sum.inr.inj z)))]
  rfl
end
section
variable {x y : RnkK}
theorem rnk_r (h : x.r ≠ y.r) : lt x y = decide (x.r < y.r) := by
  show PySem.W.dataLt (rnkD x) (rnkD y) = _
  unfold PySem.W.dataLt
  rw [toks_rnk, toks_rnk, PyProof.Rows.lex_self (O := PyProof.Rows.itemOrd), PySem.W.lex_atom (fun z => h (Sum.inl.inj z)), ← PySem.W.dataLt_int]
  rfl
theorem rnk_t (e : x.r = y.r) (h : x.t ≠ y.t) : lt x y = lt x.t y.t := by
  show PySem.W.dataLt (rnkD x) (rnkD y) = PySem.W.dataLt (.str x.t) (.str y.t)
  unfold PySem.W.dataLt
  rw [toks_rnk, toks_rnk, e, PyProof.Rows.lex_self (O := PyProof.Rows.itemOrd), PyProof.Rows.lex_self (O := PyProof.Rows.itemOrd), PyProof.Rows.lex_self (O := PyProof.Rows.itemOrd), PySem.W.lex_atom (fun z => h (PySem.W.str_of_cps (Sum.inr.inj z)))]
  rfl
end
/-- the key of a token's blame -/
def triK (r : Option (List Str)) (t : Str) : TriK := match r with
  | none => ⟨1, 1, t⟩
  | some x => ⟨0, 1 + (x.length : Nat), t⟩
/-- what the law ranks it by -/
def rnkK (r : Option (List Str)) (t : Str) : RnkK := match r with
  | none => ⟨1001, t, 0, 1⟩
  | some x => ⟨1 + (x.length : Nat), t, 1, 1 + (x.length : Nat)⟩
theorem triK_c (r : Option (List Str)) (t : Str) : (triK r t).c = t := by cases r <;> rfl
theorem rnkK_t (r : Option (List Str)) (t : Str) : (rnkK r t).t = t := by cases r <;> rfl
/-- both ranks are the same order -/
theorem ranks {r s : Option (List Str)} {t u : Str} (lr : ∀ x, r = some x → x.length ≤ 900) (ls : ∀ x, s = some x → x.length ≤ 900) (h : lt (rnkK r t) (rnkK s u) = true) (ne : t ≠ u) : lt (triK r t) (triK s u) = true := by
  cases r with
  | none =>
    cases s with
    | none =>
      rw [rnk_t (x := rnkK none t) (y := rnkK none u) rfl ne] at h
      rw [tri_c (x := triK none t) (y := triK none u) rfl rfl ne]
      exact h
    | some y =>
      have := ls y rfl
      rw [rnk_r (by show (1001 : Int) ≠ 1 + (y.length : Nat); omega)] at h
      have h := of_decide_eq_true h
      have h : (1001 : Int) < 1 + (y.length : Nat) := h
      omega
  | some x =>
    have l1 := lr x rfl
    cases s with
    | none => rw [tri_a (by show (0 : Int) ≠ 1; decide)]; rfl
    | some y =>
      have l2 := ls y rfl
      by_cases e : x.length = y.length
      · rw [rnk_t (by show (1 : Int) + (x.length : Nat) = 1 + (y.length : Nat); omega) ne] at h
        rw [tri_c (x := triK (some x) t) (y := triK (some y) u) rfl (by show (1 : Int) + (x.length : Nat) = 1 + (y.length : Nat); omega) ne]
        exact h
      · rw [rnk_r (by show (1 : Int) + (x.length : Nat) ≠ 1 + (y.length : Nat); omega)] at h
        rw [tri_b (x := triK (some x) t) (y := triK (some y) u) rfl (by show (1 : Int) + (x.length : Nat) ≠ 1 + (y.length : Nat); omega)]
        exact h
end K26


set_option Elab.async false
set_option linter.all false
set_option maxRecDepth 100000
set_option maxHeartbeats 8000000
/-! tokens_of, _blame_order, blames -/
namespace K26
open PySem L2 Nd Bk Gd PySem.ExE
section
variable {P : Program} {w : World} {K : PySem.W.Frag} {mg : Str → Option Value} {base : Heap} {C : Addr}
theorem ok_tks2 {f : Addr} {fd : FuncData} (F : Fun K "tokens_of" "tokens_of" sTokens f fd) (N : Nm mg) (srt' : mg "sorted" = none) : FnOk P w K mg base CX0 1 f fd ["p"] (spTks K) := by
  refine F.ok scTks (fun vs H Q E h => ?_) (fun cdv A outer s H vs Q E hr h => ?_)
  · obtain ⟨v, p, rfl, _⟩ := h
    rfl
  · obtain ⟨v, p, rfl, hd, okp, hz, hln, k⟩ := h
    refine ⟨_, pss_one (ps_ret (pe_callTy call_tuple_of (by rfl) N.tup (by rfl) (pa_cons (pe_callB (Sx.cr_sortS rfl (u64 hr)) (by rfl) srt' (by rfl) (pa_cons
      (Sx.pe_sc2 (own := [("term", 1), ("pair", 2)]) (vs1 := [2]) (g := gName 1) (g1 := gName 2) rfl scTks.nd (pi_seq (pv 0)) (blkOk_by (N := ["p", "term", "pair"]) (sc := defScope sTokens) (by decide +kernel)) (by decide)
        (fun _ _ _ _ _ => pg_name (i := 1) scTks.nd rfl (Or.inl rfl)) (fun _ _ _ _ _ => show PI _ _ _ (iSeq K (tOp (rIx K) (tVar 1) (tC (.int 0)))) from pi_seq (pe_ix ix_seq (pv 1) pe_int (fun _ _ => rfl)))
        (fun _ _ _ _ _ => pg_name (i := 2) scTks.nd rfl (Or.inl rfl)) (fun _ _ _ _ _ => show PE _ _ (tOp (rIx K) (tVar 2) (tC (.int 0))) from pe_ix ix_seq (pv 2) pe_int (fun _ _ => rfl))) pa_nil)) pa_nil))), ?_⟩
    obtain ⟨a, xs, rfl, hs, hl, hget⟩ := fd_bag hd
    have lim : ∀ {l r : List Str}, toksP p = l ++ r → (so l).length ≤ 1000 := fun {l r} e => by
      refine Nat.le_trans (so_len l r) ?_
      rw [← e, ← sortK_len (dd_nodup _ [] List.nodup_nil)]
      exact hln
    refine seq_go rfl hs fun J G walk hG D nD => ?_
    refine turns walk (fun i H2 => Same H H2 ∧ H2 D = some (Sx.SetSO w D (so (toksP (p.take i))))) ⟨sm_new sm_refl nD, upd_same⟩ (fun i H2 _ ⟨s2, _⟩ => hG H2 s2.seq (sqT_same s2)) ?_ ?_
    · rintro i x _ H2 hi ⟨s2, hD⟩ ⟨rfl, hx⟩
      obtain ⟨t, ht, hxt⟩ := hget i x hx
      obtain ⟨T, kk, rfl, hT, hk⟩ := fd_pair hxt
      obtain ⟨b, zs, rfl, hb, hbl, hbget⟩ := fd_bag (κ := Str) hk
      refine ⟨rfl, ?_⟩
      refine seq_goS (a := b) (xs := zs) (fun Q q => ⟨_, rfl, (fd_ix (sq_same s2 hT) Q).2 q⟩) s2 hb fun J2 G2 walk2 hG2 => ?_
      refine turns walk2 (fun j H3 => Same H H3 ∧ H3 D = some (Sx.SetSO w D (so (toksP (p.take i) ++ (t.1.take j).map (·.1))))) ⟨s2, by simpa using hD⟩ (fun j H3 _ ⟨s3, _⟩ => hG2 H3 s3) ?_ ?_
      · rintro j y _ H3 hj ⟨s3, hD3⟩ ⟨rfl, hy⟩
        obtain ⟨q, hq, hyq⟩ := hbget j y hy
        obtain ⟨U, kk2, rfl, hU, hkk⟩ := fd_pair hyq
        cases fd_str (z := q.1) hkk
        obtain ⟨r, hr2⟩ := toksP_part ht j
        have := lim hr2
        refine ⟨rfl, _, rfl, (fd_ix (sq_same s3 hU) _).2 ⟨q.1, _, rfl, hD3, ?_, sm_new s3 nD, ?_⟩⟩
        · show _ < 4096
          omega
        · rw [upd_same, so_snoc, List.take_succ, hq, List.map_append, List.append_assoc]
          rfl
      · rintro H3 ⟨s3, hD3⟩
        rw [hbl, List.take_length, ← toksP_take ht] at hD3
        exact ⟨s3, hD3⟩
    · rintro H2 ⟨s2, hD⟩
      rw [hl, List.take_length] at hD
      refine ⟨D, _, rfl, hD, Nat.le_trans (lim (List.append_nil _).symm) (by decide), fun ks l pk nl => ?_⟩
      have pks : ks.Perm (seen p) := pk.trans (List.reverse_perm _)
      have e : Sx.srtT ks = tokK p := by
        rw [srtT_sortK (pks.nodup_iff.mpr (seen_nodup p)), tokK_seen]
        obtain ⟨a1, a2⟩ := sortK_ok ks [] (by simpa using pks.nodup_iff.mpr (seen_nodup p)) List.Pairwise.nil
        obtain ⟨b1, b2⟩ := sortK_ok (seen p) [] (by simpa using seen_nodup p) List.Pairwise.nil
        refine ascK_ext a1 b1 fun k => ?_
        have e1 := a2.mem_iff (a := k)
        have e2 := b2.mem_iff (a := k)
        rw [List.nil_append] at e1 e2
        exact e1.trans (pks.mem_iff.trans e2.symm)
      rw [e]
      have s3 : Same H2 (upd H2 l (.lst ((tokK p).map V.str))) := sm_new sm_refl nl
      have hl3 : upd H2 l (.lst ((tokK p).map V.str)) l = some (.lst ((tokK p).map V.str)) := upd_same
      generalize upd H2 l (.lst ((tokK p).map V.str)) = H3 at s3 hl3 ⊢
      refine ⟨l, _, rfl, .inl ⟨SqL.of hl3, fun T nT => ?_⟩⟩
      refine k _ _ (sm_new (s2.trans s3) ((s2.trans s3).free nT)) (.tup (SqT.of upd_same) ?_)
      exact strs_dp _
theorem tok_sortU (p : Poly) : tokK p = sortU (fk p) := by
  obtain ⟨b1, b2⟩ := sortK_ok (seen p) [] (by simpa using seen_nodup p) List.Pairwise.nil
  refine ascK_extG (by rw [tokK_seen]; exact b1) (sortU_asc _) fun z => ?_
  rw [tokK_seen, sortU_mem]
  have e2 := b2.mem_iff (a := z)
  rw [List.nil_append] at e2
  rw [show z ∈ sortK (seen p) ↔ z ∈ seen p from e2]
  exact ⟨fun h => ((dd_mem (l := fk p) (acc := [])).mp h).resolve_left (fun q => nomatch q), fun h => (dd_mem (l := fk p) (acc := [])).mpr (Or.inr h)⟩
/-- the sets' keys sort what stands for them -/
theorem sort_dp {κ : Type} [DecidableEq κ] [Ky κ] {H : Hp} {ys : List V} {ks : List κ} (nd : ks.Nodup) (dat : κ → PyData) (h : DpAll K H ys (ks.map dat)) : DpAll K H (Sk.sortBy ys (ks.map Ky.enc)) ((sortU ks).map dat) := by
  have len : ys.length = ks.length := by rw [dpAll_len h, List.length_map]
  have at_ : ∀ q ∈ ys.zip ks, Dp K H q.1 (dat q.2) := by
    clear nd len
    induction ks generalizing ys with
    | nil => intro q hq; simp at hq
    | cons k ks ih =>
      cases h with
      | cons a t =>
        intro q hq
        rw [List.zip_cons_cons] at hq
        rcases List.mem_cons.mp hq with e | e
        · subst e; exact a
        · exact ih t q e
  let r : V × κ → V × κ → Bool := fun a b => PySem.W.dataLe false Ky.enc a.2 b.2
  have e1 : Sk.sortBy ys (ks.map Ky.enc) = ((ys.zip ks).mergeSort r).map (·.1) := by
    unfold Sk.sortBy
    have z1 : ys.zip (ks.map Ky.enc) = (ys.zip ks).map (Prod.map id Ky.enc) := by
      rw [← List.zip_map, List.map_id]
    rw [z1, ← List.map_mergeSort (r := r) (s := PySem.W.dataLe false fun x => x.snd) (f := Prod.map id Ky.enc) (l := ys.zip ks) (fun a _ b _ => rfl), List.map_map]
    rfl
  have e2 : ((ys.zip ks).mergeSort r).map (·.2) = sortU ks := by
    rw [List.map_mergeSort (s := PySem.W.dataLe false Ky.enc) (fun a _ b _ => rfl), List.map_snd_zip (by omega), merge_up nd]
  rw [e1, ← e2, List.map_map]
  have at2 : ∀ q ∈ (ys.zip ks).mergeSort r, Dp K H q.1 (dat q.2) := fun q hq => at_ q ((List.mergeSort_perm ..).mem_iff.mp hq)
  generalize (ys.zip ks).mergeSort r = l at at2
  induction l with
  | nil => exact .nil
  | cons x l ih => exact .cons (at2 x List.mem_cons_self) (ih fun q hq => at2 q (List.mem_cons_of_mem _ hq))
def cS (p : Poly) (t : Str) : Option (List Str) := contS (brkS (byM p)) t
def triP (p : Poly) (t : Str) : TriK := triK (cS p t) t
def ordB (p : Poly) : List TriK := sortU ((sortU (fk p)).map (triP p))
def itB (p : Poly) (t : Str) : PyData := .tuple [.str t, blaD (cS p t)]
def blsD (p : Poly) : PyData := .tuple ((ordB p).map fun x => itB p x.c)
theorem triP_inj (p : Poly) {t u : Str} (h : triP p t = triP p u) : t = u := by
  have := congrArg TriK.c h
  unfold triP at this
  rwa [triK_c, triK_c] at this
def spBOrd (K : PySem.W.Frag) : Sp := fun vs H Q _ => ∃ (v : V) (r : Option (List Str)) (t : Str), vs = [v] ∧ Dp K H v (.tuple [.str t, blaD r]) ∧ ∀ v' H', Same H H' → Dp K H' v' (triD (triK r t)) → Q v' H'
def spBls (K : PySem.W.Frag) : Sp := fun vs H Q _ => ∃ (v : V) (p : Poly), vs = [v] ∧ FewB K v p H ∧ POk p ∧ Szd p ∧ (tokK p).length ≤ 1000 ∧ ∀ (v' : V) (H' : Hp), Same H H' → Dp K H' v' (blsD p) → Q v' H'
def spBlsX (K : PySem.W.Frag) (C : Addr) : Sp := fun vs H Q E => ∃ (v : V) (p : Poly), vs = [v] ∧ Over K v p H ∧ ∀ x H', Same H H' → H' x = some (.xd [("word", .str "sets")]) → E (.ref C) (some x) H'
theorem scBOrd : FnScope ["pair", "token", "n", "d"] ["pair"] (defScope sBOrd) := ⟨rfl, rfl, rfl, by decide +kernel, rfl, by decide +kernel, by decide +kernel⟩
theorem ok_bord {f : Addr} {fd : FuncData} (F : Fun K "_blame_order" "_blame_order" sBOrd f fd) : FnOk P w K mg base CX0 1 f fd ["pair"] (spBOrd K) := by
  refine F.ok scBOrd (fun vs H Q E h => ?_) (fun cdv A outer s H vs Q E hr h => ?_)
  · obtain ⟨v, r, t, rfl, _⟩ := h
    rfl
  · obtain ⟨v, r, t, rfl, hd, k⟩ := h
    refine ⟨_, pss_cons (ps_asg (pv 0) (pg_seq rfl (pgs_cons (pg_name (i := 1) scBOrd.nd rfl (Or.inl rfl)) (pgs_cons (pg_seq rfl (pgs_cons (pg_name (i := 2) scBOrd.nd rfl (Or.inl rfl)) (pgs_cons (pg_name (i := 3) scBOrd.nd rfl (Or.inl rfl)) pgs_nil))) pgs_nil))))
      (pss_one (ps_ret (pe_tup (pa_cons (pe_op op_sub pe_int (pv 2)) (pa_cons (pv 3) (pa_cons (pv 1) pa_nil)))))), ?_⟩
    obtain ⟨b, zs, rfl, hb, hz⟩ := dp_tup hd
    cases hz with
    | cons h1 h2 =>
    cases h2 with
    | cons h2 h3 =>
    cases h3
    cases dp_str h1
    have nums : ∃ (n d : Int), blaD r = .tuple [.int n, .int d] ∧ triK r t = ⟨1 - n, d, t⟩ := by
      cases r with
      | none => exact ⟨0, 1, rfl, rfl⟩
      | some x => exact ⟨1, 1 + (x.length : Nat), rfl, rfl⟩
    obtain ⟨n, d, e1, e2⟩ := nums
    rw [e1] at h2
    rw [e2] at k
    obtain ⟨c, ws, rfl, hc, hw⟩ := dp_tup h2
    cases hw with
    | cons w1 w2 =>
    cases w2 with
    | cons w2 w3 =>
    cases w3
    cases w1
    cases w2
    refine ⟨_, rfl, b, _, rfl, .inr hb, rfl, _, _, rfl, _, _, rfl, c, _, rfl, .inr hc, rfl, _, _, rfl, _, _, rfl, rfl, rfl, ?_⟩
    refine ⟨_, rfl, _, _, rfl, rfl, _, rfl, _, rfl, (by show 3 ≤ sizeLine; decide), fun U nU => ?_⟩
    exact k _ _ (sm_new sm_refl nU) (.tup (SqT.of upd_same) (.cons (.int _) (.cons (.int _) (.cons (.str _) .nil))))
abbrev blN : List Str := ["p", "sets", "token"]
theorem scBls : FnScope blN ["p"] (defScope sBls) := ⟨rfl, rfl, rfl, by decide +kernel, rfl, by decide +kernel, by decide +kernel⟩
theorem ok_bls {f : Addr} {fd : FuncData} (F : Fun K "blames" "blames" sBls f fd) (N : Nm mg) (srt' : mg "sorted" = none) (Gb : Df P w K mg base 7 "breakers" ["p"] (spBrk K)) (Gt : Df P w K mg base 1 "tokens_of" ["p"] (spTks K)) (Ga : Df P w K mg base 5 "_blame" ["sets", "token"] (spBla_ K)) (Go : Df P w K mg base 1 "_blame_order" ["pair"] (spBOrd K)) :
    FnOk P w K mg base CX0 8 f fd ["p"] (spBls K) := by
  obtain ⟨fb, fdb, gB, kB, bB, GB⟩ := Gb.ok
  obtain ⟨ft, fdt, gT, kT, bT, GT⟩ := Gt.ok
  obtain ⟨fa, fda, gA, kA, bA, GA⟩ := Ga.ok
  obtain ⟨fo, fdo, gO, kO, bO, GO⟩ := Go.ok
  refine F.ok scBls (fun vs H Q E h => ?_) (fun cdv A outer s H vs Q E hr h => ?_)
  · obtain ⟨v, p, rfl, _⟩ := h
    rfl
  · obtain ⟨v, p, rfl, b, pok, szd, tl, k⟩ := h
    have hr1 : Room 1 _ := hr.mono (by decide)
    have hr3 : Room 3 _ := hr.mono (by decide)
    have hr5 : Room 5 _ := hr.mono (by decide)
    have hr7 : Room 7 _ := hr
    refine ⟨_, pss_cons (ps_set (i := 1) scBls.nd rfl (Or.inr rfl) (pe_call GB hr7 rfl gB kB bB .nil pass0 (pa_cons (pv 0) pa_nil)))
      (pss_one (ps_ret (pe_callTy (show CallR _ _ (rTupO K) from call_tuple_of) (by rfl) N.tup (by rfl) (pa_cons (pe_callBK (Sk.cr_sortKeyL GO hr3 bO) (by rfl) srt' (by rfl) (pa_cons
        (pe_lc (own := [("token", 2)]) (g := gName 2) (tt := tYes) rfl scBls.nd (pi_tup (pe_call GT hr1 rfl gT kT bT .nil pass0 (pa_cons (pv 0) pa_nil))) (blkOk_by (N := blN) (sc := defScope sBls) (by decide +kernel)) (fun _ _ _ _ _ => pg_name (i := 2) scBls.nd rfl (Or.inl rfl)) (fun _ _ _ _ _ => pts_nil)
          (fun _ _ _ _ _ => pe_tup (pa_cons (pv 2) (pa_cons (pe_call GA hr5 rfl gA kA bA .nil pass0 (pa_cons (pv 1) (pa_cons (pv 2) pa_nil))) pa_nil)))) pa_nil) (pk_cons (pe_glob (v := .ref fo) rfl gO rfl) pk_nil)) pa_nil)))), ?_⟩
    refine ⟨_, rfl, v, p, rfl, b.fd, b.tl, b.pl, b.mo, b.fl, b.few, fun vs' H1 s1 d1 => ?_⟩
    refine ⟨_, rfl, v, p, rfl, b.fd.same s1, pok, szd, tl, fun vt H2 s2 d2 => ?_⟩
    have d2 : Dp K H2 vt (sD (tokK p)) := d2
    rw [tok_sortU] at d2 tl
    obtain ⟨T, zs, rfl, hT, hz⟩ := dp_tup d2
    have ez := strs_of (ks := sortU (fk p)) hz
    subst ez
    have d1H := dp_same s2 d1
    refine ⟨T, rfl, ⟨_, hT⟩, fun D nD => ?_⟩
    refine lc_tup (K := K) (a := T) (xs := (sortU (fk p)).map V.str) (fun i H3 => Same H2 H3 ∧ ∃ ys, H3 D = some (.lst ys) ∧ DpAll K H3 ys (((sortU (fk p)).take i).map (itB p))) ⟨sm_new sm_refl nD, [], upd_same, .nil⟩ (fun i H3 _ ⟨s3, _⟩ => sqT_same s3 hT) ?_ ?_
    · rintro i x H3 hi ⟨s3, ys, hD, dy⟩
      rw [List.getElem?_map] at hi
      obtain ⟨t, ht, rfl⟩ := Option.map_eq_some_iff.mp hi
      have il := (List.getElem?_eq_some_iff.mp ht).1
      refine ⟨rfl, _, rfl, _, rfl, _, rfl, vs', t, _, rfl, dp_same s3 d1H, brk_len b.few, brk_each b.fl, fun v4 H4 s4 d4 => ?_⟩
      refine ⟨(by show 2 ≤ sizeLine; decide), fun U nU => ?_⟩
      have sU : Same H4 (upd H4 U (.tup [.str t, v4])) := sm_new sm_refl nU
      have dU : Dp K (upd H4 U (.tup [.str t, v4])) (.ref U) (itB p t) := .tup (SqT.of upd_same) (.cons (.str _) (.cons (dp_same sU d4) .nil))
      have s35 := s4.trans sU
      generalize upd H4 U (.tup [.str t, v4]) = H5 at sU dU s35 ⊢
      have hD5 := s35 _ _ hD
      have nt : NotT (H5 D) := by rw [hD5]; exact notT_lst
      have tu : ∀ t, tupOnly (itB p t) = true := fun t => by
        unfold itB
        have := tu_bla (cS p t)
        simp [tupOnly, tupOnlyAll, this]
      refine ⟨ys, hD5, small1000 (by rw [dpAll_len dy, List.length_map, List.length_take]; omega), sm_new (s3.trans s35) nD, _, upd_same, ?_⟩
      rw [List.take_succ, ht, List.map_append]
      exact dpAll_append (dpAll_put nt (tupOnlyAll_of fun e he => by
        obtain ⟨t, _, rfl⟩ := List.mem_map.mp he
        exact tu t) (dpAll_same s35 dy)) (.cons (dp_put nt (tu t) dU) .nil)
    rintro H3 ⟨s3, ys, hD, dy⟩
    rw [List.length_map, List.take_length] at dy
    have yl : ys.length = (sortU (fk p)).length := by rw [dpAll_len dy, List.length_map]
    refine ⟨D, ys, ((sortU (fk p)).map (triP p)).map triD, rfl, rfl, SqL.of hD, ⟨?_, ?_, ?_, ?_, ?_⟩, fun S H6 s6 nS => ?_⟩
    · rw [List.length_map, List.length_map, yl]
    · intro a ha b hb
      obtain ⟨x, _, rfl⟩ := List.mem_map.mp ha
      obtain ⟨y, _, rfl⟩ := List.mem_map.mp hb
      exact Ky.al x y
    · exact .inl fun d hd => by
        obtain ⟨x, _, rfl⟩ := List.mem_map.mp hd
        exact ⟨_, _, rfl⟩
    · intro d hd
      obtain ⟨x, _, rfl⟩ := List.mem_map.mp hd
      exact Nat.le_trans (Ky.dep x) (by decide)
    · intro i x d hx hd' H' s'
      obtain ⟨e, he, hxe⟩ := dpAll_get dy hx
      rw [List.getElem?_map] at he
      obtain ⟨t, ht, rfl⟩ := Option.map_eq_some_iff.mp he
      rw [List.getElem?_map, List.getElem?_map, ht] at hd'
      cases hd'
      exact ⟨x, cS p t, t, rfl, dp_same s' hxe, fun v H'' s'' d'' => ⟨s'', d''⟩⟩
    have nd : ((sortU (fk p)).map (triP p)).Nodup := by
      rw [List.Nodup, List.pairwise_map]
      exact List.Pairwise.imp (fun n e => n (triP_inj p e)) (asc_nd (sortU_asc _))
    have sd := sort_dp nd (fun x => itB p x.c) (H := H3) (ys := ys) (K := K) (by
      rw [List.map_map]
      have : (fun x : TriK => itB p x.c) ∘ triP p = itB p := by
        funext t
        show itB p (triP p t).c = itB p t
        unfold triP
        rw [triK_c]
      rw [this]
      exact dy)
    have sd : DpAll K H3 (Sk.sortBy ys (((sortU (fk p)).map (triP p)).map triD)) ((ordB p).map fun x => itB p x.c) := sd
    generalize Sk.sortBy ys (((sortU (fk p)).map (triP p)).map triD) = zs' at sd ⊢
    have sS : Same H6 (upd H6 S (.lst zs')) := sm_new sm_refl nS
    have hS : upd H6 S (.lst zs') S = some (.lst zs') := upd_same
    refine ⟨S, zs', rfl, .inl ⟨SqL.of hS, fun U nU => ?_⟩⟩
    have sU := sS.trans (sm_new (o := .tup zs') sm_refl nU)
    exact k _ _ ((s1.trans s2).trans (s3.trans (s6.trans sU))) (.tup (SqT.of upd_same) (dpAll_same (s6.trans sU) sd))
theorem ok_blsX {f : Addr} {fd : FuncData} (F : Fun K "blames" "blames" sBls f fd)
    {fb : Addr} {fdb : FuncData} (gB : mg "breakers" = some (.ref fb)) (kB : PySem.W.keepIn K (.ref fb) = true) (bB : Binds K fdb ["p"] []) (GB : FnOk P w K mg base (L2.CX P w) 7 fb fdb ["p"] (spBrkX K C)) :
    FnOk P w K mg base (L2.CX P w) 8 f fd ["p"] (spBlsX K C) := by
  refine F.okX scBls (fun vs H Q E h => ?_) (fun cdv A outer s H vs Q E hr h => ?_)
  · obtain ⟨v, p, rfl, _⟩ := h
    rfl
  · obtain ⟨v, p, rfl, b, out⟩ := h
    have hr7 : Room 7 _ := hr
    have tk := takes_of (X := cxOf (L2.CX P w) P w K mg base blN "blames" (defScope sBls) f cdv A outer s H E) (E := E) rfl rfl rfl rfl
    refine ⟨_, pss_cons (ps_set (i := 1) scBls.nd rfl (Or.inr rfl) (pe_callS GB hr7 rfl gB kB bB (fun σ => passAt tk σ) (pa_cons (pv 0) pa_nil))) pss_never, ?_⟩
    obtain ⟨n, o1, o2, o3⟩ := b.ov
    exact ⟨_, rfl, v, p, n, rfl, b.fd, b.tl, b.pl, b.mo, b.fl, o1, o2, o3, out⟩
end
end K26


set_option Elab.async false
set_option linter.all false
set_option maxRecDepth 100000
set_option maxHeartbeats 8000000
/-! _law_share -/
namespace K26
open PySem L2 Nd Bk Gd
def sizS (os : List (List Str)) (t : Str) : List Int := (os.filter fun o => decide (t ∈ o)).map fun o => (o.length : Int)
theorem rest_len {o : List Str} {t : Str} (nd : o.Nodup) (h : t ∈ o) : (o.filter fun z => decide (z ≠ t)).length + 1 = o.length := by
  have nf : (o.filter fun z => decide (z ≠ t)).Nodup := List.Pairwise.filter _ nd
  have p : (t :: o.filter fun z => decide (z ≠ t)).Perm o := (List.perm_ext_iff_of_nodup (List.nodup_cons.mpr ⟨fun h => (of_decide_eq_true (List.mem_filter.mp h).2) rfl, nf⟩) nd).mpr fun z => by
    rw [List.mem_cons, List.mem_filter, decide_eq_true_eq]
    constructor
    · rintro (h' | h')
      · rw [h']; exact h
      · exact h'.1
    · intro h
      by_cases e : z = t
      · exact .inl e
      · exact .inr ⟨h, e⟩
  have := p.length_eq
  rw [List.length_cons] at this
  exact this
/-- the least of their sizes -/
theorem share_none {os : List (List Str)} {t : Str} (h : (sizS os t).length = 0) : contS os t = none := by
  have : (os.filter fun o => decide (t ∈ o)) = [] := by
    unfold sizS at h
    rw [List.length_map] at h
    exact List.length_eq_zero_iff.mp h
  unfold contS restS
  rw [this]
  rfl
theorem share_some {os : List (List Str)} {t : Str} (nd : ∀ o ∈ os, o.Nodup) {m : Int} (hm : m ∈ sizS os t) (le : ∀ y ∈ sizS os t, m ≤ y) : ∃ r, contS os t = some r ∧ m = 1 + (r.length : Nat) := by
  obtain ⟨o, ho, rfl⟩ := List.mem_map.mp hm
  obtain ⟨o1, o2⟩ := List.mem_filter.mp ho
  have o2 := of_decide_eq_true o2
  have om : (o.filter fun z => decide (z ≠ t)) ∈ restS os t := List.mem_map.mpr ⟨o, ho, rfl⟩
  have l := rest_len (nd o o1) o2
  cases e : contS os t with
  | none =>
    unfold contS at e
    have : szs (restS os t) = [] := List.head?_eq_none_iff.mp e
    have om := szs_iff.mpr om
    rw [this] at om
    cases om
  | some r =>
    refine ⟨r, rfl, ?_⟩
    have rm : r ∈ szs (restS os t) := List.mem_of_mem_head? e
    obtain ⟨b, hb, rfl⟩ := List.mem_map.mp (szs_iff.mp rm)
    obtain ⟨b1, b2⟩ := List.mem_filter.mp hb
    have b2 := of_decide_eq_true b2
    have lb := rest_len (nd b b1) b2
    have q1 := le _ (List.mem_map.mpr ⟨b, hb, rfl⟩)
    -- the head is not longer
    have q2 : (b.filter fun z => decide (z ≠ t)).length ≤ (o.filter fun z => decide (z ≠ t)).length := by
      have ord := szs_ord (restS os t)
      unfold contS at e
      have om' := szs_iff.mpr om
      cases es : szs (restS os t) with
      | nil => rw [es] at e; cases e
      | cons x xs =>
        rw [es] at e ord om'
        have ex : x = b.filter fun z => decide (z ≠ t) := Option.some.inj e
        rcases List.mem_cons.mp om' with q | q
        · rw [q, ex]; exact Nat.le_refl _
        · have := lt_len ((List.pairwise_cons.mp ord).1 _ q)
          rw [ex] at this
          omega
    omega
def spShr (K : PySem.W.Frag) : Sp := fun vs H Q _ => ∃ (v : V) (p : Poly) (t : Str), vs = [v, .str t] ∧ Dp K H v (bD p) ∧ (∀ k ∈ fk p, SeqAt.shaped (Ky.enc k) = true) ∧ (fk p).length ≤ 1000 ∧ (∀ t ∈ p, t.1.length ≤ 1000) ∧ (sortU (fk p)).length ≤ 6 ∧ (brkS (byM p)).length ≤ 900 ∧ (∀ o ∈ brkS (byM p), o.length ≤ 900) ∧
  ∀ (v' : V) (H' : Hp), Same H H' → Dp K H' v' (blaD (cS p t)) → Q v' H'
section
variable {P : Program} {w : World} {K : PySem.W.Frag} {mg : Str → Option Value} {base : Heap}
abbrev shN : List Str := ["p", "token", "sizes", "one", "size"]
theorem scShr : FnScope shN ["p", "token"] (defScope yShr) := ⟨rfl, rfl, rfl, by decide +kernel, rfl, by decide +kernel, by decide +kernel⟩
theorem ok_shr {f : Addr} {fd : FuncData} (F : Fun K "_law_share" "_law_share" yShr f fd) (N : Nm mg) (mn : mg "min" = none) (Gb : Df P w K mg base 3 "_law_breakers" ["p"] (spYBrk K)) : FnOk P w K mg base CX0 4 f fd ["p", "token"] (spShr K) := by
  obtain ⟨fb, fdb, gB, kB, bB, GB⟩ := Gb.ok
  refine F.ok scShr (fun vs H Q E h => ?_) (fun cdv A outer s H vs Q E hr h => ?_)
  · obtain ⟨v, p, t, rfl, _⟩ := h
    rfl
  · obtain ⟨v, p, t, rfl, hd, shp, fl, ml, t6, ol, oz, k⟩ := h
    have hr3 : Room 3 _ := hr
    --BODYA
    refine ⟨_, pss_cons (ps_setLc (i := 2) (own := [("one", 3)]) (g := gName 3) (tt := tTest (tOp (rIn K false) (tVar 1) (tVar 3))) rfl scShr.nd rfl rfl (sw_true rfl rfl rfl (by decide +kernel)) (pi_tup (pe_call GB hr3 rfl gB kB bB .nil pass0 (pa_cons (pv 0) pa_nil))) (blkOk_by (N := shN) (sc := defScope yShr) (by decide +kernel)) (fun _ _ _ _ _ => pg_name (i := 3) scShr.nd rfl (Or.inl rfl)) (fun _ _ _ _ _ => pts_one (pt_cmpR (show OpR _ _ (rIn K false) from op_in_seq) (pv 1) (pv 3) (by rfl))) (fun _ _ _ _ _ => (pe_callB (show CallR _ _ (rLenS K) from call_len_seq) (by rfl) N.len PySem.boot_len (pa_cons (pv 3) pa_nil))))
      (pss_cons (ps_if (pt_cmpR op_eq (pe_callB (show CallR _ _ (rLenS K) from call_len_seq) (by rfl) N.len PySem.boot_len (pa_cons (pv 2) pa_nil)) pe_int (nomark _)) (pss_one (ps_ret (pe_tup (pa_cons pe_int (pa_cons pe_int pa_nil))))) pss_nil)
      (pss_one (ps_ret (pe_tup (pa_cons pe_int (pa_cons (pe_callB (show CallR _ _ (rMin K) from cr_min rfl) (by rfl) mn (by decide +kernel) (pa_cons (pe_lc (own := [("size", 4)]) (g := gName 4) (tt := tYes) rfl scShr.nd (pi_list (pv 2)) (blkOk_by (N := shN) (sc := defScope yShr) (by decide +kernel)) (fun _ _ _ _ _ => pg_name (i := 4) scShr.nd rfl (Or.inl rfl)) (fun _ _ _ _ _ => pts_nil) (fun _ _ _ _ _ => (pe_callTy call_int1 (by rfl) N.int (by decide +kernel) (pa_cons (pv 4) pa_nil)))) pa_nil)) pa_nil)))))), ?_⟩
    --END
    refine ⟨_, rfl, v, p, rfl, hd, shp, fl, ml, t6, fun v1 H1 s1 d1 => ?_⟩
    have nd : ∀ o ∈ brkS (byM p), o.Nodup := fun o ho => asc_nd ((brkS_iff (nd_byM p)).mp ho).1
    unfold cS at k
    generalize brkS (byM p) = os at *
    obtain ⟨T, zs, rfl, hT, hz⟩ := dp_tup d1
    have zl : zs.length = os.length := by rw [dpAll_len hz, List.length_map]
    have sl : ∀ i, (sizS (os.take i) t).length ≤ 900 := fun i => by
      unfold sizS
      rw [List.length_map]
      refine Nat.le_trans (List.length_filter_le ..) ?_
      rw [List.length_take]
      omega
    refine ⟨T, rfl, ⟨_, hT⟩, fun D nD => ?_⟩
    refine lc_tup (K := K) (a := T) (xs := zs) (fun i H2 => Same H1 H2 ∧ H2 D = some (.lst ((sizS (os.take i) t).map V.int))) ⟨sm_new sm_refl nD, upd_same⟩ (fun i H2 _ ⟨s2, _⟩ => sqT_same s2 hT) ?_ ?_
    · rintro i x H2 hi ⟨s2, hD⟩
      obtain ⟨o, b, ho, rfl, hb⟩ := sets_at (dpAll_same s2 hz) hi
      have st := filt_one (q := fun o : List Str => decide (t ∈ o)) ho
      have rs : sizS (os.take (i + 1)) t = sizS (os.take i) t ++ (if t ∈ o then [(o.length : Int)] else []) := by
        unfold sizS
        rw [st, List.map_append]
        by_cases q : t ∈ o
        · rw [if_pos (decide_eq_true q), if_pos q]; rfl
        · rw [if_neg (by simpa using q), if_neg q]; rfl
      refine ⟨rfl, _, rfl, _, rfl, b, _, rfl, .inr hb, rfl, flat_strs' _, _, rfl, ?_⟩
      show if inV (V.str t) (o.map V.str) = true then _ else _
      rw [inV_in]
      have sli := sl i
      by_cases q : t ∈ o
      · rw [decide_eq_true q]
        rw [if_pos q] at rs
        refine iteT ⟨_, rfl, b, _, rfl, .inr hb, _, hD, small1000 (by rw [List.length_map]; omega), sm_new s2 nD, ?_⟩
        rw [upd_same, rs, List.map_append, List.length_map]
        rfl
      · rw [decide_eq_false q]
        rw [if_neg q, List.append_nil] at rs
        exact iteF ⟨s2, by rw [rs]; exact hD⟩
    rintro H2 ⟨s2, hD⟩
    rw [zl, List.take_length] at hD
    have sl0 := sl os.length
    rw [List.take_length] at sl0
    refine ⟨_, rfl, D, _, rfl, .inl (SqL.of hD), rfl, _, rfl, ?_⟩
    have ed : decide (V.int (((sizS os t).map V.int).length : Nat) = V.int 0) = decide ((sizS os t).length = 0) := by
      rw [List.length_map]
      refine decide_eq_decide.mpr ⟨fun h => by have := V.int.inj h; omega, fun h => by rw [h]; rfl⟩
    show if decide (V.int (((sizS os t).map V.int).length : Nat) = V.int 0) = true then _ else _
    rw [ed]
    by_cases z : (sizS os t).length = 0
    · rw [decide_eq_true z]
      refine iteT ⟨(by show 2 ≤ sizeLine; decide), fun U nU => ?_⟩
      refine k _ _ ((s1.trans s2).trans (sm_new sm_refl nU)) ?_
      rw [share_none z]
      exact .tup (SqT.of upd_same) (.cons (.int _) (.cons (.int _) .nil))
    · rw [decide_eq_false z]
      refine iteF ⟨_, rfl, D, rfl, ⟨_, SqL.of hD⟩, fun L nL => ?_⟩
      refine lc_list (K := K) (a := D) (xs := (sizS os t).map V.int) (fun i H3 => Same H2 H3 ∧ H3 L = some (.lst (((sizS os t).take i).map V.int))) ⟨sm_new sm_refl nL, upd_same⟩ (fun i H3 _ ⟨s3, _⟩ => SqL.of (s3 _ _ hD)) ?_ ?_
      · rintro i x H3 hi ⟨s3, hL⟩
        rw [List.getElem?_map] at hi
        obtain ⟨n, hn, rfl⟩ := Option.map_eq_some_iff.mp hi
        refine ⟨rfl, _, rfl, .inl ⟨n, rfl, _, hL, small1000 (by rw [List.length_map, List.length_take]; omega), sm_new s3 nL, ?_⟩⟩
        rw [upd_same, List.take_succ, hn, List.map_append]
        rfl
      rintro H3 ⟨s3, hL⟩
      rw [List.length_map, List.take_length] at hL
      refine ⟨L, sizS os t, rfl, SqL.of hL, by omega, fun m hm le => ?_⟩
      obtain ⟨r, er, em⟩ := share_some nd hm le
      refine ⟨(by show 2 ≤ sizeLine; decide), fun U nU => ?_⟩
      refine k _ _ (((s1.trans s2).trans s3).trans (sm_new sm_refl nU)) ?_
      rw [er, em]
      exact .tup (SqT.of upd_same) (.cons (.int _) (.cons (.int _) .nil))
end
end K26


set_option Elab.async false
set_option linter.all false
set_option maxRecDepth 100000
set_option maxHeartbeats 8000000
/-! _law_due -/
namespace K26
open PySem L2 Nd Bk Gd
def rnkP (p : Poly) (t : Str) : RnkK := rnkK (cS p t) t
theorem cS_len {p : Poly} {n : Nat} (h : ∀ o ∈ brkS (byM p), o.length ≤ n) (t : Str) : ∀ x, cS p t = some x → x.length ≤ n := fun x e => by
  have xm : x ∈ szs (restS (brkS (byM p)) t) := List.mem_of_mem_head? e
  obtain ⟨b, hb, rfl⟩ := List.mem_map.mp (szs_iff.mp xm)
  exact Nat.le_trans (List.length_filter_le ..) (h b (List.mem_filter.mp hb).1)
theorem rnkP_inj (p : Poly) {t u : Str} (h : rnkP p t = rnkP p u) : t = u := by
  have := congrArg RnkK.t h
  unfold rnkP at this
  rwa [rnkK_t, rnkK_t] at this
/-- both orders are the same -/
theorem due_is {p : Poly} (h : ∀ o ∈ brkS (byM p), o.length ≤ 900) : (sortU ((sortU (fk p)).map (rnkP p))).map (·.t) = (ordB p).map (·.c) := by
  have m1 : ∀ x ∈ sortU ((sortU (fk p)).map (rnkP p)), ∃ t ∈ sortU (fk p), x = rnkP p t := fun x hx => by
    obtain ⟨t, ht, rfl⟩ := List.mem_map.mp (sortU_mem.mp hx)
    exact ⟨t, ht, rfl⟩
  have m2 : ∀ x ∈ ordB p, ∃ t ∈ sortU (fk p), x = triP p t := fun x hx => by
    obtain ⟨t, ht, rfl⟩ := List.mem_map.mp (sortU_mem.mp hx)
    exact ⟨t, ht, rfl⟩
  have t1 : ∀ t, (rnkP p t).t = t := fun t => rnkK_t _ _
  have t2 : ∀ t, (triP p t).c = t := fun t => triK_c _ _
  refine sorted_ext (R := fun t u => lt (triP p t) (triP p u) = true) (fun a q => by rw [lt_irrefl] at q; cases q) (fun a b q g => by rw [lt_asymm q] at g; cases g) ?_ ?_ fun z => ?_
  · rw [List.pairwise_map]
    refine List.Pairwise.imp_of_mem (fun {a b} ha hb l => ?_) (sortU_asc ((sortU (fk p)).map (rnkP p)))
    obtain ⟨t, _, rfl⟩ := m1 a ha
    obtain ⟨u, _, rfl⟩ := m1 b hb
    rw [t1, t1]
    exact ranks (cS_len h t) (cS_len h u) l fun e => lt_ne l (by rw [e])
  · rw [List.pairwise_map]
    refine List.Pairwise.imp_of_mem (fun {a b} ha hb l => ?_) (sortU_asc ((sortU (fk p)).map (triP p)))
    obtain ⟨t, _, rfl⟩ := m2 a ha
    obtain ⟨u, _, rfl⟩ := m2 b hb
    rw [t2, t2]
    exact l
  · rw [List.mem_map, List.mem_map]
    constructor
    · rintro ⟨x, hx, rfl⟩
      obtain ⟨t, ht, rfl⟩ := m1 x hx
      exact ⟨triP p t, sortU_mem.mpr (List.mem_map.mpr ⟨t, ht, rfl⟩), by rw [t1, t2]⟩
    · rintro ⟨x, hx, rfl⟩
      obtain ⟨t, ht, rfl⟩ := m2 x hx
      exact ⟨rnkP p t, sortU_mem.mpr (List.mem_map.mpr ⟨t, ht, rfl⟩), by rw [t1, t2]⟩
/-- the two numbers of a blame -/
theorem nums (r : Option (List Str)) (t : Str) : ∃ (n d : Int), blaD r = .tuple [.int n, .int d] ∧ rnkK r t = ⟨1000 - 1000 * n + d, t, n, d⟩ ∧ 0 ≤ n ∧ n ≤ 1 := by
  cases r with
  | none => exact ⟨0, 1, rfl, rfl, by decide, by decide⟩
  | some x =>
    refine ⟨1, 1 + (x.length : Nat), rfl, ?_, by decide, by decide⟩
    show RnkK.mk _ _ _ _ = _
    congr 1
    omega
theorem rnk_bla (r : Option (List Str)) (t : Str) : rnkD (rnkK r t) = .tuple [.int (rnkK r t).r, .str t, blaD r] := by
  cases r <;> rfl
def spDueB (K : PySem.W.Frag) : Sp := fun vs H Q _ => ∃ (v : V) (p : Poly), vs = [v] ∧ Dp K H v (bD p) ∧ (∀ k ∈ fk p, SeqAt.shaped (Ky.enc k) = true) ∧ (fk p).length ≤ 1000 ∧ (∀ t ∈ p, t.1.length ≤ 1000) ∧ (sortU (fk p)).length ≤ 6 ∧ (brkS (byM p)).length ≤ 900 ∧ (∀ o ∈ brkS (byM p), o.length ≤ 900) ∧
  ∀ (v' : V) (H' : Hp), Same H H' → Dp K H' v' (blsD p) → Q v' H'
theorem tu_rnk : ∀ x : RnkK, tupOnly (rnkD x) = true := fun x => by simp [rnkD, tupOnly, tupOnlyAll]
section
variable {P : Program} {w : World} {K : PySem.W.Frag} {mg : Str → Option Value} {base : Heap}
abbrev duN : List Str := ["p", "found", "token", "share", "rank", "other"]
theorem scDue : FnScope duN ["p"] (defScope yDue) := ⟨rfl, rfl, rfl, by decide +kernel, rfl, by decide +kernel, by decide +kernel⟩
theorem ok_due {f : Addr} {fd : FuncData} (F : Fun K "_law_due" "_law_due" yDue f fd) (N : Nm mg) (Go : Df P w K mg base 2 "_law_of" ["p"] (spYOf K)) (Gs : Df P w K mg base 4 "_law_share" ["p", "token"] (spShr K)) : FnOk P w K mg base CX0 5 f fd ["p"] (spDueB K) := by
  obtain ⟨fo, fdo, gO, kO, bO, GO⟩ := Go.ok
  obtain ⟨fs, fds, gS, kS, bS, GS⟩ := Gs.ok
  refine F.ok scDue (fun vs H Q E h => ?_) (fun cdv A outer s H vs Q E hr h => ?_)
  · obtain ⟨v, p, rfl, _⟩ := h
    rfl
  · obtain ⟨v, p, rfl, hd, shp, fl, ml, t6, ol, oz, k⟩ := h
    have hr2 : Room 2 _ := hr.mono (by decide)
    have hr4 : Room 4 _ := hr
    --BODYA
    refine ⟨_, pss_cons (ps_set (i := 1) scDue.nd rfl (Or.inl rfl) (pe_lst pa_nil))
      (pss_cons (ps_for PassesOwn.never rfl (pi_list (pe_call GO hr2 rfl gO kO bO .nil pass0 (pa_cons (pv 0) pa_nil))) (pg_name (i := 2) scDue.nd rfl (Or.inl rfl))
      (pss_cons (ps_set (i := 3) scDue.nd rfl (Or.inl rfl) (pe_call GS hr4 rfl gS kS bS .nil pass0 (pa_cons (pv 0) (pa_cons (pv 2) pa_nil))))
      (pss_cons (ps_set (i := 4) scDue.nd rfl (Or.inr rfl) (pe_tup (pa_cons (pe_op op_add (pe_op op_sub pe_int (pe_op op_mul pe_int (pe_ix (show IxR _ (rIx K) from ix_seq) (pv 3) pe_int (fun _ _ => rfl)))) (pe_ix (show IxR _ (rIx K) from ix_seq) (pv 3) pe_int (fun _ _ => rfl))) (pa_cons (pv 2) (pa_cons (pv 3) pa_nil)))))
      (pss_one (ps_expr (pe_bm PySem.F.plainAttrs_list PySem.F.slot_list_insert PySem.F.type_list_insert mt_insert (pv 1) (pa_cons (pe_callB call_len_seq (by rfl) N.len PySem.boot_len (pa_cons (pe_lc (own := [("other", 5)]) (g := gName 5) (tt := tTest (tOp (rLtD K) (tVar 5) (tVar 4))) rfl scDue.nd (pi_list (pv 1)) (blkOk_by (N := duN) (sc := defScope yDue) (by decide +kernel)) (fun _ _ _ _ _ => pg_name (i := 5) scDue.nd rfl (Or.inl rfl)) (fun _ _ _ _ _ => pts_one (pt_cmpR (show OpR _ _ (rLtD K) from op_ltD (u64 hr)) (pv 5) (pv 4) (nomark _))) (fun _ _ _ _ _ => pv 5)) pa_nil)) (pa_cons (pv 4) pa_nil))))))))
      (pss_one (ps_ret (pe_callTy (show CallR _ _ (rTupO K) from call_tuple_of) (by rfl) N.tup (by rfl) (pa_cons (pe_lc (own := [("rank", 4)]) (g := gName 4) (tt := tYes) rfl scDue.nd (pi_list (pv 1)) (blkOk_by (N := duN) (sc := defScope yDue) (by decide +kernel)) (fun _ _ _ _ _ => pg_name (i := 4) scDue.nd rfl (Or.inl rfl)) (fun _ _ _ _ _ => pts_nil) (fun _ _ _ _ _ => (pe_tup (pa_cons (pe_ix (show IxR _ (rIx K) from ix_seq) (pv 4) pe_int (fun _ _ => rfl)) (pa_cons (pe_ix (show IxR _ (rIx K) from ix_seq) (pv 4) pe_int (fun _ _ => rfl)) pa_nil))))) pa_nil))))), ?_⟩
    --END
    refine ⟨(by show 0 ≤ sizeLine; decide), fun l nl => ?_⟩
    have s0 : Same H (upd H l (.lst [])) := sm_new sm_refl nl
    have h0 : upd H l (.lst []) l = some (.lst []) := upd_same
    generalize upd H l (.lst []) = H0 at s0 h0 ⊢
    refine ⟨_, rfl, v, p, rfl, dp_same s0 hd, shp, fl, ml, fun To H1 nTo s1 hTo => ?_⟩
    have s01 := s0.trans s1
    have h1 := s1 _ _ h0
    refine ⟨To, rfl, ⟨_, SqL.of hTo⟩, ?_⟩
    have Tl : To ≠ l := fun e => by rw [e, h0] at nTo; cases nTo
    refine for_list (K := K) (a := To) (xs := (sortU (fk p)).map V.str) (fun i σ H4 => ∃ (u2 u3 u4 : Option V) (ys : List V), σ = [some v, some (.ref l), u2, u3, u4, none] ∧ Same H H4 ∧ H4 To = some (.lst ((sortU (fk p)).map V.str)) ∧ H4 l = some (.lst ys) ∧ DpAll K H4 ys ((sortU (((sortU (fk p)).take i).map (rnkP p))).map rnkD)) ⟨none, none, none, [], rfl, s01, hTo, h1, .nil⟩
      (fun i σ H4 _ ⟨_, _, _, _, _, _, h, _⟩ => SqL.of h) ?_ ?_
    · rintro i x σ H4 hi ⟨u2, u3, u4, ys, rfl, s4, hT4, h4, d4⟩
      rw [List.getElem?_map] at hi
      obtain ⟨t, ht, rfl⟩ := Option.map_eq_some_iff.mp hi
      have il := (List.getElem?_eq_some_iff.mp ht).1
      refine ⟨_, rfl, _, rfl, v, p, t, rfl, dp_same s4 hd, shp, fl, ml, t6, ol, oz, fun v3 H5 s5 d3 => ?_⟩
      obtain ⟨n, d, e1, e2, n0, n1⟩ := nums (cS p t) t
      have rb := rnk_bla (cS p t) t
      have er : rnkP p t = ⟨1000 - 1000 * n + d, t, n, d⟩ := e2
      have d3' := d3
      rw [e1] at d3'
      obtain ⟨c, ws, rfl, hc, hw⟩ := dp_tup d3'
      cases hw with
      | cons w1 w2 =>
      cases w2 with
      | cons w2 w3 =>
      cases w3
      cases w1
      cases w2
      refine ⟨_, rfl, .inr (.inl ⟨c, _, 0, _, rfl, rfl, hc, rfl, _, _, rfl, rfl, .inr ⟨by omega, by omega⟩, _, _, rfl, rfl, _, rfl, .inr (.inl ⟨c, _, 1, _, rfl, rfl, hc, rfl, _, _, rfl, rfl, _, rfl, _, rfl, (by show 3 ≤ sizeLine; decide), fun U nU => ?_⟩)⟩)⟩
      have sU : Same H5 (upd H5 U (.tup [.int (1000 - 1000 * n + d), .str t, .ref c])) := sm_new sm_refl nU
      have dU : Dp K (upd H5 U (.tup [.int (1000 - 1000 * n + d), .str t, .ref c])) (.ref U) (rnkD (rnkP p t)) := by
        have e : rnkD (rnkP p t) = .tuple [.int (1000 - 1000 * n + d), .str t, blaD (cS p t)] := by
          unfold rnkP
          rw [rb, e2]
        rw [e]
        exact .tup (SqT.of upd_same) (.cons (.int _) (.cons (.str _) (.cons (dp_same sU d3) .nil)))
      have s46 := s5.trans sU
      change gName 4 (.ref U) _ (upd H5 U (.tup [.int (1000 - 1000 * n + d), .str t, .ref c])) _
      generalize upd H5 U (.tup [.int (1000 - 1000 * n + d), .str t, .ref c]) = H6 at sU dU s46 ⊢
      have h6 := s46 _ _ h4
      have d6 := dpAll_same s46 d4
      have hT6 := s46 _ _ hT4
      -- where it goes
      have lks : (sortU (((sortU (fk p)).take i).map (rnkP p))).length ≤ 1000 := by
        have := sortU_len (((sortU (fk p)).take i).map (rnkP p))
        rw [List.length_map, List.length_take] at this
        omega
      have lk : (sortU (((sortU (fk p)).take i).map (rnkP p))).length = ys.length := by rw [dpAll_len d6, List.length_map]
      have inn : rnkP p t ∉ sortU (((sortU (fk p)).take i).map (rnkP p)) := fun h => by
        obtain ⟨u, hu, e⟩ := List.mem_map.mp (sortU_mem.mp h)
        have e := rnkP_inj p e
        rw [e] at hu
        obtain ⟨j, hj, ej⟩ := List.mem_take_iff_getElem.mp hu
        have nd := asc_nd (sortU_asc (fk p))
        have hj2 : j < (sortU (fk p)).length := by omega
        obtain ⟨il2, ei⟩ := List.getElem?_eq_some_iff.mp ht
        have := (List.getElem_inj nd).mp (ej.trans ei.symm)
        omega
      have snoc : sortU (((sortU (fk p)).take (i + 1)).map (rnkP p)) = insK (sortU (((sortU (fk p)).take i).map (rnkP p))) (rnkP p t) := by
        rw [List.take_succ, ht, List.map_append]
        show sortU (((sortU (fk p)).take i).map (rnkP p) ++ [rnkP p t]) = _
        unfold sortU
        rw [List.foldl_append]
        show insU (sortU _) (rnkP p t) = _
        exact if_neg inn
      refine ⟨_, rfl, .inl ⟨rfl, _, SqL.of h6⟩, _, rfl, l, rfl, ⟨_, SqL.of h6⟩, fun D nD => ?_⟩
      generalize hks : sortU (((sortU (fk p)).take i).map (rnkP p)) = ks at *
      refine lc_list (K := K) (a := l) (xs := ys) (fun j H7 => Same H6 H7 ∧ ∃ acc, H7 D = some (.lst acc) ∧ acc.length = ((ks.take j).filter fun o => lt o (rnkP p t)).length) ⟨sm_new sm_refl nD, [], upd_same, rfl⟩ (fun j H7 _ ⟨s7, _⟩ => s7.seq (SqL.of h6)) ?_ ?_
      · rintro j y H7 hj ⟨s7, acc, hD, hlen⟩
        obtain ⟨o, ho, hy⟩ := enc_get (κ := RnkK) d6 hj
        have hd1 := Ky.dep o
        refine ⟨rfl, _, rfl, _, rfl, _, _, dp_same s7 hy, dp_same s7 dU, Ky.al o (rnkP p t), Ky.nn o, by omega, _, rfl, ?_⟩
        have hacc : acc.length ≤ 1000 := by
          rw [hlen]
          refine Nat.le_trans (List.length_filter_le _ _) ?_
          rw [List.length_take]
          omega
        show if lt o (rnkP p t) = true then _ else _
        cases e : lt o (rnkP p t) with
        | true =>
          refine iteT ⟨_, rfl, acc, hD, small1000 hacc, sm_new s7 nD, _, upd_same, ?_⟩
          rw [List.length_append, hlen, List.take_succ, ho, List.filter_append, List.length_append]
          simp [e]
        | false =>
          refine iteF ⟨s7, acc, hD, ?_⟩
          rw [hlen, List.take_succ, ho, List.filter_append, List.length_append]
          simp [e]
      rintro H7 ⟨s7, acc, hD, hlen⟩
      rw [← lk, List.take_length] at hlen
      have hcnt : acc.length = cnt ks (rnkP p t) := hlen
      have h7 := s7 _ _ h6
      have hle : acc.length ≤ ys.length := by rw [hcnt, ← lk]; exact cnt_le _ _
      refine ⟨D, acc, rfl, .inl (SqL.of hD), _, rfl, l, ys, _, _, rfl, rfl, h7, by rw [sizeLine_eq]; omega, by omega, by omega, ?_⟩
      have nt : NotT (H7 l) := by rw [h7]; exact notT_lst
      refine ⟨_, _, _, _, rfl, ?_, ?_, upd_same, ?_⟩
      · exact fun b o e => by rw [upd_ne (ne_of_none e nl)]; exact ((s4.trans s46).trans s7) b o e
      · rw [upd_ne Tl]
        exact s7 _ _ hT6
      rw [snoc, Int.toNat_natCast, hcnt]
      unfold insK
      have tu : ∀ d ∈ ks.map rnkD, tupOnly d = true := fun d hd => by
        obtain ⟨o, ho, rfl⟩ := List.mem_map.mp hd
        exact tu_rnk o
      have d9 := dpAll_put (o := .lst (ys.take (cnt ks (rnkP p t)) ++ [.ref U] ++ ys.drop (cnt ks (rnkP p t)))) nt (tupOnlyAll_of tu) (dpAll_same s7 d6)
      have dx := dp_put (o := .lst (ys.take (cnt ks (rnkP p t)) ++ [.ref U] ++ ys.drop (cnt ks (rnkP p t)))) nt (tu_rnk (rnkP p t)) (dp_same s7 dU)
      rw [List.map_append, List.map_append, List.map_take, List.map_drop]
      exact dpAll_append (dpAll_append (dpAll_take _ d9) (.cons dx .nil)) (dpAll_drop _ d9)
    · rintro σ H4 ⟨u2, u3, u4, ys, rfl, s4, hT4, h4, d4⟩
      rw [List.length_map, List.take_length] at d4
      have bl : blsD p = .tuple ((sortU ((sortU (fk p)).map (rnkP p))).map fun x => itB p x.t) := by
        unfold blsD
        rw [show ((ordB p).map fun x => itB p x.c) = ((ordB p).map (·.c)).map (itB p) from by rw [List.map_map]; rfl, ← due_is oz, List.map_map]
        rfl
      rw [bl] at k
      have m1 : ∀ x ∈ sortU ((sortU (fk p)).map (rnkP p)), x = rnkP p x.t := fun x hx => by
        obtain ⟨t, ht, rfl⟩ := List.mem_map.mp (sortU_mem.mp hx)
        rw [show (rnkP p t).t = t from rnkK_t _ _]
      have rl : (sortU ((sortU (fk p)).map (rnkP p))).length ≤ 6 := Nat.le_trans (sortU_len _) (by rw [List.length_map]; exact t6)
      generalize sortU ((sortU (fk p)).map (rnkP p)) = ks at d4 k m1 rl
      have yl : ys.length = ks.length := by rw [dpAll_len d4, List.length_map]
      refine ⟨_, rfl, l, rfl, ⟨_, SqL.of h4⟩, fun D nD => ?_⟩
      refine lc_list (K := K) (a := l) (xs := ys) (fun i H5 => Same H4 H5 ∧ ∃ zs, H5 D = some (.lst zs) ∧ DpAll K H5 zs ((ks.take i).map fun x => itB p x.t)) ⟨sm_new sm_refl nD, [], upd_same, .nil⟩ (fun i H5 _ ⟨s5, _⟩ => SqL.of (s5 _ _ h4)) ?_ ?_
      · rintro i y H5 hi ⟨s5, zs, hD, dz⟩
        obtain ⟨x, hx, hy⟩ := enc_get (κ := RnkK) d4 hi
        have xl := (List.getElem?_eq_some_iff.mp hx).1
        have ex := m1 x (List.mem_of_getElem? hx)
        have hy : Dp K H4 y (rnkD x) := hy
        have er : rnkD x = .tuple [.int (rnkP p x.t).r, .str x.t, blaD (cS p x.t)] := by
          rw [ex]
          unfold rnkP
          rw [rnk_bla, rnkK_t]
        rw [er] at hy
        obtain ⟨b, ws, rfl, hb, hw⟩ := dp_tup (dp_same s5 hy)
        cases hw with
        | cons w1 w2 =>
        cases w2 with
        | cons w2 w3 =>
        cases w3 with
        | cons w3 w4 =>
        cases w4
        cases dp_str w2
        refine ⟨rfl, _, rfl, .inr (.inl ⟨b, _, 1, _, rfl, rfl, hb, rfl, _, rfl, .inr (.inl ⟨b, _, 2, _, rfl, rfl, hb, rfl, (by show 2 ≤ sizeLine; decide), fun U nU => ?_⟩)⟩)⟩
        have fin : ∀ vb, Dp K H5 vb (blaD (cS p x.t)) → ∃ acc, upd H5 U (.tup [.str x.t, vb]) D = some (.lst acc) ∧ acc.length < sizeLine ∧ Same H4 (upd (upd H5 U (.tup [.str x.t, vb])) D (.lst (acc ++ [.ref U]))) ∧ ∃ zs, upd (upd H5 U (.tup [.str x.t, vb])) D (.lst (acc ++ [.ref U])) D = some (.lst zs) ∧ DpAll K (upd (upd H5 U (.tup [.str x.t, vb])) D (.lst (acc ++ [.ref U]))) zs ((ks.take (i + 1)).map fun x => itB p x.t) := fun vb w3 => by
          have sU : Same H5 (upd H5 U (.tup [.str x.t, vb])) := sm_new sm_refl nU
          have dU : Dp K (upd H5 U (.tup [.str x.t, vb])) (.ref U) (itB p x.t) := .tup (SqT.of upd_same) (.cons (.str _) (.cons (dp_same sU w3) .nil))
          generalize upd H5 U (.tup [.str x.t, vb]) = H6 at sU dU ⊢
          have hD6 := sU _ _ hD
          have nt : NotT (H6 D) := by rw [hD6]; exact notT_lst
          have tu : ∀ t, tupOnly (itB p t) = true := fun t => by
            unfold itB
            have := tu_bla (cS p t)
            simp [tupOnly, tupOnlyAll, this]
          refine ⟨zs, hD6, small1000 (by rw [dpAll_len dz, List.length_map, List.length_take]; omega), sm_new (s5.trans sU) nD, _, upd_same, ?_⟩
          rw [List.take_succ, hx, List.map_append]
          exact dpAll_append (dpAll_put nt (tupOnlyAll_of fun e he => by
            obtain ⟨z, _, rfl⟩ := List.mem_map.mp he
            exact tu z.t) (dpAll_same sU dz)) (.cons (dp_put nt (tu x.t) dU) .nil)
        exact fin _ w3
      rintro H5 ⟨s5, zs, hD, dz⟩
      rw [yl, List.take_length] at dz
      refine ⟨D, zs, rfl, .inl ⟨SqL.of hD, fun U nU => ?_⟩⟩
      have sU := sm_new (o := .tup zs) sm_refl nU
      exact k _ _ ((s4.trans s5).trans sU) (.tup (SqT.of upd_same) (dpAll_same sU dz))
end
end K26


set_option Elab.async false
set_option linter.all false
set_option maxRecDepth 100000
set_option maxHeartbeats 8000000
/-! _law_refused -/
namespace K26
open PySem L2 Nd Bk Gd PySem.ExE
def spRef (K : PySem.W.Frag) : Sp := fun vs H Q _ => ∃ (v : V) (p : Poly), vs = [v] ∧ Over K v p H ∧ ∀ (L : Addr) (H' : Hp), Same H H' → H' L = some (.lst [.str (Str.ofString "sets"), .int 1]) → Q (.ref L) H'
section
variable {P : Program} {w : World} {K : PySem.W.Frag} {mg : Str → Option Value} {base : Heap} {T C cN fI fN : Addr}
abbrev rfN : List Str := ["p", "e"]
theorem scRef : FnScope rfN ["p"] (defScope yRef) := ⟨rfl, rfl, rfl, by decide +kernel, rfl, by decide +kernel, by decide +kernel⟩
theorem ok_ref {f : Addr} {fd : FuncData} (F : Fun K "_law_refused" "_law_refused" yRef f fd) (N : Nm mg) (Z : Tz K mg T C cN fI fN)
    {fb : Addr} {fdb : FuncData} (gB : mg "blames" = some (.ref fb)) (kB : PySem.W.keepIn K (.ref fb) = true) (bB : Binds K fdb ["p"] []) (GB : FnOk P w K mg base (L2.CX P w) 8 fb fdb ["p"] (spBlsX K C)) :
    FnOk P w K mg base CX0 9 f fd ["p"] (spRef K) := by
  refine F.ok scRef (fun vs H Q E h => ?_) (fun cdv A outer s H vs Q E hr h => ?_)
  · obtain ⟨v, p, rfl, _⟩ := h
    rfl
  · obtain ⟨v, p, rfl, ov, k⟩ := h
    have hr8 : Room 8 _ := hr
    refine ⟨_, pss_cons (ps_try_named rfl rfl scRef.nd takes0 (fun W pn xe tk _ => (pss_one (ps_expr (pe_callS GB hr8 rfl gB kB bB (fun σ => passAt tk σ) (pa_cons (pv 0) pa_nil))))) (.cons (i := 1) ⟨rfl, by decide, .inl Z.X.g⟩ rfl rfl (fun b oe cls d pn hz hf => (pss_one (ps_ret (pe_lst (pa_cons (pe_xf (xf_of Z.X.E) Z.X.E.no hz hf (pv 1)) (pa_cons (pe_callTy call_int1 (by rfl) N.int (by decide +kernel) (pa_cons
        (pe_and (pe_callB (show CallR _ _ (rIsX K b cls d) from call_isX Z.hc hz hf) (by rfl) N.isi (by decide +kernel) (pa_cons (pv 1) (pa_cons (pe_glob (v := .ref T) rfl Z.gT rfl) pa_nil))) (pe_one (pe_not (pe_callB (show CallR _ _ (rIsX K b cls d) from call_isX Z.hc hz hf) (by rfl) N.isi (by decide +kernel) (pa_cons (pv 1) (pa_cons (pe_glob (v := .ref cN) rfl Z.gN rfl) pa_nil)))))) pa_nil)) pa_nil)))))) .nil)) (pss_one (ps_ret (pe_lst pa_nil))), ?_⟩
    have nd := Z.nd
    simp only [List.nodup_cons, List.mem_cons, List.not_mem_nil, or_false, not_or] at nd
    have exm : PySem.W.exmOne K (.ref C) (.ref C) = some true := PySem.W.exm_ref Z.X.E.exC Z.X.E.hd Z.X.E.tyC Z.X.E.self
    have kT : PySem.W.kitOne K (.ref C) (.ref T) = some true := kit_own Z.X.E (cls_of Z.hdT) Z.tT Z.X.E.base nd.1.1
    have kN : PySem.W.kitOne K (.ref C) (.ref cN) = some false := kit_own Z.X.E Z.EN.isCls Z.EN.tyC (Z.X.E.other (fun e => nd.2.1 e.symm) fun e => nd.1.2 e.symm) fun e => nd.2.1 e.symm
    refine ⟨_, rfl, v, p, rfl, ov, fun d H' s' hd => ⟨true, exm, fun _ e ne => ?_, fun z => nomatch z⟩⟩
    refine ⟨_, rfl, rfl, rfl, d, _, _, rfl, hd, rfl, _, rfl, C, T, fI, "word", _, _, true, d, _, rfl, rfl, .own _, Z.X.E, rfl, hd, kT, _, rfl, iteT ?_⟩
    refine ⟨_, rfl, C, T, fI, "word", _, _, false, d, _, rfl, rfl, .own _, Z.X.E, rfl, hd, kN, _, rfl, .inr ⟨_, rfl, (by show 2 ≤ sizeLine; decide), fun L nL => ?_⟩⟩
    exact k L _ (s'.trans (sm_new sm_refl nL)) upd_same
end
end K26


set_option Elab.async false
set_option linter.all false
set_option maxRecDepth 100000
set_option maxHeartbeats 8000000
/-! _law_pairs -/
namespace K26
open PySem L2 Nd Bk Gd
section
variable {n : Nat} {q : Poly} {t : Str}
theorem tok_pair (hq : IsSum q (prsS n)) (h : t ∈ fk q) : ∃ a, a < n ∧ t ∈ pairS a := by
  obtain ⟨u, hu, hx⟩ := List.mem_flatMap.mp h
  obtain ⟨o, ho, e⟩ := (hq u.1).mp ⟨u.2, hu⟩
  obtain ⟨a, ha, rfl⟩ := List.mem_map.mp ho
  refine ⟨a, List.mem_range.mp ha, ?_⟩
  rw [e, monoS_keys] at hx
  exact hx
theorem cS_pairs (hn : n ≤ 10) (hq : IsSum q (prsS n)) (h : t ∈ fk q) : ∃ r, cS q t = some r ∧ (1 : Int) + (r.length : Nat) = (n : Nat) := by
  obtain ⟨a, ha, ht⟩ := tok_pair hq h
  refine ⟨dueP n a, cont_pairs hn ha ht hq, ?_⟩
  have := due_many hn ha hq
  omega
theorem bls_pairs (hn : n ≤ 10) (hq : IsSum q (prsS n)) : blsD q = .tuple ((sortU (fk q)).map fun t => .tuple [.str t, .tuple [.int 1, .int (n : Nat)]]) := by
  have tri : ∀ t ∈ sortU (fk q), triP q t = ⟨0, (n : Nat), t⟩ := fun t ht => by
    obtain ⟨r, e, l⟩ := cS_pairs hn hq (sortU_mem.mp ht)
    unfold triP
    rw [e]
    show TriK.mk 0 (1 + (r.length : Nat)) t = _
    rw [l]
  have it : ∀ t ∈ sortU (fk q), itB q t = .tuple [.str t, .tuple [.int 1, .int (n : Nat)]] := fun t ht => by
    obtain ⟨r, e, l⟩ := cS_pairs hn hq (sortU_mem.mp ht)
    unfold itB
    rw [e]
    show PyData.tuple [.str t, .tuple [.int 1, .int (1 + (r.length : Nat))]] = _
    rw [l]
  have o : ordB q = (sortU (fk q)).map (triP q) := sortU_self (by
    unfold AscK
    rw [List.pairwise_map]
    refine List.Pairwise.imp_of_mem (fun {a b} ha hb l => ?_) (sortU_asc (fk q))
    rw [tri a ha, tri b hb, tri_c (x := ⟨0, (n : Nat), a⟩) (y := ⟨0, (n : Nat), b⟩) rfl rfl (lt_ne l)]
    exact l)
  unfold blsD
  rw [o, List.map_map]
  congr 1
  refine List.map_congr_left fun t ht => ?_
  show itB q (triP q t).c = _
  rw [show (triP q t).c = t from triK_c _ _, it t ht]
theorem toks_pairs (hn : n ≤ 10) (hq : IsSum q (prsS n)) : (sortU (fk q)).length ≤ 20 := by
  refine Nat.le_trans (nd_le (asc_nd (sortU_asc _)) (m := (prsS n).flatten) fun z hz => ?_) ?_
  · obtain ⟨a, ha, ht⟩ := tok_pair hq (sortU_mem.mp hz)
    exact List.mem_flatten.mpr ⟨pairS a, List.mem_map.mpr ⟨a, List.mem_range.mpr ha, rfl⟩, ht⟩
  · rw [← List.flatMap_id]
    refine Nat.le_trans (flatL_len (f := id) (n := 2) fun o ho => ?_) ?_
    · obtain ⟨i, hi, rfl⟩ := List.mem_map.mp ho
      have := pair_two i (by have := List.mem_range.mp hi; omega)
      show (pairS i).length ≤ 2
      omega
    · unfold prsS
      rw [List.length_map, List.length_range]
      omega
theorem put_keep {κ : Type} [DecidableEq κ] {l : Bag κ} {k k' : κ} {v : Int} (h : ∃ c, (k', c) ∈ l) : ∃ c, (k', c) ∈ put l k v := by
  obtain ⟨c, h⟩ := h
  unfold put
  split
  · by_cases q : k' = k
    · exact ⟨v, List.mem_map.mpr ⟨_, h, by rw [if_pos q]⟩⟩
    · exact ⟨c, List.mem_map.mpr ⟨_, h, by rw [if_neg q]⟩⟩
  · exact ⟨c, List.mem_append_left _ h⟩
end
def spPrsB (K : PySem.W.Frag) : Sp := fun vs H Q _ => ∃ (p c : Addr) (ns : List Int), vs = [.ref p] ∧ StAt H p c ns ∧ ∀ H', But p H H' → Q (.bl true) H'
section
variable {P : Program} {w : World} {K : PySem.W.Frag} {mg : Str → Option Value} {base : Heap}
abbrev pqN : List Str := ["state", "many", "pairs", "book", "pair", "p", "k", "token"]
theorem scPrs : FnScope pqN ["state"] (defScope yPrs) := ⟨rfl, rfl, rfl, by decide +kernel, rfl, by decide +kernel, by decide +kernel⟩
theorem ok_prs {f : Addr} {fd : FuncData} (F : Fun K "_law_pairs" "_law_pairs" yPrs f fd) (N : Nm mg) (Gt : Df P w K mg base 2 "_law_take" ["state", "limit"] spTk) (Gr : Df P w K mg base 1 "_law_rising" ["rows"] (spRis K Str)) (Go : Df P w K mg base 2 "_law_poly_of" ["book"] (spPOf K P w))
    (Gl : Df P w K mg base 4 "_law_same" ["actual", "due"] (spSmL K 2)) (Gf : Df P w K mg base 9 "_law_refused" ["p"] (spRef K)) (Gm : Df P w K mg base 4 "_law_same" ["actual", "due"] (spSm K 3)) (Gb : Df P w K mg base 8 "blames" ["p"] (spBls K)) (Ga : Df P w K mg base 2 "_law_of" ["p"] (spYOf K)) :
    FnOk P w K mg base CX0 10 f fd ["state"] (spPrsB K) := by
  obtain ⟨ft, fdt, gT, kT, bT, GT⟩ := Gt.ok
  obtain ⟨fr, fdr, gR, kR, bR, GR⟩ := Gr.ok
  obtain ⟨fo, fdo, gO, kO, bO, GO⟩ := Go.ok
  obtain ⟨fl, fdl, gL, kL, bL, GL⟩ := Gl.ok
  obtain ⟨ff, fdf, gF, kF, bF, GF⟩ := Gf.ok
  obtain ⟨fm, fdm, gM, kM, bM, GM⟩ := Gm.ok
  obtain ⟨fb, fdb, gB, kB, bB, GB⟩ := Gb.ok
  obtain ⟨fa, fda, gA, kA, bA, GA⟩ := Ga.ok
  refine F.ok scPrs (fun vs H Q E h => ?_) (fun cdv A outer s H vs Q E hr h => ?_)
  · obtain ⟨p, c, ns, rfl, _⟩ := h
    rfl
  · obtain ⟨p, c, ns, rfl, hP, k⟩ := h
    have hr1 : Room 1 _ := hr.mono (by decide)
    have hr2 : Room 2 _ := hr.mono (by decide)
    have hr4 : Room 4 _ := hr.mono (by decide)
    have hr8 : Room 8 _ := hr.mono (by decide)
    have hr9 : Room 9 _ := hr
    --BODYA
    refine ⟨_, pss_cons (ps_set (i := 1) scPrs.nd rfl (Or.inr rfl) (pe_op op_add pe_int (pe_call GT hr2 rfl gT kT bT .nil pass0 (pa_cons (pv 0) (pa_cons pe_int pa_nil)))))
      (pss_cons (ps_setLc (i := 2) (own := [("k", 6)]) (g := gName 6) (tt := tYes) rfl scPrs.nd rfl rfl (sw_true rfl rfl rfl (by decide +kernel)) (pi_range1 rfl N.rng (pa_cons (pv 1) pa_nil)) (blkOk_by (N := pqN) (sc := defScope yPrs) (by decide +kernel)) (fun _ _ _ _ _ => pg_name (i := 6) scPrs.nd rfl (Or.inl rfl)) (fun _ _ _ _ _ => pts_nil) (fun _ _ _ _ _ => (pe_callTy (show CallR _ _ (rTupO K) from call_tuple_of) (by rfl) N.tup (by rfl) (pa_cons (pe_call GR hr1 rfl gR kR bR .nil pass0 (pa_cons (pe_lst (pa_cons (pe_op op_add_str pe_str (pe_callTy call_str_int (by rfl) N.str (by rfl) (pa_cons (pe_op op_add (pe_op op_mul pe_int (pv 6)) pe_int) pa_nil))) (pa_cons (pe_op op_add_str pe_str (pe_callTy call_str_int (by rfl) N.str (by rfl) (pa_cons (pe_op op_add (pe_op op_mul pe_int (pv 6)) pe_int) pa_nil))) pa_nil))) pa_nil)) pa_nil))))
      (pss_cons (ps_set (i := 3) scPrs.nd rfl (Or.inl rfl) (show PE _ _ (tNdNew P w) from pe_ndNew))
      (pss_cons (ps_for PassesOwn.never rfl (pi_list (pv 2)) (pg_name (i := 4) scPrs.nd rfl (Or.inl rfl))
      (pss_one (ps_asg (pe_op op_add pe_int (pe_call GT hr2 rfl gT kT bT .nil pass0 (pa_cons (pv 0) (pa_cons pe_int pa_nil)))) (pg_sub (pv 3) (pe_callTy (show CallR _ _ (rTupF K) from call_tupleF) (by rfl) N.tup (by rfl) (pa_cons (pe_lc (own := [("token", 7)]) (g := gName 7) (tt := tYes) rfl scPrs.nd (pi_tup (pv 4)) (blkOk_by (N := pqN) (sc := defScope yPrs) (by decide +kernel)) (fun _ _ _ _ _ => pg_name (i := 7) scPrs.nd rfl (Or.inl rfl)) (fun _ _ _ _ _ => pts_nil) (fun _ _ _ _ _ => (pe_tup (pa_cons (pv 7) (pa_cons pe_int pa_nil))))) pa_nil)) (set_nd (u9 hr))))))
      (pss_cons (ps_set (i := 5) scPrs.nd rfl (Or.inl rfl) (pe_call GO hr2 rfl gO kO bO .nil pass0 (pa_cons (pv 3) pa_nil)))
      (pss_cons (ps_if (pt_cmpR op_gt (pv 1) pe_int (nomark _)) (pss_one (ps_ret (pe_call GL hr4 rfl gL kL bL .nil pass0 (pa_cons (pe_call GF hr9 rfl gF kF bF .nil pass0 (pa_cons (pv 5) pa_nil)) (pa_cons (pe_lst (pa_cons pe_str (pa_cons pe_int pa_nil))) pa_nil))))) pss_nil)
      (pss_one (ps_ret (pe_call GM hr4 rfl gM kM bM .nil pass0 (pa_cons (pe_call GB hr8 rfl gB kB bB .nil pass0 (pa_cons (pv 5) pa_nil)) (pa_cons (pe_callTy (show CallR _ _ (rTupO K) from call_tuple_of) (by rfl) N.tup (by rfl) (pa_cons (pe_lc (own := [("token", 7)]) (g := gName 7) (tt := tYes) rfl scPrs.nd (pi_list (pe_call GA hr2 rfl gA kA bA .nil pass0 (pa_cons (pv 5) pa_nil))) (blkOk_by (N := pqN) (sc := defScope yPrs) (by decide +kernel)) (fun _ _ _ _ _ => pg_name (i := 7) scPrs.nd rfl (Or.inl rfl)) (fun _ _ _ _ _ => pts_nil) (fun _ _ _ _ _ => (pe_tup (pa_cons (pv 7) (pa_cons (pe_tup (pa_cons pe_int (pa_cons (pv 1) pa_nil))) pa_nil))))) pa_nil)) pa_nil)))))))))), ?_⟩
    --END
    refine ⟨_, rfl, p, c, ns, _, rfl, by decide, by decide, hP, fun r H1 a0 a1 P1 k1 => ⟨_, _, rfl, rfl, ?_⟩⟩
    show gName 1 (.int (1 + r)) _ _ _
    obtain ⟨n, hn⟩ := Int.eq_ofNat_of_zero_le (show 0 ≤ 1 + r by omega)
    rw [hn]
    have n10 : n ≤ 10 := by omega
    have n1 : 1 ≤ n := by omega
    -- pairs
    refine ⟨_, rfl, _, rfl, by omega, by omega, fun Bl nBl => ?_⟩
    have Bp := P1.off nBl
    refine lc_it (walk_range (lo := 0) (n := n)) (fun i H2 => Same H1 H2 ∧ ∃ ys, H2 Bl = some (.lst ys) ∧ DpAll K H2 ys ((prsS i).map sD)) ⟨sm_new sm_refl nBl, [], upd_same, .nil⟩ (fun i H2 _ _ => trivial) ?_ ?_
    · rintro i x _ H2 hi ⟨s2, ys, hB2, dy⟩ ⟨rfl, rfl⟩
      have hi : i < n := by simpa using hi
      have i10 : i < 10 := by omega
      have yl : ys.length = i := by rw [dpAll_len dy, List.length_map]; unfold prsS; rw [List.length_map, List.length_range]
      refine ⟨rfl, _, rfl, _, _, rfl, rfl, .inr ⟨by omega, by omega⟩, _, _, rfl, rfl, _, rfl, slog (by omega) (by omega), _, _, rfl, rfl, sadd (by omega) (by omega), _, rfl, _, _, rfl, rfl, .inr ⟨by omega, by omega⟩, _, _, rfl, rfl, _, rfl, slog (by omega) (by omega), _, _, rfl, rfl, sadd (by omega) (by omega), (by show 2 ≤ sizeLine; decide), fun L nL => ?_⟩
      have sh : ∀ z ∈ [tkA (2 * ((0 : Int) + (i : Nat)) + 1), tkA (2 * ((0 : Int) + (i : Nat)) + 2)], shU z = true := fun z hz => pair_sh i i10 z (sortU_mem.mpr hz)
      refine ⟨L, _, [tkA (2 * ((0 : Int) + (i : Nat)) + 1), tkA (2 * ((0 : Int) + (i : Nat)) + 2)], rfl, SqL.of upd_same, .cons (.str _) (.cons (.str _) .nil), fun _ _ => rfl, fun z hz => shU_K (sh z hz), by show 2 ≤ 1000; decide, fun l zs H4 nl s4 hl dl _ => ?_⟩
      refine ⟨l, zs, rfl, .inl ⟨SqL.of hl, fun U nU => ?_⟩⟩
      have s34 := (sm_new (o := .lst [.str (tkA (2 * ((0 : Int) + (i : Nat)) + 1)), .str (tkA (2 * ((0 : Int) + (i : Nat)) + 2))]) sm_refl nL).trans s4
      have sU : Same H4 (upd H4 U (.tup zs)) := sm_new sm_refl nU
      have dU : Dp K (upd H4 U (.tup zs)) (.ref U) (sD (pairS i)) := .tup (SqT.of upd_same) (dpAll_same sU dl)
      have s25 := s34.trans sU
      generalize upd H4 U (.tup zs) = H5 at sU dU s25 ⊢
      have hB5 := s25 _ _ hB2
      have nt : NotT (H5 Bl) := by rw [hB5]; exact notT_lst
      refine ⟨ys, hB5, small1000 (by omega), sm_new (s2.trans s25) nBl, _, upd_same, ?_⟩
      have e : prsS (i + 1) = prsS i ++ [pairS i] := by
        unfold prsS
        rw [List.range_succ, List.map_append]
        rfl
      rw [e, List.map_append]
      exact dpAll_append (dpAll_put nt (tupOnlyAll_of (tu_sDs _)) (dpAll_same s25 dy)) (.cons (dp_put nt (tu_sD _) dU) .nil)
    rintro H3 ⟨s13, ys, hB3, dy⟩
    have P3 := P1.same s13
    have yl : ys.length = n := by rw [dpAll_len dy, List.length_map]; unfold prsS; rw [List.length_map, List.length_range]
    have at' : ∀ {j : Nat}, j < n → (prsS n)[j]? = some (pairS j) := fun {j} hj => by
      unfold prsS
      rw [List.getElem?_map, List.getElem?_range hj]
      rfl
    -- book
    intro d nd
    have dp := P3.off nd
    have dc : c ≠ d := ne_of_none P3.cells nd
    have k0 : But p H3 (upd H3 d (ndO P w d [])) := but_mine But.refl nd
    have P0 : StAt (upd H3 d (ndO P w d [])) p c ns := P3.mine (Ne.symm dp) dc
    have n0 : NdAt K P w (upd H3 d (ndO P w d [])) d [] := ⟨upd_same, fun e he => nomatch he⟩
    generalize upd H3 d (ndO P w d []) = H0 at k0 P0 n0 ⊢
    have keep : ∀ {H1 H2 : Hp} {es : List Ent}, Same H1 H2 → NdAt K P w H1 d es → NdAt K P w H2 d es := fun s n => ⟨s _ _ n.at_, fun e he => dp_same s (n.keys e he)⟩
    have nd_but : ∀ {H2 H3 : Hp} {es : List Ent}, StAt H2 p c ns → But p H2 H3 → NdAt K P w H2 d es → NdAt K P w H3 d es := fun {H2 H3 es} hb kb n => ⟨kb _ _ n.at_ dp, fun e he => bD_kt (κ := Str) (KeepT.but hb.notT kb) (n.keys e he)⟩
    refine ⟨_, rfl, Bl, rfl, ⟨_, SqL.of (k0 _ _ hB3 Bp)⟩, ?_⟩
    refine for_list (K := K) (a := Bl) (xs := ys) (fun j σ H4 => (∃ u4, σ = [some (.ref p), some (.int n), some (.ref Bl), some (.ref d), u4, none, none, none]) ∧ StAt H4 p c ns ∧ But p H3 H4 ∧ ∃ es, NdAt K P w H4 d es ∧ ((bagOf es).map (·.1)).Nodup ∧ es.length ≤ j ∧ (∀ t ∈ bagOf es, (1 ≤ t.2 ∧ t.2 ≤ 3) ∧ ∃ o ∈ (prsS n).take j, t.1 = monoS o) ∧ ∀ o ∈ (prsS n).take j, ∃ x, (monoS o, x) ∈ bagOf es)
      ⟨⟨_, rfl⟩, P0, k0, [], n0, List.nodup_nil, Nat.le_refl _, fun t ht => (by cases ht), fun o ho => by rw [List.take_zero] at ho; cases ho⟩ (fun j σ H4 _ ⟨_, _, k4, _⟩ => SqL.of (k4 _ _ hB3 Bp)) ?_ ?_
    · rintro j x σ H4 hj ⟨⟨u4, rfl⟩, P4, k4, es, n4, hn', hl, hm, hin⟩
      have jn := (List.getElem?_eq_some_iff.mp hj).1
      obtain ⟨o, b, ho, rfl, hb⟩ := sets_at (dpAll_kt0 (.but P3.notT k4) dy (tupOnlyAll_of (tu_sDs _))) hj
      rw [at' (by omega)] at ho
      cases ho
      have o2 := pair_two j (by omega)
      refine ⟨_, rfl, p, c, ns, _, rfl, by decide, by decide, P4, fun rv H5 b0 b1 P5 k5 => ⟨_, _, rfl, rfl, ?_⟩⟩
      have k35 := k4.trans k5
      have n5 := nd_but P4 k5 n4
      obtain ⟨o', b', ho', eb', hb⟩ := sets_at (dpAll_kt0 (.but P3.notT k35) dy (tupOnlyAll_of (tu_sDs _))) hj
      rw [at' (by omega)] at ho'
      cases ho'
      cases eb'
      refine ⟨_, rfl, _, rfl, b, rfl, ⟨_, hb⟩, fun D nD => ?_⟩
      refine lc_tup (K := K) (a := b) (xs := (pairS j).map V.str) (fun i H6 => Same H5 H6 ∧ ∃ zs, H6 D = some (.lst zs) ∧ DpAll K H6 zs ((monoS ((pairS j).take i)).map Bk.tkD)) ⟨sm_new sm_refl nD, [], upd_same, .nil⟩ (fun i H6 _ ⟨s6, _⟩ => sqT_same s6 hb) ?_ ?_
      · rintro i x H6 hi ⟨s6, zs, hD, dz⟩
        rw [List.getElem?_map] at hi
        obtain ⟨z, hz, rfl⟩ := Option.map_eq_some_iff.mp hi
        have il := (List.getElem?_eq_some_iff.mp hz).1
        refine ⟨rfl, _, rfl, (by show 2 ≤ sizeLine; decide), fun U nU => ?_⟩
        have sU : Same H6 (upd H6 U (.tup [.str z, .int 1])) := sm_new sm_refl nU
        have dU : Dp K (upd H6 U (.tup [.str z, .int 1])) (.ref U) (Bk.tkD (z, 1)) := .tup (SqT.of upd_same) (.cons (.str _) (.cons (.int _) .nil))
        generalize upd H6 U (.tup [.str z, .int 1]) = H7 at sU dU ⊢
        have hD7 := sU _ _ hD
        have nt : NotT (H7 D) := by rw [hD7]; exact notT_lst
        have zl : zs.length ≤ 1000 := by
          rw [dpAll_len dz, List.length_map]
          unfold monoS
          rw [List.length_map, List.length_take]
          omega
        refine ⟨_, hD7, small1000 zl, sm_new (s6.trans sU) nD, _, upd_same, ?_⟩
        have e : monoS ((pairS j).take (i + 1)) = monoS ((pairS j).take i) ++ [(z, 1)] := by
          unfold monoS
          rw [List.take_succ, hz, List.map_append]
          rfl
        rw [e, List.map_append]
        exact dpAll_append (dpAll_put nt (tupOnlyAll_of (tu_tk _)) (dpAll_same sU dz)) (.cons (dp_put nt rfl dU) .nil)
      rintro H6 ⟨s6, zs, hD, dz⟩
      rw [List.length_map, List.take_length] at dz
      refine ⟨D, zs, rfl, SqL.of hD, fun M oM nM hoM => ?_⟩
      have sM : Same H6 (upd H6 M (.frz oM (.tup zs))) := sm_new sm_refl nM
      have dM : Dp K (upd H6 M (.frz oM (.tup zs))) (.ref M) (mD (monoS (pairS j))) := .tup (.inl (.inr ⟨oM, upd_same⟩)) (dpAll_same sM dz)
      have s57 := s6.trans sM
      generalize upd H6 M (.frz oM (.tup zs)) = H7 at sM dM s57 ⊢
      have n7 := keep s57 n5
      have P7 := P5.same s57
      have k37 := k35.same s57
      refine ⟨d, M, es, monoS (pairS j), _, rfl, rfl, rfl, n7, dM, small1000 (by omega), ⟨_, rfl⟩, P7.mine (Ne.symm dp) dc, but_mine k37 nd, _, nd_put n7 dM, ?_, ?_, ?_, ?_⟩
      · rw [bagOf_put]
        exact nodup_put hn' _ _
      · have := putN_len es (monoS (pairS j)) M (1 + rv)
        omega
      · rw [bagOf_put]
        refine put_all (R := fun t => (1 ≤ t.2 ∧ t.2 ≤ 3) ∧ ∃ o ∈ (prsS n).take (j + 1), t.1 = monoS o) (fun t ht => ?_) ⟨⟨?_, ?_⟩, pairS j, ?_, rfl⟩
        · obtain ⟨a, o', h1, h2⟩ := hm t ht
          exact ⟨a, o', by rw [List.take_succ]; exact List.mem_append_left _ h1, h2⟩
        · show 1 ≤ 1 + rv
          omega
        · show 1 + rv ≤ 3
          omega
        · rw [List.take_succ, at' (by omega)]
          exact List.mem_append_right _ List.mem_cons_self
      · intro o' ho'
        rw [bagOf_put]
        rw [List.take_succ, at' (by omega)] at ho'
        rcases List.mem_append.mp ho' with h | h
        · exact put_keep (hin o' h)
        · have e : o' = pairS j := by simpa using h
          rw [e]
          exact ⟨_, put_mem _ _ _⟩
    rintro σ H4 ⟨⟨u4, rfl⟩, P4, k4, es, n4, hn', hl, hm, hin⟩
    rw [yl] at hl
    rw [yl, List.take_of_length_le (by unfold prsS; rw [List.length_map, List.length_range]; exact Nat.le_refl _)] at hm hin
    have okp : ∀ o ∈ prsS n, AscK o ∧ ∀ z ∈ o, shU z = true := fun o ho => by
      obtain ⟨j, hj, rfl⟩ := List.mem_map.mp ho
      exact ⟨pair_asc j, pair_sh j (by have := List.mem_range.mp hj; omega)⟩
    refine ⟨_, rfl, d, es, rfl, n4, hn', fun t ht => mono_K fun x hx => ?_, by omega, fun v H5 s5 dv => ?_⟩
    · obtain ⟨_, o, ho, e⟩ := hm t ht
      rw [e] at hx
      obtain ⟨z, hz, rfl⟩ := List.mem_map.mp hx
      exact (okp o ho).2 z hz
    have pok : POk (srt (bagOf es)) := ⟨srt_asc hn', fun t ht => (by
      obtain ⟨e, _⟩ := hm t ((srt_perm _).mem_iff.mp ht)
      omega), fun t ht => (by
      obtain ⟨_, o, ho, e⟩ := hm t ((srt_perm _).mem_iff.mp ht)
      rw [e]
      exact monoS_ok (okp o ho).1)⟩
    have isum : IsSum (srt (bagOf es)) (prsS n) := fun m => by
      constructor
      · rintro ⟨c, hc⟩
        obtain ⟨_, o, ho, e⟩ := hm _ ((srt_perm _).mem_iff.mp hc)
        exact ⟨o, ho, e⟩
      · rintro ⟨o, ho, rfl⟩
        obtain ⟨x, hx⟩ := hin o ho
        exact ⟨x, (srt_perm _).mem_iff.mpr hx⟩
    have ql : (srt (bagOf es)).length ≤ n := by
      rw [(srt_perm _).length_eq, bagOf_len]
      exact hl
    generalize srt (bagOf es) = q at dv pok isum ql
    clear hm hin hn' n4 hl
    have q2 : ∀ t ∈ q, t.1.length ≤ 2 := fun t ht => by
      obtain ⟨o, ho, e⟩ := (isum t.1).mp ⟨t.2, ht⟩
      obtain ⟨i, hi, rfl⟩ := List.mem_map.mp ho
      rw [e]
      unfold monoS
      rw [List.length_map, pair_two i (by have := List.mem_range.mp hi; omega)]
      exact Nat.le_refl _
    have K5 : But p H H5 := ((k1.same s13).trans k4).same s5
    obtain ⟨tl, _, _⟩ := pairs_toks n10 isum ql
    have t20 := toks_pairs n10 isum
    have szd : Szd q := ⟨by omega, fun t ht => by have := q2 t ht; omega⟩
    refine ⟨_, rfl, _, _, rfl, rfl, _, rfl, ?_⟩
    refine ite2 (fun hc => ?_) (fun hc => ?_)
    · have h8 : 8 < n := by
        have := of_decide_eq_true hc
        omega
      refine ⟨_, rfl, v, q, rfl, over_pairs h8 n10 dv pok isum ql, fun L1 HA sA hA => ?_⟩
      refine ⟨(by show 2 ≤ sizeLine; decide), fun E1 nE1 => ?_⟩
      refine ⟨L1, E1, _, _, [.str (Str.ofString "sets"), .int 1], rfl, SqL.of ((sm_new sm_refl nE1) _ _ hA), SqL.of upd_same, .cons (.str _) (.cons (.int _) .nil), .cons (.str _) (.cons (.int _) .nil), by decide, fun d hd => ?_, fun H' s' => k _ (((K5.same sA).same (sm_new sm_refl nE1)).same s')⟩
      simp only [List.mem_cons, List.not_mem_nil, or_false] at hd
      rcases hd with rfl | rfl
      · exact .inr (.inl ⟨_, rfl⟩)
      · exact .inl (.int _)
    have h8 : n ≤ 8 := by
      have := mt decide_eq_true hc
      omega
    refine ⟨_, rfl, v, q, rfl, few_pairs h8 dv pok isum ql, pok, szd, by rw [tok_sortU]; omega, fun v1 H6 s6 d1 => ?_⟩
    rw [bls_pairs n10 isum] at d1
    refine ⟨_, rfl, v, q, rfl, dp_same s6 dv, fun z hz => ?_, tl, szd.2, fun To H7 nTo s7 hTo => ?_⟩
    · obtain ⟨a, ha, ht⟩ := tok_pair isum hz
      exact shU_K (pair_sh a (by omega) z ht)
    refine ⟨To, rfl, ⟨_, SqL.of hTo⟩, fun D nD => ?_⟩
    refine lc_list (K := K) (a := To) (xs := (sortU (fk q)).map V.str) (fun i H8 => Same H7 H8 ∧ ∃ zs, H8 D = some (.lst zs) ∧ DpAll K H8 zs (((sortU (fk q)).take i).map fun t => .tuple [.str t, .tuple [.int 1, .int (n : Nat)]])) ⟨sm_new sm_refl nD, [], upd_same, .nil⟩ (fun i H8 _ ⟨s8, _⟩ => SqL.of (s8 _ _ hTo)) ?_ ?_
    · rintro i x H8 hi ⟨s8, zs, hD, dz⟩
      rw [List.getElem?_map] at hi
      obtain ⟨t, ht, rfl⟩ := Option.map_eq_some_iff.mp hi
      have il := (List.getElem?_eq_some_iff.mp ht).1
      refine ⟨rfl, _, rfl, _, rfl, (by show 2 ≤ sizeLine; decide), fun V1 nV => ⟨(by show 2 ≤ sizeLine; decide), fun U nU => ?_⟩⟩
      have sV := sm_new (o := .tup [.int 1, .int (n : Nat)]) sm_refl nV
      have dV : Dp K (upd H8 V1 (.tup [.int 1, .int (n : Nat)])) (.ref V1) (.tuple [.int 1, .int (n : Nat)]) := .tup (SqT.of upd_same) (.cons (.int _) (.cons (.int _) .nil))
      generalize upd H8 V1 (.tup [.int 1, .int (n : Nat)]) = H9 at sV dV nU ⊢
      have sU := sm_new (o := .tup [.str t, .ref V1]) sm_refl nU
      have dU : Dp K (upd H9 U (.tup [.str t, .ref V1])) (.ref U) (.tuple [.str t, .tuple [.int 1, .int (n : Nat)]]) := .tup (SqT.of upd_same) (.cons (.str _) (.cons (dp_same sU dV) .nil))
      have s8U := sV.trans sU
      generalize upd H9 U (.tup [.str t, .ref V1]) = HA at sU dU s8U ⊢
      have hDA := s8U _ _ hD
      have nt : NotT (HA D) := by rw [hDA]; exact notT_lst
      refine ⟨zs, hDA, small1000 (by rw [dpAll_len dz, List.length_map, List.length_take]; omega), sm_new (s8.trans s8U) nD, _, upd_same, ?_⟩
      rw [List.take_succ, ht, List.map_append]
      refine dpAll_append (dpAll_put nt (tupOnlyAll_of fun e he => ?_) (dpAll_same s8U dz)) (.cons (dp_put nt (by simp [tupOnly, tupOnlyAll]) dU) .nil)
      obtain ⟨z, _, rfl⟩ := List.mem_map.mp he
      simp [tupOnly, tupOnlyAll]
    rintro H8 ⟨s8, zs, hD, dz⟩
    rw [List.length_map, List.take_length] at dz
    refine ⟨D, zs, rfl, .inl ⟨SqL.of hD, fun U nU => ?_⟩⟩
    have sU := sm_new (o := .tup zs) sm_refl nU
    refine ⟨v1, .ref U, _, rfl, dp_same ((s7.trans s8).trans sU) d1, .tup (SqT.of upd_same) (dpAll_same sU dz), .inr (.inr ⟨_, rfl, by rw [List.length_map]; omega, fun e he => ?_⟩), fun H' s' => k _ ((K5.same s6).same (((s7.trans s8).trans sU).trans s'))⟩
    obtain ⟨t, _, rfl⟩ := List.mem_map.mp he
    refine .inr (.inr ⟨_, rfl, by show 2 ≤ 1000; decide, fun e he => ?_⟩)
    simp only [List.mem_cons, List.not_mem_nil, or_false] at he
    rcases he with rfl | rfl
    · exact .inr (.inl ⟨_, rfl⟩)
    · refine .inr (.inr ⟨_, rfl, by show 2 ≤ 1000; decide, fun e he => ?_⟩)
      simp only [List.mem_cons, List.not_mem_nil, or_false] at he
      rcases he with rfl | rfl
      · exact .inl (.int _)
      · exact .inl (.int _)
end
end K26


set_option Elab.async false
set_option linter.all false
set_option maxRecDepth 100000
set_option maxHeartbeats 8000000
/-! law -/
namespace K26
open PySem L2 Nd Bk Gd PySem.ExE
theorem okd_bls {p : Poly} (h : (ordB p).length ≤ 1000) : Okd 3 (blsD p) := .inr (.inr ⟨_, rfl, by rw [List.length_map]; exact h, fun e he => by
  obtain ⟨x, _, rfl⟩ := List.mem_map.mp he
  refine .inr (.inr ⟨_, rfl, by show 2 ≤ 1000; decide, fun e he => ?_⟩)
  simp only [List.mem_cons, List.not_mem_nil, or_false] at he
  rcases he with rfl | rfl
  · exact .inr (.inl ⟨_, rfl⟩)
  · cases cS p x.c with
    | none =>
      refine .inr (.inr ⟨_, rfl, by show 2 ≤ 1000; decide, fun e he => ?_⟩)
      simp only [List.mem_cons, List.not_mem_nil, or_false] at he
      rcases he with rfl | rfl
      · exact .inl (.int _)
      · exact .inl (.int _)
    | some r =>
      refine .inr (.inr ⟨_, rfl, by show 2 ≤ 1000; decide, fun e he => ?_⟩)
      simp only [List.mem_cons, List.not_mem_nil, or_false] at he
      rcases he with rfl | rfl
      · exact .inl (.int _)
      · exact .inl (.int _)⟩)
section
variable {P : Program} {w : World} {K : PySem.W.Frag} {mg : Str → Option Value} {base : Heap}
abbrev lqN : List Str := ["script", "state", "turn", "p"]
theorem scYLaw : FnScope lqN ["script"] (defScope yLaw) := ⟨rfl, rfl, rfl, by decide +kernel, rfl, by decide +kernel, by decide +kernel⟩
theorem ok_ylaw {f : Addr} {fd : FuncData} (F : Fun K "law" "law" yLaw f fd) (N : Nm mg) (Gl : Df P w K mg base 2 "_law_start" ["script"] (spStart K)) (Gt : Df P w K mg base 2 "_law_take" ["state", "limit"] spTk)
    (Gk : Df P w K mg base 3 "_law_tokens" ["state", "many"] spYTok) (Gp : Df P w K mg base 3 "_law_poly" ["state", "tokens", "most"] (spYPoly K)) (Gd' : Df P w K mg base 5 "_law_due" ["p"] (spDueB K)) (Gs : Df P w K mg base 8 "_law_handed" ["state", "p"] (spYHand K 4))
    (Gm : Df P w K mg base 4 "_law_same" ["actual", "due"] (spSm K 3)) (Gb : Dk P w K mg base 8 "blames" ["p"] ["p"] kw1 kw1 (spBls K))
    (Ge : Df P w K mg base 10 "_law_pairs" ["state"] (spPrsB K)) : FnG P w K mg base 11 f fd ["script"] (spYLaw K) := by
  obtain ⟨fl, fdl, gL, kL, bL, GL⟩ := Gl.ok
  obtain ⟨ft, fdt, gT, kT, bT, GT⟩ := Gt.ok
  obtain ⟨fk', fdk, gK, kK, bK, GK⟩ := Gk.ok
  obtain ⟨fp, fdp, gP, kP, bP, GP⟩ := Gp.ok
  obtain ⟨fd', fdd, gD, kD, bD', GD⟩ := Gd'.ok
  obtain ⟨fs', fds, gS, kS, bS, GS⟩ := Gs.ok
  obtain ⟨fm, fdm, gM, kM, bM, GM⟩ := Gm.ok
  obtain ⟨fb, fdb, gB, kB, bB, bBk, GB⟩ := Gb.ok
  obtain ⟨fe, fde, gE, kE, bE, GE⟩ := Ge.ok
  refine ok_still F scYLaw (fun vs H Q h => ?_) (fun cdv A outer s H vs Q still hr h => ?_)
  · obtain ⟨a, ns, rfl, _⟩ := h
    rfl
  · obtain ⟨a, ns, rfl, hS, hl, k⟩ := h
    have hr2 : Room 2 _ := hr.mono (by decide)
    have hr3 : Room 3 _ := hr.mono (by decide)
    have hr4 : Room 4 _ := hr.mono (by decide)
    have hr5 : Room 5 _ := hr.mono (by decide)
    have hr8 : Room 8 _ := hr.mono (by decide)
    have hr10 : Room 10 _ := hr
    have st : Still (cxOf CX0 P w K mg base lqN "law" (defScope yLaw) f cdv A outer s H E0).nox.A := still
    --BODYA
    refine ⟨_, pss_cons (ps_set (i := 1) scYLaw.nd rfl (Or.inl rfl) (pe_call GL hr2 rfl gL kL bL .nil pass0 (pa_cons (pv 0) pa_nil)))
      (pss_cons (ps_for PassesOwn.never rfl (pi_range1 rfl N.rng (pa_cons pe_int pa_nil)) (pg_name (i := 2) scYLaw.nd rfl (Or.inl rfl))
      (pss_cons (ps_set (i := 3) scYLaw.nd rfl (Or.inl rfl) (pe_call GP hr3 rfl gP kP bP .nil pass0 (pa_cons (pv 1) (pa_cons (pe_call GK hr3 rfl gK kK bK .nil pass0 (pa_cons (pv 1) (pa_cons (pe_op op_add pe_int (pe_call GT hr2 rfl gT kT bT .nil pass0 (pa_cons (pv 1) (pa_cons pe_int pa_nil)))) pa_nil))) (pa_cons (pe_ix ix_list (pe_lst (pa_cons pe_int (pa_cons pe_int (pa_cons pe_int pa_nil)))) (pe_call GT hr2 rfl gT kT bT .nil pass0 (pa_cons (pv 1) (pa_cons pe_int pa_nil))) (fun _ _ => rfl)) pa_nil)))))
      (pss_one (ps_if (pt_not (pt_val (pe_call GM hr4 rfl gM kM bM .nil pass0 (pa_cons (pe_call GB hr8 rfl gB kB bB .nil pass0 (pa_cons (pe_call GS hr8 rfl gS kS bS .nil pass0 (pa_cons (pv 1) (pa_cons (pv 3) pa_nil))) pa_nil)) (pa_cons (pe_call GD hr5 rfl gD kD bD' .nil pass0 (pa_cons (pv 3) pa_nil)) pa_nil))))) (pss_one (ps_ret pe_bl)) pss_nil))))
      (pss_cons (ps_if (PW.pt (pw_or (pt_not (pt_val (pe_call GM hr4 rfl gM kM bM .nil pass0 (pa_cons (pe_call GB hr8 rfl gB kB bB .nil pass0 (pa_cons (pe_tup pa_nil) pa_nil)) (pa_cons (pe_tup pa_nil) pa_nil))))) (pw_or1 (pt_not (pt_val (pe_call GE hr10 rfl gE kE bE .nil pass0 (pa_cons (pv 1) pa_nil))))))) (pss_one (ps_ret pe_bl)) pss_nil)
      (pss_one (ps_ret (pe_call GM hr4 rfl gM kM bM .nil pass0 (pa_cons (pe_kws (FnG.of GB) st hr8 rfl gB kB bBk (pk_cons (pv 3) pk_nil)) (pa_cons (pe_call GD hr5 rfl gD kD bD' .nil pass0 (pa_cons (pv 3) pa_nil)) pa_nil))))))), ?_⟩
    --END
    refine ⟨_, rfl, a, ns, rfl, .inl hS, by omega, fun p c H1 np nc s1 P1 => ?_⟩
    have nonp : ∀ {H' : Hp}, StAt H' p c ns → ∀ z ∈ [p], H' z ≠ none := fun {H'} B z hz => by
      rw [List.mem_singleton.mp hz]
      obtain ⟨_, _, _, _, _, _, hb⟩ := B.lst
      rw [hb]
      exact fun q => nomatch q
    have m1 : p ∈ [p] := List.mem_singleton.mpr rfl
    refine ⟨_, rfl, by decide, by decide, ?_⟩
    refine for_range (n := 5) (fun i τ H8 => (∃ u2 u3, τ = [some (.ref a), some (.ref p), u2, u3]) ∧ StAt H8 p c ns ∧
      (i = 0 ∨ ∃ u2 v fs pl, τ = [some (.ref a), some (.ref p), u2, some v] ∧ Dp K H8 v (bD pl) ∧ PyF fs pl)) ⟨⟨_, _, rfl⟩, P1, .inl rfl⟩ ?_ ?_
    · rintro i τ H8 hi ⟨⟨u2, u3, rfl⟩, P8, _⟩
      refine ⟨_, rfl, _, rfl, _, rfl, p, c, ns, _, rfl, by decide, by decide, P8, fun r1 H9 a0 a1 P9 k9 => ⟨_, _, rfl, rfl, p, c, ns, _, rfl, by omega, by omega, P9, fun fo fs HA nfo kA PA hfo fnd flen fsh => ?_⟩⟩
      have fop : fo ≠ p := P9.off nfo
      have fl6 : fs.length ≤ 6 := by omega
      refine ⟨(by show 3 ≤ sizeLine; decide), fun q nq => ?_⟩
      have sB : Same HA (upd HA q (.lst [.int 1, .int 3, .int 6])) := sm_new sm_refl nq
      have hq : upd HA q (.lst [.int 1, .int 3, .int 6]) q = some (.lst (([1, 3, 6] : List Int).map V.int)) := upd_same
      have qp := PA.off nq
      have PB := PA.same sB
      have hfoB := sB _ _ hfo
      generalize upd HA q (.lst [.int 1, .int 3, .int 6]) = HB at sB hq PB hfoB ⊢
      refine ⟨_, rfl, p, c, ns, _, rfl, by decide, by decide, PB, fun r3 HC b0 b1 PC kC => ?_⟩
      obtain ⟨j3, rfl⟩ := Int.eq_ofNat_of_zero_le b0
      obtain ⟨most, hmo, hmm⟩ := pick_int (zs := [1, 3, 6]) (j := j3) (by show j3 < 3; omega)
      have m06 : 0 ≤ most ∧ most ≤ 6 := by
        simp only [List.mem_cons, List.not_mem_nil, or_false] at hmm
        omega
      refine ⟨q, _, _, _, rfl, rfl, SqL.of (kC _ _ hq qp), atI_nat hmo, p, c, fo, ns, fs, most, rfl, PC, kC _ _ hfoB fop, fop, fnd, fsh, by omega, m06.1, by omega, fun v pl HD kD PD dv yp' => ?_⟩
      have yp : YP fs 6 pl := ⟨yp'.ok, by have := yp'.len; omega, yp'.keys, yp'.ex, fun t ht => by have := yp'.co t ht; omega⟩
      have pf : PyF fs pl := ⟨yp, fnd, fsh, fl6⟩
      clear yp yp' hmm hmo
      have p6 := pf.pl6
      have t6 := pf.tk6
      have f1s := pf.fewS
      have f2s := f1s.brk
      have few : ∀ {v : V} {H : Hp}, FD K H v (bD pl) → FewB K v pl H := fun fd => ⟨fd, pf.toks, by omega, pf.mo, f1s.flat pf.byl, fun j _ => Nat.le_trans (f1s.at_ j) (by decide)⟩
      have ol : (ordB pl).length ≤ 6 := Nat.le_trans (sortU_len _) (by rw [List.length_map]; exact t6)
      have okB : Okd 3 (blsD pl) := okd_bls (by omega)
      refine ⟨_, rfl, _, rfl, p, c, ns, [p], v, bD pl, rfl, PD, dv, okd_poly pf.szd, m1, nonp PD, fun v1 d1 HF f1 PF kF h1 => ?_⟩
      have dvF := dp_kt0 (.but PD.notT kF) dv (tu_bD _)
      refine ⟨v1, pl, rfl, few (h1.fd f1), pf.yp.ok, pf.szd, by rw [tok_sortU]; omega, fun v5 HG sG d5 => ?_⟩
      refine ⟨_, rfl, v, pl, rfl, dp_same sG dvF, pf.shk, pf.toks, pf.ml, pf.tk6, Nat.le_trans f1s.brkl (by decide), fun o ho => Nat.le_trans (f2s.len o ho) (by decide), fun v6 HH sH d6 => ?_⟩
      refine ⟨v5, v6, _, rfl, dp_same sH d5, d6, okB, fun HI sI => ⟨_, rfl, iteF ?_⟩⟩
      have sF := (sG.trans sH).trans sI
      exact ⟨⟨_, _, rfl⟩, PF.same sF, .inr ⟨_, v, fs, pl, rfl, dp_same sF dvF, pf⟩⟩
    · rintro τ H8 ⟨_, P8, last⟩
      obtain ⟨u2, v, fs, pl, rfl, dv, pf⟩ := last.resolve_left (by decide)
      have p6 := pf.pl6
      have t6 := pf.tk6
      have f1s := pf.fewS
      have f2s := f1s.brk
      have few : ∀ {v : V} {H : Hp}, FD K H v (bD pl) → FewB K v pl H := fun fd => ⟨fd, pf.toks, by omega, pf.mo, f1s.flat pf.byl, fun j _ => Nat.le_trans (f1s.at_ j) (by decide)⟩
      have ol : (ordB pl).length ≤ 6 := Nat.le_trans (sortU_len _) (by rw [List.length_map]; exact t6)
      have okB : Okd 3 (blsD pl) := okd_bls (by omega)
      -- the empty polynomial
      refine ⟨(by show 0 ≤ sizeLine; decide), fun E1 nE1 => ?_⟩
      have sE1 : Same H8 (upd H8 E1 (.tup [])) := sm_new sm_refl nE1
      have hE1 : SqT K (upd H8 E1 (.tup [])) E1 [] := SqT.of upd_same
      generalize upd H8 E1 (.tup []) = HJ at sE1 hE1 ⊢
      refine ⟨.ref E1, [], rfl, ⟨FD.of (.tup hE1 .nil) rfl, by decide, by decide, (fun t ht => nomatch ht), by decide, fun j hj => (show ∀ j, j ≤ (byM []).length → (brkAt (byM []) j).length ≤ 400 by decide +kernel) j hj⟩, pok_zero, ⟨by decide, fun t ht => nomatch ht⟩, by decide, fun vr HK sK dr => ?_⟩
      refine ⟨(by show 0 ≤ sizeLine; decide), fun E2 nE2 => ?_⟩
      have sE2 : Same HK (upd HK E2 (.tup [])) := sm_new sm_refl nE2
      have hE2 : SqT K (upd HK E2 (.tup [])) E2 [] := SqT.of upd_same
      generalize upd HK E2 (.tup []) = HL at sE2 hE2 ⊢
      refine ⟨vr, .ref E2, .tuple [], rfl, dp_same sE2 dr, .tup hE2 .nil, okd_sets (os := []) (by decide) (fun o ho => nomatch ho), fun HM sM => ⟨_, rfl, iteF ?_⟩⟩
      have sFM := ((sE1.trans sK).trans sE2).trans sM
      refine ⟨_, rfl, p, c, ns, rfl, P8.same sFM, fun HN kN => ⟨_, rfl, iteF ?_⟩⟩
      have dvN := dp_kt0 (.but (P8.same sFM).notT kN) (dp_same sFM dv) (tu_bD _)
      refine ⟨_, rfl, v, pl, rfl, few (FD.of dvN (tu_bD _)), pf.yp.ok, pf.szd, by rw [tok_sortU]; omega, fun v5 HG sG d5 => ?_⟩
      refine ⟨_, rfl, v, pl, rfl, dp_same sG dvN, pf.shk, pf.toks, pf.ml, pf.tk6, Nat.le_trans f1s.brkl (by decide), fun o ho => Nat.le_trans (f2s.len o ho) (by decide), fun v6 HH sH d6 => ?_⟩
      exact ⟨v5, v6, _, rfl, dp_same sH d5, d6, okB, fun HI sI => k _⟩
end
end K26


set_option Elab.async false
set_option linter.all false
set_option maxRecDepth 100000
set_option maxHeartbeats 4000000
namespace K26
open PySem L2 Nd Bk Gd PySem.ExE
theorem all_mk {l : PySem.W.OpenLaw} {w : World} {K : PySem.W.Frag} {h : Heap} {mg : Str → Option Value} {fa : Addr} (X : K.In h) (G : h.Ns mainGlobals mg) (hfa : mg "law" = some (.ref fa))
    {TE : Addr} {tm : Tok}
    {cx0 ex0 Nx0 : Addr} {bsx0 subx0 : List Value} {nmx0 qnx0 : Str} {snx0 : List Str} {abx0 : Bool} {colx0 : Option Bool} {ddx0 odx0 anx0 : Option Addr} {rx00 rx01 rx02 rx03 rx05 : Option Value} {slx0 : Array (Option Value)} {ocx0 dcx0 pmx0 cdx0 ctx0 : Value}
    {cx1 ex1 Nx1 : Addr} {bsx1 subx1 : List Value} {nmx1 qnx1 : Str} {snx1 : List Str} {abx1 : Bool} {colx1 : Option Bool} {ddx1 odx1 anx1 : Option Addr} {rx10 rx11 rx12 rx13 rx15 : Option Value} {slx1 : Array (Option Value)} {ocx1 dcx1 pmx1 cdx1 ctx1 : Value}
    {f0 : Addr} {fod0 fan0 : Option Addr} {fsl0 : Array (Option Value)} {foc0 fkV0 fdc0 fpm0 fcd0 fct0 : Value}
    {f1 : Addr} {fod1 fan1 : Option Addr} {fsl1 : Array (Option Value)} {foc1 fkV1 fdc1 fpm1 fcd1 fct1 : Value}
    {f2 : Addr} {fod2 fan2 : Option Addr} {fsl2 : Array (Option Value)} {foc2 fkV2 fdc2 fpm2 fcd2 fct2 : Value}
    {f3 : Addr} {fod3 fan3 : Option Addr} {fsl3 : Array (Option Value)} {foc3 fkV3 fdc3 fpm3 fcd3 fct3 : Value}
    {f4 : Addr} {fod4 fan4 : Option Addr} {fsl4 : Array (Option Value)} {foc4 fkV4 fdc4 fpm4 fcd4 fct4 : Value}
    {f5 : Addr} {fod5 fan5 : Option Addr} {fsl5 : Array (Option Value)} {foc5 fkV5 fdc5 fpm5 fcd5 fct5 : Value}
    {f6 : Addr} {fod6 fan6 : Option Addr} {fsl6 : Array (Option Value)} {foc6 fkV6 fdc6 fpm6 fcd6 fct6 : Value}
    {f7 : Addr} {fod7 fan7 : Option Addr} {fsl7 : Array (Option Value)} {foc7 fkV7 fdc7 fpm7 fcd7 fct7 : Value}
    {f8 : Addr} {fod8 fan8 : Option Addr} {fsl8 : Array (Option Value)} {foc8 fkV8 fdc8 fpm8 fcd8 fct8 : Value}
    {f9 : Addr} {fod9 fan9 : Option Addr} {fsl9 : Array (Option Value)} {foc9 fkV9 fdc9 fpm9 fcd9 fct9 : Value}
    {f10 : Addr} {fod10 fan10 : Option Addr} {fsl10 : Array (Option Value)} {foc10 fkV10 fdc10 fpm10 fcd10 fct10 : Value}
    {f11 : Addr} {fod11 fan11 : Option Addr} {fsl11 : Array (Option Value)} {foc11 fkV11 fdc11 fpm11 fcd11 fct11 : Value}
    {f12 : Addr} {fod12 fan12 : Option Addr} {fsl12 : Array (Option Value)} {foc12 fkV12 fdc12 fpm12 fcd12 fct12 : Value}
    {f13 : Addr} {fod13 fan13 : Option Addr} {fsl13 : Array (Option Value)} {foc13 fkV13 fdc13 fpm13 fcd13 fct13 : Value}
    {f14 : Addr} {fod14 fan14 : Option Addr} {fsl14 : Array (Option Value)} {foc14 fkV14 fdc14 fpm14 fcd14 fct14 : Value}
    {f15 : Addr} {fod15 fan15 : Option Addr} {fsl15 : Array (Option Value)} {foc15 fkV15 fdc15 fpm15 fcd15 fct15 : Value}
    {f16 : Addr} {fod16 fan16 : Option Addr} {fsl16 : Array (Option Value)} {foc16 fkV16 fdc16 fpm16 fcd16 fct16 : Value}
    {f17 : Addr} {fod17 fan17 : Option Addr} {fsl17 : Array (Option Value)} {foc17 fkV17 fdc17 fpm17 fcd17 fct17 : Value}
    {f18 : Addr} {fod18 fan18 : Option Addr} {fsl18 : Array (Option Value)} {foc18 fkV18 fdc18 fpm18 fcd18 fct18 : Value}
    {f19 : Addr} {fod19 fan19 : Option Addr} {fsl19 : Array (Option Value)} {foc19 fkV19 fdc19 fpm19 fcd19 fct19 : Value}
    {f20 : Addr} {fod20 fan20 : Option Addr} {fsl20 : Array (Option Value)} {foc20 fkV20 fdc20 fpm20 fcd20 fct20 : Value}
    {f21 : Addr} {fod21 fan21 : Option Addr} {fsl21 : Array (Option Value)} {foc21 fkV21 fdc21 fpm21 fcd21 fct21 : Value}
    {f22 : Addr} {fod22 fan22 : Option Addr} {fsl22 : Array (Option Value)} {foc22 fkV22 fdc22 fpm22 fcd22 fct22 : Value}
    {f23 : Addr} {fod23 fan23 : Option Addr} {fsl23 : Array (Option Value)} {foc23 fkV23 fdc23 fpm23 fcd23 fct23 : Value}
    {f24 : Addr} {fod24 fan24 : Option Addr} {fsl24 : Array (Option Value)} {foc24 fkV24 fdc24 fpm24 fcd24 fct24 : Value}
    {f25 : Addr} {fod25 fan25 : Option Addr} {fsl25 : Array (Option Value)} {foc25 fkV25 fdc25 fpm25 fcd25 fct25 : Value}
    {f26 : Addr} {fod26 fan26 : Option Addr} {fsl26 : Array (Option Value)} {foc26 fkV26 fdc26 fpm26 fcd26 fct26 : Value}
    {f27 : Addr} {fod27 fan27 : Option Addr} {fsl27 : Array (Option Value)} {foc27 fkV27 fdc27 fpm27 fcd27 fct27 : Value}
    {f28 : Addr} {fod28 fan28 : Option Addr} {fsl28 : Array (Option Value)} {foc28 fkV28 fdc28 fpm28 fcd28 fct28 : Value}
    {f29 : Addr} {fod29 fan29 : Option Addr} {fsl29 : Array (Option Value)} {foc29 fkV29 fdc29 fpm29 fcd29 fct29 : Value}
    {f30 : Addr} {fod30 fan30 : Option Addr} {fsl30 : Array (Option Value)} {foc30 fkV30 fdc30 fpm30 fcd30 fct30 : Value}
    {f31 : Addr} {fod31 fan31 : Option Addr} {fsl31 : Array (Option Value)} {foc31 fkV31 fdc31 fpm31 fcd31 fct31 : Value}
    {f32 : Addr} {fod32 fan32 : Option Addr} {fsl32 : Array (Option Value)} {foc32 fkV32 fdc32 fpm32 fcd32 fct32 : Value}
    {f33 : Addr} {fod33 fan33 : Option Addr} {fsl33 : Array (Option Value)} {foc33 fkV33 fdc33 fpm33 fcd33 fct33 : Value}
    (most : PySem.W.nsIn K mainGlobals "MOST_SETS" = some (some (.int 400 tm)))
    (aT : PySem.W.nsIn K mainGlobals "TraceError" = some (some (.ref TE)))
    (tT : PySem.W.typeIn K (.ref TE) = some (.type "type"))
    (hT : PySem.W.hasDictIn K TE = true)
    (hsn : PySem.W.specialIn K (.builtin "object.__class__") "__get__" = some (some (.builtin "getset_descriptor.__get__")))
    (htk : PySem.W.takesIn K (.builtin "object.__class__") = some true)
    (ax0 : PySem.W.nsIn K mainGlobals "TooMany" = some (some (.ref cx0)))
    (xx0 : K.lookup cx0 = some (excClassObj nmx0 qnx0 cx0 Nx0 bsx0 [.ref TE, .type "Exception", .type "BaseException", .type "object"] true snx0 subx0 abx0 colx0 ddx0 rx00 rx01 rx02 rx03 rx05 "Exception.__new__"))
    (sax0 : PySem.W.findIn K (.ref cx0) "__setattr__" = some (some (.builtin "object.__setattr__")))
    (gax0 : PySem.W.findIn K (.ref cx0) "__getattribute__" = some (some (.builtin "BaseException.__getattribute__")))
    (ggx0 : PySem.W.findIn K (.ref cx0) "__getattr__" = some none)
    (cax0 : PySem.W.findIn K (.ref cx0) "__class__" = some (some (.builtin "object.__class__")))
    (nox0 : PySem.W.findIn K (.ref cx0) "word" = some none)
    (iix0 : PySem.W.findIn K (.ref cx0) "__init__" = some (some (.ref ex0)))
    (tix0 : PySem.W.typeIn K (.ref ex0) = some (.type "function"))
    (lix0 : K.lookup ex0 = some ⟨ocx0, odx0, .func (PySem.W.fnOf "__init__" "TooMany.__init__" (defArgs (inClass (topS 3) 0)) (defBody (inClass (topS 3) 0)) (defScope (inClass (topS 3) 0)) .none .none dcx0 pmx0 anx0 cdx0 ctx0), slx0⟩)
    (cix0 : PySem.W.codeIn K cdx0 "TooMany.__init__" = true)
    (kcx0 : PySem.W.keepIn K (.ref cx0) = true)
    (tyx0 : PySem.W.typeIn K (.ref cx0) = some (.type "type"))
    (ax1 : PySem.W.nsIn K mainGlobals "NothingThere" = some (some (.ref cx1)))
    (xx1 : K.lookup cx1 = some (excClassObj nmx1 qnx1 cx1 Nx1 bsx1 [.ref TE, .type "Exception", .type "BaseException", .type "object"] true snx1 subx1 abx1 colx1 ddx1 rx10 rx11 rx12 rx13 rx15 "Exception.__new__"))
    (sax1 : PySem.W.findIn K (.ref cx1) "__setattr__" = some (some (.builtin "object.__setattr__")))
    (gax1 : PySem.W.findIn K (.ref cx1) "__getattribute__" = some (some (.builtin "BaseException.__getattribute__")))
    (ggx1 : PySem.W.findIn K (.ref cx1) "__getattr__" = some none)
    (cax1 : PySem.W.findIn K (.ref cx1) "__class__" = some (some (.builtin "object.__class__")))
    (nox1 : PySem.W.findIn K (.ref cx1) "name" = some none)
    (iix1 : PySem.W.findIn K (.ref cx1) "__init__" = some (some (.ref ex1)))
    (tix1 : PySem.W.typeIn K (.ref ex1) = some (.type "function"))
    (lix1 : K.lookup ex1 = some ⟨ocx1, odx1, .func (PySem.W.fnOf "__init__" "NothingThere.__init__" (defArgs (inClass (topS 2) 0)) (defBody (inClass (topS 2) 0)) (defScope (inClass (topS 2) 0)) .none .none dcx1 pmx1 anx1 cdx1 ctx1), slx1⟩)
    (cix1 : PySem.W.codeIn K cdx1 "NothingThere.__init__" = true)
    (kcx1 : PySem.W.keepIn K (.ref cx1) = true)
    (tyx1 : PySem.W.typeIn K (.ref cx1) = some (.type "type"))
    (nd : ([TE, cx0, cx1] : List Addr).Nodup)
    (fa0 : PySem.W.nsIn K mainGlobals "tokens_of" = some (some (.ref f0)))
    (fl0 : K.lookup f0 = some ⟨foc0, fod0, .func (PySem.W.fnOf "tokens_of" "tokens_of" (defArgs sTokens) (defBody sTokens) (defScope sTokens) .none fkV0 fdc0 fpm0 fan0 fcd0 fct0), fsl0⟩)
    (fc0 : PySem.W.codeIn K fcd0 "tokens_of" = true)
    (fk0 : PySem.W.keepIn K (.ref f0) = true)
    (fa1 : PySem.W.nsIn K mainGlobals "witnesses" = some (some (.ref f1)))
    (fl1 : K.lookup f1 = some ⟨foc1, fod1, .func (PySem.W.fnOf "witnesses" "witnesses" (defArgs sWits) (defBody sWits) (defScope sWits) .none fkV1 fdc1 fpm1 fan1 fcd1 fct1), fsl1⟩)
    (fc1 : PySem.W.codeIn K fcd1 "witnesses" = true)
    (fk1 : PySem.W.keepIn K (.ref f1) = true)
    (fa2 : PySem.W.nsIn K mainGlobals "least_lacking" = some (some (.ref f2)))
    (fl2 : K.lookup f2 = some ⟨foc2, fod2, .func (PySem.W.fnOf "least_lacking" "least_lacking" (defArgs sLLack) (defBody sLLack) (defScope sLLack) .none fkV2 fdc2 fpm2 fan2 fcd2 fct2), fsl2⟩)
    (fc2 : PySem.W.codeIn K fcd2 "least_lacking" = true)
    (fk2 : PySem.W.keepIn K (.ref f2) = true)
    (fa3 : PySem.W.nsIn K mainGlobals "set_order" = some (some (.ref f3)))
    (fl3 : K.lookup f3 = some ⟨foc3, fod3, .func (PySem.W.fnOf "set_order" "set_order" (defArgs sSetO) (defBody sSetO) (defScope sSetO) .none fkV3 fdc3 fpm3 fan3 fcd3 fct3), fsl3⟩)
    (fc3 : PySem.W.codeIn K fcd3 "set_order" = true)
    (fk3 : PySem.W.keepIn K (.ref f3) = true)
    (fa4 : PySem.W.nsIn K mainGlobals "_least_sets" = some (some (.ref f4)))
    (fl4 : K.lookup f4 = some ⟨foc4, fod4, .func (PySem.W.fnOf "_least_sets" "_least_sets" (defArgs sLSets) (defBody sLSets) (defScope sLSets) .none fkV4 fdc4 fpm4 fan4 fcd4 fct4), fsl4⟩)
    (fc4 : PySem.W.codeIn K fcd4 "_least_sets" = true)
    (fk4 : PySem.W.keepIn K (.ref f4) = true)
    (fa5 : PySem.W.nsIn K mainGlobals "_bits_of" = some (some (.ref f5)))
    (fl5 : K.lookup f5 = some ⟨foc5, fod5, .func (PySem.W.fnOf "_bits_of" "_bits_of" (defArgs sBits) (defBody sBits) (defScope sBits) .none fkV5 fdc5 fpm5 fan5 fcd5 fct5), fsl5⟩)
    (fc5 : PySem.W.codeIn K fcd5 "_bits_of" = true)
    (fk5 : PySem.W.keepIn K (.ref f5) = true)
    (fa6 : PySem.W.nsIn K mainGlobals "_mask" = some (some (.ref f6)))
    (fl6 : K.lookup f6 = some ⟨foc6, fod6, .func (PySem.W.fnOf "_mask" "_mask" (defArgs sMask) (defBody sMask) (defScope sMask) .none fkV6 fdc6 fpm6 fan6 fcd6 fct6), fsl6⟩)
    (fc6 : PySem.W.codeIn K fcd6 "_mask" = true)
    (fk6 : PySem.W.keepIn K (.ref f6) = true)
    (fa7 : PySem.W.nsIn K mainGlobals "breakers" = some (some (.ref f7)))
    (fl7 : K.lookup f7 = some ⟨foc7, fod7, .func (PySem.W.fnOf "breakers" "breakers" (defArgs sBrk) (defBody sBrk) (defScope sBrk) .none fkV7 fdc7 fpm7 fan7 fcd7 fct7), fsl7⟩)
    (fc7 : PySem.W.codeIn K fcd7 "breakers" = true)
    (fk7 : PySem.W.keepIn K (.ref f7) = true)
    (fa8 : PySem.W.nsIn K mainGlobals "_met_besides" = some (some (.ref f8)))
    (fl8 : K.lookup f8 = some ⟨foc8, fod8, .func (PySem.W.fnOf "_met_besides" "_met_besides" (defArgs sMet) (defBody sMet) (defScope sMet) .none fkV8 fdc8 fpm8 fan8 fcd8 fct8), fsl8⟩)
    (fc8 : PySem.W.codeIn K fcd8 "_met_besides" = true)
    (fk8 : PySem.W.keepIn K (.ref f8) = true)
    (fa9 : PySem.W.nsIn K mainGlobals "blames" = some (some (.ref f9)))
    (fl9 : K.lookup f9 = some ⟨foc9, fod9, .func (PySem.W.fnOf "blames" "blames" (defArgs sBls) (defBody sBls) (defScope sBls) .none fkV9 fdc9 fpm9 fan9 fcd9 fct9), fsl9⟩)
    (fc9 : PySem.W.codeIn K fcd9 "blames" = true)
    (fk9 : PySem.W.keepIn K (.ref f9) = true)
    (fa10 : PySem.W.nsIn K mainGlobals "_contingency" = some (some (.ref f10)))
    (fl10 : K.lookup f10 = some ⟨foc10, fod10, .func (PySem.W.fnOf "_contingency" "_contingency" (defArgs sCon_) (defBody sCon_) (defScope sCon_) .none fkV10 fdc10 fpm10 fan10 fcd10 fct10), fsl10⟩)
    (fc10 : PySem.W.codeIn K fcd10 "_contingency" = true)
    (fk10 : PySem.W.keepIn K (.ref f10) = true)
    (fa11 : PySem.W.nsIn K mainGlobals "_blame" = some (some (.ref f11)))
    (fl11 : K.lookup f11 = some ⟨foc11, fod11, .func (PySem.W.fnOf "_blame" "_blame" (defArgs sBla_) (defBody sBla_) (defScope sBla_) .none fkV11 fdc11 fpm11 fan11 fcd11 fct11), fsl11⟩)
    (fc11 : PySem.W.codeIn K fcd11 "_blame" = true)
    (fk11 : PySem.W.keepIn K (.ref f11) = true)
    (fa12 : PySem.W.nsIn K mainGlobals "_blame_order" = some (some (.ref f12)))
    (fl12 : K.lookup f12 = some ⟨foc12, fod12, .func (PySem.W.fnOf "_blame_order" "_blame_order" (defArgs sBOrd) (defBody sBOrd) (defScope sBOrd) .none fkV12 fdc12 fpm12 fan12 fcd12 fct12), fsl12⟩)
    (fc12 : PySem.W.codeIn K fcd12 "_blame_order" = true)
    (fk12 : PySem.W.keepIn K (.ref f12) = true)
    (fa13 : PySem.W.nsIn K mainGlobals "_law_mixed" = some (some (.ref f13)))
    (fl13 : K.lookup f13 = some ⟨foc13, fod13, .func (PySem.W.fnOf "_law_mixed" "_law_mixed" (defArgs yMix) (defBody yMix) (defScope yMix) .none fkV13 fdc13 fpm13 fan13 fcd13 fct13), fsl13⟩)
    (fc13 : PySem.W.codeIn K fcd13 "_law_mixed" = true)
    (fk13 : PySem.W.keepIn K (.ref f13) = true)
    (fa14 : PySem.W.nsIn K mainGlobals "_law_start" = some (some (.ref f14)))
    (fl14 : K.lookup f14 = some ⟨foc14, fod14, .func (PySem.W.fnOf "_law_start" "_law_start" (defArgs yStart) (defBody yStart) (defScope yStart) .none fkV14 fdc14 fpm14 fan14 fcd14 fct14), fsl14⟩)
    (fc14 : PySem.W.codeIn K fcd14 "_law_start" = true)
    (fk14 : PySem.W.keepIn K (.ref f14) = true)
    (fa15 : PySem.W.nsIn K mainGlobals "_law_take" = some (some (.ref f15)))
    (fl15 : K.lookup f15 = some ⟨foc15, fod15, .func (PySem.W.fnOf "_law_take" "_law_take" (defArgs yTake) (defBody yTake) (defScope yTake) .none fkV15 fdc15 fpm15 fan15 fcd15 fct15), fsl15⟩)
    (fc15 : PySem.W.codeIn K fcd15 "_law_take" = true)
    (fk15 : PySem.W.keepIn K (.ref f15) = true)
    (fa16 : PySem.W.nsIn K mainGlobals "_law_same" = some (some (.ref f16)))
    (fl16 : K.lookup f16 = some ⟨foc16, fod16, .func (PySem.W.fnOf "_law_same" "_law_same" (defArgs ySame) (defBody ySame) (defScope ySame) .none fkV16 fdc16 fpm16 fan16 fcd16 fct16), fsl16⟩)
    (fc16 : PySem.W.codeIn K fcd16 "_law_same" = true)
    (fk16 : PySem.W.keepIn K (.ref f16) = true)
    (fa17 : PySem.W.nsIn K mainGlobals "_law_tokens" = some (some (.ref f17)))
    (fl17 : K.lookup f17 = some ⟨foc17, fod17, .func (PySem.W.fnOf "_law_tokens" "_law_tokens" (defArgs yTok) (defBody yTok) (defScope yTok) .none fkV17 fdc17 fpm17 fan17 fcd17 fct17), fsl17⟩)
    (fc17 : PySem.W.codeIn K fcd17 "_law_tokens" = true)
    (fk17 : PySem.W.keepIn K (.ref f17) = true)
    (fa18 : PySem.W.nsIn K mainGlobals "_law_rising" = some (some (.ref f18)))
    (fl18 : K.lookup f18 = some ⟨foc18, fod18, .func (PySem.W.fnOf "_law_rising" "_law_rising" (defArgs yRis) (defBody yRis) (defScope yRis) .none fkV18 fdc18 fpm18 fan18 fcd18 fct18), fsl18⟩)
    (fc18 : PySem.W.codeIn K fcd18 "_law_rising" = true)
    (fk18 : PySem.W.keepIn K (.ref f18) = true)
    (fa19 : PySem.W.nsIn K mainGlobals "_law_poly_of" = some (some (.ref f19)))
    (fl19 : K.lookup f19 = some ⟨foc19, fod19, .func (PySem.W.fnOf "_law_poly_of" "_law_poly_of" (defArgs yPolyOf) (defBody yPolyOf) (defScope yPolyOf) .none fkV19 fdc19 fpm19 fan19 fcd19 fct19), fsl19⟩)
    (fc19 : PySem.W.codeIn K fcd19 "_law_poly_of" = true)
    (fk19 : PySem.W.keepIn K (.ref f19) = true)
    (fa20 : PySem.W.nsIn K mainGlobals "_law_poly" = some (some (.ref f20)))
    (fl20 : K.lookup f20 = some ⟨foc20, fod20, .func (PySem.W.fnOf "_law_poly" "_law_poly" (defArgs yPoly) (defBody yPoly) (defScope yPoly) .none fkV20 fdc20 fpm20 fan20 fcd20 fct20), fsl20⟩)
    (fc20 : PySem.W.codeIn K fcd20 "_law_poly" = true)
    (fk20 : PySem.W.keepIn K (.ref f20) = true)
    (fa21 : PySem.W.nsIn K mainGlobals "_law_listed" = some (some (.ref f21)))
    (fl21 : K.lookup f21 = some ⟨foc21, fod21, .func (PySem.W.fnOf "_law_listed" "_law_listed" (defArgs yListed) (defBody yListed) (defScope yListed) .none fkV21 fdc21 fpm21 fan21 fcd21 fct21), fsl21⟩)
    (fc21 : PySem.W.codeIn K fcd21 "_law_listed" = true)
    (fk21 : PySem.W.keepIn K (.ref f21) = true)
    (fa22 : PySem.W.nsIn K mainGlobals "_law_handed" = some (some (.ref f22)))
    (fl22 : K.lookup f22 = some ⟨foc22, fod22, .func (PySem.W.fnOf "_law_handed" "_law_handed" (defArgs yHanded) (defBody yHanded) (defScope yHanded) .none fkV22 fdc22 fpm22 fan22 fcd22 fct22), fsl22⟩)
    (fc22 : PySem.W.codeIn K fcd22 "_law_handed" = true)
    (fk22 : PySem.W.keepIn K (.ref f22) = true)
    (fa23 : PySem.W.nsIn K mainGlobals "_law_of" = some (some (.ref f23)))
    (fl23 : K.lookup f23 = some ⟨foc23, fod23, .func (PySem.W.fnOf "_law_of" "_law_of" (defArgs yOf) (defBody yOf) (defScope yOf) .none fkV23 fdc23 fpm23 fan23 fcd23 fct23), fsl23⟩)
    (fc23 : PySem.W.codeIn K fcd23 "_law_of" = true)
    (fk23 : PySem.W.keepIn K (.ref f23) = true)
    (fa24 : PySem.W.nsIn K mainGlobals "_law_there" = some (some (.ref f24)))
    (fl24 : K.lookup f24 = some ⟨foc24, fod24, .func (PySem.W.fnOf "_law_there" "_law_there" (defArgs yThere) (defBody yThere) (defScope yThere) .none fkV24 fdc24 fpm24 fan24 fcd24 fct24), fsl24⟩)
    (fc24 : PySem.W.codeIn K fcd24 "_law_there" = true)
    (fk24 : PySem.W.keepIn K (.ref f24) = true)
    (fa25 : PySem.W.nsIn K mainGlobals "_law_sets" = some (some (.ref f25)))
    (fl25 : K.lookup f25 = some ⟨foc25, fod25, .func (PySem.W.fnOf "_law_sets" "_law_sets" (defArgs ySets) (defBody ySets) (defScope ySets) .none fkV25 fdc25 fpm25 fan25 fcd25 fct25), fsl25⟩)
    (fc25 : PySem.W.codeIn K fcd25 "_law_sets" = true)
    (fk25 : PySem.W.keepIn K (.ref f25) = true)
    (fa26 : PySem.W.nsIn K mainGlobals "_law_within" = some (some (.ref f26)))
    (fl26 : K.lookup f26 = some ⟨foc26, fod26, .func (PySem.W.fnOf "_law_within" "_law_within" (defArgs yWithin) (defBody yWithin) (defScope yWithin) .none fkV26 fdc26 fpm26 fan26 fcd26 fct26), fsl26⟩)
    (fc26 : PySem.W.codeIn K fcd26 "_law_within" = true)
    (fk26 : PySem.W.keepIn K (.ref f26) = true)
    (fa27 : PySem.W.nsIn K mainGlobals "_law_least" = some (some (.ref f27)))
    (fl27 : K.lookup f27 = some ⟨foc27, fod27, .func (PySem.W.fnOf "_law_least" "_law_least" (defArgs yLeast) (defBody yLeast) (defScope yLeast) .none fkV27 fdc27 fpm27 fan27 fcd27 fct27), fsl27⟩)
    (fc27 : PySem.W.codeIn K fcd27 "_law_least" = true)
    (fk27 : PySem.W.keepIn K (.ref f27) = true)
    (fa28 : PySem.W.nsIn K mainGlobals "_law_breakers" = some (some (.ref f28)))
    (fl28 : K.lookup f28 = some ⟨foc28, fod28, .func (PySem.W.fnOf "_law_breakers" "_law_breakers" (defArgs yBrk) (defBody yBrk) (defScope yBrk) .none fkV28 fdc28 fpm28 fan28 fcd28 fct28), fsl28⟩)
    (fc28 : PySem.W.codeIn K fcd28 "_law_breakers" = true)
    (fk28 : PySem.W.keepIn K (.ref f28) = true)
    (fa29 : PySem.W.nsIn K mainGlobals "_law_share" = some (some (.ref f29)))
    (fl29 : K.lookup f29 = some ⟨foc29, fod29, .func (PySem.W.fnOf "_law_share" "_law_share" (defArgs yShr) (defBody yShr) (defScope yShr) .none fkV29 fdc29 fpm29 fan29 fcd29 fct29), fsl29⟩)
    (fc29 : PySem.W.codeIn K fcd29 "_law_share" = true)
    (fk29 : PySem.W.keepIn K (.ref f29) = true)
    (fa30 : PySem.W.nsIn K mainGlobals "_law_due" = some (some (.ref f30)))
    (fl30 : K.lookup f30 = some ⟨foc30, fod30, .func (PySem.W.fnOf "_law_due" "_law_due" (defArgs yDue) (defBody yDue) (defScope yDue) .none fkV30 fdc30 fpm30 fan30 fcd30 fct30), fsl30⟩)
    (fc30 : PySem.W.codeIn K fcd30 "_law_due" = true)
    (fk30 : PySem.W.keepIn K (.ref f30) = true)
    (fa31 : PySem.W.nsIn K mainGlobals "_law_refused" = some (some (.ref f31)))
    (fl31 : K.lookup f31 = some ⟨foc31, fod31, .func (PySem.W.fnOf "_law_refused" "_law_refused" (defArgs yRef) (defBody yRef) (defScope yRef) .none fkV31 fdc31 fpm31 fan31 fcd31 fct31), fsl31⟩)
    (fc31 : PySem.W.codeIn K fcd31 "_law_refused" = true)
    (fk31 : PySem.W.keepIn K (.ref f31) = true)
    (fa32 : PySem.W.nsIn K mainGlobals "_law_pairs" = some (some (.ref f32)))
    (fl32 : K.lookup f32 = some ⟨foc32, fod32, .func (PySem.W.fnOf "_law_pairs" "_law_pairs" (defArgs yPrs) (defBody yPrs) (defScope yPrs) .none fkV32 fdc32 fpm32 fan32 fcd32 fct32), fsl32⟩)
    (fc32 : PySem.W.codeIn K fcd32 "_law_pairs" = true)
    (fk32 : PySem.W.keepIn K (.ref f32) = true)
    (fa33 : PySem.W.nsIn K mainGlobals "law" = some (some (.ref f33)))
    (fl33 : K.lookup f33 = some ⟨foc33, fod33, .func (PySem.W.fnOf "law" "law" (defArgs yLaw) (defBody yLaw) (defScope yLaw) .none fkV33 fdc33 fpm33 fan33 fcd33 fct33), fsl33⟩)
    (fc33 : PySem.W.codeIn K fcd33 "law" = true)
    (fk33 : PySem.W.keepIn K (.ref f33) = true)
    (z_isinstance : PySem.W.nsIn K mainGlobals "isinstance" = some none)
    (z_tuple : PySem.W.nsIn K mainGlobals "tuple" = some none)
    (z_list : PySem.W.nsIn K mainGlobals "list" = some none)
    (z_len : PySem.W.nsIn K mainGlobals "len" = some none)
    (z_range : PySem.W.nsIn K mainGlobals "range" = some none)
    (z_bool : PySem.W.nsIn K mainGlobals "bool" = some none)
    (z_str : PySem.W.nsIn K mainGlobals "str" = some none)
    (z_int : PySem.W.nsIn K mainGlobals "int" = some none)
    (z_min : PySem.W.nsIn K mainGlobals "min" = some none)
    (z_any : PySem.W.nsIn K mainGlobals "any" = some none)
    (z_sorted : PySem.W.nsIn K mainGlobals "sorted" = some none)
    (z_sum : PySem.W.nsIn K mainGlobals "sum" = some none)
    (z_enumerate : PySem.W.nsIn K mainGlobals "enumerate" = some none)
    (z_abs : PySem.W.nsIn K mainGlobals "abs" = some none)
    : ∃ fd : FuncData, (∀ (s : Shared) (v : Value), BindsTo s fd ⟨[v], []⟩ [("script", v)]) ∧ ∀ base : Heap, K.In base → base.Ns mainGlobals mg → FnG l.prog w K mg base 11 fa fd ["script"] (spYLaw K) := by
  have e := hfa.symm.trans (PySem.W.mg_of X G fa33)
  cases e
  have F0 := fun_mk (st := sTokens) fl0 fc0 fk0
  have b0 := F0.binds (ps := ["p"]) fun _ _ _ _ _ _ us hl => match us, hl with | [_], _ => rfl
  have F1 := fun_mk (st := sWits) fl1 fc1 fk1
  have b1 := F1.binds (ps := ["p"]) fun _ _ _ _ _ _ us hl => match us, hl with | [_], _ => rfl
  have F2 := fun_mk (st := sLLack) fl2 fc2 fk2
  have b2 := F2.binds (ps := ["p", "held"]) fun _ _ _ _ _ _ us hl => match us, hl with | [_, _], _ => rfl
  have F3 := fun_mk (st := sSetO) fl3 fc3 fk3
  have b3 := F3.binds (ps := ["tokens"]) fun _ _ _ _ _ _ us hl => match us, hl with | [_], _ => rfl
  have F4 := fun_mk (st := sLSets) fl4 fc4 fk4
  have b4 := F4.binds (ps := ["sets"]) fun _ _ _ _ _ _ us hl => match us, hl with | [_], _ => rfl
  have F5 := fun_mk (st := sBits) fl5 fc5 fk5
  have b5 := F5.binds (ps := ["sets"]) fun _ _ _ _ _ _ us hl => match us, hl with | [_], _ => rfl
  have F6 := fun_mk (st := sMask) fl6 fc6 fk6
  have b6 := F6.binds (ps := ["tokens", "bits"]) fun _ _ _ _ _ _ us hl => match us, hl with | [_, _], _ => rfl
  have F7 := fun_mk (st := sBrk) fl7 fc7 fk7
  have b7 := F7.binds (ps := ["p"]) fun _ _ _ _ _ _ us hl => match us, hl with | [_], _ => rfl
  have F8 := fun_mk (st := sMet) fl8 fc8 fk8
  have b8 := F8.binds (ps := ["masks", "bits"]) fun _ _ _ _ _ _ us hl => match us, hl with | [_, _], _ => rfl
  have F9 := fun_mk (st := sBls) fl9 fc9 fk9
  have b9 := F9.binds (ps := ["p"]) fun _ _ _ _ _ _ us hl => match us, hl with | [_], _ => rfl
  have F10 := fun_mk (st := sCon_) fl10 fc10 fk10
  have b10 := F10.binds (ps := ["sets", "token"]) fun _ _ _ _ _ _ us hl => match us, hl with | [_, _], _ => rfl
  have F11 := fun_mk (st := sBla_) fl11 fc11 fk11
  have b11 := F11.binds (ps := ["sets", "token"]) fun _ _ _ _ _ _ us hl => match us, hl with | [_, _], _ => rfl
  have F12 := fun_mk (st := sBOrd) fl12 fc12 fk12
  have b12 := F12.binds (ps := ["pair"]) fun _ _ _ _ _ _ us hl => match us, hl with | [_], _ => rfl
  have F13 := fun_mk (st := yMix) fl13 fc13 fk13
  have b13 := F13.binds (ps := ["number", "k"]) fun _ _ _ _ _ _ us hl => match us, hl with | [_, _], _ => rfl
  have F14 := fun_mk (st := yStart) fl14 fc14 fk14
  have b14 := F14.binds (ps := ["script"]) fun _ _ _ _ _ _ us hl => match us, hl with | [_], _ => rfl
  have F15 := fun_mk (st := yTake) fl15 fc15 fk15
  have b15 := F15.binds (ps := ["state", "limit"]) fun _ _ _ _ _ _ us hl => match us, hl with | [_, _], _ => rfl
  have F16 := fun_mk (st := ySame) fl16 fc16 fk16
  have b16 := F16.binds (ps := ["actual", "due"]) fun _ _ _ _ _ _ us hl => match us, hl with | [_, _], _ => rfl
  have F17 := fun_mk (st := yTok) fl17 fc17 fk17
  have b17 := F17.binds (ps := ["state", "many"]) fun _ _ _ _ _ _ us hl => match us, hl with | [_, _], _ => rfl
  have F18 := fun_mk (st := yRis) fl18 fc18 fk18
  have b18 := F18.binds (ps := ["rows"]) fun _ _ _ _ _ _ us hl => match us, hl with | [_], _ => rfl
  have F19 := fun_mk (st := yPolyOf) fl19 fc19 fk19
  have b19 := F19.binds (ps := ["book"]) fun _ _ _ _ _ _ us hl => match us, hl with | [_], _ => rfl
  have F20 := fun_mk (st := yPoly) fl20 fc20 fk20
  have b20 := F20.binds (ps := ["state", "tokens", "most"]) fun _ _ _ _ _ _ us hl => match us, hl with | [_, _, _], _ => rfl
  have F21 := fun_mk (st := yListed) fl21 fc21 fk21
  have b21 := F21.binds (ps := ["state", "value"]) fun _ _ _ _ _ _ us hl => match us, hl with | [_, _], _ => rfl
  have F22 := fun_mk (st := yHanded) fl22 fc22 fk22
  have b22 := F22.binds (ps := ["state", "p"]) fun _ _ _ _ _ _ us hl => match us, hl with | [_, _], _ => rfl
  have F23 := fun_mk (st := yOf) fl23 fc23 fk23
  have b23 := F23.binds (ps := ["p"]) fun _ _ _ _ _ _ us hl => match us, hl with | [_], _ => rfl
  have F24 := fun_mk (st := yThere) fl24 fc24 fk24
  have b24 := F24.binds (ps := ["p", "tokens"]) fun _ _ _ _ _ _ us hl => match us, hl with | [_, _], _ => rfl
  have F25 := fun_mk (st := ySets) fl25 fc25 fk25
  have b25 := F25.binds (ps := ["tokens"]) fun _ _ _ _ _ _ us hl => match us, hl with | [_], _ => rfl
  have F26 := fun_mk (st := yWithin) fl26 fc26 fk26
  have b26 := F26.binds (ps := ["part", "whole"]) fun _ _ _ _ _ _ us hl => match us, hl with | [_, _], _ => rfl
  have F27 := fun_mk (st := yLeast) fl27 fc27 fk27
  have b27 := F27.binds (ps := ["sets", "holds"]) fun _ _ _ _ _ _ us hl => match us, hl with | [_, _], _ => rfl
  have F28 := fun_mk (st := yBrk) fl28 fc28 fk28
  have b28 := F28.binds (ps := ["p"]) fun _ _ _ _ _ _ us hl => match us, hl with | [_], _ => rfl
  have F29 := fun_mk (st := yShr) fl29 fc29 fk29
  have b29 := F29.binds (ps := ["p", "token"]) fun _ _ _ _ _ _ us hl => match us, hl with | [_, _], _ => rfl
  have F30 := fun_mk (st := yDue) fl30 fc30 fk30
  have b30 := F30.binds (ps := ["p"]) fun _ _ _ _ _ _ us hl => match us, hl with | [_], _ => rfl
  have F31 := fun_mk (st := yRef) fl31 fc31 fk31
  have b31 := F31.binds (ps := ["p"]) fun _ _ _ _ _ _ us hl => match us, hl with | [_], _ => rfl
  have F32 := fun_mk (st := yPrs) fl32 fc32 fk32
  have b32 := F32.binds (ps := ["state"]) fun _ _ _ _ _ _ us hl => match us, hl with | [_], _ => rfl
  have F33 := fun_mk (st := yLaw) fl33 fc33 fk33
  have N : Nm mg := ⟨PySem.W.mg_none_of X G z_isinstance, PySem.W.mg_none_of X G z_tuple, PySem.W.mg_none_of X G z_list, PySem.W.mg_none_of X G z_len, PySem.W.mg_none_of X G z_range, PySem.W.mg_none_of X G z_bool, PySem.W.mg_none_of X G z_str, PySem.W.mg_none_of X G z_int⟩
  have Ex0 : EC K cx0 TE "word" ex0 := ⟨⟨_, _, _, _, _, _, _, _, _, _, _, _, _, _, xx0⟩, sax0, gax0, ggx0, cax0, nox0, iix0, tix0, kcx0, tyx0⟩
  have Mx0 : Makes K cx0 "word" := Iword.makes Ex0 (qn := "TooMany.__init__") ⟨_, _, _, _, _, _, _, _, _, _, _, _, _, _, lix0, cix0⟩
  have Ex1 : EC K cx1 TE "name" ex1 := ⟨⟨_, _, _, _, _, _, _, _, _, _, _, _, _, _, xx1⟩, sax1, gax1, ggx1, cax1, nox1, iix1, tix1, kcx1, tyx1⟩
  have Mx1 : Makes K cx1 "name" := Iname.makes Ex1 (qn := "NothingThere.__init__") ⟨_, _, _, _, _, _, _, _, _, _, _, _, _, _, lix1, cix1⟩
  have X0 : Tm K mg TE cx0 ex0 := ⟨Ex0, Mx0, PySem.W.mg_of X G ax0⟩
  have Z0 : Tz K mg TE cx0 cx1 ex0 ex1 := { X := X0, EN := Ex1, gN := PySem.W.mg_of X G ax1, gT := PySem.W.mg_of X G aT, nd := nd, hdT := hT, tT := tT, hc := ⟨hsn, htk⟩ }
  have ms : ∃ t, mg "MOST_SETS" = some (.int 400 t) := ⟨_, PySem.W.mg_of X G most⟩
  have an := PySem.W.mg_none_of X G z_any
  have sm := PySem.W.mg_none_of X G z_sum
  have en := PySem.W.mg_none_of X G z_enumerate
  have ab := PySem.W.mg_none_of X G z_abs
  have mn := PySem.W.mg_none_of X G z_min
  have srt' := PySem.W.mg_none_of X G z_sorted
  refine ⟨PySem.W.fnOf "law" "law" (defArgs yLaw) (defBody yLaw) (defScope yLaw) .none fkV33 fdc33 fpm33 fan33 fcd33 fct33, fun s v => .of_eq rfl, fun base _ _ => ?_⟩
  have D3 : Df l.prog w K mg base 1 "set_order" ["tokens"] (spOrd K) := ⟨f3, _, PySem.W.mg_of X G fa3, fk3, b3, ok_ord F3 N⟩
  have D6 : Df l.prog w K mg base 1 "_mask" ["tokens", "bits"] (spMask K) := ⟨f6, _, PySem.W.mg_of X G fa6, fk6, b6, ok_mask F6 sm⟩
  have D5 : Df l.prog w K mg base 1 "_bits_of" ["sets"] (spBits K) := ⟨f5, _, PySem.W.mg_of X G fa5, fk5, b5, ok_bits F5 srt' en⟩
  have D5t : Df l.prog w K mg base 1 "_bits_of" ["sets"] (spBitsT K) := ⟨f5, _, PySem.W.mg_of X G fa5, fk5, b5, ok_bitsT F5 srt' en⟩
  have D4 : Df l.prog w K mg base 4 "_least_sets" ["sets"] (spLSets K) := ⟨f4, _, PySem.W.mg_of X G fa4, fk4, b4, ok_lsets F4 N srt' an D5 D3 D6⟩
  have D2 : Df l.prog w K mg base 5 "least_lacking" ["p", "held"] (spLack K) := ⟨f2, _, PySem.W.mg_of X G fa2, fk2, b2, ok_lack F2 N D4⟩
  have D1 : Df l.prog w K mg base 6 "witnesses" ["p"] (spWits K) := ⟨f1, _, PySem.W.mg_of X G fa1, fk1, b1, ok_wits F1 D2⟩
  have D8 : Df l.prog w K mg base 1 "_met_besides" ["masks", "bits"] (spMet K) := ⟨f8, _, PySem.W.mg_of X G fa8, fk8, b8, ok_met F8 N sm an ms⟩
  have D7 : Df l.prog w K mg base 7 "breakers" ["p"] (spBrk K) := ⟨f7, _, PySem.W.mg_of X G fa7, fk7, b7, ok_brk F7 N srt' D1 D5t D8 D3⟩
  have QM : FnOk l.prog w K mg base (L2.CX l.prog w) 1 f8 (PySem.W.fnOf "_met_besides" "_met_besides" (defArgs sMet) (defBody sMet) (defScope sMet) .none fkV8 fdc8 fpm8 fan8 fcd8 fct8) ["masks", "bits"] (fun vs H Q E => spMet K vs H Q E ∨ spMetX K cx0 vs H Q E) := FnOk.or (FnOk.lift (ok_met F8 N sm an ms)) (ok_metX F8 N sm an ms X0)
  have QB : FnOk l.prog w K mg base (L2.CX l.prog w) 7 f7 (PySem.W.fnOf "breakers" "breakers" (defArgs sBrk) (defBody sBrk) (defScope sBrk) .none fkV7 fdc7 fpm7 fan7 fcd7 fct7) ["p"] (spBrkX K cx0) := ok_brkX F7 D1 D5t X0 (PySem.W.mg_of X G fa8) fk8 b8 QM
  have D10 : Df l.prog w K mg base 4 "_contingency" ["sets", "token"] (spCon K) := ⟨f10, _, PySem.W.mg_of X G fa10, fk10, b10, ok_con F10 N mn D3⟩
  have D11 : Df l.prog w K mg base 5 "_blame" ["sets", "token"] (spBla_ K) := ⟨f11, _, PySem.W.mg_of X G fa11, fk11, b11, ok_bla_ F11 N D10⟩
  have D0 : Df l.prog w K mg base 1 "tokens_of" ["p"] (spTks K) := ⟨f0, _, PySem.W.mg_of X G fa0, fk0, b0, ok_tks2 F0 N srt'⟩
  have D12 : Df l.prog w K mg base 1 "_blame_order" ["pair"] (spBOrd K) := ⟨f12, _, PySem.W.mg_of X G fa12, fk12, b12, ok_bord F12⟩
  have D9 : Df l.prog w K mg base 8 "blames" ["p"] (spBls K) := ⟨f9, _, PySem.W.mg_of X G fa9, fk9, b9, ok_bls F9 N srt' D7 D0 D11 D12⟩
  have DK9 : Dk l.prog w K mg base 8 "blames" ["p"] ["p"] kw1 kw1 (spBls K) := ⟨f9, _, PySem.W.mg_of X G fa9, fk9, b9, kb_kw1 F9 fun _ _ _ _ _ _ _ => rfl, ok_bls F9 N srt' D7 D0 D11 D12⟩
  have QL : FnOk l.prog w K mg base (L2.CX l.prog w) 8 f9 (PySem.W.fnOf "blames" "blames" (defArgs sBls) (defBody sBls) (defScope sBls) .none fkV9 fdc9 fpm9 fan9 fcd9 fct9) ["p"] (spBlsX K cx0) := ok_blsX F9 (PySem.W.mg_of X G fa7) fk7 b7 QB
  have D13 : Df l.prog w K mg base 1 "_law_mixed" ["number", "k"] spMx := ⟨f13, _, PySem.W.mg_of X G fa13, fk13, b13, ok_mx F13 N.int⟩
  have D14 : Df l.prog w K mg base 2 "_law_start" ["script"] (spStart K) := ⟨f14, _, PySem.W.mg_of X G fa14, fk14, b14, ok_start F14 N D13⟩
  have D15 : Df l.prog w K mg base 2 "_law_take" ["state", "limit"] spTk := ⟨f15, _, PySem.W.mg_of X G fa15, fk15, b15, ok_tk F15 N ab D13⟩
  have D16 : Df l.prog w K mg base 4 "_law_same" ["actual", "due"] (spSm K 3) := ⟨f16, _, PySem.W.mg_of X G fa16, fk16, b16, ok_ysame F16 b16 (PySem.W.mg_of X G fa16) fk16 N 4⟩
  have D16l : Df l.prog w K mg base 4 "_law_same" ["actual", "due"] (spSmL K 2) := ⟨f16, _, PySem.W.mg_of X G fa16, fk16, b16, ok_ysameL F16 b16 (PySem.W.mg_of X G fa16) fk16 N (ok_ysame F16 b16 (PySem.W.mg_of X G fa16) fk16 N 3)⟩
  have D17 : Df l.prog w K mg base 3 "_law_tokens" ["state", "many"] spYTok := ⟨f17, _, PySem.W.mg_of X G fa17, fk17, b17, ok_ytok F17 N D15⟩
  have D18s : Df l.prog w K mg base 1 "_law_rising" ["rows"] (spRis K Str) := ⟨f18, _, PySem.W.mg_of X G fa18, fk18, b18, ok_ris Str F18 N⟩
  have D18t : Df l.prog w K mg base 1 "_law_rising" ["rows"] (spRis K (Str × Int)) := ⟨f18, _, PySem.W.mg_of X G fa18, fk18, b18, ok_ris (Str × Int) F18 N⟩
  have D18m : Df l.prog w K mg base 1 "_law_rising" ["rows"] (spRis K Mono) := ⟨f18, _, PySem.W.mg_of X G fa18, fk18, b18, ok_ris Mono F18 N⟩
  have D19 : Df l.prog w K mg base 2 "_law_poly_of" ["book"] (spPOf K l.prog w) := ⟨f19, _, PySem.W.mg_of X G fa19, fk19, b19, ok_pof F19 N D18m⟩
  have D20 : Df l.prog w K mg base 3 "_law_poly" ["state", "tokens", "most"] (spYPoly K) := ⟨f20, _, PySem.W.mg_of X G fa20, fk20, b20, ok_ypoly F20 N mn D15 D18t D19⟩
  have D21 : Df l.prog w K mg base 7 "_law_listed" ["state", "value"] (spYLs K 4) := ⟨f21, _, PySem.W.mg_of X G fa21, fk21, b21, ok_ylisted F21 b21 (PySem.W.mg_of X G fa21) fk21 N D15 5⟩
  have D22 : Df l.prog w K mg base 8 "_law_handed" ["state", "p"] (spYHand K 4) := ⟨f22, _, PySem.W.mg_of X G fa22, fk22, b22, ok_yhand (n := 4) F22 D15 D21⟩
  have D23 : Df l.prog w K mg base 2 "_law_of" ["p"] (spYOf K) := ⟨f23, _, PySem.W.mg_of X G fa23, fk23, b23, ok_yof F23 D18s⟩
  have D24 : Df l.prog w K mg base 1 "_law_there" ["p", "tokens"] (spYThere K) := ⟨f24, _, PySem.W.mg_of X G fa24, fk24, b24, ok_ythere F24 N⟩
  have D25 : Df l.prog w K mg base 1 "_law_sets" ["tokens"] (spYSets K) := ⟨f25, _, PySem.W.mg_of X G fa25, fk25, b25, ok_ysets F25 N⟩
  have D26 : Df l.prog w K mg base 1 "_law_within" ["part", "whole"] (spYWithin K) := ⟨f26, _, PySem.W.mg_of X G fa26, fk26, b26, ok_ywithin F26 N⟩
  have D27 : Df l.prog w K mg base 2 "_law_least" ["sets", "holds"] (spYLeast K) := ⟨f27, _, PySem.W.mg_of X G fa27, fk27, b27, ok_yleast F27 N D26⟩
  have D28 : Df l.prog w K mg base 3 "_law_breakers" ["p"] (spYBrk K) := ⟨f28, _, PySem.W.mg_of X G fa28, fk28, b28, ok_ybrk F28 D25 D23 D24 D27⟩
  have D29 : Df l.prog w K mg base 4 "_law_share" ["p", "token"] (spShr K) := ⟨f29, _, PySem.W.mg_of X G fa29, fk29, b29, ok_shr F29 N mn D28⟩
  have D30 : Df l.prog w K mg base 5 "_law_due" ["p"] (spDueB K) := ⟨f30, _, PySem.W.mg_of X G fa30, fk30, b30, ok_due F30 N D23 D29⟩
  have D31 : Df l.prog w K mg base 9 "_law_refused" ["p"] (spRef K) := ⟨f31, _, PySem.W.mg_of X G fa31, fk31, b31, ok_ref F31 N Z0 (PySem.W.mg_of X G fa9) fk9 b9 QL⟩
  have D32 : Df l.prog w K mg base 10 "_law_pairs" ["state"] (spPrsB K) := ⟨f32, _, PySem.W.mg_of X G fa32, fk32, b32, ok_prs F32 N D15 D18s D19 D16l D31 D16 D9 D23⟩
  exact ok_ylaw F33 N D14 D15 D17 D20 D30 D22 D16 DK9 D32
theorem walk {l : PySem.W.OpenLaw} {q : Program} {loose : List Str} {XP : (Str → Option Value) → Heap → Prop} {YP : World → Heap → Prop} {d : DefRec} {K : Params → PySem.W.Frag} (hn : l.most = some 63) (hdf : d.params.defaults = [])
    (hY : ∀ (w : World) (h : Heap), YP w h → (K w.params).In h)
    (F : ∀ (w : World) (mg : Str → Option Value) (fa : Addr) (h : Heap), (K w.params).In h → h.Ns mainGlobals mg → mg d.name = some (.ref fa) →
      ∃ fd : FuncData, (∀ (s : Shared) (u : Value), BindsTo s fd ⟨[u], []⟩ [("script", u)]) ∧ ∀ base : Heap, (K w.params).In base → base.Ns mainGlobals mg → FnG l.prog w (K w.params) mg base 11 fa fd ["script"] (spYLaw (K w.params))) :
    PySem.W.WalkO q loose XP YP l.row.toRowW d [] (fun f vs => PySem.call f vs) :=
  walk_still (n := 63) (k := 11) (x := "script") (sp := spYLaw) hn (by decide) hdf ⟨rfl, by decide, by decide⟩ hY F (fun _ _ a ns hl hS => ⟨a, ns, rfl, hS, hl, fun _ => rfl⟩)
end K26


set_option Elab.async false
open PySem PySem.W PyProof.Rows
set_option maxRecDepth 100000 in
set_option maxHeartbeats 0 in
theorem PySem.Challenge.cw_ledgertrace_k26_blames_holds : PySem.Challenge.rw_ledgertrace_k26_blames.Holds := by
  w_on; o_law; k_head; (case hw => w_witness2)
  k_fill
  refine K26.walk (l := PySem.Challenge.rw_ledgertrace_k26_blames) rfl rfl (fun w h Y => PySem.W.kIn_of Y) ?F
  case F =>
    intro w mg fa h KX G hmg
    refine' K26.all_mk KX G hmg ?most ?aT ?tT ?hT ?hsn ?htk ?ax0 ?xx0 ?sax0 ?gax0 ?ggx0 ?cax0 ?nox0 ?iix0 ?tix0 ?lix0 ?cix0 ?kcx0 ?tyx0 ?ax1 ?xx1 ?sax1 ?gax1 ?ggx1 ?cax1 ?nox1 ?iix1 ?tix1 ?lix1 ?cix1 ?kcx1 ?tyx1 ?nd ?fa0 ?fl0 ?fc0 ?fk0 ?fa1 ?fl1 ?fc1 ?fk1 ?fa2 ?fl2 ?fc2 ?fk2 ?fa3 ?fl3 ?fc3 ?fk3 ?fa4 ?fl4 ?fc4 ?fk4 ?fa5 ?fl5 ?fc5 ?fk5 ?fa6 ?fl6 ?fc6 ?fk6 ?fa7 ?fl7 ?fc7 ?fk7 ?fa8 ?fl8 ?fc8 ?fk8 ?fa9 ?fl9 ?fc9 ?fk9 ?fa10 ?fl10 ?fc10 ?fk10 ?fa11 ?fl11 ?fc11 ?fk11 ?fa12 ?fl12 ?fc12 ?fk12 ?fa13 ?fl13 ?fc13 ?fk13 ?fa14 ?fl14 ?fc14 ?fk14 ?fa15 ?fl15 ?fc15 ?fk15 ?fa16 ?fl16 ?fc16 ?fk16 ?fa17 ?fl17 ?fc17 ?fk17 ?fa18 ?fl18 ?fc18 ?fk18 ?fa19 ?fl19 ?fc19 ?fk19 ?fa20 ?fl20 ?fc20 ?fk20 ?fa21 ?fl21 ?fc21 ?fk21 ?fa22 ?fl22 ?fc22 ?fk22 ?fa23 ?fl23 ?fc23 ?fk23 ?fa24 ?fl24 ?fc24 ?fk24 ?fa25 ?fl25 ?fc25 ?fk25 ?fa26 ?fl26 ?fc26 ?fk26 ?fa27 ?fl27 ?fc27 ?fk27 ?fa28 ?fl28 ?fc28 ?fk28 ?fa29 ?fl29 ?fc29 ?fk29 ?fa30 ?fl30 ?fc30 ?fk30 ?fa31 ?fl31 ?fc31 ?fk31 ?fa32 ?fl32 ?fc32 ?fk32 ?fa33 ?fl33 ?fc33 ?fk33 ?z_isinstance ?z_tuple ?z_list ?z_len ?z_range ?z_bool ?z_str ?z_int ?z_min ?z_any ?z_sorted ?z_sum ?z_enumerate ?z_abs
    (case most => k_is)
    (case aT => k_is)
    (case tT => k_is)
    (case hT => k_is)
    (case hsn => k_is)
    (case htk => k_is)
    (case ax0 => k_is)
    (case xx0 => k_is)
    (case sax0 => k_is)
    (case gax0 => k_is)
    (case ggx0 => k_is)
    (case cax0 => k_is)
    (case nox0 => k_is)
    (case iix0 => k_is)
    (case tix0 => k_is)
    (case lix0 => k_is)
    (case cix0 => k_is)
    (case kcx0 => k_is)
    (case tyx0 => k_is)
    (case ax1 => k_is)
    (case xx1 => k_is)
    (case sax1 => k_is)
    (case gax1 => k_is)
    (case ggx1 => k_is)
    (case cax1 => k_is)
    (case nox1 => k_is)
    (case iix1 => k_is)
    (case tix1 => k_is)
    (case lix1 => k_is)
    (case cix1 => k_is)
    (case kcx1 => k_is)
    (case tyx1 => k_is)
    (case nd => decide)
    (case fa0 => k_is)
    (case fl0 => k_is)
    (case fc0 => k_is)
    (case fk0 => k_is)
    (case fa1 => k_is)
    (case fl1 => k_is)
    (case fc1 => k_is)
    (case fk1 => k_is)
    (case fa2 => k_is)
    (case fl2 => k_is)
    (case fc2 => k_is)
    (case fk2 => k_is)
    (case fa3 => k_is)
    (case fl3 => k_is)
    (case fc3 => k_is)
    (case fk3 => k_is)
    (case fa4 => k_is)
    (case fl4 => k_is)
    (case fc4 => k_is)
    (case fk4 => k_is)
    (case fa5 => k_is)
    (case fl5 => k_is)
    (case fc5 => k_is)
    (case fk5 => k_is)
    (case fa6 => k_is)
    (case fl6 => k_is)
    (case fc6 => k_is)
    (case fk6 => k_is)
    (case fa7 => k_is)
    (case fl7 => k_is)
    (case fc7 => k_is)
    (case fk7 => k_is)
    (case fa8 => k_is)
    (case fl8 => k_is)
    (case fc8 => k_is)
    (case fk8 => k_is)
    (case fa9 => k_is)
    (case fl9 => k_is)
    (case fc9 => k_is)
    (case fk9 => k_is)
    (case fa10 => k_is)
    (case fl10 => k_is)
    (case fc10 => k_is)
    (case fk10 => k_is)
    (case fa11 => k_is)
    (case fl11 => k_is)
    (case fc11 => k_is)
    (case fk11 => k_is)
    (case fa12 => k_is)
    (case fl12 => k_is)
    (case fc12 => k_is)
    (case fk12 => k_is)
    (case fa13 => k_is)
    (case fl13 => k_is)
    (case fc13 => k_is)
    (case fk13 => k_is)
    (case fa14 => k_is)
    (case fl14 => k_is)
    (case fc14 => k_is)
    (case fk14 => k_is)
    (case fa15 => k_is)
    (case fl15 => k_is)
    (case fc15 => k_is)
    (case fk15 => k_is)
    (case fa16 => k_is)
    (case fl16 => k_is)
    (case fc16 => k_is)
    (case fk16 => k_is)
    (case fa17 => k_is)
    (case fl17 => k_is)
    (case fc17 => k_is)
    (case fk17 => k_is)
    (case fa18 => k_is)
    (case fl18 => k_is)
    (case fc18 => k_is)
    (case fk18 => k_is)
    (case fa19 => k_is)
    (case fl19 => k_is)
    (case fc19 => k_is)
    (case fk19 => k_is)
    (case fa20 => k_is)
    (case fl20 => k_is)
    (case fc20 => k_is)
    (case fk20 => k_is)
    (case fa21 => k_is)
    (case fl21 => k_is)
    (case fc21 => k_is)
    (case fk21 => k_is)
    (case fa22 => k_is)
    (case fl22 => k_is)
    (case fc22 => k_is)
    (case fk22 => k_is)
    (case fa23 => k_is)
    (case fl23 => k_is)
    (case fc23 => k_is)
    (case fk23 => k_is)
    (case fa24 => k_is)
    (case fl24 => k_is)
    (case fc24 => k_is)
    (case fk24 => k_is)
    (case fa25 => k_is)
    (case fl25 => k_is)
    (case fc25 => k_is)
    (case fk25 => k_is)
    (case fa26 => k_is)
    (case fl26 => k_is)
    (case fc26 => k_is)
    (case fk26 => k_is)
    (case fa27 => k_is)
    (case fl27 => k_is)
    (case fc27 => k_is)
    (case fk27 => k_is)
    (case fa28 => k_is)
    (case fl28 => k_is)
    (case fc28 => k_is)
    (case fk28 => k_is)
    (case fa29 => k_is)
    (case fl29 => k_is)
    (case fc29 => k_is)
    (case fk29 => k_is)
    (case fa30 => k_is)
    (case fl30 => k_is)
    (case fc30 => k_is)
    (case fk30 => k_is)
    (case fa31 => k_is)
    (case fl31 => k_is)
    (case fc31 => k_is)
    (case fk31 => k_is)
    (case fa32 => k_is)
    (case fl32 => k_is)
    (case fc32 => k_is)
    (case fk32 => k_is)
    (case fa33 => k_is)
    (case fl33 => k_is)
    (case fc33 => k_is)
    (case fk33 => k_is)
    (case z_isinstance => k_is)
    (case z_tuple => k_is)
    (case z_list => k_is)
    (case z_len => k_is)
    (case z_range => k_is)
    (case z_bool => k_is)
    (case z_str => k_is)
    (case z_int => k_is)
    (case z_min => k_is)
    (case z_any => k_is)
    (case z_sorted => k_is)
    (case z_sum => k_is)
    (case z_enumerate => k_is)
    (case z_abs => k_is)

