import PyProof.Rows.All
import Wide.All
import OpenK.AllK
import Wide.FinOn
import KE.KDictKeyed
import KE.SortData
import KE.DataCmp
import HandS.ForMost
import HandS.Conv
import HandS.DictTup
import HandS.TupAny
import HandS.Walk
import HandS.ForExc
import HandS.Comp
import HandS.Text
import HandS.Codes
import HandS.IsInst
import HandS.More
import HandS.Wide
import HandS.ForDict
import KE.KDictPairs
import PySem.Challenge.RW_ledgertrace_k02_whole_semiring
set_option Elab.async false
set_option linter.all false
set_option maxRecDepth 100000
set_option maxHeartbeats 2000000
/-! dicts whose keys are tuples of pairs (text, int), their values ints -/
namespace Nd
open PySem PySem.Spec PyProof.Rows L2
abbrev Mono := List (Str × Int)
def mD (m : Mono) : PyData := .tuple (m.map fun p => .tuple [.str p.1, .int p.2])
def mK (m : Mono) : NestedKey := .tup (m.map fun p => .tup [.text p.1, .num p.2])
theorem mK_inj {m n : Mono} (h : mK m = mK n) : m = n := by
  have h' := NestedKey.tup.inj h
  revert n
  induction m with
  | nil =>
    intro n _ h'
    cases n with
    | nil => rfl
    | cons y r => simp at h'
  | cons x r ih =>
    intro n h h'
    cases n with
    | nil => simp at h'
    | cons y r' =>
      simp only [List.map_cons, List.cons.injEq, NestedKey.tup.injEq, NestedKey.text.injEq, NestedKey.num.injEq] at h'
      obtain ⟨⟨h1, h2, _⟩, h3⟩ := h'
      have := ih (n := r') (by show NestedKey.tup _ = NestedKey.tup _; rw [h3]) h3
      rw [this]
      obtain ⟨x1, x2⟩ := x
      obtain ⟨y1, y2⟩ := y
      simp only at h1 h2
      rw [h1, h2]
theorem mK_depth (m : Mono) : (mK m).depth ≤ 8 := by
  have h : ∀ m : Mono, NestedKey.depthAll (m.map fun p => .tup [.text p.1, .num p.2]) ≤ 1 := by
    intro m
    induction m with
    | nil => simp [NestedKey.depthAll]
    | cons x r ih => simp only [List.map_cons, NestedKey.depthAll, NestedKey.depth]; omega
  have := h m
  simp only [mK, NestedKey.depth]
  omega
section
variable {X : Cx} {pins : List (Addr × Obj)} {σ : L2.St} {H : Hp} {s : Shared}
theorem pair_is (I : Inv X pins σ H s) {v : V} {u : Value} {x : Str} {i : Int} (h : Dp X.K H v (.tuple [.str x, .int i])) (r : RelV v u) : NestedIs s.heap (.tup [.text x, .num i]) u := by
  cases h with
  | tup hs ha =>
    cases r
    obtain ⟨its, rv, ⟨o, ho, hc, n, hd⟩, _⟩ := I.tuple hs
    cases ha with
    | cons h1 ha =>
      cases ha with
      | cons h2 ha =>
        cases ha
        cases h1
        cases h2
        cases rv with
        | cons r1 rv =>
          cases rv with
          | cons r2 rv =>
            cases rv
            obtain ⟨t1, rfl⟩ := r1
            obtain ⟨t2, rfl⟩ := r2
            exact .tup ho hc hd (.cons (.text _ _) (.cons (.int _ _) .nil))
theorem pairs_are (I : Inv X pins σ H s) : ∀ {m : Mono} {vs : List V} {us : List Value}, DpAll X.K H vs (m.map fun p => .tuple [.str p.1, .int p.2]) → Vals vs us → NestedAll s.heap (m.map fun p => .tup [.text p.1, .num p.2]) us
  | [], _, _, h, r => by
    cases h
    cases r
    exact .nil
  | p :: m, _, _, h, r => by
    cases h with
    | cons h1 h2 =>
      cases r with
      | cons r1 r2 => exact .cons (pair_is I h1 r1) (pairs_are I h2 r2)
/-- a tuple that is a monomial is a key -/
theorem key_is (I : Inv X pins σ H s) {a : Addr} {m : Mono} (h : Dp X.K H (.ref a) (mD m)) : (nestedKind X.prog X.w).is s.heap (mK m) a := by
  cases h with
  | tup hs ha =>
    obtain ⟨its, rv, ⟨o, ho, hc, n, hd⟩, _⟩ := I.tuple hs
    exact ⟨.tup ho hc hd (by simpa using pairs_are I ha rv), mK_depth m⟩
end
/-- an entry: the key, its tuple, the value -/
abbrev Ent := Mono × Addr × Int
def EntR : List Ent → List (NestedKey × Addr × Value) → Prop := Paired fun p q => mK p.1 = q.1 ∧ p.2.1 = q.2.1 ∧ RelV (.int p.2.2) q.2.2
def ndO (P : Program) (w : World) (d : Addr) (es : List Ent) : HO := .ext fun h => es.length ≤ sizeLine ∧ (d == sysModules) = false ∧ ∃ xs, EntR es xs ∧
  ∃ o ds ep, h.get? d = some o ∧ o.ExactDict ∧ o.data = .dict ds ep ∧ ds.toList = xs.map (entryOfKey (nestedKind P w)) ∧ (xs.map (·.1)).Nodup
theorem ndO_ok {P : Program} {w : World} {H : Hp} {h : Heap} {d : Addr} {es : List Ent} {xs : List (NestedKey × Addr × Value)} (z : es.length ≤ sizeLine) (hd : (d == sysModules) = false) (r : EntR es xs)
    (k : ∃ o ds ep, h.get? d = some o ∧ o.ExactDict ∧ o.data = .dict ds ep ∧ ds.toList = xs.map (entryOfKey (nestedKind P w)) ∧ (xs.map (·.1)).Nodup) : ObjOk P w H h d (ndO P w d es) := by
  obtain ⟨o, ds, ep, ho, k⟩ := k
  refine ⟨⟨z, hd, xs, r, o, ds, ep, ho, k⟩, ⟨o, ho⟩, fun h1 h2 q kk => ?_⟩
  obtain ⟨z', hd', xs', r', o', ds', ep', ho', k'⟩ := q
  exact ⟨z', hd', xs', r', o', ds', ep', kk _ ho', k'⟩
/-- at d: such a dict -/
structure NdAt (K : PySem.W.Frag) (P : Program) (w : World) (H : Hp) (d : Addr) (es : List Ent) : Prop where
  at_ : H d = some (ndO P w d es)
  keys : ∀ e ∈ es, Dp K H (.ref e.2.1) (mD e.1)
/-- what the dict holds -/
def getN (es : List Ent) (m : Mono) : Option Int := (es.find? fun e => decide (e.1 = m)).map (·.2.2)
def putN (es : List Ent) (m : Mono) (a : Addr) (c : Int) : List Ent := if (getN es m).isSome then es.map fun e => if e.1 = m then (e.1, e.2.1, c) else e else es ++ [(m, a, c)]
theorem putN_len (es : List Ent) (m : Mono) (a : Addr) (c : Int) : (putN es m a c).length ≤ es.length + 1 := by
  unfold putN
  split
  · rw [List.length_map]; omega
  · rw [List.length_append]; exact Nat.le_refl _
theorem dec_mK (m n : Mono) : decide (mK m = mK n) = decide (m = n) := by
  by_cases h : m = n
  · rw [h, decide_eq_true rfl, decide_eq_true rfl]
  · rw [decide_eq_false h, decide_eq_false fun q => h (mK_inj q)]
theorem EntR.get : ∀ {es : List Ent} {xs : List (NestedKey × Addr × Value)} (m : Mono), EntR es xs → RelO ((getN es m).map V.int) ((atKey xs (mK m)).map (·.2))
  | [], _, m, r => by
    cases r
    exact True.intro
  | e :: es, _, m, r => by
    cases r with
    | @cons p q ps qs h t =>
      obtain ⟨h1, h2, h3⟩ := h
      have ih := EntR.get (es := es) m t
      have eq : decide (q.1 = mK m) = decide (e.1 = m) := by rw [← h1, dec_mK]
      unfold getN atKey at ih ⊢
      rw [List.find?_cons, List.find?_cons, eq]
      cases hb : decide (e.1 = m) with
      | true => exact h3
      | false => exact ih
theorem EntR.put {es : List Ent} {xs : List (NestedKey × Addr × Value)} (m : Mono) {a : Addr} {c : Int} {u : Value} (r : EntR es xs) (ru : RelV (.int c) u) : EntR (putN es m a c) (storedH xs (mK m) a u) := by
  have e : (getN es m).isSome = (atKey xs (mK m)).isSome := by
    have q := (r.get m).isSome_eq
    rw [Option.isSome_map, Option.isSome_map] at q
    exact q
  unfold putN storedH
  rw [e]
  by_cases q : (atKey xs (mK m)).isSome = true
  · rw [if_pos q, if_pos q]
    clear e q
    induction r with
    | nil => exact .nil
    | @cons p x ps xs' h t ih =>
      refine .cons ?_ ih
      obtain ⟨h1, h2, h3⟩ := h
      unfold putAt
      dsimp only
      by_cases z : p.1 = m
      · rw [if_pos z, if_pos (by rw [← h1, z])]
        exact ⟨h1, h2, ru⟩
      · rw [if_neg z, if_neg (fun y => z (mK_inj (by rw [h1, y])))]
        exact ⟨h1, h2, h3⟩
  · rw [if_neg q, if_neg q]
    exact Paired.snoc r ⟨rfl, rfl, ru⟩
theorem EntR.len {es : List Ent} {xs : List (NestedKey × Addr × Value)} (r : EntR es xs) : es.length = xs.length := Paired.length r
section
variable {X : Cx} {pins : List (Addr × Obj)} {σ : L2.St} {H : Hp} {s : Shared} {d : Addr} {es : List Ent} {A : Around} {E : Value → Shared → Prop}
theorem EntR.all {es : List Ent} {xs : List (NestedKey × Addr × Value)} {h : Heap} {P : Program} {w : World} (r : EntR es xs) (k : ∀ e ∈ es, (nestedKind P w).is h (mK e.1) e.2.1) : ∀ x ∈ xs, (nestedKind P w).is h x.1 x.2.1 := by
  induction r with
  | nil => intro x hx; exact nomatch hx
  | @cons p q ps qs hq t ih =>
    intro x hx
    rcases List.mem_cons.mp hx with e | hx
    · subst e
      have z := k p List.mem_cons_self
      rw [hq.1, hq.2.1] at z
      exact z
    · exact ih (fun e he => k e (List.mem_cons_of_mem _ he)) x hx
theorem NdAt.open (I : Inv X pins σ H s) (n : NdAt X.K X.prog X.w H d es) : es.length ≤ sizeLine ∧ (d == sysModules) = false ∧ ∃ xs, EntR es xs ∧ s.heap.DictOfH (nestedKind X.prog X.w) d xs := by
  obtain ⟨⟨z, hd, xs, r, o, ds, ep, ho, h2, h3, h4, h5⟩, _⟩ : ObjOk X.prog X.w H s.heap d (ndO X.prog X.w d es) := I.hok d _ n.at_
  exact ⟨z, hd, xs, r, o, ds, ep, ho, h2, h3, h4, r.all fun e he => key_is I (n.keys e he), h5⟩
theorem room_in1 (hu : A.units + 9 < cLine) : (nestedKind X.prog X.w).room A.in1 := by
  show A.units + 1 + 8 < cLine
  omega
theorem nd_typeIs (I : Inv X pins σ H s) (n : NdAt X.K X.prog X.w H d es) : s.TypeIs (.ref d) "dict" := by
  obtain ⟨_, _, xs, _, dd⟩ := n.open I
  exact dd.typeIs
theorem nd_noDict (I : Inv X pins σ H s) (n : NdAt X.K X.prog X.w H d es) : ∀ b, Value.ref d = .ref b → ∃ ob, s.heap.get? b = some ob ∧ ob.dict = none := fun b q => by
  cases q
  obtain ⟨_, _, xs, _, ob, _, _, h1, h2, _⟩ := n.open I
  exact ⟨ob, h1, h2.2.1⟩
/-! ### {} -/
def tNdNew (P : Program) (w : World) : TE := fun _ H Q => ∀ p, H p = none → Q (.ref p) (upd H p (ndO P w p []))
theorem pe_ndNew {pos : Pos} : PE X (.Dict [] [] pos) (tNdNew X.prog X.w) := ⟨fun pins s σ H Q I h =>
  wpAny_Dict_empty ⟨.ref s.heap.objs.size, _, I.laid (a := s.heap.objs.size) (o := ndO X.prog X.w s.heap.objs.size []) (t' := s.toks) (fun _ _ q => Heap.get?_push_of_some _ q) (Nat.le_refl _)
    (ndO_ok (Nat.zero_le _) (beq_eq_false_iff_ne.mpr (Ne.symm (Nat.ne_of_lt I.big))) .nil ⟨_, #[], 0, Heap.get?_push_size _ rfl, ⟨rfl, rfl, rfl⟩, rfl, rfl, List.nodup_nil⟩), rfl, h _ (I.hok.fresh (Nat.le_refl _))⟩⟩
/-! ### d[m] -/
def tNdGet (K : PySem.W.Frag) (P : Program) (w : World) (td ty : TE) : TE := fun σ H Q => td σ H fun x H1 => ty σ H1 fun y H2 => ∃ (d a : Addr) (es : List Ent) (m : Mono) (c : Int), x = .ref d ∧ y = .ref a ∧ NdAt K P w H2 d es ∧ Dp K H2 (.ref a) (mD m) ∧ getN es m = some c ∧ Q (.int c) H2
theorem pe_ndGet {o i : Expr} {td ty : TE} {pos : Pos} (hu : X.A.units + 9 < cLine) (ho : PE X o td) (hi : PE X i ty) (hs : NoSl i) : PE X (.Subscript o i pos) (tNdGet X.K X.prog X.w td ty) := by
  refine ⟨fun pins s σ H Q I h => ?_⟩
  refine subD_of PySem.F.slot_dict_getitem.lookup hs (thn (ho.run pins s σ H _ I h) fun u s1 ⟨x, H1, I1, rx, q1⟩ => thn (hi.run pins s1 σ H1 _ I1 q1) fun iv s2 ⟨y, H2, I2, ry, d, a, es, m, c, ex, ey, n, hm, hg, q2⟩ => ?_)
  subst ex ey
  obtain rfl : u = Value.ref d := rx
  obtain rfl : iv = Value.ref a := ry
  obtain ⟨z, hd, xs, rel, dd⟩ := n.open I2
  obtain ⟨w', hw, rw'⟩ := RelO.some_of (v := V.int c) (o := (atKey xs (mK m)).map (·.2)) (by have q := rel.get m; rw [hg] at q; exact q)
  obtain ⟨p, hp, hp2⟩ := Option.map_eq_some_iff.mp hw
  refine ⟨dd.typeIs, wpAny_getItem_heap (room_in1 hu) (key_is I2 hm) dd hp ?_⟩
  rw [hp2]
  exact ⟨.int c, H2, I2.tok _, rw', q2⟩
/-! ### d.get(m, 0) -/
def tNdGetOr (K : PySem.W.Frag) (P : Program) (w : World) (td ty tx : TE) : TE := fun σ H Q => td σ H fun x H1 => ∃ (d : Addr) (es : List Ent), x = .ref d ∧ NdAt K P w H1 d es ∧ ty σ H1 fun y H2 => tx σ H2 fun z H3 => ∃ (a : Addr) (m : Mono) (i : Int), y = .ref a ∧ z = .int i ∧
  NdAt K P w H3 d es ∧ Dp K H3 (.ref a) (mD m) ∧ Q (.int ((getN es m).getD i)) H3
theorem pe_ndGetOr {o e f : Expr} {apos cpos : Pos} {td ty tx : TE} (hu : X.A.units + 9 < cLine) (ho : PE X o td) (he : PE X e ty) (hf : PE X f tx) (m : M2 X o "get" apos e f cpos) : PE X (.Call (.Attribute o "get" apos) [e, f] [] cpos) (tNdGetOr X.K X.prog X.w td ty tx) := by
  refine ⟨fun pins s σ H Q I h => ?_⟩
  refine wpAny_Call_method m.base m.few m.line PySem.F.plainAttrs_dict PySem.F.slot_dict_get PySem.F.type_dict_get (thn (ho.run pins s σ H _ I h) fun u s1 ⟨x, H1, I1, rx, d, es, ex, n, q1⟩ => ?_)
  subst ex
  obtain rfl : u = Value.ref d := rx
  refine ⟨nd_typeIs I1 n, nd_noDict I1 n, ?_⟩
  rw [m.trees]
  refine Calls.callWith_builtin rfl (Calls.evalArgs_plain (Calls.spliced_cons (thn (he.run pins s1 σ H1 _ I1 q1) fun iv s2 ⟨y, H2, I2, ry, q2⟩ =>
    Calls.spliced_cons (thn (hf.run pins s2 σ H2 _ I2 q2) fun fv s3 ⟨z, H3, I3, rz, a, mm, i, ey, ez, n3, hm, q3⟩ => Calls.spliced_nil ?_))))
  subst ey ez
  obtain rfl : iv = Value.ref a := ry
  obtain ⟨z, hd, xs, rel, dd⟩ := n3.open I3
  refine call_meetsIn PySem.F.slot_dict_get dd.typeIs PySem.F.entry_dict_get (PySem.F.args_dict_get_3 _ _ _) (meetsH_dict_get_default (nestedKind X.prog X.w) d a hd fv) ⟨room_in1 hu, mK mm, xs, key_is I3 hm, dd, ?_⟩
  refine ⟨.int ((getN es mm).getD i), H3, I3.tok _, ?_, q3⟩
  have q := (rel.get mm).getD (show RelV (.int i) fv from rz)
  have e : ((getN es mm).map V.int).getD (V.int i) = V.int ((getN es mm).getD i) := by cases getN es mm <;> rfl
  rw [e] at q
  exact q
/-! ### d[m] = c -/
theorem NdAt.put (n : NdAt X.K X.prog X.w H d es) {m : Mono} {a : Addr} {c : Int} (hm : Dp X.K H (.ref a) (mD m)) (dp : ∀ v e, Dp X.K H v e → Dp X.K (upd H d (ndO X.prog X.w d (putN es m a c))) v e) :
    NdAt X.K X.prog X.w (upd H d (ndO X.prog X.w d (putN es m a c))) d (putN es m a c) := by
  refine ⟨upd_same, fun e he => dp _ _ ?_⟩
  unfold putN at he
  split at he
  · obtain ⟨e0, h0, rfl⟩ := List.mem_map.mp he
    split
    · exact n.keys e0 h0
    · exact n.keys e0 h0
  · rcases List.mem_append.mp he with h | h
    · exact n.keys e h
    · rw [List.mem_singleton.mp h]
      exact hm
def rNdSet (K : PySem.W.Frag) (P : Program) (w : World) : TSet := fun o i v H Q => ∃ (d a : Addr) (es : List Ent) (m : Mono) (c : Int), o = .ref d ∧ i = .ref a ∧ v = .int c ∧ NdAt K P w H d es ∧ Dp K H (.ref a) (mD m) ∧ es.length < sizeLine ∧ Q (upd H d (ndO P w d (putN es m a c)))
theorem set_nd (hu : X.A.units + 9 < cLine) : PSet X (rNdSet X.K X.prog X.w) := by
  intro pins s σ H o i v ov iv u Q I ro ri rv h
  obtain ⟨d, a, es, m, c, rfl, rfl, rfl, n, hm, hl, q⟩ := h
  obtain rfl : ov = Value.ref d := ro
  obtain rfl : iv = Value.ref a := ri
  obtain ⟨z, hd, xs, rel, dd⟩ := n.open I
  have hz : xs.length ≤ sizeLine := by rw [← rel.len]; exact z
  refine wpAny_setItem_heap (hsz := hz) (room_in1 hu) (key_is I hm) dd fun h' dd' hs => ?_
  obtain ⟨ob, ds, ep, hq, h2, h3, h4, _, h5⟩ := dd'
  refine ⟨_, d_write I (by rw [n.at_]; exact True.intro) hs ⟨ob, hq⟩ (ndO_ok ?_ hd (rel.put m rv) ⟨ob, ds, ep, hq, h2, h3, h4, h5⟩), q⟩
  have := putN_len es m a c
  omega
/-! ### len(d) -/
theorem len_body {P : Program} {w : World} {A : Around} {E : Value → Shared → Prop} {s : Shared} {d : Addr} {ds : Array DictEntry} {ep : Nat} {Q : Value → Shared → Prop} (hd : (d == sysModules) = false) (hm : s.heap.DictRaw d ds ep) (hfit : (ds.size : Int) < 2 ^ 63)
    (h : Q (.int ds.size (s.toks + 1)) { s with toks := s.toks + 1 + 1 }) : wpAny (model P w) A (Builtin.«len» ⟨[.ref d], []⟩) (fun fin s' => ∃ r, fin = .done (.ret r) ∧ Q r s') E s := by
  unfold Builtin.«len»
  refine wpAny_bind (m := oneArg "len" _) (wpAny_pure ?_)
  refine wpAny_bind (m := callSpecial? (.ref d) (Str.ofString "__len__")) ?_
  refine wpAny_callSpecial?_slot (name := Str.ofString "__len__") hm.typeIs PySem.F.slot_dict_len ?_
  refine call_meetsIn PySem.F.slot_dict_len hm.typeIs PySem.F.entry_dict_len (PySem.F.args_dict_len_1 _) (PySem.meets_dict_len_raw d hd) ⟨ds, ep, hm, ?_⟩
  show wpAny _ _ _ _ _ { s with toks := s.toks + 1 }
  refine wpAny_bind (wpAny_holding (wpAny_pure ?_))
  refine wpAny_bind (wpAny_letGo ?_)
  show wpAny _ _ (if ((ds.size : Nat) : Int) < 0 then _ else _) _ _ _
  rw [if_neg (by omega)]
  show wpAny _ _ (if ((ds.size : Nat) : Int) ≥ 2 ^ 63 then _ else _) _ _ _
  rw [if_neg (by omega)]
  exact wpAny_bind (wpAny_mkInt (wpAny_pure ⟨_, rfl, h⟩))
theorem call_lenNd : CallR X (.builtin "len") (fun xs H Q => ∃ (d : Addr) (es : List Ent), xs = [V.ref d] ∧ NdAt X.K X.prog X.w H d es ∧ Q (.int es.length) H) := by
  intro pins s σ H xs us Q I r h
  obtain ⟨d, es, rfl, n, q⟩ := h
  obtain ⟨u, rfl, ru⟩ := vals1 r
  cases ru
  obtain ⟨z, hd, xs, rel, o, ds, ep, ho, hx, hdt, he, _, _⟩ := n.open I
  have e1 : ds.size = es.length := by rw [size_of_entries he, rel.len]
  refine Calls.call_function_entry kind_len plain_len entry_len (args_len1 _) (len_body (ds := ds) (ep := ep) hd ⟨o, ho, hx, hdt⟩ (by rw [e1]; rw [sizeLine_eq] at z; omega) ?_)
  rw [e1]
  exact ⟨.int es.length, H, I.tok _, ⟨_, rfl⟩, q⟩
end
end Nd


set_option Elab.async false
set_option linter.all false
set_option maxRecDepth 100000
set_option maxHeartbeats 2000000
namespace Nd
open PySem PySem.Spec PyProof.Rows L2
/-! ### < of data -/
section
variable {X : Cx}
def rLtD (K : PySem.W.Frag) : R2 := fun x y H Q => ∃ d e, Dp K H x d ∧ Dp K H y e ∧ PySem.W.alike d e = true ∧ d ≠ .none ∧ d.depth ≤ 20 ∧ Q (.bl (PySem.W.dataLt d e)) H
theorem op_ltD (hu : X.A.units + 64 < cLine) : OpR X (compareOp .Lt) (rLtD X.K) := by
  intro pins s σ H x y v u Q I rx ry h
  obtain ⟨d, e, hd, he, ha, hn, hp, q⟩ := h
  obtain ⟨as, r1⟩ := Dp.reads I d x v hd rx
  obtain ⟨bs, r2⟩ := Dp.reads I e y u he ry
  exact PySem.W.lt_data r1 r2 ha hn (by omega) ⟨.bl _, H, I, rfl, q⟩
end
mutual
theorem dp_same {K : PySem.W.Frag} {H H' : Hp} (s : Same H H') : ∀ {v : V} {d : PyData}, Dp K H v d → Dp K H' v d
  | _, _, .non => .non
  | _, _, .bl b => .bl b
  | _, _, .int i => .int i
  | _, _, .str x => .str x
  | _, _, .lst h a => .lst (s.seq h) (dpAll_same s a)
  | _, _, .tup h a => .tup (by
      rcases h with (h | ⟨o, h⟩) | h
      · exact .inl (.inl (s _ _ h))
      · exact .inl (.inr ⟨o, s _ _ h⟩)
      · exact .inr h) (dpAll_same s a)
theorem dpAll_same {K : PySem.W.Frag} {H H' : Hp} (s : Same H H') : ∀ {v : List V} {d : List PyData}, DpAll K H v d → DpAll K H' v d
  | _, _, .nil => .nil
  | _, _, .cons h t => .cons (dp_same s h) (dpAll_same s t)
end
mutual
theorem reads_lt {h : Heap} : ∀ {v : Value} {d : PyData} {as : List Addr}, Reads h v d as → ∀ a ∈ as, a < h.objs.size
  | _, _, _, .none => fun a ha => nomatch ha
  | _, _, _, .bool _ => fun a ha => nomatch ha
  | _, _, _, .int _ _ => fun a ha => nomatch ha
  | _, _, _, .str _ _ => fun a ha => nomatch ha
  | _, _, _, .list ho _ _ hr => fun a ha => by
    rcases List.mem_cons.mp ha with e | ha
    · rw [e]
      exact Heap.lt_size ho
    · exact readsAll_lt hr a ha
  | _, _, _, .tuple _ _ _ hr => readsAll_lt hr
  | _, _, _, .dict ho _ _ h1 h2 => fun a ha => by
    rcases List.mem_append.mp ha with ha | ha
    · rcases List.mem_cons.mp ha with e | ha
      · rw [e]
        exact Heap.lt_size ho
      · exact readsAll_lt h1 a ha
    · exact readsAll_lt h2 a ha
theorem readsAll_lt {h : Heap} : ∀ {v : List Value} {d : List PyData} {as : List Addr}, ReadsAll h v d as → ∀ a ∈ as, a < h.objs.size
  | _, _, _, .nil => fun a ha => nomatch ha
  | _, _, _, .cons h1 h2 => fun a ha => by
    rcases List.mem_append.mp ha with ha | ha
    · exact reads_lt h1 a ha
    · exact readsAll_lt h2 a ha
end
/-! ### the entries of a dict, of either kind -/
def DEnt (K : PySem.W.Frag) (P : Program) (w : World) (H : Hp) (d : Addr) (prs : List (V × V)) : Prop :=
  (∃ kvs : List (Key × V), H d = some (.dK kvs) ∧ prs = kvs.map fun kv => (kV kv.1, kv.2)) ∨ ∃ es : List Ent, NdAt K P w H d es ∧ prs = es.map fun e => (V.ref e.2.1, V.int e.2.2)
theorem DEnt.k {K : PySem.W.Frag} {P : Program} {w : World} {H : Hp} {d : Addr} {kvs : List (Key × V)} (h : H d = some (.dK kvs)) : DEnt K P w H d (kvs.map fun kv => (kV kv.1, kv.2)) := .inl ⟨kvs, h, rfl⟩
theorem DEnt.n {K : PySem.W.Frag} {P : Program} {w : World} {H : Hp} {d : Addr} {es : List Ent} (h : NdAt K P w H d es) : DEnt K P w H d (es.map fun e => (V.ref e.2.1, V.int e.2.2)) := .inr ⟨es, h, rfl⟩
section
variable {X : Cx} {pins : List (Addr × Obj)} {σ : L2.St} {H : Hp} {s : Shared} {d : Addr} {prs : List (V × V)}
theorem DEnt.raw (I : Inv X pins σ H s) (h : DEnt X.K X.prog X.w H d prs) : (d == sysModules) = false ∧ prs.length ≤ sizeLine ∧ ∃ ds ep, DT.Raw s.heap d ds ep ∧ ds.size = prs.length ∧
    ∀ (j : Nat) (pr : V × V), prs[j]? = some pr → ∃ en, ds[j]? = some en ∧ L2.RelV pr.1 en.key ∧ L2.RelV pr.2 en.val := by
  rcases h with ⟨kvs, hd, rfl⟩ | ⟨es, n, rfl⟩
  · obtain ⟨z, hs, vs, kv, o, ds, ep, ho, hx, hdt, hko, hpr, hnd⟩ := dk_of I.hok hd
    have l1 : ds.size = kvs.length := by rw [← Array.length_toList, hpr.length, kv.length]
    refine ⟨hs, by rw [List.length_map]; exact z, ds, ep, ⟨o, ho, hx, hdt⟩, by rw [List.length_map, l1], fun j pr hj => ?_⟩
    rw [List.getElem?_map] at hj
    cases q : kvs[j]? with
    | none => rw [q] at hj; cases hj
    | some e =>
      rw [q] at hj
      cases hj
      obtain ⟨k, v⟩ := e
      obtain ⟨u, hu, ru⟩ := kv_get kv q
      have hj2 : j < ds.toList.length := by
        rw [Array.length_toList, l1]
        exact (List.getElem?_eq_some_iff.mp q).1
      have hen : ds.toList[j]? = some ds.toList[j] := List.getElem?_eq_getElem hj2
      obtain ⟨k1, k2⟩ := hpr.get? hen hu
      refine ⟨ds.toList[j], by rw [← Array.getElem?_toList]; exact hen, relV_key k1, ?_⟩
      rw [k2]
      exact ru
  · obtain ⟨z, hs, xs, rel, o, ds, ep, ho, hx, hdt, he, _, _⟩ := n.open I
    refine ⟨hs, by rw [List.length_map]; exact z, ds, ep, ⟨o, ho, hx, hdt⟩, by rw [List.length_map, size_of_entries he, rel.len], fun j pr hj => ?_⟩
    rw [List.getElem?_map] at hj
    cases q : es[j]? with
    | none => rw [q] at hj; cases hj
    | some e =>
      rw [q] at hj
      cases hj
      obtain ⟨x, hx', h1, h2, h3⟩ := paired_get rel q
      refine ⟨entryOfKey (nestedKind X.prog X.w) x, ?_, ?_, h3⟩
      · rw [entry_at he j, hx']
        rfl
      · show L2.RelV (.ref e.2.1) (.ref x.2.1)
        rw [h2]
        rfl
theorem DEnt.noDict (I : Inv X pins σ H s) (h : DEnt X.K X.prog X.w H d prs) : ∀ b, Value.ref d = .ref b → ∃ ob, s.heap.get? b = some ob ∧ ob.dict = none := fun b q => by
  cases q
  obtain ⟨_, _, ds, ep, ⟨o, ho, hx, _⟩, _⟩ := h.raw I
  exact ⟨o, ho, hx.2.1⟩
/-! ### d.items() as a value -/
def tItemsV (K : PySem.W.Frag) (P : Program) (w : World) (td : TE) : TE := fun σ H Q => td σ H fun x H1 => ∃ (d : Addr) (prs : List (V × V)), x = .ref d ∧ DEnt K P w H1 d prs ∧ ∀ p, H1 p = none → Q (.ref p) (upd H1 p (L2.DX.itemsO p d))
theorem pe_itemsV {e : Expr} {td : TE} {apos cpos : Pos} (he : PE X e td) (hbase : attributeBase e "items" X.env (eval e X.env) = eval e X.env := by rfl) (hline : (apos.endLine == cpos.line) = true := by rfl) :
    PE X (.Call (.Attribute e "items" apos) [] [] cpos) (tItemsV X.K X.prog X.w td) := by
  refine ⟨fun pins s σ H Q I h => ?_⟩
  refine wpAny_Call_method (T := "dict") (id := "dict.items") hbase rfl hline PySem.F.plainAttrs_dict PySem.F.slot_dict_items PySem.F.type_dict_items (thn (he.run pins s σ H _ I h) fun u s1 ⟨x, H1, I1, rx, d, prs, ex, n, q⟩ => ?_)
  subst ex
  obtain rfl : u = Value.ref d := rx
  obtain ⟨hs, _, ds, ep, hraw, _⟩ := n.raw I1
  refine ⟨hraw.typeIs, n.noDict I1, ?_⟩
  show wpAny _ _ (callWith cpos (.builtin "dict.items") [.ref d] [] []) _ X.xe s1
  refine method_meetsIn PySem.F.slot_dict_items PySem.F.entry_dict_items rfl (PySem.evalArgs_none ⟨rfl, hraw.typeIs, PySem.F.args_dict_items_1 _, _, DT.meetsItems (es := ds) (ep := ep) hs, hraw, ?_⟩)
  have hf : H1 s1.heap.objs.size = none := I1.hok.fresh (Nat.le_refl _)
  exact ⟨.ref s1.heap.objs.size, upd H1 s1.heap.objs.size (L2.DX.itemsO s1.heap.objs.size d), I1.laid (t' := s1.toks) (fun b u e => Heap.get?_push_of_some _ e) (Nat.le_refl _) (L2.DX.itemsO_ok (Heap.get?_push_size _ rfl)), rfl, q _ hf⟩
end
end Nd


set_option Elab.async false
set_option linter.all false
set_option maxRecDepth 100000
set_option maxHeartbeats 4000000
namespace Nd
open PySem PySem.Spec PyProof.Rows L2
/-! ### sorted(d.items()) -/
section
variable {X : Cx}
/-- the data of the pairs -/
def PrD (K : PySem.W.Frag) (H : Hp) : List (V × V) → List PyData → Prop := Paired fun pr dt => ∃ a c, dt = .tuple [a, c] ∧ Dp K H pr.1 a ∧ Dp K H pr.2 c
def rSortItems (K : PySem.W.Frag) (P : Program) (w : World) : List V → Hp → VK → Prop := fun xs H Q => ∃ (p d : Addr) (prs : List (V × V)) (dts : List PyData), xs = [.ref p] ∧ H p = some (L2.DX.itemsO p d) ∧ DEnt K P w H d prs ∧ PrD K H prs dts ∧
  PySem.W.AllAlike dts ∧ (∀ t ∈ dts, t.depth ≤ 20) ∧ ∀ (l : Addr) (H' : Hp) (ys : List V), H l = none → Same H H' → H' l = some (.lst ys) → DpAll K H' ys (dts.mergeSort (PySem.W.dataLe false id)) → Q (.ref l) H'
/-- a made pair in the heap -/
def MadeP (K : PySem.W.Frag) (H : Hp) (h : Heap) (as : List Addr) (v : Value) (dt : PyData) : Prop := ∃ (b : Addr) (pr : V × V) (k u : Value), v = .ref b ∧ b ∈ as ∧ h.get? b = some { cls := .type "tuple", data := .seq #[k, u] } ∧
  L2.RelV pr.1 k ∧ L2.RelV pr.2 u ∧ ∃ a c, dt = .tuple [a, c] ∧ Dp K H pr.1 a ∧ Dp K H pr.2 c
theorem eachIs_of {α β : Type} {R : α → β → Prop} : ∀ {as : List α} {bs : List β}, as.length = bs.length → (∀ (j : Nat) (a : α) (b : β), as[j]? = some a → bs[j]? = some b → R a b) → PySem.W.EachIs R as bs
  | [], [], _, _ => .nil
  | a :: as, b :: bs, hl, h => .cons (h 0 a b rfl rfl) (eachIs_of (by simpa using hl) fun j x y e1 e2 => h (j + 1) x y (by simpa using e1) (by simpa using e2))
  | [], _ :: _, hl, _ => by simp at hl
  | _ :: _, [], hl, _ => by simp at hl
theorem madeP_refs {K : PySem.W.Frag} {H : Hp} {h : Heap} {as : List Addr} : ∀ {vs : List Value} {ds : List PyData}, PySem.W.EachIs (MadeP K H h as) vs ds → ∃ bs : List Addr, vs = bs.map Value.ref ∧ Vals (bs.map V.ref) vs ∧
    (∀ (j : Nat) (b : Addr) (dt : PyData), bs[j]? = some b → ds[j]? = some dt → MadeP K H h as (.ref b) dt) ∧ bs.length = ds.length
  | _, _, .nil => ⟨[], rfl, .nil, fun j b dt h => (by simp at h), rfl⟩
  | _, _, .cons h t => by
    obtain ⟨bs, e, r, q, l⟩ := madeP_refs t
    obtain ⟨b, pr, k, u, rfl, hb⟩ := id h
    refine ⟨b :: bs, by rw [e]; rfl, .cons rfl r, fun j c dt h1 h2 => ?_, by simp [l]⟩
    cases j with
    | zero =>
      simp only [List.getElem?_cons_zero, Option.some.injEq] at h1 h2
      subst h1 h2
      exact h
    | succ j =>
      simp only [List.getElem?_cons_succ] at h1 h2
      exact q j c dt h1 h2
theorem dpAll_of {K : PySem.W.Frag} {H : Hp} : ∀ {bs : List Addr} {ds : List PyData}, bs.length = ds.length → (∀ (j : Nat) (b : Addr) (dt : PyData), bs[j]? = some b → ds[j]? = some dt → Dp K H (.ref b) dt) → DpAll K H (bs.map V.ref) ds
  | [], [], _, _ => .nil
  | b :: bs, d :: ds, hl, h => .cons (h 0 b d rfl rfl) (dpAll_of (by simpa using hl) fun j x y e1 e2 => h (j + 1) x y (by simpa using e1) (by simpa using e2))
  | [], _ :: _, hl, _ => by simp at hl
  | _ :: _, [], hl, _ => by simp at hl
theorem cr_sortItems (hc : X.calm = true) (hu : X.A.units + 64 < cLine) : CallR X (.builtin "sorted") (rSortItems X.K X.prog X.w) := by
  intro pins s σ H xs us Q I r h
  obtain ⟨p, d, prs, dts, rfl, hp, hD, hP, hal, hdep, q⟩ := h
  obtain rfl := Vals.ref1 r
  have view : s.heap.IsItemsView p d := (show ObjOk X.prog X.w H s.heap p (L2.DX.itemsO p d) from I.hok p _ hp).1
  obtain ⟨hs, hz, ds, ep, hraw, hsz, hent⟩ := hD.raw I
  have hh : X.A.handled = none := I.ok.hd hc
  refine DT.sortedI (es := ds) (ep := ep) hh view hraw (by rw [hsz]; exact hz) fun h' tk as hk hlt hl hG => ?_
  have lp : prs.length = dts.length := Paired.length hP
  have nd : as.Nodup := List.Pairwise.imp (fun h => Nat.ne_of_lt h) hG.rise
  have hob : (h'.push { cls := .type "list", data := .seq (as.map Value.ref).toArray }).get? h'.objs.size = some (seqObj "list" (as.map Value.ref).toArray 0) := Heap.get?_push_size _ rfl
  have kb : ∀ b o, s.heap.get? b = some o → (h'.push { cls := .type "list", data := .seq (as.map Value.ref).toArray }).get? b = some o := fun b o e => Heap.get?_push_of_some _ (hk b o e)
  have ne0 : ∀ b o, h'.get? b = some o → b ≠ h'.objs.size := fun b o e => Nat.ne_of_lt (Heap.lt_size e)
  generalize hh2 : h'.push { cls := .type "list", data := .seq (as.map Value.ref).toArray } = h2 at hob kb ⊢
  have ka : ∀ b o, h'.get? b = some o → h2.get? b = some o := fun b o e => by rw [← hh2]; exact Heap.get?_push_of_some _ e
  have made : PySem.W.EachIs (MadeP X.K H h' as) (as.map Value.ref) dts := by
    refine eachIs_of (by rw [List.length_map, hl, hsz, lp]) fun j v dt hj hd => ?_
    rw [List.getElem?_map] at hj
    cases qa : as[j]? with
    | none => rw [qa] at hj; cases hj
    | some b =>
      rw [qa] at hj
      cases hj
      obtain ⟨en, he, hg⟩ := hG.pairs j b qa
      have hjp : j < prs.length := by rw [lp]; exact (List.getElem?_eq_some_iff.mp hd).1
      obtain ⟨en', he', r1, r2⟩ := hent j _ (List.getElem?_eq_getElem hjp)
      rw [he] at he'
      cases he'
      obtain ⟨dt', hd', hpd⟩ := paired_get hP (List.getElem?_eq_getElem hjp)
      rw [hd] at hd'
      cases hd'
      exact ⟨b, prs[j], en.key, en.val, rfl, List.mem_of_getElem? qa, hg, r1, r2, hpd⟩
  have reads : PySem.W.EachIs (fun v dt => ∃ rs, Reads h2 v (id dt) rs ∧ h'.objs.size ∉ rs) (as.map Value.ref) dts := made.mono fun v dt ⟨b, pr, k, u, ev, hb, hg, r1, r2, a, c, ed, d1, d2⟩ => by
    subst ev ed
    obtain ⟨as1, q1⟩ := Dp.reads I a _ _ d1 r1
    obtain ⟨as2, q2⟩ := Dp.reads I c _ _ d2 r2
    have q1' := PyProof.Rows.Reads.keeps kb q1
    have q2' := PyProof.Rows.Reads.keeps kb q2
    refine ⟨_, Reads.tuple (ka _ _ hg) rfl rfl (ReadsAll.cons q1' (ReadsAll.cons q2' ReadsAll.nil)), fun hm => ?_⟩
    have : h'.objs.size < s.heap.objs.size := by
      rcases List.mem_append.mp hm with hm | hm
      · exact reads_lt q1 _ hm
      · rcases List.mem_append.mp hm with hm | hm
        · exact reads_lt q2 _ hm
        · exact nomatch hm
    omega
  have hsort : PySem.W.Sortable (dts.map id) := .inl fun t ht => by
    rw [List.map_id] at ht
    obtain ⟨j, hj⟩ := List.mem_iff_getElem?.mp ht
    have hjp : j < prs.length := by rw [lp]; exact (List.getElem?_eq_some_iff.mp hj).1
    obtain ⟨dt', hd', a, c, e, _⟩ := paired_get hP (List.getElem?_eq_getElem hjp)
    rw [hj] at hd'
    cases hd'
    exact ⟨a, [c], e⟩
  refine PySem.W.list_sort_data (s := { s with heap := h2, toks := tk }) (R := MadeP X.K H h' as) (enc := id) hob made reads (by rw [List.map_id]; exact hal) hsort (by rw [← lp]; exact hz) (fun b hb => ?_) fun out hlen hout => ?_
  · have := hdep b hb
    show X.A.in1.units + 1 + (id b).depth < cLine
    show X.A.units + 1 + 1 + b.depth < cLine
    omega
  show EP X pins σ Q (.ref h'.objs.size) { s with heap := sortedHeap h2 h'.objs.size (as.map Value.ref) out.toArray, toks := tk }
  have kF : ∀ b o, b ≠ h'.objs.size → h2.get? b = some o → (sortedHeap h2 h'.objs.size (as.map Value.ref) out.toArray).get? b = some o := fun b o hb e => (PyProof.Rows.sortedHeap_old hb (Heap.lt_size e)).trans e
  have kS : ∀ b o, s.heap.get? b = some o → (sortedHeap h2 h'.objs.size (as.map Value.ref) out.toArray).get? b = some o := fun b o e => kF b o (ne0 _ _ (hk b o e)) (kb b o e)
  obtain ⟨eF, heF⟩ := PyProof.Rows.sortedHeap_at (vs := as.map Value.ref) (out := out.toArray) hob
  have I1 : Inv X pins σ H { s with heap := sortedHeap h2 h'.objs.size (as.map Value.ref) out.toArray, toks := tk } := I.kept (t' := tk) kS
  have hn0 : H h'.objs.size = none := I.hok.fresh (Nat.le_of_lt hlt)
  obtain ⟨bs, eb, rv, hbs, lbs⟩ := madeP_refs hout
  have hlen2 : (bs.map V.ref).length ≤ sizeLine := by
    rw [List.length_map, lbs, List.length_mergeSort, ← lp]
    exact hz
  have I2 : Inv X pins σ (upd H h'.objs.size (.lst (bs.map V.ref))) { s with heap := sortedHeap h2 h'.objs.size (as.map Value.ref) out.toArray, toks := tk } :=
    I1.take (h' := sortedHeap h2 h'.objs.size (as.map Value.ref) out.toArray) (t' := tk) (fun b ob _ e => e) (I.fpOk (Nat.le_of_lt hlt) hn0) ⟨hlen2, out, eF, rv, heF⟩
  obtain ⟨H2, I3, g, qt⟩ := L2.DX.takeT (P := fun b vs => ∃ (x y : V) (k u : Value), vs = [x, y] ∧ h'.get? b = some { cls := .type "tuple", data := .seq #[k, u] } ∧ L2.RelV x k ∧ L2.RelV y u) I as _ I2 nd fun b hb => by
    obtain ⟨j, hj⟩ := List.mem_iff_getElem?.mp hb
    obtain ⟨en, he, hg⟩ := hG.pairs j b hj
    have hjp : j < prs.length := by
      have := (Array.getElem?_eq_some_iff.mp he).1
      omega
    obtain ⟨en', he', r1, r2⟩ := hent j _ (List.getElem?_eq_getElem hjp)
    rw [he] at he'
    cases he'
    have hbl : s.heap.objs.size ≤ b := Nat.le_of_lt (hG.above b hb)
    refine ⟨hbl, ?_, [prs[j].1, prs[j].2], ⟨_, _, en.key, en.val, rfl, hg, r1, r2⟩, fun H3 => ⟨(by rw [sizeLine_eq]; show 2 ≤ 16777216; omega), [en.key, en.val], .cons r1 (.cons r2 .nil), ⟨_, kF _ _ (ne0 _ _ hg) (ka _ _ hg), rfl, 0, rfl⟩⟩⟩
    rw [upd_ne (ne0 _ _ hg)]
    exact I.hok.fresh hbl
  have gr : Same H H2 := fun b o e => g b o (by rw [upd_ne (ne_of_none e hn0)]; exact e)
  refine ⟨.ref h'.objs.size, H2, I3, rfl, q h'.objs.size H2 (bs.map V.ref) hn0 gr (g _ _ upd_same) ?_⟩
  refine dpAll_of lbs fun j b dt hj hd => ?_
  obtain ⟨b', pr, k, u, eb', hb, hg, r1, r2, a, c, ed, d1, d2⟩ := hbs j b dt hj hd
  cases eb'
  obtain ⟨vs, ⟨x, y, k', u', ev, hg', r1', r2'⟩, hH⟩ := qt b hb
  rw [hg] at hg'
  cases hg'
  have ex : x = pr.1 := Option.some.inj (r1'.abs.symm.trans r1.abs)
  have ey : y = pr.2 := Option.some.inj (r2'.abs.symm.trans r2.abs)
  subst ev ed ex ey
  exact .tup (SqT.of hH) (.cons (dp_same gr d1) (.cons (dp_same gr d2) .nil))
end
end Nd


set_option Elab.async false
set_option linter.all false
set_option maxRecDepth 100000
set_option maxHeartbeats 4000000
namespace Nd
open PySem PySem.Spec PyProof.Rows L2
/-! ### walks over a locked dict of this kind -/
section
variable {X : Cx} {pins : List (Addr × Obj)} {σ : L2.St} {H : Hp} {s : Shared} {d : Addr} {o : Obj} {es : List Ent}
theorem lockedN (I : Inv X pins σ H s) (h : H d = some (.frz o (ndO X.prog X.w d es))) : (d == sysModules) = false ∧ s.heap.get? d = some o ∧ o.ExactDict ∧ ∃ (ds : Array DictEntry) (ep : Nat), o.data = .dict ds ep ∧ ds.size = es.length ∧
    ∀ (j : Nat) (e : Ent), es[j]? = some e → ∃ en, ds[j]? = some en ∧ en.key = .ref e.2.1 ∧ L2.RelV (.int e.2.2) en.val := by
  obtain ⟨hd, ⟨z, hs, xs, rel, o', ds, ep, ho, hx, hdt, he, _⟩, _⟩ : s.heap.get? d = some o ∧ ObjOk X.prog X.w H s.heap d (ndO X.prog X.w d es) := I.hok d _ h
  rw [hd] at ho
  cases ho
  refine ⟨hs, hd, hx, ds, ep, hdt, by rw [size_of_entries he, rel.len], fun j e q => ?_⟩
  obtain ⟨x, hx', h1, h2, h3⟩ := paired_get rel q
  refine ⟨entryOfKey (nestedKind X.prog X.w) x, ?_, ?_, h3⟩
  · rw [entry_at he j, hx']
    rfl
  · show Value.ref x.2.1 = Value.ref e.2.1
    rw [h2]
end
/-- the keys' own tuples -/
def ItkN (P : Program) (w : World) (d : Addr) (o : Obj) (es : List Ent) : It :=
  ⟨fun i H => H d = some (.frz o (ndO P w d es)) ∧ i < es.length, fun i H x H' => H' = H ∧ ∃ e, es[i]? = some e ∧ x = .ref e.2.1, fun i H => H d = some (.frz o (ndO P w d es)) ∧ es.length ≤ i⟩
/-- the pairs, each a new tuple -/
def ItiN (P : Program) (w : World) (d : Addr) (o : Obj) (es : List Ent) : It :=
  ⟨fun i H => H d = some (.frz o (ndO P w d es)) ∧ i < es.length, fun i H x H' => ∃ T e, es[i]? = some e ∧ x = .ref T ∧ H T = none ∧ H' = upd H T (.tup [.ref e.2.1, .int e.2.2]), fun i H => H d = some (.frz o (ndO P w d es)) ∧ es.length ≤ i⟩
section
variable {P : Program} {w : World} {K : PySem.W.Frag} {tg : Expr} {d : Addr} {o : Obj} {ds : Array DictEntry} {ep : Nat}
theorem turn_keysN {es : List Ent} (it : Addr) (hod : o.data = .dict ds ep) : Turn P w K tg (ItkN P w d o es) [it] it (fun i h => h.IsKeyIter it d i es.length ep) where
  mem := List.mem_singleton.mpr rfl
  obj := fun i h st b hb => by
    obtain rfl := List.mem_singleton.mp hb
    obtain ⟨oi, e, c, dd⟩ := st
    exact ⟨oi, e, fun v z => by rw [dd] at z; cases z⟩
  keep := fun i h h' st k => st.at fun oi e => k it (List.mem_singleton.mpr rfl) oi e
  item := by
    intro X hP hw hK hc i pins s σ H E I hf st hg
    subst hP hw hK
    obtain ⟨hd, hi⟩ := hg
    have hit := hf it (List.mem_singleton.mpr rfl)
    obtain ⟨hs, hgd, hx, ds', ep', hdt, hsz, ent⟩ := lockedN I hd
    obtain ⟨rfl, rfl⟩ := dict_ep hod hdt
    obtain ⟨en, hen, hkey, _⟩ := ent i _ (List.getElem?_eq_getElem hi)
    refine next_key_item st hgd hdt hsz hen fun h' st' sb => ?_
    have I1 : Inv X pins σ H { s with heap := h' } := I.turned (t' := s.toks) (fun b ob hb e => (sb.2 b hb).trans e) hit.1 hit.2.1 hit.2.2.2.1 hit.2.2.2.2.1 hit.2.2.2.2.2
    obtain ⟨oi, e, c, dd⟩ := id st'
    exact ⟨en.key, rfl, go_of (s := { s with heap := h' }) e c dd (by decide) ⟨.ref es[i].2.1, H, I1, hkey, ⟨rfl, es[i], List.getElem?_eq_getElem hi, rfl⟩, st', fun b hb => (hf b hb).1⟩⟩
  done := by
    intro X hP hw hK hc i pins s σ H E I hf st hg
    subst hP hw hK
    obtain ⟨hd, hi⟩ := hg
    have hit := hf it (List.mem_singleton.mpr rfl)
    obtain ⟨hs, hgd, hx, ds', ep', hdt, hsz, ent⟩ := lockedN I hd
    obtain ⟨rfl, rfl⟩ := dict_ep hod hdt
    exact next_key_end (I.ok.hd hc) st hgd hdt hsz hi fun h' eb => ⟨rfl, I.turned (t' := s.toks) (fun b ob hb e => eb b ob hb e) hit.1 hit.2.1 hit.2.2.2.1 hit.2.2.2.2.1 hit.2.2.2.2.2⟩
  self := fun A i s Q E st h => by
    refine wpAny_pyIter_slot st.typeIs PySem.F.slot_dict_keyiterator_iter (wpAny_call_entry PySem.F.slot_dict_keyiterator_iter st.typeIs PySem.F.entry_dict_keyiterator_iter ?_ (PySem.F.args_dict_keyiterator_iter_1 _))
    show wpAny _ _ (ret (.ref it)) _ _ s
    exact wpAny_pure ⟨_, rfl, "dict_keyiterator", _, st.typeIs, PySem.F.slot_dict_keyiterator_next.lookup, h⟩
theorem turn_itemsN {es : List Ent} {elts : List Expr} {kk : Nat} {tpos : Pos} (it : Addr) (hod : o.data = .dict ds ep) :
    Turn P w K (.Tuple elts kk tpos) (ItiN P w d o es) [it] it (fun i h => ∃ ok ov, IsItemIter h it d i es.length ep ok ov) where
  mem := List.mem_singleton.mpr rfl
  obj := fun i h st b hb => by
    obtain rfl := List.mem_singleton.mp hb
    obtain ⟨ok, ov, e⟩ := st
    exact ⟨_, e, fun v z => nomatch z⟩
  keep := fun i h h' st k => let ⟨ok, ov, e⟩ := st; ⟨ok, ov, k it (List.mem_singleton.mpr rfl) _ e⟩
  item := by
    intro X hP hw hK hc i pins s σ H E I hf st hg
    subst hP hw hK
    obtain ⟨hd, hi⟩ := hg
    obtain ⟨hs, hgd, hx, ds', ep', hdt, hsz, ent⟩ := lockedN I hd
    obtain ⟨rfl, rfl⟩ := dict_ep hod hdt
    obtain ⟨en, hen, hkey, hval⟩ := ent i _ (List.getElem?_eq_getElem hi)
    obtain ⟨ok, ov, he⟩ := st
    rw [← hsz] at he
    have hlt : it < s.heap.objs.size := Heap.lt_size he
    have hi2 : i < ds'.size := by omega
    have een : ds'[i] = en := by
      rw [Array.getElem?_eq_getElem hi2] at hen
      exact Option.some.inj hen
    refine DT.nextI he ⟨o, hgd, hx, hdt⟩ hi2 fun h' ho hT hz hk => ?_
    refine ⟨_, rfl, wpAny_letOwnedTupleGo_items (s := { s with heap := h' }) ho fun h'' he' sb => ?_⟩
    have hT2 : h''.get? s.heap.objs.size = some { cls := .type "tuple", data := .seq #[ds'[i].key, ds'[i].val] } := (sb.2 _ (Nat.ne_of_gt hlt)).trans hT
    rw [een] at hT2
    have new : ObjOk X.prog X.w (upd H s.heap.objs.size (.tup [.ref es[i].2.1, .int es[i].2.2])) h'' s.heap.objs.size (.tup [.ref es[i].2.1, .int es[i].2.2]) :=
      ⟨by show 2 ≤ sizeLine; decide, [en.key, en.val], .cons hkey (.cons hval .nil), ⟨_, hT2, rfl, _, rfl⟩⟩
    have I1 : Inv X pins σ (upd H s.heap.objs.size (.tup [.ref es[i].2.1, .int es[i].2.2])) { s with heap := h'' } :=
      I.turnedNew (t' := s.toks) (ch := [it]) (fun b ob hb e => (sb.2 b (fun z => hb (List.mem_singleton.mpr z))).trans (hk b ob (fun z => hb (List.mem_singleton.mpr z)) e)) hf (Nat.le_refl _) new
    refine ⟨.ref s.heap.objs.size, _, I1, rfl, ⟨_, es[i], List.getElem?_eq_getElem hi, rfl, I.hok.fresh (Nat.le_refl _), rfl⟩, ⟨ds'[i].key, ds'[i].val, ?_⟩, fun b hb => ?_⟩
    · rw [← hsz]
      exact he'
    · obtain rfl := List.mem_singleton.mp hb
      rw [upd_ne (Nat.ne_of_lt hlt)]
      exact (hf b (List.mem_singleton.mpr rfl)).1
  done := by
    intro X hP hw hK hc i pins s σ H E I hf st hg
    subst hP hw hK
    obtain ⟨hd, hi⟩ := hg
    have hit := hf it (List.mem_singleton.mpr rfl)
    obtain ⟨hs, hgd, hx, ds', ep', hdt, hsz, ent⟩ := lockedN I hd
    obtain ⟨rfl, rfl⟩ := dict_ep hod hdt
    obtain ⟨ok, ov, he⟩ := st
    rw [← hsz] at he
    exact DT.endI (I.ok.hd hc) he ⟨o, hgd, hx, hdt⟩ (by omega) fun h' eb => ⟨rfl, I.turned (t' := s.toks) (fun b ob hb e => eb b ob hb e) hit.1 hit.2.1 hit.2.2.2.1 hit.2.2.2.2.1 hit.2.2.2.2.2⟩
  self := fun A i s Q E st h => let ⟨_, _, e⟩ := st; PySem.W.kcp_self e h
end
def iKeysN (P : Program) (w : World) (td : TE) : TI := fun σ H R => td σ H fun x H1 => ∃ d o es, x = .ref d ∧ H1 d = some (.frz o (ndO P w d es)) ∧ R (ItkN P w d o es) H1
def iItemsN (P : Program) (w : World) (td : TE) : TI := fun σ H R => td σ H fun x H1 => ∃ d o es, x = .ref d ∧ H1 d = some (.frz o (ndO P w d es)) ∧ R (ItiN P w d o es) H1
section
variable {X : Cx} {tg e : Expr} {td : TE} {apos cpos : Pos}
theorem pi_keysN (he : PE X e td) : PI X tg e (iKeysN X.prog X.w td) := by
  refine ⟨fun pins s σ H R I h => ?_⟩
  refine thn (he.run pins s σ H _ I h) fun u s1 ⟨x, H1, I1, rx, d, o, es, ex, hd, q⟩ => ?_
  subst ex
  obtain rfl : u = Value.ref d := rx
  obtain ⟨hs, hgd, hx, ds, ep, hdt, hsz, ent⟩ := lockedN I1 hd
  refine iter_keys hs hgd hx hdt (pi_one (tk := s1.toks) I1 _ (turn_keysN _ hdt) ⟨_, Heap.get?_push_size _ rfl, rfl, ?_⟩ q)
  rw [hsz] <;> rfl
theorem pi_itemsN {elts : List Expr} {kk : Nat} {tpos : Pos} (he : PE X e td) (hbase : attributeBase e "items" X.env (eval e X.env) = eval e X.env := by rfl) (hline : (apos.endLine == cpos.line) = true := by rfl) :
    PI X (.Tuple elts kk tpos) (.Call (.Attribute e "items" apos) [] [] cpos) (iItemsN X.prog X.w td) := by
  refine ⟨fun pins s σ H R I h => ?_⟩
  refine wpAny_Call_method (T := "dict") (id := "dict.items") hbase rfl hline PySem.F.plainAttrs_dict PySem.F.slot_dict_items PySem.F.type_dict_items (thn (he.run pins s σ H _ I h) fun u s1 ⟨x, H1, I1, rx, d, o, es, ex, hd, q⟩ => ?_)
  subst ex
  obtain rfl : u = Value.ref d := rx
  obtain ⟨hs, hgd, hx, ds, ep, hdt, hsz, ent⟩ := lockedN I1 hd
  have hraw : DT.Raw s1.heap d ds ep := ⟨o, hgd, hx, hdt⟩
  refine ⟨hraw.typeIs, fun b z => (by cases z; exact ⟨o, hgd, hx.2.1⟩), ?_⟩
  have I2 : Inv X pins σ H1 { s1 with heap := s1.heap.push { cls := .type "dict_items", data := .fields #[.ref d] } } := I1.kept (t' := s1.toks) fun b ob z => Heap.get?_push_of_some _ z
  show wpAny _ _ (callWith cpos (.builtin "dict.items") [.ref d] [] []) _ X.xe s1
  refine method_meetsIn PySem.F.slot_dict_items PySem.F.entry_dict_items rfl (PySem.evalArgs_none ⟨rfl, hraw.typeIs, PySem.F.args_dict_items_1 _, _, DT.meetsItems (es := ds) (ep := ep) hs, hraw, ?_⟩)
  refine DT.iterI (d := d) (es := ds) (ep := ep) ⟨_, Heap.get?_push_size _ rfl, rfl, rfl⟩ (hraw.push _) (pi_one (tk := s1.toks) I2 _ (turn_itemsN _ hdt) ⟨.none, .none, ?_⟩ q)
  rw [← hsz]
  exact Heap.get?_push_size _ rfl
end
section
variable {P : Program} {w : World} {d : Addr} {o : Obj} {es : List Ent}
theorem walk_keysN : Walk (ItkN P w d o es) es.length (fun H => H d = some (.frz o (ndO P w d es))) (fun i H x H' => H' = H ∧ ∃ e, es[i]? = some e ∧ x = .ref e.2.1) :=
  ⟨fun _ _ hi q => ⟨q, hi⟩, fun _ q => ⟨q, Nat.le_refl _⟩, fun _ _ _ _ _ _ y => y⟩
theorem walk_itemsN : Walk (ItiN P w d o es) es.length (fun H => H d = some (.frz o (ndO P w d es))) (fun i H x H' => ∃ T e, es[i]? = some e ∧ x = .ref T ∧ H T = none ∧ H' = upd H T (.tup [.ref e.2.1, .int e.2.2])) :=
  ⟨fun _ _ hi q => ⟨q, hi⟩, fun _ q => ⟨q, Nat.le_refl _⟩, fun _ _ _ _ _ _ y => y⟩
end
theorem mut_nd {P : Program} {w : World} {d : Addr} {es : List Ent} : Mut (some (ndO P w d es)) := True.intro
end Nd


set_option Elab.async false
set_option linter.all false
set_option maxRecDepth 100000
set_option maxHeartbeats 2000000
/-! books: what is added up by keys; in order -/
namespace Bk
open PySem
class Ky (κ : Type) [DecidableEq κ] where
  enc : κ → PyData
  al : ∀ a b, PySem.W.alike (enc a) (enc b) = true
  inj : ∀ a b, PySem.W.keyToks (enc a) = PySem.W.keyToks (enc b) → a = b
  eqv : ∀ a b, PyData.eqv (enc a) (enc b) = decide (a = b)
  nn : ∀ a, enc a ≠ .none
  dep : ∀ a, (enc a).depth ≤ 10
section
variable {κ : Type} [DecidableEq κ] [Ky κ]
open Ky
def lt (a b : κ) : Bool := PySem.W.dataLt (enc a) (enc b)
theorem lt_irrefl (a : κ) : lt a a = false := PyProof.Rows.lex_irrefl _
theorem lt_trans {a b c : κ} (h1 : lt a b = true) (h2 : lt b c = true) : lt a c = true := (PyProof.Rows.listOrd PyProof.Rows.itemOrd).trans _ _ _ h1 h2
theorem lt_total {a b : κ} (h1 : lt a b = false) (h2 : lt b a = false) : a = b := inj a b ((PyProof.Rows.listOrd PyProof.Rows.itemOrd).total _ _ h1 h2)
theorem lt_asymm {a b : κ} (h : lt a b = true) : lt b a = false := by
  cases e : lt b a with
  | false => rfl
  | true => rw [← lt_trans h e, lt_irrefl]
theorem lt_ne {a b : κ} (h : lt a b = true) : a ≠ b := fun e => by rw [e, lt_irrefl] at h; cases h
abbrev Bag (κ : Type) := List (κ × Int)
/-- rising, each key once -/
def Asc (l : Bag κ) : Prop := l.Pairwise fun a b => lt a.1 b.1 = true
theorem Asc.uniq {l : Bag κ} (h : Asc l) {p q : κ × Int} (hp : p ∈ l) (hq : q ∈ l) (e : p.1 = q.1) : p = q := by
  induction l with
  | nil => exact nomatch hp
  | cons x r ih =>
    obtain ⟨h1, h2⟩ := List.pairwise_cons.mp h
    rcases List.mem_cons.mp hp with e1 | hp1
    · rcases List.mem_cons.mp hq with e2 | hq1
      · rw [e1, e2]
      · rw [e1] at e
        exact absurd e (lt_ne (h1 q hq1))
    · rcases List.mem_cons.mp hq with e2 | hq1
      · rw [e2] at e
        exact absurd e.symm (lt_ne (h1 p hp1))
      · exact ih h2 hp1 hq1
theorem asc_ext : ∀ {l m : Bag κ}, Asc l → Asc m → (∀ p, p ∈ l ↔ p ∈ m) → l = m
  | [], [], _, _, _ => rfl
  | [], y :: m, _, _, h => absurd ((h y).mpr List.mem_cons_self) (by simp)
  | x :: l, [], _, _, h => absurd ((h x).mp List.mem_cons_self) (by simp)
  | x :: l, y :: m, hl, hm, h => by
    obtain ⟨a1, a2⟩ := List.pairwise_cons.mp hl
    obtain ⟨b1, b2⟩ := List.pairwise_cons.mp hm
    have e : x = y := by
      rcases List.mem_cons.mp ((h x).mp List.mem_cons_self) with e | hx
      · exact e
      · rcases List.mem_cons.mp ((h y).mpr List.mem_cons_self) with e | hy
        · exact e.symm
        · have := lt_asymm (a1 y hy)
          rw [b1 x hx] at this
          cases this
    subst e
    have nl : x ∉ l := fun q => lt_ne (a1 x q) rfl
    have nm : x ∉ m := fun q => lt_ne (b1 x q) rfl
    rw [asc_ext a2 b2 fun p => ?_]
    constructor
    · intro hp
      rcases List.mem_cons.mp ((h p).mp (List.mem_cons_of_mem _ hp)) with e | q
      · rw [e] at hp
        exact absurd hp nl
      · exact q
    · intro hp
      rcases List.mem_cons.mp ((h p).mpr (List.mem_cons_of_mem _ hp)) with e | q
      · rw [e] at hp
        exact absurd hp nm
      · exact q
/-! adding up -/
def look (l : Bag κ) (k : κ) : Option Int := (l.find? fun e => decide (e.1 = k)).map (·.2)
def put (l : Bag κ) (k : κ) (v : Int) : Bag κ := if (look l k).isSome then l.map (fun e => if e.1 = k then (e.1, v) else e) else l ++ [(k, v)]
def add1 (l : Bag κ) (p : κ × Int) : Bag κ := put l p.1 ((look l p.1).getD 0 + p.2)
/-- the book of what is told in turn -/
def book (ts : Bag κ) : Bag κ := ts.foldl add1 []
def pr (l : Bag κ) (f : κ → Int) : Int := (l.map fun e => e.2 * f e.1).sum
theorem pr_nil (f : κ → Int) : pr [] f = 0 := rfl
theorem pr_cons (p : κ × Int) (l : Bag κ) (f : κ → Int) : pr (p :: l) f = p.2 * f p.1 + pr l f := by simp [pr]
theorem pr_append (l m : Bag κ) (f : κ → Int) : pr (l ++ m) f = pr l f + pr m f := by simp [pr]
theorem pr_perm {l m : Bag κ} (h : l.Perm m) (f : κ → Int) : pr l f = pr m f := by
  induction h with
  | nil => rfl
  | cons x _ ih => rw [pr_cons, pr_cons, ih]
  | swap x y l => rw [pr_cons, pr_cons, pr_cons, pr_cons]; omega
  | trans _ _ h1 h2 => rw [h1, h2]
theorem look_none {l : Bag κ} {k : κ} (h : look l k = none) : ∀ e ∈ l, e.1 ≠ k := by
  intro e he q
  unfold look at h
  rw [Option.map_eq_none_iff, List.find?_eq_none] at h
  exact h e he (decide_eq_true q)
theorem look_mem {l : Bag κ} {k : κ} {v : Int} (h : look l k = some v) : (k, v) ∈ l := by
  unfold look at h
  obtain ⟨e, he, rfl⟩ := Option.map_eq_some_iff.mp h
  have h1 := List.mem_of_find?_eq_some he
  have h2 := List.find?_some he
  have h3 : e.1 = k := of_decide_eq_true h2
  rw [← h3]
  exact h1
theorem look_of_mem {l : Bag κ} (hn : (l.map (·.1)).Nodup) {k : κ} {v : Int} (h : (k, v) ∈ l) : look l k = some v := by
  induction l with
  | nil => exact nomatch h
  | cons x r ih =>
    rw [List.map_cons, List.nodup_cons] at hn
    unfold look
    rw [List.find?_cons]
    rcases List.mem_cons.mp h with e | h
    · rw [← e]
      simp
    · have hne : ¬ x.1 = k := fun e => hn.1 (by rw [e]; exact List.mem_map.mpr ⟨_, h, rfl⟩)
      rw [decide_eq_false hne]
      exact ih hn.2 h
theorem keys_put (l : Bag κ) (k : κ) (v : Int) : (put l k v).map (·.1) = if (look l k).isSome then l.map (·.1) else l.map (·.1) ++ [k] := by
  unfold put
  split
  · rw [List.map_map]
    refine List.map_congr_left fun e _ => ?_
    show (if e.1 = k then (e.1, v) else e).1 = e.1
    split <;> rfl
  · rw [List.map_append]
    rfl
theorem nodup_put {l : Bag κ} (hn : (l.map (·.1)).Nodup) (k : κ) (v : Int) : ((put l k v).map (·.1)).Nodup := by
  rw [keys_put]
  split
  · exact hn
  · rename_i h
    have hno : look l k = none := by
      cases e : look l k with
      | none => rfl
      | some _ => rw [e] at h; simp at h
    rw [List.nodup_append]
    refine ⟨hn, by simp, fun a ha b hb e => ?_⟩
    rw [List.mem_singleton] at hb
    obtain ⟨x, hx, rfl⟩ := List.mem_map.mp ha
    exact look_none hno x hx (e.trans hb)
theorem map_off {l : Bag κ} {k : κ} {v : Int} (h : ∀ e ∈ l, e.1 ≠ k) : l.map (fun e => if e.1 = k then (e.1, v) else e) = l := by
  induction l with
  | nil => rfl
  | cons x r ih =>
    rw [List.map_cons, if_neg (h x List.mem_cons_self), ih fun e he => h e (List.mem_cons_of_mem _ he)]
theorem pr_set {l : Bag κ} (hn : (l.map (·.1)).Nodup) {k : κ} {u : Int} (h : (k, u) ∈ l) (v : Int) (f : κ → Int) : pr (l.map fun e => if e.1 = k then (e.1, v) else e) f = pr l f + (v - u) * f k := by
  induction l with
  | nil => exact nomatch h
  | cons x r ih =>
    rw [List.map_cons, List.nodup_cons] at hn
    rw [List.map_cons, pr_cons, pr_cons]
    rcases List.mem_cons.mp h with e | h
    · have hoff : ∀ e ∈ r, e.1 ≠ k := fun e' he q => hn.1 (by rw [← e, ← q]; exact List.mem_map.mpr ⟨_, he, rfl⟩)
      rw [map_off hoff, ← e, if_pos rfl]
      simp only [Int.sub_mul]
      omega
    · have hne : ¬ x.1 = k := fun e => hn.1 (by rw [e]; exact List.mem_map.mpr ⟨_, h, rfl⟩)
      rw [if_neg hne, ih hn.2 h]
      omega
theorem pr_add1 {l : Bag κ} (hn : (l.map (·.1)).Nodup) (p : κ × Int) (f : κ → Int) : pr (add1 l p) f = pr l f + p.2 * f p.1 := by
  unfold add1 put
  cases e : look l p.1 with
  | none =>
    simp only [Option.isSome_none, Bool.false_eq_true, if_false, Option.getD_none, Int.zero_add]
    rw [pr_append, pr_cons, pr_nil]
    simp
  | some u =>
    simp only [Option.isSome_some, if_true, Option.getD_some]
    rw [pr_set hn (look_mem e)]
    rw [show u + p.2 - u = p.2 by omega]
theorem nodup_add1 {l : Bag κ} (hn : (l.map (·.1)).Nodup) (p : κ × Int) : ((add1 l p).map (·.1)).Nodup := nodup_put hn _ _
theorem fold_ok : ∀ (ts : Bag κ) (l : Bag κ), (l.map (·.1)).Nodup → ((ts.foldl add1 l).map (·.1)).Nodup ∧ ∀ f, pr (ts.foldl add1 l) f = pr l f + pr ts f
  | [], l, h => ⟨h, fun f => by rw [pr_nil]; simp⟩
  | p :: ts, l, h => by
    obtain ⟨h1, h2⟩ := fold_ok ts (add1 l p) (nodup_add1 h p)
    refine ⟨h1, fun f => ?_⟩
    rw [List.foldl_cons, h2, pr_add1 h, pr_cons]
    omega
theorem book_nodup (ts : Bag κ) : ((book ts).map (·.1)).Nodup := (fold_ok ts [] List.nodup_nil).1
theorem book_pr (ts : Bag κ) (f : κ → Int) : pr (book ts) f = pr ts f := by
  have := (fold_ok ts [] List.nodup_nil).2 f
  rw [pr_nil, Int.zero_add] at this
  exact this
theorem book_snoc (ts : Bag κ) (p : κ × Int) : book (ts ++ [p]) = add1 (book ts) p := by simp [book]
def Pos (l : Bag κ) : Prop := ∀ p ∈ l, 0 < p.2
theorem pos_add1 {l : Bag κ} (h : Pos l) {p : κ × Int} (hp : 0 < p.2) : Pos (add1 l p) := by
  intro q hq
  have h0 : 0 ≤ (look l p.1).getD 0 := by
    cases e : look l p.1 with
    | none => exact Int.le_refl _
    | some u => exact Int.le_of_lt (h _ (look_mem e))
  unfold add1 put at hq
  split at hq
  · obtain ⟨x, hx, rfl⟩ := List.mem_map.mp hq
    split
    · show 0 < (look l p.1).getD 0 + p.2
      omega
    · exact h x hx
  · rcases List.mem_append.mp hq with hq | hq
    · exact h q hq
    · rw [List.mem_singleton.mp hq]
      show 0 < (look l p.1).getD 0 + p.2
      omega
theorem pos_fold : ∀ (ts : Bag κ) (l : Bag κ), Pos l → Pos ts → Pos (ts.foldl add1 l)
  | [], _, h, _ => h
  | p :: ts, l, h, ht => pos_fold ts (add1 l p) (pos_add1 h (ht p List.mem_cons_self)) fun q hq => ht q (List.mem_cons_of_mem _ hq)
theorem pos_book {ts : Bag κ} (h : Pos ts) : Pos (book ts) := pos_fold ts [] (fun _ q => nomatch q) h
theorem len_add1 (l : Bag κ) (p : κ × Int) : (add1 l p).length ≤ l.length + 1 := by
  unfold add1 put
  split
  · rw [List.length_map]; omega
  · rw [List.length_append]; exact Nat.le_refl _
theorem len_fold : ∀ (ts : Bag κ) (l : Bag κ), (ts.foldl add1 l).length ≤ l.length + ts.length
  | [], _ => Nat.le_refl _
  | p :: ts, l => by
    have h1 := len_fold ts (add1 l p)
    have h2 := len_add1 l p
    rw [List.foldl_cons, List.length_cons]
    omega
theorem len_book (ts : Bag κ) : (book ts).length ≤ ts.length := by
  have := len_fold ts []
  rw [List.length_nil, Nat.zero_add] at this
  exact this
/-- whatever holds of all keys told holds of the book's -/
theorem key_book {Pk : κ → Prop} : ∀ (ts l : Bag κ), (∀ p ∈ l, Pk p.1) → (∀ p ∈ ts, Pk p.1) → ∀ p ∈ ts.foldl add1 l, Pk p.1
  | [], _, h, _ => h
  | t :: ts, l, h, ht => by
    refine key_book ts (add1 l t) (fun p hp => ?_) fun q hq => ht q (List.mem_cons_of_mem _ hq)
    have hm : p.1 ∈ (add1 l t).map (·.1) := List.mem_map.mpr ⟨p, hp, rfl⟩
    unfold add1 at hm
    rw [keys_put] at hm
    split at hm
    · obtain ⟨x, hx, e⟩ := List.mem_map.mp hm
      rw [← e]
      exact h x hx
    · rcases List.mem_append.mp hm with hm | hm
      · obtain ⟨x, hx, e⟩ := List.mem_map.mp hm
        rw [← e]
        exact h x hx
      · rw [List.mem_singleton.mp hm]
        exact ht t List.mem_cons_self
/-! in order -/
def encP (p : κ × Int) : PyData := .tuple [enc p.1, .int p.2]
def srt (l : Bag κ) : Bag κ := l.mergeSort (PySem.W.dataLe false encP)
theorem srt_perm (l : Bag κ) : (srt l).Perm l := List.mergeSort_perm l _
theorem srt_asc {l : Bag κ} (hn : (l.map (·.1)).Nodup) : Asc (srt l) := by
  have h1 : (srt l).Pairwise (fun a b => PySem.W.dataLe false encP a b = true) := PySem.W.sort_pairwise (PySem.W.sortLe_total _ false _) l
  have h2 : ((srt l).map (·.1)).Nodup := ((srt_perm l).map _).nodup_iff.mpr hn
  rw [List.Nodup, List.pairwise_map] at h2
  refine (h1.and h2).imp fun {a b} ⟨hle, hne⟩ => ?_
  have hle' : (!PySem.W.dataLt (encP b) (encP a)) = true := hle
  unfold encP at hle'
  have ai : PySem.W.alike (.int b.2) (.int a.2) = true := by simp [PySem.W.alike]
  rw [PySem.W.dataLt_pair (al _ _) ai, eqv, decide_eq_false (Ne.symm hne), if_neg Bool.false_ne_true] at hle'
  have hle2 : lt b.1 a.1 = false := by
    cases e : lt b.1 a.1 with
    | false => rfl
    | true =>
      have e' : PySem.W.dataLt (enc b.1) (enc a.1) = true := e
      rw [e'] at hle'
      cases hle'
  cases e : lt a.1 b.1 with
  | true => rfl
  | false => exact absurd (lt_total e hle2) hne
def nf (ts : Bag κ) : Bag κ := srt (book ts)
theorem nf_asc (ts : Bag κ) : Asc (nf ts) := srt_asc (book_nodup ts)
theorem nf_pr (ts : Bag κ) (f : κ → Int) : pr (nf ts) f = pr ts f := by
  unfold nf
  rw [pr_perm (srt_perm _), book_pr]
theorem nf_pos {ts : Bag κ} (h : Pos ts) : Pos (nf ts) := fun p hp => pos_book h p ((srt_perm _).mem_iff.mp hp)
theorem nf_len (ts : Bag κ) : (nf ts).length ≤ ts.length := by
  unfold nf
  rw [(srt_perm _).length_eq]
  exact len_book ts
theorem nf_key {Pk : κ → Prop} {ts : Bag κ} (h : ∀ p ∈ ts, Pk p.1) : ∀ p ∈ nf ts, Pk p.1 := fun p hp => key_book ts [] (fun _ q => nomatch q) h p ((srt_perm _).mem_iff.mp hp)
/-! one form -/
def del (k : κ) : κ → Int := fun x => if x = k then 1 else 0
theorem pr_off {l : Bag κ} {k : κ} (h : ∀ e ∈ l, e.1 ≠ k) : pr l (del k) = 0 := by
  induction l with
  | nil => rfl
  | cons x r ih =>
    rw [pr_cons, ih fun e he => h e (List.mem_cons_of_mem _ he)]
    unfold del
    rw [if_neg (h x List.mem_cons_self)]
    simp
theorem pr_del {l : Bag κ} (h : Asc l) {k : κ} {v : Int} (hm : (k, v) ∈ l) : pr l (del k) = v := by
  induction l with
  | nil => exact nomatch hm
  | cons x r ih =>
    obtain ⟨h1, h2⟩ := List.pairwise_cons.mp h
    rw [pr_cons]
    rcases List.mem_cons.mp hm with e | hm
    · have hoff : ∀ e ∈ r, e.1 ≠ k := fun e' he q => lt_ne (h1 e' he) (by rw [← e]; exact q.symm)
      rw [pr_off hoff, ← e]
      unfold del
      rw [if_pos rfl]
      simp
    · rw [ih h2 hm]
      unfold del
      rw [if_neg fun q => lt_ne (h1 _ hm) q]
      simp
theorem mem_of_pr {l : Bag κ} (h : Asc l) {k : κ} {v : Int} (hv : v ≠ 0) (e : pr l (del k) = v) : (k, v) ∈ l := by
  by_cases hx : ∃ u, (k, u) ∈ l
  · obtain ⟨u, hu⟩ := hx
    rw [pr_del h hu] at e
    rw [← e]
    exact hu
  · have hoff : ∀ e ∈ l, e.1 ≠ k := fun e' he q => hx ⟨e'.2, by rw [← q]; exact he⟩
    rw [pr_off hoff] at e
    exact absurd e.symm hv
theorem one_form {l m : Bag κ} (hl : Asc l) (hm : Asc m) (pl : Pos l) (pm : Pos m) (h : ∀ f, pr l f = pr m f) : l = m := by
  refine asc_ext hl hm fun p => ⟨fun hp => ?_, fun hp => ?_⟩
  · have := pr_del hl (k := p.1) (v := p.2) hp
    rw [h] at this
    exact mem_of_pr hm (Int.ne_of_gt (pl p hp)) this
  · have := pr_del hm (k := p.1) (v := p.2) hp
    rw [← h] at this
    exact mem_of_pr hl (Int.ne_of_gt (pm p hp)) this
theorem nf_eq {l m : Bag κ} (pl : Pos l) (pm : Pos m) (h : ∀ f, pr l f = pr m f) : nf l = nf m :=
  one_form (nf_asc l) (nf_asc m) (nf_pos pl) (nf_pos pm) fun f => by rw [nf_pr, nf_pr, h]
theorem nf_id {l : Bag κ} (hl : Asc l) (pl : Pos l) : nf l = l := one_form (nf_asc l) hl (nf_pos pl) pl fun f => nf_pr l f
end
end Bk


set_option Elab.async false
set_option linter.all false
set_option maxRecDepth 100000
set_option maxHeartbeats 2000000
/-! polynomials over tokens -/
namespace Bk
open PySem Nd
instance : Ky Str where
  enc := .str
  al := fun a b => by simp [PySem.W.alike]
  inj := fun a b h => by
    simp only [PySem.W.keyToks, List.cons.injEq, Sum.inr.injEq, and_true] at h
    exact PySem.W.str_of_cps h
  eqv := fun a b => by
    by_cases h : a = b
    · subst h
      simp [PyData.eqv]
    · rw [decide_eq_false h]
      simp [PyData.eqv, h]
  nn := fun a h => nomatch h
  dep := fun a => by simp [PyData.depth]
def tkD (p : Str × Int) : PyData := .tuple [.str p.1, .int p.2]
theorem mD_eq (m : Mono) : mD m = .tuple (m.map tkD) := rfl
theorem al_tk (p q : Str × Int) : PySem.W.alike (tkD p) (tkD q) = true := by simp [tkD, PySem.W.alike, PySem.W.alikeAll]
theorem al_tks : ∀ m n : Mono, PySem.W.alikeAll (m.map tkD) (n.map tkD) = true
  | [], _ => by simp [PySem.W.alikeAll]
  | _ :: _, [] => by simp [PySem.W.alikeAll]
  | p :: m, q :: n => by
    rw [List.map_cons, List.map_cons, PySem.W.alikeAll, al_tk, al_tks m n]
    rfl
theorem toks_tk (p : Str × Int) : PySem.W.keyToks (tkD p) = [.inl 1, .inr p.1.cps.toList, .inl 1, .inl p.2, .inl 0] := by simp [tkD, PySem.W.keyToks, PySem.W.keyToksAll]
theorem toks_inj : ∀ m n : Mono, PySem.W.keyToksAll (m.map tkD) = PySem.W.keyToksAll (n.map tkD) → m = n
  | [], [], _ => rfl
  | [], q :: n, h => by simp [PySem.W.keyToksAll] at h
  | p :: m, [], h => by simp [PySem.W.keyToksAll] at h
  | p :: m, q :: n, h => by
    rw [List.map_cons, List.map_cons, PySem.W.toks_all_cons, PySem.W.toks_all_cons, toks_tk, toks_tk] at h
    simp only [List.cons_append, List.nil_append, List.cons.injEq, Sum.inl.injEq, Sum.inr.injEq, true_and] at h
    obtain ⟨h1, h2, h3⟩ := h
    rw [toks_inj m n h3]
    obtain ⟨p1, p2⟩ := p
    obtain ⟨q1, q2⟩ := q
    simp only at h1 h2
    rw [PySem.W.str_of_cps h1, h2]
theorem eqv_tk (p q : Str × Int) : PyData.eqv (tkD p) (tkD q) = decide (p = q) := by
  obtain ⟨p1, p2⟩ := p
  obtain ⟨q1, q2⟩ := q
  by_cases h1 : p1 = q1
  · by_cases h2 : p2 = q2
    · subst h1 h2
      simp [tkD, PyData.eqv, PyData.eqvAll]
    · simp [tkD, PyData.eqv, PyData.eqvAll, h2]
  · simp [tkD, PyData.eqv, PyData.eqvAll, h1]
theorem eqv_tks : ∀ m n : Mono, PyData.eqvAll (m.map tkD) (n.map tkD) = decide (m = n)
  | [], [] => by simp [PyData.eqvAll]
  | [], q :: n => by simp [PyData.eqvAll]
  | p :: m, [] => by simp [PyData.eqvAll]
  | p :: m, q :: n => by
    rw [List.map_cons, List.map_cons, PySem.W.eqv_all_cons, eqv_tk, eqv_tks m n]
    by_cases h1 : p = q
    · by_cases h2 : m = n
      · simp [h1, h2]
      · simp [h2]
    · simp [h1]
theorem dep_tks : ∀ m : Mono, PyData.depthAll (m.map tkD) ≤ 1
  | [] => by simp [PyData.depthAll]
  | p :: m => by
    have := dep_tks m
    simp only [List.map_cons, PyData.depthAll, tkD, PyData.depth]
    omega
instance : Ky Mono where
  enc := mD
  al := fun a b => by
    rw [mD_eq, mD_eq, PySem.W.alike]
    exact al_tks a b
  inj := fun a b h => by
    rw [mD_eq, mD_eq, PySem.W.keyToks, PySem.W.keyToks] at h
    exact toks_inj a b h
  eqv := fun a b => by
    rw [mD_eq, mD_eq, PyData.eqv]
    exact eqv_tks a b
  nn := fun a h => nomatch h
  dep := fun a => by
    have := dep_tks a
    rw [mD_eq, PyData.depth]
    omega
abbrev Poly := Bag Mono
/-- tokens rising, exponents from 1 on -/
def MOk (m : Mono) : Prop := Asc m ∧ Pos m
def POk (p : Poly) : Prop := Asc p ∧ Pos p ∧ ∀ t ∈ p, MOk t.1
def mulM (a b : Mono) : Mono := nf (a ++ b)
def prods (p q : Poly) : Poly := p.flatMap fun a => q.map fun b => (mulM a.1 b.1, a.2 * b.2)
def plusP (p q : Poly) : Poly := nf (p ++ q)
def timesP (p q : Poly) : Poly := nf (prods p q)
theorem pos_append {κ : Type} {l m : Bag κ} (hl : Pos l) (hm : Pos m) : Pos (l ++ m) := fun p hp => (List.mem_append.mp hp).elim (hl p) (hm p)
theorem mulM_ok {a b : Mono} (ha : MOk a) (hb : MOk b) : MOk (mulM a b) := ⟨nf_asc _, nf_pos (pos_append ha.2 hb.2)⟩
theorem mulM_comm {a b : Mono} (ha : MOk a) (hb : MOk b) : mulM a b = mulM b a :=
  nf_eq (pos_append ha.2 hb.2) (pos_append hb.2 ha.2) fun f => by rw [pr_append, pr_append]; omega
theorem mulM_assoc {a b c : Mono} (ha : MOk a) (hb : MOk b) (hc : MOk c) : mulM (mulM a b) c = mulM a (mulM b c) := by
  refine nf_eq (pos_append (mulM_ok ha hb).2 hc.2) (pos_append ha.2 (mulM_ok hb hc).2) fun f => ?_
  rw [pr_append, pr_append]
  unfold mulM
  rw [nf_pr, nf_pr, pr_append, pr_append]
  omega
theorem mulM_nil_left {a : Mono} (ha : MOk a) : mulM [] a = a := by
  unfold mulM
  rw [List.nil_append]
  exact nf_id ha.1 ha.2
theorem mulM_nil_right {a : Mono} (ha : MOk a) : mulM a [] = a := by
  unfold mulM
  rw [List.append_nil]
  exact nf_id ha.1 ha.2
theorem ok_nil : MOk [] := ⟨List.Pairwise.nil, fun _ h => nomatch h⟩
theorem pok_zero : POk [] := ⟨List.Pairwise.nil, fun _ h => (nomatch h), fun _ h => nomatch h⟩
def oneP : Poly := [([], 1)]
theorem pok_one : POk oneP := ⟨List.pairwise_singleton _ _, fun p h => by rw [List.mem_singleton.mp h]; decide, fun p h => by rw [List.mem_singleton.mp h]; exact ok_nil⟩
theorem plusP_ok {p q : Poly} (hp : POk p) (hq : POk q) : POk (plusP p q) :=
  ⟨nf_asc _, nf_pos (pos_append hp.2.1 hq.2.1), nf_key (Pk := MOk) fun t ht => (List.mem_append.mp ht).elim (hp.2.2 t) (hq.2.2 t)⟩
theorem mem_prods {p q : Poly} {t : Mono × Int} (h : t ∈ prods p q) : ∃ a ∈ p, ∃ b ∈ q, t = (mulM a.1 b.1, a.2 * b.2) := by
  unfold prods at h
  obtain ⟨a, ha, h⟩ := List.mem_flatMap.mp h
  obtain ⟨b, hb, rfl⟩ := List.mem_map.mp h
  exact ⟨a, ha, b, hb, rfl⟩
theorem pos_prods {p q : Poly} (hp : Pos p) (hq : Pos q) : Pos (prods p q) := fun t ht => by
  obtain ⟨a, ha, b, hb, rfl⟩ := mem_prods ht
  exact Int.mul_pos (hp a ha) (hq b hb)
theorem timesP_ok {p q : Poly} (hp : POk p) (hq : POk q) : POk (timesP p q) :=
  ⟨nf_asc _, nf_pos (pos_prods hp.2.1 hq.2.1), nf_key (Pk := MOk) fun t ht => by
    obtain ⟨a, ha, b, hb, rfl⟩ := mem_prods ht
    exact mulM_ok (hp.2.2 a ha) (hq.2.2 b hb)⟩
theorem pr_mapmul (q : Poly) (x : Int) (g : Mono → Mono) (f : Mono → Int) : pr (q.map fun b => (g b.1, x * b.2)) f = x * pr q (fun b => f (g b)) := by
  induction q with
  | nil => rw [List.map_nil, pr_nil, pr_nil, Int.mul_zero]
  | cons b r ih =>
    rw [List.map_cons, pr_cons, pr_cons, ih, Int.mul_add, Int.mul_assoc]
theorem pr_prods (p q : Poly) (f : Mono → Int) : pr (prods p q) f = pr p fun a => pr q fun b => f (mulM a b) := by
  induction p with
  | nil => rfl
  | cons a r ih =>
    have e : prods (a :: r) q = (q.map fun b => (mulM a.1 b.1, a.2 * b.2)) ++ prods r q := by simp [prods]
    rw [e, pr_append, ih, pr_cons, pr_mapmul q a.2 (mulM a.1) f]
theorem pr_times (p q : Poly) (f : Mono → Int) : pr (timesP p q) f = pr p fun a => pr q fun b => f (mulM a b) := by
  unfold timesP
  rw [nf_pr, pr_prods]
theorem pr_plus (p q : Poly) (f : Mono → Int) : pr (plusP p q) f = pr p f + pr q f := by
  unfold plusP
  rw [nf_pr, pr_append]
theorem pr_congr {p : Poly} {f g : Mono → Int} (h : ∀ t ∈ p, f t.1 = g t.1) : pr p f = pr p g := by
  induction p with
  | nil => rfl
  | cons a r ih =>
    rw [pr_cons, pr_cons, h a List.mem_cons_self, ih fun t ht => h t (List.mem_cons_of_mem _ ht)]
theorem pr_add (p : Poly) (f g : Mono → Int) : pr p (fun a => f a + g a) = pr p f + pr p g := by
  induction p with
  | nil => rfl
  | cons a r ih =>
    rw [pr_cons, pr_cons, pr_cons, ih, Int.mul_add]
    omega
theorem pr_zero (p : Poly) : pr p (fun _ => 0) = 0 := by
  induction p with
  | nil => rfl
  | cons a r ih => rw [pr_cons, ih]; simp
theorem pr_scale (p : Poly) (x : Int) (f : Mono → Int) : pr p (fun a => x * f a) = x * pr p f := by
  induction p with
  | nil => rw [pr_nil, pr_nil, Int.mul_zero]
  | cons a r ih =>
    rw [pr_cons, pr_cons, ih, Int.mul_add, ← Int.mul_assoc, ← Int.mul_assoc, Int.mul_comm a.2 x]
theorem pr_swap (p q : Poly) (f : Mono → Mono → Int) : pr p (fun a => pr q fun b => f a b) = pr q fun b => pr p fun a => f a b := by
  induction p with
  | nil =>
    rw [pr_nil]
    exact (pr_zero q).symm
  | cons a r ih =>
    rw [pr_cons, ih]
    have e : (fun b => pr (a :: r) fun x => f x b) = fun b => a.2 * f a.1 b + pr r fun x => f x b := by
      funext b
      rw [pr_cons]
    rw [e, pr_add, pr_scale]
section
variable {p q r : Poly}
theorem plus_assoc (hp : POk p) (hq : POk q) (hr : POk r) : plusP (plusP p q) r = plusP p (plusP q r) :=
  nf_eq (pos_append (plusP_ok hp hq).2.1 hr.2.1) (pos_append hp.2.1 (plusP_ok hq hr).2.1) fun f => by rw [pr_append, pr_append, pr_plus, pr_plus]; omega
theorem plus_comm (hp : POk p) (hq : POk q) : plusP p q = plusP q p := nf_eq (pos_append hp.2.1 hq.2.1) (pos_append hq.2.1 hp.2.1) fun f => by rw [pr_append, pr_append]; omega
theorem plus_zero (hp : POk p) : plusP p [] = p := by
  unfold plusP
  rw [List.append_nil]
  exact nf_id hp.1 hp.2.1
theorem zero_plus (hp : POk p) : plusP [] p = p := by
  unfold plusP
  rw [List.nil_append]
  exact nf_id hp.1 hp.2.1
theorem times_comm (hp : POk p) (hq : POk q) : timesP p q = timesP q p :=
  nf_eq (pos_prods hp.2.1 hq.2.1) (pos_prods hq.2.1 hp.2.1) fun f => by
    rw [pr_prods, pr_prods, pr_swap q p]
    exact pr_congr fun a ha => pr_congr fun b hb => by rw [mulM_comm (hp.2.2 a ha) (hq.2.2 b hb)]
theorem times_assoc (hp : POk p) (hq : POk q) (hr : POk r) : timesP (timesP p q) r = timesP p (timesP q r) :=
  nf_eq (pos_prods (timesP_ok hp hq).2.1 hr.2.1) (pos_prods hp.2.1 (timesP_ok hq hr).2.1) fun f => by
    rw [pr_prods, pr_prods, pr_times]
    refine pr_congr fun a ha => ?_
    rw [pr_times]
    exact pr_congr fun b hb => pr_congr fun c hc => by rw [mulM_assoc (hp.2.2 a ha) (hq.2.2 b hb) (hr.2.2 c hc)]
theorem times_plus (hp : POk p) (hq : POk q) (hr : POk r) : timesP p (plusP q r) = plusP (timesP p q) (timesP p r) :=
  nf_eq (pos_prods hp.2.1 (plusP_ok hq hr).2.1) (pos_append (timesP_ok hp hq).2.1 (timesP_ok hp hr).2.1) fun f => by
    rw [pr_prods, pr_append, pr_times, pr_times, ← pr_add]
    exact pr_congr fun a ha => by rw [pr_plus]
theorem times_one (hp : POk p) : timesP p oneP = p := by
  refine one_form (nf_asc _) hp.1 (timesP_ok hp pok_one).2.1 hp.2.1 fun f => ?_
  rw [pr_times]
  refine pr_congr fun a ha => ?_
  unfold oneP
  rw [pr_cons, pr_nil, mulM_nil_right (hp.2.2 a ha)]
  simp
theorem one_times (hp : POk p) : timesP oneP p = p := by rw [times_comm pok_one hp, times_one hp]
theorem times_zero : timesP p [] = [] := by
  have e : prods p [] = [] := by
    unfold prods
    induction p with
    | nil => rfl
    | cons a r ih => rw [List.flatMap_cons, List.map_nil, List.nil_append, ih]
  unfold timesP
  rw [e]
  exact nf_id List.Pairwise.nil fun _ h => nomatch h
theorem zero_times : timesP [] p = [] := nf_id List.Pairwise.nil fun _ h => nomatch h
end
/-! sizes -/
def S {κ : Type} (p : Bag κ) : Int := pr p fun _ => 1
theorem S_plus (p q : Poly) : S (plusP p q) = S p + S q := pr_plus p q _
theorem S_times (p q : Poly) : S (timesP p q) = S p * S q := by
  unfold S
  rw [pr_times]
  have e : (fun _ : Mono => pr q fun _ => 1) = fun _ : Mono => (pr q fun _ => 1) * 1 := by
    funext a
    rw [Int.mul_one]
  rw [e, pr_scale p _ (fun _ => 1), Int.mul_comm]
theorem S_nf {κ : Type} [DecidableEq κ] [Ky κ] (ts : Bag κ) : S (nf ts) = S ts := nf_pr ts _
theorem S_append {κ : Type} (p q : Bag κ) : S (p ++ q) = S p + S q := by
  unfold S pr
  simp
theorem S_nonneg {κ : Type} {l : Bag κ} (h : Pos l) : 0 ≤ S l := by
  induction l with
  | nil => exact Int.le_refl _
  | cons x r ih =>
    have h1 := h x List.mem_cons_self
    have h2 := ih fun q hq => h q (List.mem_cons_of_mem _ hq)
    have e : S (x :: r) = x.2 * 1 + S r := by unfold S pr; simp
    omega
theorem le_S {κ : Type} {l : Bag κ} (h : Pos l) {p : κ × Int} (hp : p ∈ l) : p.2 ≤ S l := by
  induction l with
  | nil => exact nomatch hp
  | cons x r ih =>
    have h1 := h x List.mem_cons_self
    have h0 : Pos r := fun q hq => h q (List.mem_cons_of_mem _ hq)
    have h2 := S_nonneg h0
    have e : S (x :: r) = x.2 * 1 + S r := by unfold S pr; simp
    rcases List.mem_cons.mp hp with q | q
    · rw [q]; omega
    · have := ih h0 q
      omega
theorem S_book {κ : Type} [DecidableEq κ] [Ky κ] (ts : Bag κ) : S (book ts) = S ts := book_pr ts _
theorem S_mulM (a b : Mono) : S (mulM a b) = S a + S b := by
  unfold mulM
  rw [S_nf, S_append]
theorem len_prods (p q : Poly) : (prods p q).length = p.length * q.length := by
  unfold prods
  induction p with
  | nil => simp
  | cons a r ih => rw [List.flatMap_cons, List.length_append, ih, List.length_map, List.length_cons, Nat.add_mul, Nat.one_mul, Nat.add_comm]
/-- degrees at most d -/
def Dg (p : Poly) (d : Int) : Prop := ∀ t ∈ p, S t.1 ≤ d
theorem Dg_nf {ts : Poly} {d : Int} (h : Dg ts d) : Dg (nf ts) d := nf_key (Pk := fun m => S m ≤ d) h
theorem Dg_plus {p q : Poly} {d : Int} (hp : Dg p d) (hq : Dg q d) : Dg (plusP p q) d := Dg_nf fun t ht => (List.mem_append.mp ht).elim (hp t) (hq t)
theorem Dg_times {p q : Poly} {d e : Int} (hp : Dg p d) (hq : Dg q e) : Dg (timesP p q) (d + e) := Dg_nf fun t ht => by
  obtain ⟨a, ha, b, hb, rfl⟩ := mem_prods ht
  have h1 := hp a ha
  have h2 := hq b hb
  show S (mulM a.1 b.1) ≤ d + e
  rw [S_mulM]
  omega
end Bk


set_option Elab.async false
set_option linter.all false
set_option maxRecDepth 100000
set_option maxHeartbeats 2000000
namespace K2
open PySem L2
def topS (i : Nat) : Stmt := PySem.Challenge.pw_ledgertrace_k02_whole_semiring.main.body.getD i (.Pass ⟨0, 0, 0, 0⟩)
abbrev sFrozen : Stmt := topS 6
abbrev sPut : Stmt := topS 7
abbrev sProd : Stmt := topS 8
abbrev sJoin : Stmt := topS 9
abbrev sChk : Stmt := topS 10
abbrev sCkF : Stmt := topS 11
abbrev sAs : Stmt := topS 12
abbrev sPoly : Stmt := topS 13
abbrev sPlus : Stmt := topS 17
abbrev sTimes : Stmt := topS 18
abbrev sMix : Stmt := topS 20
abbrev sBox : Stmt := topS 21
abbrev sDraw : Stmt := topS 22
abbrev sAlike : Stmt := topS 23
abbrev sTok : Stmt := topS 24
abbrev sSort : Stmt := topS 25
abbrev sNorm : Stmt := topS 26
abbrev sLMono : Stmt := topS 27
abbrev sLPoly : Stmt := topS 28
abbrev sLLists : Stmt := topS 29
abbrev sLPlus : Stmt := topS 30
abbrev sLProd : Stmt := topS 31
abbrev sLTimes : Stmt := topS 32
abbrev sSummed : Stmt := topS 33
abbrev sMult : Stmt := topS 34
abbrev sPart : Stmt := topS 35
abbrev sLaw : Stmt := topS 36
/-- the mixing: some number below 2147483629 -/
def spMix : Sp := fun vs H Q _ => ∃ c s : Int, vs = [.int c, .int s] ∧ ∀ r : Int, 0 ≤ r → Q (.int r) H
section
variable {P : Program} {w : World} {K : PySem.W.Frag} {mg : Str → Option Value} {base : Heap}
theorem scMix : FnScope ["cell", "salt", "one"] ["cell", "salt"] (defScope sMix) := ⟨rfl, rfl, rfl, by decide +kernel, rfl, by decide +kernel, by decide +kernel⟩
theorem ok_mix {f : Addr} {fd : FuncData} (F : Fun K "_law_mix" "_law_mix" sMix f fd) (mI : mg "int" = none) : FnOk P w K mg base CX0 1 f fd ["cell", "salt"] spMix := by
  refine F.ok scMix (fun vs H Q E h => ?_) (fun cdv A outer s H vs Q E hr h => ?_)
  · obtain ⟨c, s, rfl, _⟩ := h
    rfl
  · obtain ⟨c, s, rfl, k⟩ := h
    refine ⟨_, pss_cons (ps_set (i := 2) scMix.nd rfl (Or.inl rfl) (pe_op op_mod (pe_callTy call_int1 (by rfl) mI (by decide +kernel) (pa_cons (pe_op op_add (pe_op op_add (pe_op op_mul (pv 0) pe_int) (pe_op op_mul (pv 1) pe_int)) pe_int) pa_nil)) pe_int))
      (pss_one (ps_ret (pe_op op_mod (pe_callTy call_int1 (by rfl) mI (by decide +kernel) (pa_cons (pe_op op_add (pe_op op_add (pe_op op_mul (pv 2) (pv 2)) (pe_op op_mul (pv 2) pe_int)) (pe_op op_mul (pv 1) pe_int)) pa_nil)) pe_int))), ?_⟩
    refine ⟨_, rfl, _, _, rfl, rfl, .inr ⟨by decide, by decide⟩, _, rfl, _, _, rfl, rfl, .inr ⟨by decide, by decide⟩, _, _, rfl, rfl, _, _, rfl, rfl, .inl ⟨_, rfl, _, _, rfl, rfl, (by show (0 : Int) < 2147483647; decide), ?_⟩⟩
    have h0 : 0 ≤ (c * 48271 + s * 69621 + 12345) % 2147483647 := Int.emod_nonneg _ (by decide)
    have h1 : (c * 48271 + s * 69621 + 12345) % 2147483647 < 2147483647 := Int.emod_lt_of_pos _ (by decide)
    refine ⟨_, rfl, _, rfl, _, _, rfl, rfl, .inl ⟨by omega, by omega⟩, _, rfl, _, _, rfl, rfl, .inr ⟨by decide, by decide⟩, _, _, rfl, rfl, _, rfl, _, _, rfl, rfl, .inr ⟨by decide, by decide⟩, _, _, rfl, rfl, .inl ⟨_, rfl, _, _, rfl, rfl, (by show (0 : Int) < 2147483629; decide), ?_⟩⟩
    exact k _ (Int.emod_nonneg _ (by decide))
end
end K2


set_option Elab.async false
set_option linter.all false
set_option maxRecDepth 100000
set_option maxHeartbeats 4000000
namespace K2
open PySem L2
def bx (d0 d1 at_ s m : Int) (c : Addr) : List V := [.int d0, .int d1, .int at_, .int s, .int m, .ref c]
/-- a box at b, its cells at c -/
structure BoxAt (H : Hp) (b c : Addr) (ns : List Int) : Prop where
  lst : ∃ d0 d1 at_ s m : Int, 0 ≤ at_ ∧ H b = some (.lst (bx d0 d1 at_ s m c))
  cells : H c = some (.lst (ns.map V.int))
  len : ns.length ≤ 1000
theorem bx_ne {d0 d1 at_ s m : Int} {c : Addr} {ns : List Int} : HO.lst (ns.map V.int) ≠ HO.lst (bx d0 d1 at_ s m c) := by
  intro z
  have z' := HO.lst.inj z
  have h5 := congrArg (fun l => l[5]?) z'
  simp only [bx, List.getElem?_map] at h5
  cases e : ns[5]? with
  | none => rw [e] at h5; simp at h5
  | some y => rw [e] at h5; simp at h5
/-- all but b is kept -/
def But (b : Addr) (H H' : Hp) : Prop := ∀ a o, H a = some o → a ≠ b → H' a = some o
theorem But.refl {b : Addr} {H : Hp} : But b H H := fun _ _ h _ => h
theorem But.trans {b : Addr} {H H1 H2 : Hp} (x : But b H H1) (y : But b H1 H2) : But b H H2 := fun a o h n => y a o (x a o h n) n
theorem But.upd {b : Addr} {H : Hp} {o : HO} : But b H (upd H b o) := fun a u h n => by rw [upd_ne n]; exact h
theorem But.same {b : Addr} {H H1 H2 : Hp} (x : But b H H1) (y : Same H1 H2) : But b H H2 := fun a o h n => y a o (x a o h n)
theorem BoxAt.ne {H : Hp} {b c : Addr} {ns : List Int} (x : BoxAt H b c ns) : c ≠ b := by
  obtain ⟨d0, d1, at_, s, m, _, h⟩ := x.lst
  exact ne_of x.cells h bx_ne
theorem BoxAt.put {H : Hp} {b c : Addr} {ns : List Int} (x : BoxAt H b c ns) {d0 d1 at_ s m : Int} (h : 0 ≤ at_) : BoxAt (upd H b (.lst (bx d0 d1 at_ s m c))) b c ns :=
  ⟨⟨d0, d1, at_, s, m, h, upd_same⟩, by rw [upd_ne x.ne]; exact x.cells, x.len⟩
/-- another box stays -/
theorem BoxAt.keep {H H' : Hp} {b b2 c2 : Addr} {ns : List Int} (y : BoxAt H b2 c2 ns) (hb : But b H H') (n1 : b2 ≠ b) (n2 : c2 ≠ b) : BoxAt H' b2 c2 ns := by
  obtain ⟨d0, d1, at_, s, m, h0, h⟩ := y.lst
  exact ⟨⟨d0, d1, at_, s, m, h0, hb _ _ h n1⟩, hb _ _ y.cells n2, y.len⟩
theorem BoxAt.same {H H' : Hp} {b c : Addr} {ns : List Int} (y : BoxAt H b c ns) (s : Same H H') : BoxAt H' b c ns := by
  obtain ⟨d0, d1, at_, s', m, h0, h⟩ := y.lst
  exact ⟨⟨d0, d1, at_, s', m, h0, s _ _ h⟩, s _ _ y.cells, y.len⟩
def spBox (K : PySem.W.Frag) : Sp := fun vs H Q _ => ∃ (a : Addr) (ns : List Int) (n : Int), vs = [.ref a, .int n] ∧ SqL K H a (ns.map V.int) ∧ ns.length ≤ 1000 ∧ 0 ≤ n ∧
  ∀ (b c : Addr) (H' : Hp), H b = none → H c = none → Same H H' → BoxAt H' b c ns → Q (.ref b) H'
def spDraw : Sp := fun vs H Q _ => ∃ (b c : Addr) (ns : List Int) (many : Int), vs = [.ref b, .int many] ∧ 0 < many ∧ many < 1000000 ∧ BoxAt H b c ns ∧
  ∀ (r : Int) (H' : Hp), 0 ≤ r → r < many → BoxAt H' b c ns → But b H H' → Q (.int r) H'
section
variable {P : Program} {w : World} {K : PySem.W.Frag} {mg : Str → Option Value} {base : Heap}
theorem scBox : FnScope ["script", "at", "cell"] ["script", "at"] (defScope sBox) := ⟨rfl, rfl, rfl, by decide +kernel, rfl, by decide +kernel, by decide +kernel⟩
theorem ok_box {f : Addr} {fd : FuncData} (F : Fun K "_law_box" "_law_box" sBox f fd) (mI : mg "int" = none) : FnOk P w K mg base CX0 1 f fd ["script", "at"] (spBox K) := by
  refine F.ok scBox (fun vs H Q E h => ?_) (fun cdv A outer s H vs Q E hr h => ?_)
  · obtain ⟨a, ns, n, rfl, _⟩ := h
    rfl
  · obtain ⟨a, ns, n, rfl, hS, hl, hn, k⟩ := h
    refine ⟨_, pss_one (ps_ret (pe_lst (pa_cons pe_int (pa_cons pe_int (pa_cons (pv 1) (pa_cons pe_int (pa_cons (pv 1) (pa_cons
      (pe_lc (own := [("cell", 2)]) (g := gName 2) (tt := tYes) rfl scBox.nd (pi_list (pv 0)) (blkOk_by (N := ["script", "at", "cell"]) (sc := defScope sBox) (by decide +kernel)) (fun _ _ _ _ _ => pg_name (i := 2) scBox.nd rfl (Or.inl rfl)) (fun _ _ _ _ _ => pts_nil)
        (fun _ _ _ _ _ => pe_callTy call_int1 (by rfl) mI (by decide +kernel) (pa_cons (pv 2) pa_nil))) pa_nil)))))))), ?_⟩
    refine ⟨_, rfl, _, rfl, _, rfl, a, rfl, ⟨_, hS⟩, fun D nD => ?_⟩
    refine lc_list (K := K) (a := a) (xs := ns.map V.int) (fun i H2 => Same H H2 ∧ H2 D = some (.lst ((ns.take i).map V.int))) ⟨fun b o e => by rw [upd_ne (ne_of_none e nD)]; exact e, by rw [upd_same, List.take_zero, List.map_nil]⟩ (fun i H2 _ ⟨s2, _⟩ => s2.seq hS) ?_ ?_
    · rintro i y H2 hi ⟨s2, hD⟩
      obtain ⟨z, hz, rfl⟩ : ∃ z, ns[i]? = some z ∧ y = V.int z := by
        rw [List.getElem?_map] at hi
        cases e : ns[i]? with
        | none => rw [e] at hi; cases hi
        | some z => rw [e] at hi; exact ⟨z, rfl, (Option.some.inj hi).symm⟩
      have hil : i < ns.length := (List.getElem?_eq_some_iff.mp hz).1
      refine ⟨rfl, _, rfl, .inl ⟨_, rfl, _, hD, small1000 (by rw [List.length_map, List.length_take]; omega), fun b o e => ?_, ?_⟩⟩
      · rw [upd_ne (ne_of_none e nD)]
        exact s2 b o e
      · rw [upd_same, List.take_succ, hz, List.map_append]
        rfl
    · rintro H2 ⟨s2, hD⟩
      refine ⟨by show 6 ≤ sizeLine; decide, fun b nb => ?_⟩
      have e0 : (ns.map V.int).length = ns.length := List.length_map ..
      rw [e0, List.take_length] at hD
      have nbH : H b = none := s2.free nb
      exact k b D _ nbH nD (fun c o e => by rw [upd_ne (ne_of_none e nbH)]; exact s2 c o e) ⟨⟨0, 0, n, 0, n, hn, upd_same⟩, by rw [upd_ne (ne_of_none hD nb)]; exact hD, hl⟩
theorem scDraw : FnScope ["box", "many", "cell", "drawn"] ["box", "many"] (defScope sDraw) := ⟨rfl, rfl, rfl, by decide +kernel, rfl, by decide +kernel, by decide +kernel⟩
theorem ok_draw {f fM : Addr} {fd fdM : FuncData} (F : Fun K "_law_draw" "_law_draw" sDraw f fd) (FM : Fun K "_law_mix" "_law_mix" sMix fM fdM) (bM : Binds K fdM ["cell", "salt"] []) (gM : mg "_law_mix" = some (.ref fM)) (kM : PySem.W.keepIn K (.ref fM) = true)
    (mI : mg "int" = none) (mL : mg "len" = none) : FnOk P w K mg base CX0 2 f fd ["box", "many"] spDraw := by
  have GM : FnOk P w K mg base CX0 1 fM fdM ["cell", "salt"] spMix := ok_mix FM mI
  refine F.ok scDraw (fun vs H Q E h => ?_) (fun cdv A outer s H vs Q E hr h => ?_)
  · obtain ⟨b, c, ns, many, rfl, _⟩ := h
    rfl
  · obtain ⟨b, c, ns, many, rfl, hm0, hm1, hB, k⟩ := h
    have hr1 : Room 1 _ := hr
    refine ⟨_, C8.pss_cut (ps_if (PW.pt (pw_and (pt_cmpR op_eq (pe_ix ix_list (pv 0) pe_int (fun _ _ => rfl)) pe_int (nomark _))
          (pw_and1 (pt_cmpR op_lt (pe_ix ix_list (pv 0) pe_int (fun _ _ => rfl)) (pe_callB call_len_seq (by rfl) mL PySem.boot_len (pa_cons (pe_ix ix_list (pv 0) pe_int (fun _ _ => rfl)) pa_nil)) (nomark _)))))
        (pss_cons (ps_set (i := 2) scDraw.nd rfl (Or.inl rfl) (pe_ix ix_list (pe_ix ix_list (pv 0) pe_int (fun _ _ => rfl)) (pe_ix ix_list (pv 0) pe_int (fun _ _ => rfl)) (fun _ _ => rfl)))
        (pss_cons (ps_asg (pe_op op_add (pe_ix ix_list (pv 0) pe_int (fun _ _ => rfl)) pe_int) (pg_sub (pv 0) pe_int set_list))
        (pss_cons (ps_asg (pe_op op_mod (pe_callTy call_int1 (by rfl) mI (by decide +kernel) (pa_cons (pe_op op_add (pe_op op_mul (pe_ix ix_list (pv 0) pe_int (fun _ _ => rfl)) pe_int) (pv 2)) pa_nil)) pe_int) (pg_sub (pv 0) pe_int set_list))
        (pss_one (ps_if (pt_cmpR op_ge (pv 2) (pe_op op_pow pe_int pe_int) (nomark _))
          (pss_cons (ps_asg (pe_op op_sub (pv 2) (pe_op op_pow pe_int pe_int)) (pg_sub (pv 0) pe_int set_list))
          (pss_one (ps_asg pe_int (pg_sub (pv 0) pe_int set_list)))) pss_nil))))) pss_nil)
      (C8.pss_cut (ps_if (PW.pt (pw_and (pt_cmpR op_gt (pe_ix ix_list (pv 0) pe_int (fun _ _ => rfl)) pe_int (nomark _)) (pw_and1 (pt_cmpR op_gt (pe_ix ix_list (pv 0) pe_int (fun _ _ => rfl)) pe_int (nomark _)))))
        (pss_cons (ps_set (i := 3) scDraw.nd rfl (Or.inl rfl) (pe_op op_modN (pe_callTy call_int1 (by rfl) mI (by decide +kernel) (pa_cons (pe_ix ix_list (pv 0) pe_int (fun _ _ => rfl)) pa_nil)) (pv 1)))
        (pss_cons (ps_asg (pe_op op_fdivN (pe_ix ix_list (pv 0) pe_int (fun _ _ => rfl)) (pv 1)) (pg_sub (pv 0) pe_int set_list))
        (pss_cons (ps_asg (pe_op op_sub (pe_ix ix_list (pv 0) pe_int (fun _ _ => rfl)) pe_int) (pg_sub (pv 0) pe_int set_list))
        (pss_one (ps_ret (pv 3)))))) pss_nil)
      (pss_cons (ps_asg pe_int (pg_sub (pv 0) pe_int set_list))
      (pss_cons (ps_asg (pe_op op_add (pe_ix ix_list (pv 0) pe_int (fun _ _ => rfl)) pe_int) (pg_sub (pv 0) pe_int set_list))
      (pss_one (ps_ret (pe_op op_modN (pe_callTy call_int1 (by rfl) mI (by decide +kernel) (pa_cons (pe_call GM hr1 rfl gM kM bM .nil pass0 (pa_cons (pe_ix ix_list (pv 0) pe_int (fun _ _ => rfl)) (pa_cons (pe_ix ix_list (pv 0) pe_int (fun _ _ => rfl)) pa_nil))) pa_nil)) (pv 1))))))), ?_⟩
    refine ⟨fun σ H2 => (∃ v, σ = [some (.ref b), some (.int many), v, none]) ∧ BoxAt H2 b c ns ∧ But b H H2, ?_, ?_⟩
    · obtain ⟨d0, d1, at_, s, m, hat, hb⟩ := id hB.lst
      refine ⟨_, rfl, b, _, _, _, rfl, rfl, SqL.of hb, rfl, rfl, _, rfl, ?_⟩
      refine ite2 (fun _ => ?_) (fun _ => ?_)
      · refine ⟨_, rfl, b, _, _, _, rfl, rfl, SqL.of hb, rfl, _, rfl, b, _, _, _, rfl, rfl, SqL.of hb, rfl, c, _, rfl, .inl (SqL.of hB.cells), _, _, rfl, rfl, _, rfl, ?_⟩
        refine ite2 (fun hlt => ?_) (fun _ => ?_)
        · have hlt' : at_ < ((ns.map V.int).length : Int) := of_decide_eq_true hlt
          rw [List.length_map] at hlt'
          obtain ⟨j, rfl⟩ := Int.eq_ofNat_of_zero_le hat
          have hj : j < ns.length := by omega
          have hget : (ns.map V.int)[j]? = some (V.int ns[j]) := by rw [List.getElem?_map, List.getElem?_eq_getElem hj]; rfl
          refine ⟨_, rfl, b, _, _, _, rfl, rfl, SqL.of hb, rfl, _, rfl, b, _, _, _, rfl, rfl, SqL.of hb, rfl, c, _, _, _, rfl, rfl, SqL.of hB.cells, atI_nat hget, ?_⟩
          refine ⟨_, rfl, b, _, _, _, rfl, rfl, SqL.of hb, rfl, _, _, rfl, rfl, _, rfl, b, _, _, _, rfl, rfl, hb, rfl, ?_⟩
          refine ⟨_, rfl, b, _, _, _, rfl, rfl, SqL.of upd_same, rfl, _, _, rfl, rfl, .inr ⟨by decide, by decide⟩, _, rfl, _, _, rfl, rfl, .inl ⟨_, rfl, _, _, rfl, rfl, (by show (0 : Int) < 2147483647; decide), _, rfl, b, _, _, _, rfl, rfl, upd_same, rfl, ?_⟩⟩
          refine ⟨_, rfl, _, _, rfl, rfl, ⟨by decide, by decide, by decide⟩, _, _, rfl, rfl, _, rfl, ?_⟩
          rw [upd_upd]
          refine ite2 (fun _ => ?_) (fun _ => ?_)
          · refine ⟨_, rfl, _, _, rfl, rfl, ⟨by decide, by decide, by decide⟩, _, _, rfl, rfl, _, rfl, b, _, _, _, rfl, rfl, upd_same, rfl, ?_⟩
            refine ⟨_, rfl, b, _, _, _, rfl, rfl, upd_same, rfl, ?_⟩
            rw [upd_upd, upd_upd]
            exact ⟨⟨_, rfl⟩, hB.put (by omega), But.upd⟩
          · exact ⟨⟨_, rfl⟩, hB.put (by omega), But.upd⟩
        · exact ⟨⟨_, rfl⟩, hB, But.refl⟩
      · exact ⟨⟨_, rfl⟩, hB, But.refl⟩
    · rintro σ H2 ⟨⟨v, rfl⟩, hB2, hk⟩
      obtain ⟨d0, d1, at_, s, m, hat, hb⟩ := id hB2.lst
      refine ⟨fun σ H3 => (∃ v, σ = [some (.ref b), some (.int many), v, none]) ∧ BoxAt H3 b c ns ∧ But b H H3, ?_, ?_⟩
      · have stay : (∃ u, [some (V.ref b), some (V.int many), v, none] = [some (V.ref b), some (V.int many), u, none]) ∧ BoxAt H2 b c ns ∧ But b H H2 := ⟨⟨_, rfl⟩, hB2, hk⟩
        refine ⟨_, rfl, b, _, _, _, rfl, rfl, SqL.of hb, rfl, _, _, rfl, rfl, _, rfl, ?_⟩
        refine ite2 (fun _ => ?_) (fun _ => stay)
        refine ⟨_, rfl, b, _, _, _, rfl, rfl, SqL.of hb, rfl, _, _, rfl, rfl, _, rfl, ?_⟩
        refine ite2 (fun _ => ?_) (fun _ => stay)
        refine ⟨_, rfl, b, _, _, _, rfl, rfl, SqL.of hb, rfl, .inl ⟨_, rfl, _, rfl, _, _, rfl, rfl, (by omega), ?_⟩⟩
        refine ⟨_, rfl, b, _, _, _, rfl, rfl, SqL.of hb, rfl, _, rfl, _, _, rfl, rfl, ⟨by omega, by omega⟩, _, rfl, b, _, _, _, rfl, rfl, hb, rfl, ?_⟩
        refine ⟨_, rfl, b, _, _, _, rfl, rfl, SqL.of upd_same, rfl, _, _, rfl, rfl, _, rfl, b, _, _, _, rfl, rfl, upd_same, rfl, ?_⟩
        rw [upd_upd]
        refine ⟨_, rfl, ?_⟩
        exact k _ _ (Int.fmod_nonneg_of_pos _ hm0) (Int.fmod_lt_of_pos _ hm0) (hB2.put hat) (hk.trans But.upd)
      · rintro σ H3 ⟨⟨v, rfl⟩, hB3, hk3⟩
        obtain ⟨e0, e1, at_, s, m, hat, hb⟩ := id hB3.lst
        refine ⟨_, rfl, b, _, _, _, rfl, rfl, hb, rfl, ?_⟩
        refine ⟨_, rfl, b, _, _, _, rfl, rfl, SqL.of upd_same, rfl, _, _, rfl, rfl, _, rfl, b, _, _, _, rfl, rfl, upd_same, rfl, ?_⟩
        rw [upd_upd]
        refine ⟨_, rfl, b, _, _, _, rfl, rfl, SqL.of upd_same, rfl, _, rfl, b, _, _, _, rfl, rfl, SqL.of upd_same, rfl, _, _, rfl, fun r h0 => .inl ⟨_, rfl, _, rfl, _, _, rfl, rfl, (by omega), ?_⟩⟩
        exact k _ _ (Int.fmod_nonneg_of_pos _ hm0) (Int.fmod_lt_of_pos _ hm0) (hB3.put hat) (hk3.trans But.upd)
end
end K2


set_option Elab.async false
set_option linter.all false
set_option maxRecDepth 100000
set_option maxHeartbeats 4000000
namespace K2
open PySem L2
def scalV : V → Prop
  | .non => True
  | .bl _ => True
  | .int _ => True
  | .str _ => True
  | _ => False
/-- the same data at both, n deep at most -/
def Alike (K : PySem.W.Frag) (H : Hp) : Nat → V → V → Prop
  | 0, x, y => x = y ∧ scalV x
  | n + 1, x, y => (x = y ∧ scalV x) ∨ ∃ (a b : Addr) (xs ys : List V), x = .ref a ∧ y = .ref b ∧ ((SqT K H a xs ∧ SqT K H b ys) ∨ (SqL K H a xs ∧ SqL K H b ys)) ∧ xs.length = ys.length ∧ ys.length ≤ 1000000 ∧
      ∀ (i : Nat) (u v : V), xs[i]? = some u → ys[i]? = some v → Alike K H n u v
theorem sqT_same {K : PySem.W.Frag} {H H' : Hp} {a : Addr} {xs : List V} (s : Same H H') (h : SqT K H a xs) : SqT K H' a xs := by
  rcases h with (h | ⟨o, h⟩) | h
  · exact .inl (.inl (s _ _ h))
  · exact .inl (.inr ⟨o, s _ _ h⟩)
  · exact .inr h
theorem Alike.same {K : PySem.W.Frag} {H H' : Hp} (s : Same H H') : ∀ {n : Nat} {x y : V}, Alike K H n x y → Alike K H' n x y
  | 0, _, _, h => h
  | n + 1, x, y, h => by
    rcases h with h | ⟨a, b, xs, ys, rfl, rfl, h, hl, h1, h2⟩
    · exact .inl h
    · refine .inr ⟨a, b, xs, ys, rfl, rfl, ?_, hl, h1, fun i u v e1 e2 => (h2 i u v e1 e2).same s⟩
      rcases h with ⟨p, q⟩ | ⟨p, q⟩
      · exact .inl ⟨sqT_same s p, sqT_same s q⟩
      · exact .inr ⟨s.seq p, s.seq q⟩
theorem tyX_T {K : PySem.W.Frag} {H : Hp} {a : Addr} {xs : List V} (h : SqT K H a xs) : TyX K H (.ref a) (.type "tuple") := by
  rcases h with (h | ⟨o, h⟩) | ⟨o, its, n, h1, h2, _⟩
  · exact .base (.tup h)
  · exact .fTuple h
  · exact .kTuple h1 h2
theorem tyX_L {K : PySem.W.Frag} {H : Hp} {a : Addr} {xs : List V} (h : SqL K H a xs) : TyX K H (.ref a) (.type "list") := by
  rcases h with (h | ⟨o, h⟩) | ⟨o, its, n, h1, h2, _⟩
  · exact .base (.lst h)
  · exact .base (.frz h)
  · exact .kList h1 h2
def spAlike (K : PySem.W.Frag) (n : Nat) : Sp := fun vs H Q _ => ∃ x y : V, vs = [x, y] ∧ Alike K H n x y ∧ ∀ H', Same H H' → Q (.bl true) H'
theorem Alike.two {K : PySem.W.Frag} {H : Hp} {n : Nat} {x y : V} (h : Alike K H n x y) : (x = y ∧ scalV x) ∨ ∃ (m : Nat) (a b : Addr) (xs ys : List V), n = m + 1 ∧ x = .ref a ∧ y = .ref b ∧ ((SqT K H a xs ∧ SqT K H b ys) ∨ (SqL K H a xs ∧ SqL K H b ys)) ∧ xs.length = ys.length ∧ ys.length ≤ 1000000 ∧
    ∀ (i : Nat) (u v : V), xs[i]? = some u → ys[i]? = some v → Alike K H m u v := by
  cases n with
  | zero => exact .inl h
  | succ m =>
    rcases h with h | ⟨a, b, xs, ys, h⟩
    · exact .inl h
    · exact .inr ⟨m, a, b, xs, ys, rfl, h⟩
def spA (K : PySem.W.Frag) : Nat → Sp
  | 0 => fun _ _ _ _ => False
  | n + 1 => spAlike K n
theorem kitAnyS {K : PySem.W.Frag} {t : String} (h : t = "tuple" ∨ t = "list") : PySem.W.kitAny K (.type t) [.type "tuple", .type "list"] = some true := by
  rcases h with rfl | rfl
  · exact kitAny_cons (b := true) (kit_ty (by decide +kernel)) (fun z => nomatch z) fun _ => rfl
  · exact kitAny_cons (b := false) (kit_ty (by decide +kernel)) (fun _ => kitAny_cons (b := true) (kit_ty (by decide +kernel)) (fun z => nomatch z) fun _ => rfl) fun z => nomatch z
theorem atI_some {xs : List V} {i : Nat} (h : i < xs.length) : atI xs ((0 : Int) + (i : Int)) = some (xs[i]) := by
  rw [Int.zero_add]
  exact atI_nat (by simp [h])
structure Nm (mg : Str → Option Value) : Prop where
  isi : mg "isinstance" = none
  tup : mg "tuple" = none
  lst : mg "list" = none
  len : mg "len" = none
  rng : mg "range" = none
  bool : mg "bool" = none
  str : mg "str" = none
  int : mg "int" = none
def typName : V → String
  | .non => "NoneType"
  | .bl _ => "bool"
  | .int _ => "int"
  | _ => "str"
theorem scal_ty {K : PySem.W.Frag} {H : Hp} {x : V} (h : scalV x) : TyX K H x (.type (typName x)) := by
  cases x <;> first | exact h.elim | exact .base .non | exact .base (.bl _) | exact .base (.int _) | exact .base (.str _)
theorem kitAny2 {K : PySem.W.Frag} {t a b : String} (h1 : kitB t a = some false) (h2 : kitB t b = some false) : PySem.W.kitAny K (.type t) [.type a, .type b] = some false :=
  kitAny_cons (kit_ty h1) (fun _ => kitAny_cons (kit_ty h2) (fun _ => rfl) fun z => nomatch z) fun z => nomatch z
section
variable {P : Program} {w : World} {K : PySem.W.Frag} {mg : Str → Option Value} {base : Heap}
theorem scAlike : FnScope ["told", "due", "k"] ["told", "due"] (defScope sAlike) := ⟨rfl, rfl, rfl, by decide +kernel, rfl, by decide +kernel, by decide +kernel⟩
theorem ok_alike {f : Addr} {fd : FuncData} (F : Fun K "_law_alike" "_law_alike" sAlike f fd) (b : Binds K fd ["told", "due"] []) (g : mg "_law_alike" = some (.ref f)) (kp : PySem.W.keepIn K (.ref f) = true) (N : Nm mg) :
    ∀ n : Nat, FnOk P w K mg base CX0 n f fd ["told", "due"] (spA K n) := by
  intro n
  induction n with
  | zero => exact ⟨fun _ _ _ _ h => h.elim, fun _ _ _ _ _ _ _ _ _ _ _ _ _ h => h.elim⟩
  | succ n ih =>
    refine F.ok scAlike (fun vs H Q E h => ?_) (fun cdv A outer s H vs Q E hr h => ?_)
    · obtain ⟨x, y, rfl, _⟩ := h
      rfl
    · obtain ⟨x, y, rfl, hA, k⟩ := h
      refine ⟨_, pss_cons (ps_if (pt_val (pe_callB call_isiT (by rfl) N.isi (by decide +kernel) (pa_cons (pv 1) (pa_cons (pe_tup (pa_cons (pe_bltn (v := .ty "tuple") (by rfl) N.tup (by decide +kernel) rfl) (pa_cons (pe_bltn (v := .ty "list") (by rfl) N.lst (by decide +kernel) rfl) pa_nil))) pa_nil))))
          (pss_cons (ps_if (PW.pt (pw_or (pt_cmpR op_ne (pe_callB call_isi (by rfl) N.isi (by decide +kernel) (pa_cons (pv 0) (pa_cons (pe_bltn (v := .ty "tuple") (by rfl) N.tup (by decide +kernel) rfl) pa_nil))) (pe_callB call_isi (by rfl) N.isi (by decide +kernel) (pa_cons (pv 1) (pa_cons (pe_bltn (v := .ty "tuple") (by rfl) N.tup (by decide +kernel) rfl) pa_nil))) (nomark _))
              (pw_or1 (pt_cmpR op_ne (pe_callB call_isi (by rfl) N.isi (by decide +kernel) (pa_cons (pv 0) (pa_cons (pe_bltn (v := .ty "list") (by rfl) N.lst (by decide +kernel) rfl) pa_nil))) (pe_callB call_isi (by rfl) N.isi (by decide +kernel) (pa_cons (pv 1) (pa_cons (pe_bltn (v := .ty "list") (by rfl) N.lst (by decide +kernel) rfl) pa_nil))) (nomark _))))) (pss_one (ps_ret pe_bl)) pss_nil)
          (pss_cons (ps_if (pt_cmpR op_ne (pe_callB call_len_seq (by rfl) N.len PySem.boot_len (pa_cons (pv 0) pa_nil)) (pe_callB call_len_seq (by rfl) N.len PySem.boot_len (pa_cons (pv 1) pa_nil)) (nomark _)) (pss_one (ps_ret pe_bl)) pss_nil)
          (pss_cons (ps_for PassesOwn.never rfl (pi_range1 rfl N.rng (pa_cons (pe_callB call_len_seq (by rfl) N.len PySem.boot_len (pa_cons (pv 1) pa_nil)) pa_nil)) (pg_name (i := 2) scAlike.nd rfl (Or.inl rfl))
            (pss_one (ps_if (pt_not (pt_val (pe_call ih hr rfl g kp b .nil pass0 (pa_cons (pe_ix ix_seq (pv 0) (pv 2) (fun _ _ => rfl)) (pa_cons (pe_ix ix_seq (pv 1) (pv 2) (fun _ _ => rfl)) pa_nil))))) (pss_one (ps_ret pe_bl)) pss_nil)))
          (pss_one (ps_ret pe_bl))))) pss_nil)
        (pss_cons (ps_if (pt_cmpR op_isN (pv 1) pe_non (nomark _)) (pss_one (ps_ret (pe_cmpR op_isN (pv 0) pe_non (nomark _)))) pss_nil)
        (pss_cons (ps_if (pt_val (pe_callB call_isi (by rfl) N.isi (by decide +kernel) (pa_cons (pv 1) (pa_cons (pe_bltn (v := .ty "bool") (by rfl) N.bool (by decide +kernel) rfl) pa_nil)))) (pss_one (ps_ret (pe_and (pe_callB call_isi (by rfl) N.isi (by decide +kernel) (pa_cons (pv 0) (pa_cons (pe_bltn (v := .ty "bool") (by rfl) N.bool (by decide +kernel) rfl) pa_nil))) (pe_one (pe_cmpR op_eq (pv 0) (pv 1) (nomark _)))))) pss_nil)
        (pss_cons (ps_if (pt_val (pe_callB call_isi (by rfl) N.isi (by decide +kernel) (pa_cons (pv 1) (pa_cons (pe_bltn (v := .ty "str") (by rfl) N.str (by decide +kernel) rfl) pa_nil)))) (pss_one (ps_ret (pe_and (pe_callB call_isi (by rfl) N.isi (by decide +kernel) (pa_cons (pv 0) (pa_cons (pe_bltn (v := .ty "str") (by rfl) N.str (by decide +kernel) rfl) pa_nil))) (pe_one (pe_cmpR op_eq (pv 0) (pv 1) (nomark _)))))) pss_nil)
        (pss_one (ps_ret (pe_and (pe_callB call_isi (by rfl) N.isi (by decide +kernel) (pa_cons (pv 0) (pa_cons (pe_bltn (v := .ty "int") (by rfl) N.int (by decide +kernel) rfl) pa_nil)))
          (pe_and (pe_not (pe_callB call_isi (by rfl) N.isi (by decide +kernel) (pa_cons (pv 0) (pa_cons (pe_bltn (v := .ty "bool") (by rfl) N.bool (by decide +kernel) rfl) pa_nil)))) (pe_one (pe_cmpR op_eq (pv 0) (pv 1) (nomark _)))))))))), ?_⟩
      rcases hA.two with ⟨rfl, hs⟩ | ⟨m, a, c, xs, ys, rfl, rfl, rfl, hh, hl, h1, h2⟩
      · -- a scalar
        refine ⟨_, rfl, (by show 2 ≤ sizeLine; decide), fun p np => ?_⟩
        have sm : Same H (upd H p (.tup [.ty "tuple", .ty "list"])) := fun q o e => by
          rw [upd_ne (ne_of_none e np)]
          exact e
        have kk := k _ sm
        cases x with
        | non =>
          refine ⟨_, p, [.ty "tuple", .ty "list"], _, [.type "tuple", .type "list"], false, rfl, upd_same, .cons (.ty _) (.cons (.ty _) .nil), .base .non, kitAny2 (by decide +kernel) (by decide +kernel), false, rfl, iteF ?_⟩
          refine ⟨_, rfl, rfl, _, rfl, iteT ?_⟩
          exact ⟨_, rfl, rfl, kk⟩
        | bl z =>
          refine ⟨_, p, [.ty "tuple", .ty "list"], _, [.type "tuple", .type "list"], false, rfl, upd_same, .cons (.ty _) (.cons (.ty _) .nil), .base (.bl z), kitAny2 (by decide +kernel) (by decide +kernel), false, rfl, iteF ?_⟩
          refine ⟨_, rfl, rfl, _, rfl, iteF ?_⟩
          refine ⟨_, rfl, _, _, _, _, true, rfl, .ty _, .base (.bl z), kit_ty (by decide +kernel), true, rfl, iteT ?_⟩
          refine ⟨_, rfl, _, _, _, _, true, rfl, .ty _, .base (.bl z), kit_ty (by decide +kernel), true, rfl, ?_⟩
          refine iteT ⟨_, rfl, _, rfl, rfl, ?_⟩
          rw [decide_eq_true rfl]
          exact kk
        | int z =>
          refine ⟨_, p, [.ty "tuple", .ty "list"], _, [.type "tuple", .type "list"], false, rfl, upd_same, .cons (.ty _) (.cons (.ty _) .nil), .base (.int z), kitAny2 (by decide +kernel) (by decide +kernel), false, rfl, iteF ?_⟩
          refine ⟨_, rfl, rfl, _, rfl, iteF ?_⟩
          refine ⟨_, rfl, _, _, _, _, false, rfl, .ty _, .base (.int z), kit_ty (by decide +kernel), false, rfl, iteF ?_⟩
          refine ⟨_, rfl, _, _, _, _, false, rfl, .ty _, .base (.int z), kit_ty (by decide +kernel), false, rfl, iteF ?_⟩
          refine ⟨_, rfl, _, _, _, _, true, rfl, .ty _, .base (.int z), kit_ty (by decide +kernel), true, rfl, ?_⟩
          refine iteT ?_
          refine ⟨_, rfl, _, _, _, _, false, rfl, .ty _, .base (.int z), kit_ty (by decide +kernel), false, rfl, true, rfl, ?_⟩
          refine iteT ⟨_, rfl, _, rfl, rfl, ?_⟩
          rw [decide_eq_true rfl]
          exact kk
        | str z =>
          refine ⟨_, p, [.ty "tuple", .ty "list"], _, [.type "tuple", .type "list"], false, rfl, upd_same, .cons (.ty _) (.cons (.ty _) .nil), .base (.str z), kitAny2 (by decide +kernel) (by decide +kernel), false, rfl, iteF ?_⟩
          refine ⟨_, rfl, rfl, _, rfl, iteF ?_⟩
          refine ⟨_, rfl, _, _, _, _, false, rfl, .ty _, .base (.str z), kit_ty (by decide +kernel), false, rfl, iteF ?_⟩
          refine ⟨_, rfl, _, _, _, _, true, rfl, .ty _, .base (.str z), kit_ty (by decide +kernel), true, rfl, iteT ?_⟩
          refine ⟨_, rfl, _, _, _, _, true, rfl, .ty _, .base (.str z), kit_ty (by decide +kernel), true, rfl, ?_⟩
          refine iteT ⟨_, rfl, _, rfl, rfl, ?_⟩
          rw [decide_eq_true rfl]
          exact kk
        | byt _ => exact hs.elim
        | flt _ => exact hs.elim
        | ref _ => exact hs.elim
        | ty _ => exact hs.elim
      · -- a sequence
        refine ⟨_, rfl, (by show 2 ≤ sizeLine; decide), fun p np => ?_⟩
        have sm : Same H (upd H p (.tup [.ty "tuple", .ty "list"])) := fun q o e => by
          rw [upd_ne (ne_of_none e np)]
          exact e
        obtain ⟨t, ht, tA, tC⟩ : ∃ t : String, (t = "tuple" ∨ t = "list") ∧ TyX K (upd H p (.tup [.ty "tuple", .ty "list"])) (.ref a) (.type t) ∧ TyX K (upd H p (.tup [.ty "tuple", .ty "list"])) (.ref c) (.type t) := by
          rcases hh with ⟨p1, p2⟩ | ⟨p1, p2⟩
          · exact ⟨"tuple", .inl rfl, tyX_T (sqT_same sm p1), tyX_T (sqT_same sm p2)⟩
          · exact ⟨"list", .inr rfl, tyX_L (sm.seq p1), tyX_L (sm.seq p2)⟩
        refine ⟨_, p, [.ty "tuple", .ty "list"], _, [.type "tuple", .type "list"], true, rfl, upd_same, .cons (.ty _) (.cons (.ty _) .nil), tC, kitAnyS ht, true, rfl, iteT ?_⟩
        obtain ⟨b1, b2, k1, k2⟩ : ∃ b1 b2 : Bool, kitB t "tuple" = some b1 ∧ kitB t "list" = some b2 := by
          rcases ht with rfl | rfl
          · exact ⟨true, false, by decide +kernel, by decide +kernel⟩
          · exact ⟨false, true, by decide +kernel, by decide +kernel⟩
        refine ⟨_, rfl, _, _, _, _, b1, rfl, .ty _, tA, kit_ty k1, _, rfl, _, _, _, _, b1, rfl, .ty _, tC, kit_ty k1, rfl, _, rfl, ?_⟩
        rw [show (!decide (V.bl b1 = V.bl b1)) = false by simp]
        refine iteF ?_
        refine ⟨_, rfl, _, _, _, _, b2, rfl, .ty _, tA, kit_ty k2, _, rfl, _, _, _, _, b2, rfl, .ty _, tC, kit_ty k2, rfl, _, rfl, ?_⟩
        rw [show (!decide (V.bl b2 = V.bl b2)) = false by simp]
        refine iteF ?_
        have sq : ∀ H2, Same H H2 → (SqL K H2 a xs ∨ SqT K H2 a xs) ∧ (SqL K H2 c ys ∨ SqT K H2 c ys) := fun H2 s2 => by
          rcases hh with ⟨p1, p2⟩ | ⟨p1, p2⟩
          · exact ⟨.inr (sqT_same s2 p1), .inr (sqT_same s2 p2)⟩
          · exact ⟨.inl (s2.seq p1), .inl (s2.seq p2)⟩
        refine ⟨_, rfl, a, xs, rfl, (sq _ sm).1, _, rfl, c, ys, rfl, (sq _ sm).2, rfl, _, rfl, ?_⟩
        rw [hl, show (!decide (V.int (ys.length : Int) = V.int (ys.length : Int))) = false by simp]
        refine iteF ?_
        refine ⟨_, rfl, c, ys, rfl, (sq _ sm).2, _, rfl, (by omega), (by omega), ?_⟩
        refine for_range (n := ys.length) (fun i σ H2 => (∃ v, σ = [some (.ref a), some (.ref c), v]) ∧ Same H H2) ⟨⟨none, rfl⟩, sm⟩ ?_ ?_
        · rintro i σ H2 hi ⟨⟨v, rfl⟩, s2⟩
          have hix : i < xs.length := by omega
          have pick : ∀ (q : Addr) (zs : List V), (SqL K H2 q zs ∨ SqT K H2 q zs) → ∀ (hz : i < zs.length) (Q' : VK), Q' zs[i] H2 → rIx K (.ref q) (.int (0 + (i : Int))) H2 Q' := fun q zs hq hz Q' hQ => by
            rcases hq with hq | hq
            · exact .inl ⟨q, zs, _, _, rfl, rfl, hq, atI_some hz, hQ⟩
            · exact .inr (.inl ⟨q, zs, _, _, rfl, rfl, hq, atI_some hz, hQ⟩)
          have s2' := sq H2 s2
          refine ⟨_, rfl, _, rfl, pick a xs s2'.1 hix _ ⟨_, rfl, _, rfl, pick c ys s2'.2 hi _ ?_⟩⟩
          refine ⟨_, _, rfl, (h2 i _ _ (by simp [hix]) (by simp [hi])).same s2, fun H3 s3 => ⟨_, rfl, ?_⟩⟩
          refine iteF ?_
          exact ⟨⟨_, rfl⟩, s2.trans s3⟩
        · rintro σ H2 ⟨_, s2⟩
          exact k _ s2
end
end K2


set_option Elab.async false
set_option linter.all false
set_option maxRecDepth 100000
set_option maxHeartbeats 2000000
namespace K2
open PySem L2 Nd Bk
/-! data of tuples alone -/
mutual
def tupOnly : PyData → Bool
  | .tuple ds => tupOnlyAll ds
  | .int _ => true
  | .str _ => true
  | _ => false
def tupOnlyAll : List PyData → Bool
  | [] => true
  | d :: ds => tupOnly d && tupOnlyAll ds
end
def NotT (u : Option HO) : Prop := (∀ xs, u ≠ some (.tup xs)) ∧ ∀ o xs, u ≠ some (.frz o (.tup xs))
theorem notT_none : NotT none := ⟨fun _ h => (nomatch h), fun _ _ h => nomatch h⟩
theorem notT_lst {xs : List V} : NotT (some (.lst xs)) := ⟨fun _ h => (nomatch h), fun _ _ h => nomatch h⟩
theorem notT_dK {xs : List (Key × V)} : NotT (some (.dK xs)) := ⟨fun _ h => (nomatch h), fun _ _ h => nomatch h⟩
theorem notT_nd {P : Program} {w : World} {d : Addr} {es : List Ent} : NotT (some (ndO P w d es)) := ⟨fun _ h => (by unfold ndO at h; cases h), fun _ _ h => (by unfold ndO at h; cases h)⟩
theorem notT_frzN {P : Program} {w : World} {d : Addr} {es : List Ent} {o : Obj} : NotT (some (.frz o (ndO P w d es))) := ⟨fun _ h => (by cases h), fun _ _ h => (by unfold ndO at h; cases h)⟩
theorem notT_frzK {xs : List (Key × V)} {o : Obj} : NotT (some (.frz o (.dK xs))) := ⟨fun _ h => (by cases h), fun _ _ h => (by cases h)⟩
theorem sqT_put {K : PySem.W.Frag} {H : Hp} {D a : Addr} {o : HO} {xs : List V} (n : NotT (H D)) (h : SqT K H a xs) : SqT K (upd H D o) a xs := by
  rcases h with (h | ⟨o', h⟩) | h
  · refine .inl (.inl ?_)
    rw [upd_ne (fun e => n.1 xs (by rw [← e]; exact h))]
    exact h
  · refine .inl (.inr ⟨o', ?_⟩)
    rw [upd_ne (fun e => n.2 o' xs (by rw [← e]; exact h))]
    exact h
  · exact .inr h
mutual
theorem dp_put0 {K : PySem.W.Frag} {H : Hp} {D : Addr} {o : HO} (n : NotT (H D)) : ∀ {v : V} {d : PyData}, Dp K H v d → tupOnly d = true → Dp K (upd H D o) v d
  | _, _, .non => fun _ => .non
  | _, _, .bl b => fun _ => .bl b
  | _, _, .int i => fun _ => .int i
  | _, _, .str x => fun _ => .str x
  | _, _, .lst h a => fun t => by simp [tupOnly] at t
  | _, _, .tup h a => fun t => .tup (sqT_put n h) (dpAll_put0 n a (by simpa [tupOnly] using t))
theorem dpAll_put0 {K : PySem.W.Frag} {H : Hp} {D : Addr} {o : HO} (n : NotT (H D)) : ∀ {v : List V} {d : List PyData}, DpAll K H v d → tupOnlyAll d = true → DpAll K (upd H D o) v d
  | _, _, .nil => fun _ => .nil
  | _, _, .cons h r => fun t => by
    simp only [tupOnlyAll, Bool.and_eq_true] at t
    exact .cons (dp_put0 n h t.1) (dpAll_put0 n r t.2)
end
theorem dp_put {K : PySem.W.Frag} {H : Hp} {D : Addr} {o : HO} (n : NotT (H D)) {v : V} {d : PyData} (t : tupOnly d = true) (h : Dp K H v d) : Dp K (upd H D o) v d := dp_put0 n h t
theorem dpAll_put {K : PySem.W.Frag} {H : Hp} {D : Addr} {o : HO} (n : NotT (H D)) {v : List V} {d : List PyData} (t : tupOnlyAll d = true) (h : DpAll K H v d) : DpAll K (upd H D o) v d := dpAll_put0 n h t
theorem tupOnlyAll_of : ∀ {ds : List PyData}, (∀ d ∈ ds, tupOnly d = true) → tupOnlyAll ds = true
  | [], _ => rfl
  | d :: ds, h => by
    simp only [tupOnlyAll, Bool.and_eq_true]
    exact ⟨h d List.mem_cons_self, tupOnlyAll_of fun e he => h e (List.mem_cons_of_mem _ he)⟩
/-! bags as data -/
section
variable {κ : Type} [DecidableEq κ] [Ky κ]
def bD (l : Bag κ) : PyData := .tuple (l.map encP)
class Tu (κ : Type) [DecidableEq κ] [Ky κ] : Prop where
  tu : ∀ k : κ, tupOnly (Ky.enc k) = true
theorem tu_encP [Tu κ] (p : κ × Int) : tupOnly (encP p) = true := by
  show (tupOnlyAll [Ky.enc p.1, .int p.2]) = true
  simp [tupOnlyAll, tupOnly, Tu.tu]
theorem tu_encPs [Tu κ] (l : Bag κ) : ∀ d ∈ l.map encP, tupOnly d = true := fun d h => by
  obtain ⟨p, _, rfl⟩ := List.mem_map.mp h
  exact tu_encP p
theorem tu_bD [Tu κ] (l : Bag κ) : tupOnly (bD l) = true := by
  show tupOnlyAll (l.map encP) = true
  exact tupOnlyAll_of (tu_encPs l)
end
instance : Tu Str := ⟨fun _ => rfl⟩
theorem mD_bD (m : Mono) : mD m = bD m := rfl
theorem enc_mono (m : Mono) : Ky.enc m = bD m := rfl
instance : Tu Mono := ⟨fun m => tu_bD (κ := Str) m⟩
section
variable {K : PySem.W.Frag} {H : Hp}
theorem dpAll_len : ∀ {xs : List V} {ds : List PyData}, DpAll K H xs ds → xs.length = ds.length
  | _, _, .nil => rfl
  | _, _, .cons _ t => by simp [dpAll_len t]
theorem dpAll_get : ∀ {xs : List V} {ds : List PyData}, DpAll K H xs ds → ∀ {i : Nat} {x : V}, xs[i]? = some x → ∃ d, ds[i]? = some d ∧ Dp K H x d
  | _, _, .cons h t, 0, x, e => by
    simp only [List.getElem?_cons_zero, Option.some.injEq] at e
    exact ⟨_, rfl, by rw [← e]; exact h⟩
  | _, _, .cons h t, i + 1, x, e => by
    simp only [List.getElem?_cons_succ] at e ⊢
    exact dpAll_get t e
theorem dpAll_append : ∀ {xs ys : List V} {ds es : List PyData}, DpAll K H xs ds → DpAll K H ys es → DpAll K H (xs ++ ys) (ds ++ es)
  | _, _, _, _, .nil, h => h
  | _, _, _, _, .cons h t, h2 => .cons h (dpAll_append t h2)
theorem dp_tup {v : V} {ds : List PyData} (h : Dp K H v (.tuple ds)) : ∃ a xs, v = .ref a ∧ SqT K H a xs ∧ DpAll K H xs ds := by
  cases h with
  | tup h a => exact ⟨_, _, rfl, h, a⟩
theorem dp_int {v : V} {i : Int} (h : Dp K H v (.int i)) : v = .int i := by
  cases h
  rfl
theorem dp_str {v : V} {i : Str} (h : Dp K H v (.str i)) : v = .str i := by
  cases h
  rfl
/-- the pair (key, number) at T -/
theorem dp_pair {κ : Type} [DecidableEq κ] [Ky κ] {v : V} {p : κ × Int} (h : Dp K H v (encP p)) : ∃ T k, v = .ref T ∧ SqT K H T [k, .int p.2] ∧ Dp K H k (Ky.enc p.1) := by
  obtain ⟨a, xs, rfl, hs, ha⟩ := dp_tup h
  cases ha with
  | cons h1 h2 =>
    cases h2 with
    | cons h3 h4 =>
      cases h4
      cases h3
      exact ⟨a, _, rfl, hs, h1⟩
theorem dp_mk {κ : Type} [DecidableEq κ] [Ky κ] {T : Addr} {k : V} {c : Int} {x : κ} (h : SqT K H T [k, .int c]) (hk : Dp K H k (Ky.enc x)) : Dp K H (.ref T) (encP (x, c)) := .tup h (.cons hk (.cons (.int c) .nil))
/-- a bag's tuple at a -/
theorem dp_bag {κ : Type} [DecidableEq κ] [Ky κ] {v : V} {l : Bag κ} (h : Dp K H v (bD l)) : ∃ a xs, v = .ref a ∧ SqT K H a xs ∧ xs.length = l.length ∧ DpAll K H xs (l.map encP) := by
  obtain ⟨a, xs, rfl, hs, ha⟩ := dp_tup h
  exact ⟨a, xs, rfl, hs, by rw [dpAll_len ha, List.length_map], ha⟩
theorem bag_get {κ : Type} [DecidableEq κ] [Ky κ] {xs : List V} {l : Bag κ} (h : DpAll K H xs (l.map encP)) {i : Nat} {x : V} (e : xs[i]? = some x) : ∃ p, l[i]? = some p ∧ Dp K H x (encP p) := by
  obtain ⟨d, h1, h2⟩ := dpAll_get h e
  rw [List.getElem?_map] at h1
  cases q : l[i]? with
  | none => rw [q] at h1; cases h1
  | some p =>
    rw [q] at h1
    cases h1
    exact ⟨p, rfl, h2⟩
end
/-! a list that is put together -/
theorem sm_new {H H2 : Hp} {d : Addr} {o : HO} (s : Same H H2) (n : H d = none) : Same H (upd H2 d o) := fun a u h => by
  rw [upd_ne (ne_of_none h n)]
  exact s a u h
theorem sm_refl {H : Hp} : Same H H := fun _ _ h => h
structure AccI (K : PySem.W.Frag) (H1 : Hp) (D : Addr) (ds : List PyData) (i : Nat) (H2 : Hp) : Prop where
  sm : Same H1 H2
  at_ : ∃ ys, H2 D = some (.lst ys) ∧ DpAll K H2 ys (ds.take i)
section
variable {K : PySem.W.Frag} {H1 : Hp} {D : Addr} {ds : List PyData}
theorem acc_zero (n : H1 D = none) : AccI K H1 D ds 0 (upd H1 D (.lst [])) := ⟨sm_new sm_refl n, [], upd_same, by rw [List.take_zero]; exact .nil⟩
theorem acc_step {i : Nat} {H2 H4 : Hp} {y : V} {d : PyData} (a : AccI K H1 D ds i H2) (n : H1 D = none) (hl : ds.length ≤ 1000000) (tu : ∀ d ∈ ds, tupOnly d = true) (s : Same H2 H4) (e : ds[i]? = some d) (h : Dp K H4 y d) :
    ∃ acc, H4 D = some (.lst acc) ∧ acc.length < sizeLine ∧ AccI K H1 D ds (i + 1) (upd H4 D (.lst (acc ++ [y]))) := by
  obtain ⟨s1, ys, hD, hy⟩ := a
  have hD4 := s _ _ hD
  have nt : NotT (H4 D) := by rw [hD4]; exact notT_lst
  have lt : tupOnlyAll (ds.take i) = true := tupOnlyAll_of fun d hd => tu d (List.mem_of_mem_take hd)
  refine ⟨ys, hD4, ?_, sm_new (s1.trans s) n, ys ++ [y], upd_same, ?_⟩
  · have := dpAll_len hy
    rw [List.length_take] at this
    rw [sizeLine_eq]
    omega
  · rw [List.take_succ, e]
    exact dpAll_append (dpAll_put nt lt (dpAll_same s hy)) (.cons (dp_put nt (tu d (List.mem_of_getElem? e)) h) .nil)
theorem acc_end {H2 : Hp} {n : Nat} (a : AccI K H1 D ds n H2) (e : n = ds.length) : Same H1 H2 ∧ ∃ ys, H2 D = some (.lst ys) ∧ DpAll K H2 ys ds := by
  subst e
  obtain ⟨s1, ys, hD, hy⟩ := a
  rw [List.take_length] at hy
  exact ⟨s1, ys, hD, hy⟩
end
/-! what a dict of this kind holds, as a bag -/
def bagOf (es : List Ent) : Poly := es.map fun e => (e.1, e.2.2)
theorem bagOf_len (es : List Ent) : (bagOf es).length = es.length := List.length_map ..
theorem look_bagOf (es : List Ent) (m : Mono) : look (bagOf es) m = getN es m := by
  induction es with
  | nil => rfl
  | cons e r ih =>
    unfold look getN bagOf at ih ⊢
    rw [List.map_cons, List.find?_cons, List.find?_cons]
    by_cases h : e.1 = m
    · simp [h]
    · simp only [decide_eq_false h]
      exact ih
theorem bagOf_put (es : List Ent) (m : Mono) (a : Addr) (c : Int) : bagOf (putN es m a c) = put (bagOf es) m c := by
  unfold putN put
  rw [look_bagOf]
  split
  · unfold bagOf
    rw [List.map_map, List.map_map]
    refine List.map_congr_left fun e _ => ?_
    show (fun e : Ent => (e.1, e.2.2)) (if e.1 = m then (e.1, e.2.1, c) else e) = if e.1 = m then (e.1, c) else (e.1, e.2.2)
    split <;> rfl
  · unfold bagOf
    rw [List.map_append]
    rfl
end K2


set_option Elab.async false
set_option linter.all false
set_option maxRecDepth 100000
set_option maxHeartbeats 2000000
namespace K2
open PySem L2 Nd Bk PySem.Spec PyProof.Rows
/-! dict(tuple of pairs), the tuple known to be without a dict of its own -/
def PlainT (H : Hp) (a : Addr) : Prop := ∃ o xs, H a = some (.frz o (.tup xs)) ∧ o.dict = none
theorem PlainT.same {H H' : Hp} {a : Addr} (s : Same H H') (h : PlainT H a) : PlainT H' a := let ⟨o, xs, h1, h2⟩ := h; ⟨o, xs, s _ _ h1, h2⟩
theorem PlainT.put {H : Hp} {a D : Addr} {u : HO} (n : NotT (H D)) (h : PlainT H a) : PlainT (upd H D u) a := by
  obtain ⟨o, xs, h1, h2⟩ := h
  refine ⟨o, xs, ?_, h2⟩
  rw [upd_ne (fun e => n.2 o xs (by rw [← e]; exact h1))]
  exact h1
def tx (m : Mono) : List (Key × V) := m.map fun p => (.inr p.1, .int p.2)
section
variable {X : Cx}
theorem call_tupleF : CallR X (.type "tuple") (fun xs H Q => ∃ p ys, xs = [.ref p] ∧ SqL X.K H p ys ∧ ∀ l o, H l = none → o.dict = none → Q (.ref l) (upd H l (.frz o (.tup ys)))) := by
  intro pins s σ H xs us Q I r h
  obtain ⟨p, ys, rfl, hq, q⟩ := h
  obtain ⟨u, rfl, rx⟩ := vals1 r
  cases rx
  obtain ⟨its, r', pl, hz⟩ := I.list hq
  have hlen := r'.length
  refine call_tuple_list pl.isList (fun h' kp => ?_) (by simp only [List.size_toArray] <;> omega)
  have I1 : Inv X pins σ H { s with heap := h' } := I.kept (t' := s.toks) kp
  have I2 : Inv X pins σ (upd H h'.objs.size (.frz { cls := .type "tuple", data := .seq its.toArray } (.tup ys))) { s with heap := h'.push { cls := .type "tuple", data := .seq its.toArray } } :=
    I1.laid (t' := s.toks) (fun b o e => Heap.get?_push_of_some _ e) (Nat.le_refl _) (show ObjOk X.prog X.w _ _ _ (.frz _ (.tup ys)) from ⟨Heap.get?_push_size _ rfl, hz, its, r', IsTup.new _ _⟩)
  exact ⟨.ref h'.objs.size, _, I2, rfl, q _ _ (I1.hok.fresh (Nat.le_refl _)) rfl⟩
theorem pairs_ofT {pins : List (Addr × Obj)} {σ : L2.St} {H : Hp} {s : Shared} (I : Inv X pins σ H s) : ∀ {m : Mono} {xs : List V} {us : List Value}, DpAll X.K H xs (m.map tkD) → Vals xs us →
    ∃ (as : List Addr) (ps : List (Value × Value)) (prs : List (Key × Value)), us = as.map Value.ref ∧ KV (tx m) prs ∧ as.length = m.length ∧ ps.length = m.length ∧
      ∀ (j : Nat) (k v : Value), ps[j]? = some (k, v) → (∃ a, as[j]? = some a ∧ PairAt s.heap a k v) ∧ ∃ key, prs[j]? = some (key, v) ∧ (mixKind X.prog X.w).is key k = true
  | [], _, _, h, r => by
    cases h
    cases r
    exact ⟨[], [], [], rfl, .nil, rfl, rfl, fun j k v e => by simp at e⟩
  | p :: m, _, _, h, r => by
    cases h with
    | cons h1 h2 =>
      cases r with
      | cons r1 r2 =>
        obtain ⟨as, ps, prs, rfl, kv, la, lp, hh⟩ := pairs_ofT I h2 r2
        obtain ⟨T, k, rfl, hs, hk⟩ := dp_pair (κ := Str) (p := p) h1
        cases dp_str (i := p.1) hk
        cases r1
        obtain ⟨its, rv, ht, _⟩ := I.tuple hs
        obtain ⟨u, y, ei, ru, ry⟩ := vals2 rv
        subst ei
        refine ⟨T :: as, (u, y) :: ps, (.inr p.1, y) :: prs, rfl, .cons ⟨rfl, ry⟩ kv, by simp [la], by simp [lp], fun j k v e => ?_⟩
        cases j with
        | zero =>
          simp only [List.getElem?_cons_zero, Option.some.injEq, Prod.mk.injEq] at e
          obtain ⟨rfl, rfl⟩ := e
          exact ⟨⟨T, rfl, .inl ht⟩, .inr p.1, rfl, kV_is (P := X.prog) (w := X.w) ru⟩
        | succ j =>
          simp only [List.getElem?_cons_succ] at e ⊢
          exact hh j k v e
theorem merge_snoc {k : Key} {v : V} : ∀ (more kvs : List (Key × V)), (kvs ++ more).map (·.1) |>.Nodup → mergeK kvs more = kvs ++ more
  | [], kvs, _ => by
    rw [List.append_nil]
    rfl
  | p :: r, kvs, h => by
    have hn : valV kvs p.1 = none := by
      cases e : valV kvs p.1 with
      | none => rfl
      | some y =>
        unfold valV at e
        obtain ⟨q, hq, _⟩ := Option.map_eq_some_iff.mp e
        have h1 := List.mem_of_find?_eq_some hq
        have h2' := List.find?_some hq
        have h2 : q.1 = p.1 := of_decide_eq_true h2'
        rw [List.map_append, List.nodup_append] at h
        exact absurd h2 (h.2.2 q.1 (List.mem_map.mpr ⟨q, h1, rfl⟩) p.1 (by simp))
    show mergeK (putK kvs p.1 p.2) r = _
    rw [putK_new _ hn, merge_snoc r (k := k) (v := v) _ (by simpa using h)]
    simp
theorem tx_nodup {m : Mono} (h : (m.map (·.1)).Nodup) : ((tx m).map (·.1)).Nodup := by
  unfold tx
  rw [List.map_map]
  have e : ((fun kv : Key × V => kv.1) ∘ fun p : Str × Int => ((Sum.inr p.1 : Key), V.int p.2)) = (fun x : Str => (Sum.inr x : Key)) ∘ fun p : Str × Int => p.1 := rfl
  rw [e, ← List.map_map]
  rw [List.Nodup, List.pairwise_map]
  exact h.imp fun {a b} hab e => hab (Sum.inr.inj e)
theorem call_dictT (hcalm : X.calm = true) : CallR X (.type "dict") (fun xs H Q => ∃ (a : Addr) (m : Mono), xs = [.ref a] ∧ PlainT H a ∧ Dp X.K H (.ref a) (mD m) ∧ (m.map (·.1)).Nodup ∧
    ∀ p, H p = none → Q (.ref p) (upd H p (.dK (tx m)))) := by
  intro pins s σ H xs us Q I r q
  obtain ⟨a, m, ex, hp, hd, hnd, q⟩ := q
  subst ex
  obtain ⟨u, eu, rx⟩ := vals1 r
  subst eu
  cases rx
  obtain ⟨a', ys, ea, hs, hl, ha⟩ := dp_bag (κ := Str) hd
  cases ea
  obtain ⟨its, rv, ht, hz⟩ := I.tuple hs
  obtain ⟨as, ps, prs, rfl, kv, la, lp, hh⟩ := pairs_ofT I ha rv
  obtain ⟨o, zs, hH, ho⟩ := hp
  have hk : s.heap.get? a = some o := (show ObjOk X.prog X.w H s.heap a (.frz o (.tup zs)) from I.hok a _ hH).1
  obtain ⟨o', ho', hc', n', hd'⟩ := ht
  rw [hk] at ho'
  cases ho'
  have tl : (tx m).length = m.length := List.length_map ..
  have pl : prs.length = m.length := by rw [← tl, kv.length]
  refine PySem.call_dict_pairs (knd := mixKind X.prog X.w) (kvs := prs) (PairArg.tuple a (as.map Value.ref).toArray (fun j => as.getD j 0) ps) (I.ok.hd hcalm) ⟨⟨o, n', hk, hc', ho, hd'⟩, by simp [la, lp], fun j k v e => ?_⟩ ⟨by rw [pl, lp], fun i key v e => ?_⟩ (by rw [lp, ← hl]; exact hz) fun h' tk hdd hkk => ?_
  · obtain ⟨⟨b, hb, hpa⟩, _⟩ := hh j k v e
    have e2 : as.getD j 0 = b := by rw [List.getD_eq_getElem?_getD, hb]; rfl
    show (List.map Value.ref as).toArray[j]? = some (Value.ref (as.getD j 0)) ∧ PairAt s.heap (as.getD j 0) k v
    rw [e2]
    exact ⟨by simp [hb], hpa⟩
  · obtain ⟨_, key', h1, h2⟩ := hh i key v e
    exact ⟨key', h1, h2⟩
  · have hm : (s.heap.objs.size == sysModules) = false := beq_eq_false_iff_ne.mpr (Nat.ne_of_gt I.big)
    have em : mergeK [] (tx m) = tx m := merge_snoc (k := .inl 0) (v := .non) (tx m) [] (by rw [List.nil_append]; exact tx_nodup hnd)
    have mr := KV.merge kv (kvs := []) (vs := []) .nil
    rw [em] at mr
    refine ⟨.ref s.heap.objs.size, upd H s.heap.objs.size (.dK (tx m)), I.laid (t' := tk) (fun b o e => hkk b o (by simp) e) (Nat.le_refl _) (show ObjOk X.prog X.w _ _ _ (.dK (tx m)) from ⟨?_, hm, merged [] prs, mr, hdd⟩), rfl, q _ (I.hok.fresh (Nat.le_refl _))⟩
    rw [tl, ← hl]
    exact hz
end
end K2


set_option Elab.async false
set_option linter.all false
set_option maxRecDepth 100000
set_option maxHeartbeats 4000000
namespace K2
open PySem L2 Nd Bk
def BEY : Int := 10 ^ 100
/-- the names that are used -/
structure Cn (K : PySem.W.Frag) (mg : Str → Option Value) : Prop where
  N : Nm mg
  min : mg "min" = none
  any : mg "any" = none
  dict : mg "dict" = none
  srt : mg "sorted" = none
  bey : ∃ t, mg "BEYOND_FIGURES" = some (.int BEY t)
  most : ∃ t, mg "MOST_TERMS" = some (.int 400 t)
  zero : ∃ a, mg "ZERO" = some (.ref a) ∧ ∀ H, Dp K H (.ref a) (bD ([] : Poly))
  one : ∃ a, mg "ONE" = some (.ref a) ∧ ∀ H, Dp K H (.ref a) (bD oneP)
/-- a def of the program, as it is called -/
structure Df (P : Program) (w : World) (K : PySem.W.Frag) (mg : Str → Option Value) (base : Heap) (k : Nat) (x : Str) (ps : List Str) (sp : Sp) : Prop where
  ok : ∃ (f : Addr) (fd : FuncData), mg x = some (.ref f) ∧ PySem.W.keepIn K (.ref f) = true ∧ Binds K fd ps [] ∧ FnOk P w K mg base CX0 k f fd ps sp
theorem u9 {k : Nat} {A : Around} (hr : Room k A) : A.units + 9 < cLine := by
  have := hr.un
  omega
theorem u64 {k : Nat} {A : Around} (hr : Room k A) : A.units + 64 < cLine := by
  have := hr.un
  omega
def spPut (K : PySem.W.Frag) (P : Program) (w : World) : Sp := fun vs H Q _ => ∃ (d a : Addr) (es : List Ent) (m : Mono) (c : Int), vs = [.ref d, .ref a, .int c] ∧ NdAt K P w H d es ∧ Dp K H (.ref a) (mD m) ∧ es.length ≤ 1000000 ∧
  (getN es m).getD 0 + c < BEY ∧ Q .non (upd H d (ndO P w d (putN es m a ((getN es m).getD 0 + c))))
def spChk (K : PySem.W.Frag) (P : Program) (w : World) : Sp := fun vs H Q _ => ∃ (d : Addr) (es : List Ent), vs = [.ref d] ∧ NdAt K P w H d es ∧ es.length ≤ 400 ∧ Q .non H
section
variable {P : Program} {w : World} {K : PySem.W.Frag} {mg : Str → Option Value} {base : Heap}
theorem scPut : FnScope ["found", "monomial", "coefficient"] ["found", "monomial", "coefficient"] (defScope sPut) := ⟨rfl, rfl, rfl, by decide +kernel, rfl, by decide +kernel, by decide +kernel⟩
theorem ok_put {f : Addr} {fd : FuncData} (F : Fun K "put" "put" sPut f fd) (C : Cn K mg) : FnOk P w K mg base CX0 1 f fd ["found", "monomial", "coefficient"] (spPut K P w) := by
  refine F.ok scPut (fun vs H Q E h => ?_) (fun cdv A outer s H vs Q E hr h => ?_)
  · obtain ⟨d, a, es, m, c, rfl, _⟩ := h
    rfl
  · obtain ⟨d, a, es, m, c, rfl, n, hm, hl, hc, k⟩ := h
    obtain ⟨t, ht⟩ := C.bey
    refine ⟨_, pss_one (ps_asg (pe_callB (call_min2 rfl) (by rfl) C.min (by rfl) (pa_cons (pe_op op_add (pe_ndGetOr (u9 hr) (pv 0) (pv 1) pe_int ⟨rfl, rfl, rfl, rfl⟩) (pv 2)) (pa_cons (pe_glob (v := .int BEY) (by rfl) ht ⟨_, rfl⟩) pa_nil)))
      (pg_sub (pv 0) (pv 1) (set_nd (u9 hr)))), ?_⟩
    refine ⟨_, rfl, d, es, rfl, n, _, rfl, a, m, 0, rfl, rfl, n, hm, _, rfl, _, _, rfl, rfl, _, _, rfl, ?_⟩
    rw [if_neg (by omega)]
    exact ⟨_, rfl, _, rfl, d, a, es, m, _, rfl, rfl, rfl, n, hm, (by rw [sizeLine_eq]; omega), k⟩
theorem scChk : FnScope ["terms"] ["terms"] (defScope sChk) := ⟨rfl, rfl, rfl, by decide +kernel, rfl, by decide +kernel, by decide +kernel⟩
theorem ok_chk {f : Addr} {fd : FuncData} (F : Fun K "check_terms" "check_terms" sChk f fd) (C : Cn K mg) : FnOk P w K mg base CX0 1 f fd ["terms"] (spChk K P w) := by
  refine F.ok scChk (fun vs H Q E h => ?_) (fun cdv A outer s H vs Q E hr h => ?_)
  · obtain ⟨d, es, rfl, _⟩ := h
    rfl
  · obtain ⟨d, es, rfl, n, hl, k⟩ := h
    obtain ⟨t, ht⟩ := C.most
    refine ⟨_, pss_one (ps_if (pt_cmpR op_gt (pe_callB call_lenNd (by rfl) C.N.len PySem.boot_len (pa_cons (pv 0) pa_nil)) (pe_glob (v := .int 400) (by rfl) ht ⟨_, rfl⟩) (nomark _)) (pss_one ps_never) pss_nil), ?_⟩
    refine ⟨_, rfl, d, es, rfl, n, _, _, rfl, rfl, _, rfl, ?_⟩
    rw [show decide ((400 : Int) < (es.length : Int)) = false from decide_eq_false (by omega)]
    exact iteF k
end
end K2


set_option Elab.async false
set_option linter.all false
set_option maxRecDepth 100000
set_option maxHeartbeats 4000000
namespace K2
open PySem L2 Nd Bk
theorem lock_back {H H' : Hp} {d : Addr} {u : HO} {od : Obj} (e : H d = some u) (s : Same (upd H d (.frz od u)) H') : Same H (upd H' d u) := fun a o h => by
  by_cases q : a = d
  · rw [q] at h ⊢
    rw [upd_same]
    rw [h] at e
    exact e.symm ▸ rfl
  · rw [upd_ne q]
    exact s a o (by rw [upd_ne q]; exact h)
theorem nd_back {K : PySem.W.Frag} {P : Program} {w : World} {H H' : Hp} {d : Addr} {es : List Ent} (n : NdAt K P w H d es) (s : Same H H') : NdAt K P w H' d es := ⟨s _ _ n.at_, fun e he => dp_same s (n.keys e he)⟩
theorem nd_other {K : PySem.W.Frag} {P : Program} {w : World} {H : Hp} {d D : Addr} {es : List Ent} {o : HO} (n : NdAt K P w H d es) (ne : d ≠ D) (nt : NotT (H D)) : NdAt K P w (upd H D o) d es :=
  ⟨by rw [upd_ne ne]; exact n.at_, fun e he => dp_put nt (tu_bD (κ := Str) e.1) (n.keys e he)⟩
theorem map_srt {κ : Type} [DecidableEq κ] [Ky κ] (l : Bag κ) : (l.map encP).mergeSort (PySem.W.dataLe false id) = (srt l).map encP := by
  unfold srt
  rw [List.map_mergeSort]
  intro a _ b _
  rfl
theorem al_encP {κ : Type} [DecidableEq κ] [Ky κ] (p q : κ × Int) : PySem.W.alike (encP p) (encP q) = true := by
  have ai : PySem.W.alike (.int p.2) (.int q.2) = true := by simp [PySem.W.alike]
  simp [encP, PySem.W.alike, PySem.W.alikeAll, Ky.al]
theorem dep_encP {κ : Type} [DecidableEq κ] [Ky κ] (p : κ × Int) : (encP p).depth ≤ 20 := by
  have := Ky.dep p.1
  simp only [encP, PyData.depth, PyData.depthAll]
  omega
theorem prd_of {K : PySem.W.Frag} {P : Program} {w : World} {H : Hp} {d : Addr} {es : List Ent} (n : NdAt K P w H d es) : PrD K H (es.map fun e => (V.ref e.2.1, V.int e.2.2)) ((bagOf es).map encP) := by
  have h := n.keys
  clear n
  induction es with
  | nil => exact .nil
  | cons e r ih => exact .cons ⟨_, _, rfl, h e List.mem_cons_self, .int _⟩ (ih fun x hx => h x (List.mem_cons_of_mem _ hx))
def spPoly (K : PySem.W.Frag) (P : Program) (w : World) : Sp := fun vs H Q _ => ∃ (d : Addr) (es : List Ent), vs = [.ref d] ∧ NdAt K P w H d es ∧ es.length ≤ 400 ∧ (∀ t ∈ bagOf es, t.2 < BEY ∧ t.1.length ≤ 1000 ∧ ∀ x ∈ t.1, x.2 < BEY) ∧
  ∀ (v : V) (H' : Hp), Same H H' → Dp K H' v (bD (srt (bagOf es))) → Q v H'
def spAs (K : PySem.W.Frag) (P : Program) (w : World) : Sp := fun vs H Q _ => ∃ (d : Addr) (es : List Ent), vs = [.ref d] ∧ NdAt K P w H d es ∧ ∀ (v : V) (H' : Hp), Same H H' → Dp K H' v (bD (srt (bagOf es))) → Q v H'
def spCkF (K : PySem.W.Frag) : Sp := fun vs H Q _ => ∃ (v : V) (B : Poly), vs = [v] ∧ Dp K H v (bD B) ∧ (∀ t ∈ B, t.2 < BEY ∧ t.1.length ≤ 1000 ∧ ∀ x ∈ t.1, x.2 < BEY) ∧ ∀ H', Same H H' → Q .non H'
section
variable {P : Program} {w : World} {K : PySem.W.Frag} {mg : Str → Option Value} {base : Heap}
theorem scAs : FnScope ["found"] ["found"] (defScope sAs) := ⟨rfl, rfl, rfl, by decide +kernel, rfl, by decide +kernel, by decide +kernel⟩
theorem ok_as {f : Addr} {fd : FuncData} (F : Fun K "as_terms" "as_terms" sAs f fd) (C : Cn K mg) : FnOk P w K mg base CX0 1 f fd ["found"] (spAs K P w) := by
  refine F.ok scAs (fun vs H Q E h => ?_) (fun cdv A outer s H vs Q E hr h => ?_)
  · obtain ⟨d, es, rfl, _⟩ := h
    rfl
  · obtain ⟨d, es, rfl, n, k⟩ := h
    refine ⟨_, pss_one (ps_ret (pe_callTy call_tuple_of (by rfl) C.N.tup (by rfl) (pa_cons (pe_callB (cr_sortItems rfl (u64 hr)) (by rfl) C.srt (by rfl) (pa_cons (pe_itemsV (pv 0)) pa_nil)) pa_nil))), ?_⟩
    refine ⟨_, rfl, d, _, rfl, DEnt.n n, fun p np => ?_⟩
    have n4 : NdAt K P w (upd H p (L2.DX.itemsO p d)) d es := nd_other n (ne_of_none n.at_ np) (by rw [np]; exact notT_none)
    refine ⟨p, d, _, (bagOf es).map encP, rfl, upd_same, DEnt.n n4, prd_of n4, ?_, ?_, fun l H4 ys nl s4 hys hall => ?_⟩
    · intro x hx y hy
      obtain ⟨px, _, rfl⟩ := List.mem_map.mp hx
      obtain ⟨py, _, rfl⟩ := List.mem_map.mp hy
      exact al_encP px py
    · intro x hx
      obtain ⟨px, _, rfl⟩ := List.mem_map.mp hx
      exact dep_encP px
    · rw [map_srt] at hall
      refine ⟨l, ys, rfl, .inl ⟨SqL.of hys, fun v nv => ?_⟩⟩
      have s5 : Same H H4 := fun q o hq => s4 q o (by rw [upd_ne (ne_of_none hq np)]; exact hq)
      refine k _ _ (sm_new s5 (s5.free nv)) (.tup (SqT.of upd_same) (dpAll_put (by rw [nv]; exact notT_none) (tupOnlyAll_of (tu_encPs _)) hall))
theorem scCkF : FnScope ["terms", "monomial", "coefficient", "pair"] ["terms"] (defScope sCkF) := ⟨rfl, rfl, rfl, by decide +kernel, rfl, by decide +kernel, by decide +kernel⟩
theorem ok_ckF {f : Addr} {fd : FuncData} (F : Fun K "check_figures" "check_figures" sCkF f fd) (C : Cn K mg) : FnOk P w K mg base CX0 1 f fd ["terms"] (spCkF K) := by
  refine F.ok scCkF (fun vs H Q E h => ?_) (fun cdv A outer s H vs Q E hr h => ?_)
  · obtain ⟨d, es, rfl, _⟩ := h
    rfl
  · obtain ⟨v, B, rfl, hv, hb, k⟩ := h
    obtain ⟨t, ht⟩ := C.bey
    obtain ⟨a, xs, rfl, sq, len, all⟩ := dp_bag (κ := Mono) hv
    refine ⟨_, pss_one (ps_for PassesOwn.never rfl (pi_tup (pv 0)) (pg_tup rfl (pgs_cons (pg_name (i := 1) scCkF.nd rfl (Or.inl rfl)) (pgs_cons (pg_name (i := 2) scCkF.nd rfl (Or.inl rfl)) pgs_nil)))
        (pss_one (ps_if (PW.pt (pw_or (pt_cmpR op_ge (pv 2) (pe_glob (v := .int BEY) (by rfl) ht ⟨_, rfl⟩) (nomark _))
          (pw_or1 (pt_val (pe_callB (cr_any rfl) (by rfl) C.any (by rfl) (pa_cons (pe_lc (own := [("pair", 3)]) (g := gName 3) (tt := tYes) rfl scCkF.nd (pi_tup (pv 1)) (blkOk_by (N := ["terms", "monomial", "coefficient", "pair"]) (sc := defScope sCkF) (by decide +kernel))
            (fun _ _ _ _ _ => pg_name (i := 3) scCkF.nd rfl (Or.inl rfl)) (fun _ _ _ _ _ => pts_nil)
            (fun _ _ _ _ _ => pe_cmpR op_ge (pe_ix (show IxR _ (rIx K) from ix_seq) (pv 3) pe_int (fun _ _ => rfl)) (pe_glob (v := .int BEY) (by rfl) ht ⟨_, rfl⟩) (nomark _))) pa_nil)))))) (pss_one ps_never) pss_nil))), ?_⟩
    refine ⟨_, rfl, a, rfl, ⟨_, sq⟩, ?_⟩
    refine for_tup (K := K) (a := a) (xs := xs) (fun i σ H2 => (∃ a' b, σ = [some (.ref a), a', b, none]) ∧ Same H H2) ⟨⟨none, none, rfl⟩, sm_refl⟩ (fun i σ H2 _ ⟨_, s2⟩ => sqT_same s2 sq) ?_ ?_
    · rintro i x σ H2 hi ⟨⟨a', b, rfl⟩, s2⟩
      obtain ⟨e, he, hx⟩ := bag_get all hi
      obtain ⟨T, kk, rfl, hT, hk⟩ := dp_pair (dp_same s2 hx)
      obtain ⟨m', xs', rfl, hsq, hlen, hall⟩ := dp_bag (κ := Str) hk
      obtain ⟨hc, hlm, hm⟩ := hb e (List.mem_of_getElem? he)
      refine ⟨T, _, rfl, hT, rfl, _, _, rfl, _, _, rfl, rfl, ?_⟩
      refine ⟨_, rfl, _, _, rfl, rfl, _, rfl, ?_⟩
      rw [show decide (BEY ≤ e.2) = false from decide_eq_false (by omega)]
      refine iteF ?_
      refine ⟨_, rfl, m', rfl, ⟨_, hsq⟩, fun D nD => ?_⟩
      refine lc_tup (K := K) (a := m') (xs := xs') (fun i H4 => Same H2 H4 ∧ H4 D = some (.lst ((List.replicate i false).map V.bl))) ⟨sm_new sm_refl nD, upd_same⟩ (fun i H4 _ ⟨s4, _⟩ => sqT_same s4 hsq) ?_ ?_
      · rintro j y H4 hj ⟨s4, hD⟩
        obtain ⟨p, hp, hy⟩ := bag_get hall hj
        obtain ⟨U, kk, rfl, hu, _⟩ := dp_pair (dp_same s4 hy)
        refine ⟨rfl, _, rfl, .inr (.inl ⟨U, _, _, _, rfl, rfl, hu, rfl, ?_⟩)⟩
        refine ⟨_, _, rfl, rfl, ?_⟩
        have := hm p (List.mem_of_getElem? hp)
        rw [show ((fun i j : Int => V.bl (decide (j ≤ i))) p.2 BEY) = V.bl false from congrArg V.bl (decide_eq_false (by omega))]
        have hj2 := (List.getElem?_eq_some_iff.mp hj).1
        refine ⟨_, hD, small1000 ?_, sm_new s4 nD, ?_⟩
        · rw [List.length_map, List.length_replicate]
          omega
        · rw [upd_same, List.replicate_succ']
          simp
      · rintro H4 ⟨s4, hD⟩
        refine ⟨D, List.replicate xs'.length false, rfl, SqL.of hD, _, rfl, ?_⟩
        rw [show (List.replicate xs'.length false).any id = false by simp]
        refine iteF ?_
        exact ⟨⟨_, _, rfl⟩, s2.trans s4⟩
    · rintro σ H2 ⟨⟨a', b, rfl⟩, s2⟩
      exact k H2 s2
theorem srt_lim {B : Poly} {p : Mono × Int → Prop} (h : ∀ t ∈ B, p t) : ∀ t ∈ srt B, p t := fun t ht => h t (List.mem_mergeSort.mp ht)
theorem scPoly : FnScope ["found", "made"] ["found"] (defScope sPoly) := ⟨rfl, rfl, rfl, by decide +kernel, rfl, by decide +kernel, by decide +kernel⟩
theorem ok_poly {f : Addr} {fd : FuncData} (F : Fun K "poly_of" "poly_of" sPoly f fd) (C : Cn K mg) (G : Df P w K mg base 1 "check_terms" ["terms"] (spChk K P w))
    (Ga : Df P w K mg base 1 "as_terms" ["found"] (spAs K P w)) (Gf : Df P w K mg base 1 "check_figures" ["terms"] (spCkF K)) : FnOk P w K mg base CX0 2 f fd ["found"] (spPoly K P w) := by
  obtain ⟨fc, fdc, gC, kC, bC, GC⟩ := G.ok
  obtain ⟨fa, fda, gA, kA, bA, GA⟩ := Ga.ok
  obtain ⟨ff, fdf, gF, kF, bF, GF⟩ := Gf.ok
  refine F.ok scPoly (fun vs H Q E h => ?_) (fun cdv A outer s H vs Q E hr h => ?_)
  · obtain ⟨d, es, rfl, _⟩ := h
    rfl
  · obtain ⟨d, es, rfl, n, hl, hb, k⟩ := h
    have hr1 : Room 1 _ := hr
    refine ⟨_, pss_cons (ps_expr (pe_call GC hr1 rfl gC kC bC .nil pass0 (pa_cons (pv 0) pa_nil)))
      (pss_cons (ps_set (i := 1) scPoly.nd rfl (Or.inl rfl) (pe_call GA hr1 rfl gA kA bA .nil pass0 (pa_cons (pv 0) pa_nil)))
      (pss_cons (ps_expr (pe_call GF hr1 rfl gF kF bF .nil pass0 (pa_cons (pv 1) pa_nil)))
      (pss_one (ps_ret (pv 1))))), ?_⟩
    refine ⟨_, rfl, d, es, rfl, n, hl, ?_⟩
    refine ⟨_, rfl, d, es, rfl, n, fun v H2 s2 hv => ?_⟩
    refine ⟨_, rfl, v, _, rfl, hv, srt_lim hb, fun H3 s3 => ?_⟩
    exact ⟨_, rfl, k v H3 (s2.trans s3) (dp_same s3 hv)⟩
end
end K2


set_option Elab.async false
set_option linter.all false
set_option maxRecDepth 100000
set_option maxHeartbeats 4000000
namespace K2
open PySem L2 Nd Bk
/-- a pair whose first is a tuple that is known to be without a dict -/
def PlP (K : PySem.W.Frag) (H : Hp) (x : V) (t : Mono × Int) : Prop := ∃ U a, x = .ref U ∧ SqT K H U [.ref a, .int t.2] ∧ PlainT H a ∧ Dp K H (.ref a) (bD t.1)
theorem PlP.same {K : PySem.W.Frag} {H H' : Hp} {x : V} {t : Mono × Int} (s : Same H H') (h : PlP K H x t) : PlP K H' x t := let ⟨U, a, h1, h2, h3, h4⟩ := h; ⟨U, a, h1, sqT_same s h2, h3.same s, dp_same s h4⟩
theorem PlP.put {K : PySem.W.Frag} {H : Hp} {D : Addr} {o : HO} {x : V} {t : Mono × Int} (n : NotT (H D)) (h : PlP K H x t) : PlP K (upd H D o) x t :=
  let ⟨U, a, h1, h2, h3, h4⟩ := h; ⟨U, a, h1, sqT_put n h2, h3.put n, dp_put n (tu_bD (κ := Str) t.1) h4⟩
structure Fz (K : PySem.W.Frag) (H : Hp) (T : Addr) (xs : List V) (p : Poly) : Prop where
  sq : SqT K H T xs
  all : DpAll K H xs (p.map encP)
  pl : Paired (PlP K H) xs p
theorem Fz.same {K : PySem.W.Frag} {H H' : Hp} {T : Addr} {xs : List V} {p : Poly} (s : Same H H') (h : Fz K H T xs p) : Fz K H' T xs p := ⟨sqT_same s h.sq, dpAll_same s h.all, Paired.mapP h.pl fun _ _ q => q.same s⟩
theorem Fz.put {K : PySem.W.Frag} {H : Hp} {D : Addr} {o : HO} {T : Addr} {xs : List V} {p : Poly} (n : NotT (H D)) (h : Fz K H T xs p) : Fz K (upd H D o) T xs p :=
  ⟨sqT_put n h.sq, dpAll_put n (tupOnlyAll_of (tu_encPs p)) h.all, Paired.mapP h.pl fun _ _ q => q.put n⟩
theorem Fz.len {K : PySem.W.Frag} {H : Hp} {T : Addr} {xs : List V} {p : Poly} (h : Fz K H T xs p) : xs.length = p.length := by rw [dpAll_len h.all, List.length_map]
def rTupF (K : PySem.W.Frag) : List V → Hp → VK → Prop := fun xs H Q => ∃ p ys, xs = [.ref p] ∧ SqL K H p ys ∧ ∀ l o, H l = none → o.dict = none → Q (.ref l) (upd H l (.frz o (.tup ys)))
def Szd (p : Poly) : Prop := p.length ≤ 1000 ∧ ∀ t ∈ p, t.1.length ≤ 1000
def spFroz (K : PySem.W.Frag) : Sp := fun vs H Q _ => ∃ (v : V) (p : Poly), vs = [v] ∧ Dp K H v (bD p) ∧ Szd p ∧ ∀ (T : Addr) (xs : List V) (H' : Hp), Same H H' → Fz K H' T xs p → Q (.ref T) H'
theorem list1000 {n : Nat} (h : n ≤ 1000) : n ≤ 1000000 := by omega
section
variable {P : Program} {w : World} {K : PySem.W.Frag} {mg : Str → Option Value} {base : Heap}
theorem scFroz : FnScope ["p", "monomial", "coefficient", "token", "exponent"] ["p"] (defScope sFrozen) := ⟨rfl, rfl, rfl, by decide +kernel, rfl, by decide +kernel, by decide +kernel⟩
theorem ok_froz {f : Addr} {fd : FuncData} (F : Fun K "frozen" "frozen" sFrozen f fd) (C : Cn K mg) : FnOk P w K mg base CX0 1 f fd ["p"] (spFroz K) := by
  refine F.ok scFroz (fun vs H Q E h => ?_) (fun cdv A outer s H vs Q E hr h => ?_)
  · obtain ⟨v, p, rfl, _⟩ := h
    rfl
  · obtain ⟨v, p, rfl, hd, hz, k⟩ := h
    refine ⟨_, pss_one (ps_ret (pe_callTy call_tuple_of (by rfl) C.N.tup (by rfl) (pa_cons
      (pe_lc (own := [("monomial", 1), ("coefficient", 2)]) (g := gTup K 2 (gCons (gName 1) (gCons (gName 2) gNil))) (tt := tYes) rfl scFroz.nd (pi_tup (pv 0)) (blkOk_by (N := ["p", "monomial", "coefficient", "token", "exponent"]) (sc := defScope sFrozen) (by decide +kernel))
        (fun _ _ _ _ _ => pg_tup rfl (pgs_cons (pg_name (i := 1) scFroz.nd rfl (Or.inl rfl)) (pgs_cons (pg_name (i := 2) scFroz.nd rfl (Or.inl rfl)) pgs_nil))) (fun _ _ _ _ _ => pts_nil)
        (fun _ _ _ _ _ => pe_tup (pa_cons (pe_callTy (show CallR _ _ (rTupF K) from call_tupleF) (by rfl) C.N.tup (by rfl) (pa_cons
          (pe_lc (own := [("token", 3), ("exponent", 4)]) (g := gTup K 2 (gCons (gName 3) (gCons (gName 4) gNil))) (tt := tYes) rfl scFroz.nd (show PI _ _ _ (iTup K _) from pi_tup (pv 1)) (blkOk_by (N := ["p", "monomial", "coefficient", "token", "exponent"]) (by rfl))
            (fun _ _ _ _ _ => pg_tup rfl (pgs_cons (pg_name (i := 3) scFroz.nd rfl (Or.inl rfl)) (pgs_cons (pg_name (i := 4) scFroz.nd rfl (Or.inl rfl)) pgs_nil))) (fun _ _ _ _ _ => pts_nil)
            (fun _ _ _ _ _ => pe_tup (pa_cons (pv 3) (pa_cons (pv 4) pa_nil)))) pa_nil)) (pa_cons (pv 2) pa_nil)))) pa_nil))), ?_⟩
    obtain ⟨a, xs, rfl, hs, hl, hall⟩ := dp_bag hd
    refine ⟨_, rfl, a, rfl, ⟨_, hs⟩, fun D nD => ?_⟩
    refine lc_tup (K := K) (a := a) (xs := xs) (fun i H2 => AccI K H D (p.map encP) i H2 ∧ ∃ ys, H2 D = some (.lst ys) ∧ Paired (PlP K H2) ys (p.take i)) ⟨acc_zero nD, [], upd_same, .nil⟩ (fun i H2 _ ⟨a2, _⟩ => sqT_same a2.sm hs) ?_ ?_
    · rintro i x H2 hi ⟨a2, ys, hD, hpl⟩
      obtain ⟨t, ht, hx⟩ := bag_get hall hi
      obtain ⟨T, kk, rfl, hT, hk⟩ := dp_pair (dp_same a2.sm hx)
      obtain ⟨b, zs, rfl, hb, hbl, hball⟩ := dp_bag (κ := Str) hk
      refine ⟨T, _, rfl, hT, rfl, _, _, rfl, _, _, rfl, rfl, rfl, _, rfl, b, rfl, ⟨_, hb⟩, fun D2 nD2 => ?_⟩
      have htm : t ∈ p := List.mem_of_getElem? ht
      have tl : (t.1.map encP).length ≤ 1000000 := by
        have := hz.2 t htm
        rw [List.length_map]
        omega
      refine lc_tup (K := K) (a := b) (xs := zs) (fun j H3 => AccI K H2 D2 (t.1.map encP) j H3) (acc_zero nD2) (fun j H3 _ a3 => sqT_same a3.sm hb) ?_ ?_
      · rintro j y H3 hj a3
        obtain ⟨q, hq, hy⟩ := bag_get hball hj
        obtain ⟨U, kk2, rfl, hU, hkk⟩ := dp_pair (dp_same a3.sm hy)
        cases dp_str (i := q.1) hkk
        refine ⟨U, _, rfl, hU, rfl, _, _, rfl, _, _, rfl, rfl, rfl, _, rfl, _, rfl, (by show 2 ≤ sizeLine; decide), fun W nW => ?_⟩
        exact acc_step a3 nD2 tl (tu_encPs _) (sm_new sm_refl nW) (by rw [List.getElem?_map, hq]; rfl) (dp_mk (κ := Str) (x := q.1) (SqT.of upd_same) (.str _))
      · rintro H3 a3
        obtain ⟨s3, zs2, hD2, hz2⟩ := acc_end a3 (by rw [hbl, List.length_map])
        refine ⟨D2, zs2, rfl, SqL.of hD2, fun l o nl ho => ⟨_, rfl, (by show 2 ≤ sizeLine; decide), fun W nW => ?_⟩⟩
        have s4 : Same H3 (upd H3 l (.frz o (.tup zs2))) := sm_new sm_refl nl
        have d4 : Dp K (upd H3 l (.frz o (.tup zs2))) (.ref l) (bD t.1) := .tup (.inl (.inr ⟨o, upd_same⟩)) (dpAll_same s4 hz2)
        have p4 : PlainT (upd H3 l (.frz o (.tup zs2))) l := ⟨o, zs2, upd_same, ho⟩
        generalize upd H3 l (.frz o (.tup zs2)) = H4 at s4 d4 p4 nW ⊢
        have s5 : Same H4 (upd H4 W (.tup [.ref l, .int t.2])) := sm_new sm_refl nW
        have q5 : SqT K (upd H4 W (.tup [.ref l, .int t.2])) W [.ref l, .int t.2] := SqT.of upd_same
        generalize upd H4 W (.tup [.ref l, .int t.2]) = H5 at s5 q5 ⊢
        have s25 : Same H2 H5 := (s3.trans s4).trans s5
        obtain ⟨acc, h1, h2, h3⟩ := acc_step a2 nD (by rw [List.length_map]; exact list1000 hz.1) (tu_encPs _) s25 (by rw [List.getElem?_map, ht]; rfl) (dp_mk (κ := Mono) (x := t.1) q5 (dp_same s5 d4))
        have e1 := s25 _ _ hD
        rw [h1] at e1
        cases e1
        refine ⟨_, h1, h2, h3, _, upd_same, ?_⟩
        have nt : NotT (H5 D) := by rw [h1]; exact notT_lst
        rw [List.take_succ, ht]
        exact Paired.snoc (Paired.mapP hpl fun _ _ q => (q.same s25).put nt) (PlP.put nt ⟨W, l, rfl, q5, p4.same s5, dp_same s5 d4⟩)
    · rintro H2 ⟨a2, ys, hD, hpl⟩
      obtain ⟨s2, ys', hD', hy'⟩ := acc_end a2 (by rw [hl, List.length_map])
      rw [hD] at hD'
      cases hD'
      rw [hl, List.take_length] at hpl
      refine ⟨D, ys, rfl, .inl ⟨SqL.of hD, fun l nl => ?_⟩⟩
      have nt : NotT (H2 l) := by rw [nl]; exact notT_none
      exact k l ys _ (sm_new s2 (s2.free nl)) ⟨SqT.of upd_same, dpAll_put nt (tupOnlyAll_of (tu_encPs p)) hy', Paired.mapP hpl fun _ _ q => q.put nt⟩
end
end K2


set_option Elab.async false
set_option linter.all false
set_option maxRecDepth 100000
set_option maxHeartbeats 4000000
namespace K2
open PySem L2 Nd Bk
/-! tuples stay -/
def KeepT (H H' : Hp) : Prop := (∀ a xs, H a = some (.tup xs) → H' a = some (.tup xs)) ∧ ∀ a o xs, H a = some (.frz o (.tup xs)) → H' a = some (.frz o (.tup xs))
theorem KeepT.trans {H H1 H2 : Hp} (x : KeepT H H1) (y : KeepT H1 H2) : KeepT H H2 := ⟨fun a xs h => y.1 a xs (x.1 a xs h), fun a o xs h => y.2 a o xs (x.2 a o xs h)⟩
theorem KeepT.same {H H' : Hp} (s : Same H H') : KeepT H H' := ⟨fun a xs h => s _ _ h, fun a o xs h => s _ _ h⟩
theorem KeepT.but {H H' : Hp} {d : Addr} (n : NotT (H d)) (s : But d H H') : KeepT H H' := ⟨fun a xs h => s _ _ h (fun e => n.1 xs (by rw [← e]; exact h)), fun a o xs h => s _ _ h (fun e => n.2 o xs (by rw [← e]; exact h))⟩
theorem KeepT.upd {H : Hp} {d : Addr} {o : HO} (n : NotT (H d)) : KeepT H (upd H d o) := .but n But.upd
theorem sqT_kt {K : PySem.W.Frag} {H H' : Hp} (k : KeepT H H') {a : Addr} {xs : List V} (h : SqT K H a xs) : SqT K H' a xs := by
  rcases h with (h | ⟨o, h⟩) | h
  · exact .inl (.inl (k.1 _ _ h))
  · exact .inl (.inr ⟨o, k.2 _ _ _ h⟩)
  · exact .inr h
mutual
theorem dp_kt0 {K : PySem.W.Frag} {H H' : Hp} (k : KeepT H H') : ∀ {v : V} {d : PyData}, Dp K H v d → tupOnly d = true → Dp K H' v d
  | _, _, .non => fun _ => .non
  | _, _, .bl b => fun _ => .bl b
  | _, _, .int i => fun _ => .int i
  | _, _, .str x => fun _ => .str x
  | _, _, .lst h a => fun t => by simp [tupOnly] at t
  | _, _, .tup h a => fun t => .tup (sqT_kt k h) (dpAll_kt0 k a (by simpa [tupOnly] using t))
theorem dpAll_kt0 {K : PySem.W.Frag} {H H' : Hp} (k : KeepT H H') : ∀ {v : List V} {d : List PyData}, DpAll K H v d → tupOnlyAll d = true → DpAll K H' v d
  | _, _, .nil => fun _ => .nil
  | _, _, .cons h r => fun t => by
    simp only [tupOnlyAll, Bool.and_eq_true] at t
    exact .cons (dp_kt0 k h t.1) (dpAll_kt0 k r t.2)
end
theorem bD_kt {K : PySem.W.Frag} {H H' : Hp} {κ : Type} [DecidableEq κ] [Ky κ] [Tu κ] (k : KeepT H H') {v : V} {l : Bag κ} (h : Dp K H v (bD l)) : Dp K H' v (bD l) := dp_kt0 k h (tu_bD l)
theorem bA_kt {K : PySem.W.Frag} {H H' : Hp} {κ : Type} [DecidableEq κ] [Ky κ] [Tu κ] (k : KeepT H H') {v : List V} {l : Bag κ} (h : DpAll K H v (l.map encP)) : DpAll K H' v (l.map encP) := dpAll_kt0 k h (tupOnlyAll_of (tu_encPs l))
theorem PlP.kt {K : PySem.W.Frag} {H H' : Hp} {x : V} {t : Mono × Int} (k : KeepT H H') (h : PlP K H x t) : PlP K H' x t := let ⟨U, a, h1, h2, ⟨o, xs, h3, h5⟩, h4⟩ := h; ⟨U, a, h1, sqT_kt k h2, ⟨o, xs, k.2 _ _ _ h3, h5⟩, bD_kt (κ := Str) k h4⟩
theorem Fz.kt {K : PySem.W.Frag} {H H' : Hp} (k : KeepT H H') {T : Addr} {xs : List V} {p : Poly} (h : Fz K H T xs p) : Fz K H' T xs p := ⟨sqT_kt k h.sq, bA_kt k h.all, Paired.mapP h.pl fun _ _ q => q.kt k⟩
theorem sm_but {H H3 H5 : Hp} {d : Addr} (s : Same H H3) (n : H d = none) (b : But d H3 H5) : Same H H5 := fun a o h => b _ _ (s _ _ h) (ne_of_none h n)
/-! sizes -/
section
variable {κ : Type} [DecidableEq κ] [Ky κ]
theorem put_mem (l : Bag κ) (k : κ) (v : Int) : (k, v) ∈ put l k v := by
  unfold put
  split
  · rename_i h
    obtain ⟨u, hu⟩ := Option.isSome_iff_exists.mp h
    exact List.mem_map.mpr ⟨(k, u), look_mem hu, by simp⟩
  · simp
theorem S_take_le {ts : Bag κ} (h : Pos ts) (i : Nat) : S (ts.take i) ≤ S ts := by
  have e : S ts = S (ts.take i) + S (ts.drop i) := by rw [← S_append, List.take_append_drop]
  have := S_nonneg (l := ts.drop i) fun p hp => h p (List.mem_of_mem_drop hp)
  omega
theorem look_le {ts : Bag κ} (h : Pos ts) {i : Nat} {p : κ × Int} (e : ts[i]? = some p) : (look (book (ts.take i)) p.1).getD 0 + p.2 ≤ S ts := by
  have ht : ts.take (i + 1) = ts.take i ++ [p] := by rw [List.take_succ, e]; rfl
  have hp : Pos (ts.take (i + 1)) := fun q hq => h q (List.mem_of_mem_take hq)
  have h1 : (p.1, (look (book (ts.take i)) p.1).getD 0 + p.2) ∈ book (ts.take (i + 1)) := by
    rw [ht, book_snoc]
    exact put_mem _ _ _
  have h2 := le_S (pos_book hp) h1
  rw [S_book] at h2
  have h3 := S_take_le h (i + 1)
  exact Int.le_trans h2 h3
theorem len_le_S {m : Bag κ} (h : Pos m) : (m.length : Int) ≤ S m := by
  induction m with
  | nil => exact Int.le_refl _
  | cons x r ih =>
    have h1 := h x List.mem_cons_self
    have h2 := ih fun q hq => h q (List.mem_cons_of_mem _ hq)
    have e : S (x :: r) = x.2 * 1 + S r := by unfold S pr; simp
    rw [List.length_cons]
    omega
end
theorem szd_of {p : Poly} (h : POk p) (hl : p.length ≤ 1000) (hd : Dg p 1000) : Szd p := ⟨hl, fun t ht => by
  have h1 := len_le_S (h.2.2 t ht).2
  have h2 := hd t ht
  omega⟩
theorem book_keys {Pk : Mono → Prop} {ts : Poly} (h : ∀ t ∈ ts, Pk t.1) : ∀ t ∈ book ts, Pk t.1 := key_book ts [] (fun _ q => nomatch q) h
theorem poly_lim {ts : Poly} (hp : Pos ts) (hs : S ts < BEY) (hm : ∀ t ∈ ts, Pos t.1 ∧ S t.1 ≤ 1000) : ∀ t ∈ book ts, t.2 < BEY ∧ t.1.length ≤ 1000 ∧ ∀ x ∈ t.1, x.2 < BEY := fun t ht => by
  have h1 := le_S (pos_book hp) ht
  rw [S_book] at h1
  obtain ⟨h2, h3⟩ := book_keys (Pk := fun m => Pos m ∧ S m ≤ 1000) hm t ht
  have h4 := len_le_S h2
  refine ⟨by omega, by omega, fun x hx => ?_⟩
  have h5 := le_S h2 hx
  have : (1000 : Int) < BEY := by decide
  omega
theorem rcat_mk {K : PySem.W.Frag} {H : Hp} {a b : Addr} {xs ys : List V} {Q : VK} (ha : SqT K H a xs) (hb : SqT K H b ys) (hz : xs.length + ys.length ≤ sizeLine) (h : ∀ r H', Same H H' → SqT K H' r (xs ++ ys) → Q (.ref r) H') : rCatA K (.ref a) (.ref b) H Q :=
  ⟨a, b, xs, ys, rfl, rfl, ha, hb, hz, fun e => h b H sm_refl (by rw [e]; exact hb), fun _ e => h a H sm_refl (by rw [e, List.append_nil]; exact ha), fun _ _ p np => h p _ (sm_new sm_refl np) (SqT.of upd_same)⟩
theorem nd_put {K : PySem.W.Frag} {P : Program} {w : World} {H : Hp} {d a : Addr} {es : List Ent} {m : Mono} {c : Int} (n : NdAt K P w H d es) (hm : Dp K H (.ref a) (mD m)) : NdAt K P w (upd H d (ndO P w d (putN es m a c))) d (putN es m a c) := by
  have kt : KeepT H (upd H d (ndO P w d (putN es m a c))) := .upd (by rw [n.at_]; exact notT_nd)
  refine ⟨upd_same, fun e he => ?_⟩
  have : ∀ e ∈ putN es m a c, Dp K H (.ref e.2.1) (mD e.1) := fun e he => by
    unfold putN at he
    split at he
    · obtain ⟨e0, h0, rfl⟩ := List.mem_map.mp he
      split
      · exact n.keys e0 h0
      · exact n.keys e0 h0
    · rcases List.mem_append.mp he with h | h
      · exact n.keys e h
      · rw [List.mem_singleton.mp h]
        exact hm
  exact bD_kt (κ := Str) kt (this e he)
def spPlus (K : PySem.W.Frag) : Sp := fun vs H Q _ => ∃ (x y : V) (p q : Poly), vs = [x, y] ∧ Dp K H x (bD p) ∧ Dp K H y (bD q) ∧ POk p ∧ POk q ∧ p.length + q.length ≤ 400 ∧ S p + S q < BEY ∧ Dg p 1000 ∧ Dg q 1000 ∧
  ∀ (v : V) (H' : Hp), Same H H' → Dp K H' v (bD (plusP p q)) → Q v H'
section
variable {P : Program} {w : World} {K : PySem.W.Frag} {mg : Str → Option Value} {base : Heap}
theorem scPlus : FnScope ["p", "q", "found", "monomial", "coefficient"] ["p", "q"] (defScope sPlus) := ⟨rfl, rfl, rfl, by decide +kernel, rfl, by decide +kernel, by decide +kernel⟩
theorem ok_plus {f : Addr} {fd : FuncData} (F : Fun K "plus" "plus" sPlus f fd) (C : Cn K mg) (Gf : Df P w K mg base 1 "frozen" ["p"] (spFroz K)) (Gp : Df P w K mg base 1 "put" ["found", "monomial", "coefficient"] (spPut K P w))
    (Gy : Df P w K mg base 2 "poly_of" ["found"] (spPoly K P w)) : FnOk P w K mg base CX0 3 f fd ["p", "q"] (spPlus K) := by
  obtain ⟨ff, fdf, gF, kF, bF, GF⟩ := Gf.ok
  obtain ⟨fp, fdp, gP, kP, bP, GP⟩ := Gp.ok
  obtain ⟨fy, fdy, gY, kY, bY, GY⟩ := Gy.ok
  refine F.ok scPlus (fun vs H Q E h => ?_) (fun cdv A outer s H vs Q E hr h => ?_)
  · obtain ⟨x, y, p, q, rfl, _⟩ := h
    rfl
  · obtain ⟨x, y, p, q, rfl, hx, hy, okp, okq, hl, hs, dp, dq, k⟩ := h
    have hr1 : Room 1 _ := hr.mono (by decide)
    have hr2 : Room 2 _ := hr
    refine ⟨_, pss_cons (ps_set (i := 2) scPlus.nd rfl (Or.inl rfl) (show PE _ _ (tNdNew P w) from pe_ndNew))
      (pss_cons (ps_for PassesOwn.never rfl (pi_tup (pe_op op_catA (pe_call GF hr1 rfl gF kF bF .nil pass0 (pa_cons (pv 0) pa_nil)) (pe_call GF hr1 rfl gF kF bF .nil pass0 (pa_cons (pv 1) pa_nil))))
        (pg_tup rfl (pgs_cons (pg_name (i := 3) scPlus.nd rfl (Or.inl rfl)) (pgs_cons (pg_name (i := 4) scPlus.nd rfl (Or.inl rfl)) pgs_nil)))
        (pss_one (ps_expr (pe_call GP hr1 rfl gP kP bP .nil pass0 (pa_cons (pv 2) (pa_cons (pv 3) (pa_cons (pv 4) pa_nil)))))))
      (pss_one (ps_ret (pe_call GY hr2 rfl gY kY bY .nil pass0 (pa_cons (pv 2) pa_nil))))), ?_⟩
    intro d nd
    have s0 : Same H (upd H d (ndO P w d [])) := sm_new sm_refl nd
    have n0 : NdAt K P w (upd H d (ndO P w d [])) d [] := ⟨upd_same, fun e he => nomatch he⟩
    generalize upd H d (ndO P w d []) = H0 at s0 n0 ⊢
    refine ⟨_, rfl, x, p, rfl, dp_same s0 hx, szd_of okp (by omega) dp, fun T1 xs H1 s1 z1 => ?_⟩
    refine ⟨_, rfl, y, q, rfl, dp_same (s0.trans s1) hy, szd_of okq (by omega) dq, fun T2 ys H2 s2 z2 => ?_⟩
    have z1' := z1.same s2
    refine rcat_mk z1'.sq z2.sq (by rw [z1.len, z2.len, sizeLine_eq]; omega) fun r H3 s3 hr3 => ?_
    have s03 := (s1.trans s2).trans s3
    have all3 : DpAll K H3 (xs ++ ys) ((p ++ q).map encP) := by
      rw [List.map_append]
      exact dpAll_append (z1'.same s3).all (z2.same s3).all
    have lz : (xs ++ ys).length = (p ++ q).length := by rw [List.length_append, List.length_append, z1.len, z2.len]
    have n3 := nd_back n0 s03
    have nt3 : NotT (H3 d) := by rw [n3.at_]; exact notT_nd
    have pos : Pos (p ++ q) := pos_append okp.2.1 okq.2.1
    have sum : S (p ++ q) < BEY := by rw [S_append]; exact hs
    have len : (p ++ q).length ≤ 400 := by rw [List.length_append]; exact hl
    refine ⟨r, rfl, ⟨_, hr3⟩, ?_⟩
    refine for_tup (K := K) (a := r) (xs := xs ++ ys) (fun i σ H4 => (∃ a b, σ = [some x, some y, some (.ref d), a, b]) ∧ But d H3 H4 ∧ ∃ es, NdAt K P w H4 d es ∧ bagOf es = book ((p ++ q).take i)) ⟨⟨none, none, rfl⟩, But.refl, [], n3, rfl⟩
      (fun i σ H4 _ ⟨_, b4, _⟩ => sqT_kt (.but nt3 b4) hr3) ?_ ?_
    · rintro i u σ H4 hi ⟨⟨a, b, rfl⟩, b4, es, n4, e4⟩
      have k4 : KeepT H3 H4 := .but nt3 b4
      obtain ⟨t, ht, hu⟩ := bag_get (bA_kt k4 all3) hi
      obtain ⟨T, kk, rfl, hT, hk⟩ := dp_pair hu
      obtain ⟨b', zs, rfl, _⟩ := dp_bag (κ := Str) hk
      refine ⟨T, _, rfl, hT, rfl, _, _, rfl, _, _, rfl, rfl, _, rfl, _, rfl, _, rfl, ?_⟩
      have le := look_le pos ht
      rw [← e4, look_bagOf] at le
      have el : es.length ≤ 400 := by
        rw [← bagOf_len, e4]
        refine Nat.le_trans (len_book _) ?_
        rw [List.length_take]
        omega
      refine ⟨d, b', es, t.1, t.2, rfl, n4, hk, by omega, by omega, ?_⟩
      refine ⟨⟨_, _, rfl⟩, b4.trans But.upd, _, nd_put n4 hk, ?_⟩
      · rw [bagOf_put, List.take_succ, ht, show (some t).toList = [t] from rfl, book_snoc, ← e4, ← look_bagOf]
        rfl
    · rintro σ H4 ⟨⟨a, b, rfl⟩, b4, es, n4, e4⟩
      rw [lz, List.take_length] at e4
      refine ⟨_, rfl, d, es, rfl, n4, ?_, ?_, fun v H5 s5 h5 => ?_⟩
      · rw [← bagOf_len, e4]
        exact Nat.le_trans (len_book _) len
      · rw [e4]
        exact poly_lim pos sum fun t ht => (List.mem_append.mp ht).elim (fun h => ⟨(okp.2.2 t h).2, dp t h⟩) fun h => ⟨(okq.2.2 t h).2, dq t h⟩
      · rw [e4] at h5
        exact k v H5 ((sm_but (s0.trans s03) nd b4).trans s5) h5
end
end K2


set_option Elab.async false
set_option linter.all false
set_option maxRecDepth 100000
set_option maxHeartbeats 4000000
namespace K2
open PySem L2 Nd Bk
/-! a dict of tokens -/
theorem valV_tx (m : Mono) (t : Str) : valV (tx m) (.inr t) = (look m t).map V.int := by
  induction m with
  | nil => rfl
  | cons p r ih =>
    unfold valV look tx at ih ⊢
    rw [List.map_cons, List.find?_cons, List.find?_cons]
    by_cases h : p.1 = t
    · simp [h]
    · have h2 : ¬ (Sum.inr p.1 : Key) = Sum.inr t := fun e => h (Sum.inr.inj e)
      simp only [decide_eq_false h, decide_eq_false h2]
      exact ih
theorem putK_tx (m : Mono) (t : Str) (c : Int) : putK (tx m) (.inr t) (.int c) = tx (put m t c) := by
  unfold putK put
  rw [valV_any, valV_tx, Option.isSome_map]
  split
  · unfold tx
    rw [List.map_map, List.map_map]
    refine List.map_congr_left fun e _ => ?_
    show (if (Sum.inr e.1 : Key) = Sum.inr t then _ else _) = ((fun p : Str × Int => ((Sum.inr p.1 : Key), V.int p.2)) (if e.1 = t then (e.1, c) else e))
    by_cases h : e.1 = t
    · rw [if_pos h, if_pos (by rw [h])]
    · rw [if_neg h, if_neg fun z => h (Sum.inr.inj z)]
  · unfold tx
    rw [List.map_append]
    rfl
theorem getD_tx (m : Mono) (t : Str) : (valV (tx m) (.inr t)).getD (.int 0) = .int ((look m t).getD 0) := by
  rw [valV_tx]
  cases look m t <;> rfl
theorem prd_tx {K : PySem.W.Frag} {H : Hp} (m : Mono) : PrD K H ((tx m).map fun kv => (kV kv.1, kv.2)) (m.map encP) := by
  induction m with
  | nil => exact .nil
  | cons e r ih => exact .cons ⟨_, _, rfl, .str _, .int _⟩ ih
theorem tx_len (m : Mono) : (tx m).length = m.length := List.length_map ..
section
variable {κ : Type} [DecidableEq κ] [Ky κ]
theorem asc_nodup {m : Bag κ} (h : Asc m) : (m.map (·.1)).Nodup := by
  rw [List.Nodup, List.pairwise_map]
  exact List.Pairwise.imp (fun h => lt_ne h) h
theorem fold_id : ∀ (m l : Bag κ), ((l ++ m).map (·.1)).Nodup → m.foldl add1 l = l ++ m
  | [], l, _ => by rw [List.append_nil]; rfl
  | p :: r, l, h => by
    have hn : look l p.1 = none := by
      cases e : look l p.1 with
      | none => rfl
      | some u =>
        have h1 := look_mem e
        rw [List.map_append, List.nodup_append] at h
        exact absurd rfl (h.2.2 p.1 (List.mem_map.mpr ⟨_, h1, rfl⟩) p.1 (by simp))
    have e1 : add1 l p = l ++ [p] := by
      unfold add1 put
      rw [hn]
      simp
    rw [List.foldl_cons, e1, fold_id r _ (by simpa using h)]
    simp
theorem book_id {m : Bag κ} (h : (m.map (·.1)).Nodup) : book m = m := by
  unfold book
  rw [fold_id m [] (by simpa using h)]
  rfl
theorem book_app (l m : Bag κ) : book (l ++ m) = m.foldl add1 (book l) := by simp [book]
end
def spJoin (K : PySem.W.Frag) : Sp := fun vs H Q _ => ∃ (a b : Addr) (m n : Mono), vs = [.ref a, .ref b] ∧ PlainT H a ∧ Dp K H (.ref a) (mD m) ∧ Dp K H (.ref b) (mD n) ∧ MOk m ∧ MOk n ∧ m.length ≤ 1000 ∧ n.length ≤ 1000 ∧
  ∀ (c : Addr) (H' : Hp), Same H H' → Dp K H' (.ref c) (mD (mulM m n)) → Q (.ref c) H'
section
variable {P : Program} {w : World} {K : PySem.W.Frag} {mg : Str → Option Value} {base : Heap}
theorem scJoin : FnScope ["monomial", "another", "exponents", "token", "exponent"] ["monomial", "another"] (defScope sJoin) := ⟨rfl, rfl, rfl, by decide +kernel, rfl, by decide +kernel, by decide +kernel⟩
theorem u1 {k : Nat} {A : Around} (hr : Room k A) : A.units + 1 < cLine := by
  have := hr.un
  omega
theorem ok_join {f : Addr} {fd : FuncData} (F : Fun K "_joined" "_joined" sJoin f fd) (C : Cn K mg) : FnOk P w K mg base CX0 1 f fd ["monomial", "another"] (spJoin K) := by
  refine F.ok scJoin (fun vs H Q E h => ?_) (fun cdv A outer s H vs Q E hr h => ?_)
  · obtain ⟨a, b, m, n, rfl, _⟩ := h
    rfl
  · obtain ⟨a, b, m, n, rfl, hp, hm, hn, okm, okn, lm, ln, k⟩ := h
    refine ⟨_, pss_cons (ps_if (pt_not (pt_truth (pv 0) (fun _ => rfl))) (pss_one (ps_ret (pv 1))) pss_nil)
      (pss_cons (ps_if (pt_not (pt_truth (pv 1) (fun _ => rfl))) (pss_one (ps_ret (pv 0))) pss_nil)
      (pss_cons (ps_set (i := 2) scJoin.nd rfl (Or.inl rfl) (pe_callTy (call_dictT rfl) (by rfl) C.dict (by rfl) (pa_cons (pv 0) pa_nil)))
      (pss_cons (ps_for PassesOwn.never rfl (pi_tup (pv 1)) (pg_tup rfl (pgs_cons (pg_name (i := 3) scJoin.nd rfl (Or.inl rfl)) (pgs_cons (pg_name (i := 4) scJoin.nd rfl (Or.inl rfl)) pgs_nil)))
        (pss_one (ps_dput (u1 hr) (pv 2) (pv 3) (pe_op op_add (pe_dget2 (u1 hr) (pv 2) (pv 3) pe_int ⟨rfl, rfl, rfl, rfl⟩) (pv 4)) rfl)))
      (pss_one (ps_ret (pe_callTy call_tuple_of (by rfl) C.N.tup (by rfl) (pa_cons (pe_callB (cr_sortItems rfl (u64 hr)) (by rfl) C.srt (by rfl) (pa_cons (pe_itemsV (pv 2)) pa_nil)) pa_nil))))))), ?_⟩
    obtain ⟨a', xs, ea, hxs, lxs, hxall⟩ := dp_bag (κ := Str) hm
    cases ea
    obtain ⟨b', ys, eb, hys, lys, hyall⟩ := dp_bag (κ := Str) hn
    cases eb
    refine ⟨_, rfl, !xs.isEmpty, .inr (.inl ⟨xs, hxs, rfl⟩), ?_⟩
    by_cases em : m = []
    · subst em
      cases xs with
      | cons _ _ => simp at lxs
      | nil =>
        refine iteT ⟨_, rfl, k b H sm_refl ?_⟩
        rw [mulM_nil_left okn]
        exact hn
    have exs : xs.isEmpty = false := by
      cases xs with
      | nil => exact absurd (List.length_eq_zero_iff.mp lxs.symm) em
      | cons _ _ => rfl
    rw [exs]
    refine iteF ?_
    refine ⟨_, rfl, !ys.isEmpty, .inr (.inl ⟨ys, hys, rfl⟩), ?_⟩
    by_cases en : n = []
    · subst en
      cases ys with
      | cons _ _ => simp at lys
      | nil =>
        refine iteT ⟨_, rfl, k a H sm_refl ?_⟩
        rw [mulM_nil_right okm]
        exact hm
    have eys : ys.isEmpty = false := by
      cases ys with
      | nil => exact absurd (List.length_eq_zero_iff.mp lys.symm) en
      | cons _ _ => rfl
    rw [eys]
    refine iteF ?_
    refine ⟨_, rfl, a, m, rfl, hp, hm, asc_nodup okm.1, fun d nd => ?_⟩
    refine ⟨_, rfl, b, rfl, ⟨_, by first | exact sqT_put (by rw [nd]; exact notT_none) hys⟩, ?_⟩
    have s0 : Same H (upd H d (.dK (tx m))) := sm_new sm_refl nd
    have d0 : upd H d (.dK (tx m)) d = some (.dK (tx m)) := upd_same
    generalize upd H d (.dK (tx m)) = H0 at s0 d0 ⊢
    have nt : NotT (H0 d) := by rw [d0]; exact notT_dK
    refine for_tup (K := K) (a := b) (xs := ys) (fun i σ H4 => (∃ u v, σ = [some (.ref a), some (.ref b), some (.ref d), u, v]) ∧ But d H0 H4 ∧ H4 d = some (.dK (tx (book (m ++ n.take i))))) ⟨⟨none, none, rfl⟩, But.refl, by rw [List.take_zero, List.append_nil, book_id (asc_nodup okm.1)]; exact d0⟩
      (fun i σ H4 _ ⟨_, b4, _⟩ => sqT_kt (.but nt b4) (sqT_same s0 hys)) ?_ ?_
    · rintro i y σ H4 hi ⟨⟨u, v, rfl⟩, b4, h4⟩
      obtain ⟨t, ht, hy⟩ := bag_get (bA_kt (.but nt b4) (dpAll_same s0 hyall)) hi
      obtain ⟨T, kk, rfl, hT, hk⟩ := dp_pair hy
      cases dp_str (i := t.1) hk
      refine ⟨T, _, rfl, hT, rfl, _, _, rfl, _, _, rfl, rfl, ?_⟩
      refine ⟨_, rfl, d, rfl, .inl ⟨_, .inl h4⟩, _, rfl, _, DGet.k (k := Sum.inr t.1) h4, _, rfl, ?_⟩
      rw [getD_tx]
      have hlen : (tx (book (m ++ n.take i))).length ≤ 2000 := by
        rw [tx_len]
        refine Nat.le_trans (len_book _) ?_
        rw [List.length_append, List.length_take]
        omega
      refine ⟨_, _, rfl, rfl, _, rfl, _, rfl, d, _, rfl, DPut.k (k := Sum.inr t.1) h4 (by rw [sizeLine_eq]; omega), ⟨_, _, rfl⟩, b4.trans But.upd, ?_⟩
      rw [upd_same, putK_tx, List.take_succ, ht, show (some t).toList = [t] from rfl, ← List.append_assoc, book_snoc]
      rfl
    · rintro σ H4 ⟨⟨u, v, rfl⟩, b4, h4⟩
      rw [lys, List.take_length] at h4
      have s4 : Same H H4 := sm_but s0 nd b4
      refine ⟨_, rfl, d, _, rfl, DEnt.k h4, fun p np => ?_⟩
      have h5 : upd H4 p (L2.DX.itemsO p d) d = some (.dK (tx (book (m ++ n)))) := by
        rw [upd_ne (ne_of_none h4 np)]
        exact h4
      refine ⟨p, d, _, (book (m ++ n)).map encP, rfl, upd_same, DEnt.k h5, prd_tx _, ?_, ?_, fun l H5 zs nl s5 hzs hall => ?_⟩
      · intro x hx y hy
        obtain ⟨px, _, rfl⟩ := List.mem_map.mp hx
        obtain ⟨py, _, rfl⟩ := List.mem_map.mp hy
        exact al_encP px py
      · intro x hx
        obtain ⟨px, _, rfl⟩ := List.mem_map.mp hx
        exact dep_encP px
      · rw [map_srt] at hall
        refine ⟨l, zs, rfl, .inl ⟨SqL.of hzs, fun v nv => ?_⟩⟩
        have s6 : Same H4 H5 := fun q o hq => s5 q o (by rw [upd_ne (ne_of_none hq np)]; exact hq)
        exact k _ _ (sm_new (s4.trans s6) ((s4.trans s6).free nv)) (.tup (SqT.of upd_same) (dpAll_put (by rw [nv]; exact notT_none) (tupOnlyAll_of (tu_encPs _)) hall))
end
end K2


set_option Elab.async false
set_option linter.all false
set_option maxRecDepth 100000
set_option maxHeartbeats 4000000
namespace K2
open PySem L2 Nd Bk
theorem prods_cons (t : Mono × Int) (p q : Poly) : prods (t :: p) q = q.map (fun b => (mulM t.1 b.1, t.2 * b.2)) ++ prods p q := by simp [prods]
theorem prods_app (p p' q : Poly) : prods (p ++ p') q = prods p q ++ prods p' q := by simp [prods]
theorem split_at {α : Type} {l : List α} {i : Nat} {x : α} (h : l[i]? = some x) : l = l.take i ++ x :: l.drop (i + 1) := by
  have h1 := (List.getElem?_eq_some_iff.mp h)
  obtain ⟨h2, h3⟩ := h1
  rw [← h3, ← List.drop_eq_getElem_cons h2, List.take_append_drop]
theorem prods_split {p q : Poly} {i j : Nat} {t u : Mono × Int} (h : p[i]? = some t) (h2 : q[j]? = some u) :
    ∃ B, prods p q = (prods (p.take i) q ++ (q.take j).map fun b => (mulM t.1 b.1, t.2 * b.2)) ++ (mulM t.1 u.1, t.2 * u.2) :: B := by
  refine ⟨(q.drop (j + 1)).map (fun b => (mulM t.1 b.1, t.2 * b.2)) ++ prods (p.drop (i + 1)) q, ?_⟩
  have e1 : prods p q = prods (p.take i ++ t :: p.drop (i + 1)) q := by rw [← split_at h]
  have e2 : q.map (fun b => (mulM t.1 b.1, t.2 * b.2)) = (q.take j ++ u :: q.drop (j + 1)).map fun b => (mulM t.1 b.1, t.2 * b.2) := by rw [← split_at h2]
  rw [e1, prods_app, prods_cons, e2, List.map_append, List.map_cons]
  simp
section
variable {κ : Type} [DecidableEq κ] [Ky κ]
theorem look_le2 {A B : Bag κ} {p : κ × Int} (h : Pos (A ++ p :: B)) : (look (book A) p.1).getD 0 + p.2 ≤ S (A ++ p :: B) := by
  have e : (A ++ p :: B)[A.length]? = some p := by simp
  have := look_le h e
  rw [List.take_left] at this
  exact this
end
theorem pos_of_prods {p q : Poly} (hp : POk p) (hq : POk q) : Pos (prods p q) := pos_prods hp.2.1 hq.2.1
theorem S_prods (p q : Poly) : S (prods p q) = S p * S q := by
  have h := S_times p q
  unfold timesP at h
  rw [S_nf] at h
  exact h
theorem prods_take_succ {p q : Poly} {i : Nat} {t : Mono × Int} (h : p[i]? = some t) : prods (p.take (i + 1)) q = prods (p.take i) q ++ q.map fun b => (mulM t.1 b.1, t.2 * b.2) := by
  rw [List.take_succ, h, show (some t).toList = [t] from rfl, prods_app, prods_cons]
  simp [prods]
theorem prods_dg {p q : Poly} (okp : POk p) (okq : POk q) (h : ∀ a ∈ p, ∀ b ∈ q, S a.1 + S b.1 ≤ 1000) : ∀ t ∈ prods p q, Pos t.1 ∧ S t.1 ≤ 1000 := fun t ht => by
  obtain ⟨a, ha, b, hb, rfl⟩ := mem_prods ht
  refine ⟨(mulM_ok (okp.2.2 a ha) (okq.2.2 b hb)).2, ?_⟩
  show S (mulM a.1 b.1) ≤ 1000
  rw [S_mulM]
  exact h a ha b hb
theorem natAbs_bey {c : Int} (h0 : 0 ≤ c) (h : c < BEY) : c.natAbs < 2 ^ 400 := by
  have e : (c.natAbs : Int) = c := Int.natAbs_of_nonneg h0
  have hb : BEY ≤ ((2 ^ 400 : Nat) : Int) := by decide +kernel
  omega
/-- what a product asks of its factors -/
structure Mul (p q : Poly) : Prop where
  okp : POk p
  okq : POk q
  len : p.length * q.length ≤ 400
  lp : p.length ≤ 1000
  lq : q.length ≤ 1000
  sum : S p * S q < BEY
  sp : S p < BEY
  sq : S q < BEY
  dp : Dg p 1000
  dq : Dg q 1000
  deg : ∀ a ∈ p, ∀ b ∈ q, S a.1 + S b.1 ≤ 1000
def spProd (K : PySem.W.Frag) (P : Program) (w : World) : Sp := fun vs H Q _ => ∃ (T1 T2 : Addr) (xs ys : List V) (p q : Poly), vs = [.ref T1, .ref T2] ∧ Fz K H T1 xs p ∧ Fz K H T2 ys q ∧ Mul p q ∧
  ∀ (d : Addr) (es : List Ent) (H' : Hp), Same H H' → NdAt K P w H' d es → bagOf es = book (prods p q) → Q (.ref d) H'
def spTimes (K : PySem.W.Frag) : Sp := fun vs H Q _ => ∃ (x y : V) (p q : Poly), vs = [x, y] ∧ Dp K H x (bD p) ∧ Dp K H y (bD q) ∧ Mul p q ∧ ∀ (v : V) (H' : Hp), Same H H' → Dp K H' v (bD (timesP p q)) → Q v H'
section
variable {P : Program} {w : World} {K : PySem.W.Frag} {mg : Str → Option Value} {base : Heap}
theorem scProd : FnScope ["terms", "others", "found", "monomial", "coefficient", "another", "factor"] ["terms", "others"] (defScope sProd) := ⟨rfl, rfl, rfl, by decide +kernel, rfl, by decide +kernel, by decide +kernel⟩
theorem ok_prod {f : Addr} {fd : FuncData} (F : Fun K "product_terms" "product_terms" sProd f fd) (C : Cn K mg) (Gj : Df P w K mg base 1 "_joined" ["monomial", "another"] (spJoin K)) (Gp : Df P w K mg base 1 "put" ["found", "monomial", "coefficient"] (spPut K P w))
    (Gc : Df P w K mg base 1 "check_terms" ["terms"] (spChk K P w)) : FnOk P w K mg base CX0 2 f fd ["terms", "others"] (spProd K P w) := by
  obtain ⟨fj, fdj, gJ, kJ, bJ, GJ⟩ := Gj.ok
  obtain ⟨fp, fdp, gP, kP, bP, GP⟩ := Gp.ok
  obtain ⟨fc, fdc, gC, kC, bC, GC⟩ := Gc.ok
  refine F.ok scProd (fun vs H Q E h => ?_) (fun cdv A outer s H vs Q E hr h => ?_)
  · obtain ⟨x, y, xs, ys, p, q, rfl, _⟩ := h
    rfl
  · obtain ⟨T1, T2, xs, ys, p, q, rfl, hx, hy, M, k⟩ := h
    have hr1 : Room 1 _ := hr
    refine ⟨_, pss_cons (ps_set (i := 2) scProd.nd rfl (Or.inl rfl) (show PE _ _ (tNdNew P w) from pe_ndNew))
      (pss_cons (ps_for PassesOwn.never rfl (pi_tup (pv 0)) (pg_tup rfl (pgs_cons (pg_name (i := 3) scProd.nd rfl (Or.inl rfl)) (pgs_cons (pg_name (i := 4) scProd.nd rfl (Or.inl rfl)) pgs_nil)))
        (pss_cons (ps_for PassesOwn.never rfl (pi_tup (pv 1)) (pg_tup rfl (pgs_cons (pg_name (i := 5) scProd.nd rfl (Or.inl rfl)) (pgs_cons (pg_name (i := 6) scProd.nd rfl (Or.inl rfl)) pgs_nil)))
          (pss_one (ps_expr (pe_call GP hr1 rfl gP kP bP .nil pass0 (pa_cons (pv 2) (pa_cons (pe_call GJ hr1 rfl gJ kJ bJ .nil pass0 (pa_cons (pv 3) (pa_cons (pv 5) pa_nil))) (pa_cons (pe_op op_mulW (pv 4) (pv 6)) pa_nil)))))))
        (pss_one (ps_expr (pe_call GC hr1 rfl gC kC bC .nil pass0 (pa_cons (pv 2) pa_nil))))))
      (pss_one (ps_ret (pv 2)))), ?_⟩
    intro d nd
    have s0 : Same H (upd H d (ndO P w d [])) := sm_new sm_refl nd
    have n0 : NdAt K P w (upd H d (ndO P w d [])) d [] := ⟨upd_same, fun e he => nomatch he⟩
    generalize upd H d (ndO P w d []) = H0 at s0 n0 ⊢
    have nt : NotT (H0 d) := by rw [n0.at_]; exact notT_nd
    have hx0 := hx.same s0
    have hy0 := hy.same s0
    have pos := pos_of_prods M.okp M.okq
    have sum : S (prods p q) < BEY := by rw [S_prods]; exact M.sum
    have lenB : ∀ {A : Poly}, A.length ≤ (prods p q).length → (book A).length ≤ 400 := fun {A} h => by
      refine Nat.le_trans (len_book A) (Nat.le_trans h ?_)
      rw [len_prods]
      exact M.len
    refine ⟨_, rfl, T1, rfl, ⟨_, hx0.sq⟩, ?_⟩
    refine for_tup (K := K) (a := T1) (xs := xs) (fun i σ H4 => (∃ a b c e, σ = [some (.ref T1), some (.ref T2), some (.ref d), a, b, c, e]) ∧ But d H0 H4 ∧ ∃ es, NdAt K P w H4 d es ∧ bagOf es = book (prods (p.take i) q)) ⟨⟨none, none, none, none, rfl⟩, But.refl, [], n0, rfl⟩
      (fun i σ H4 _ ⟨_, b4, _⟩ => sqT_kt (.but nt b4) hx0.sq) ?_ ?_
    · rintro i x σ H4 hi ⟨⟨a, b, c, e, rfl⟩, b4, es, n4, e4⟩
      have k4 : KeepT H0 H4 := .but nt b4
      obtain ⟨t, ht, T, m1, rfl, hT, hpl, hm1⟩ := paired_get (hx0.kt k4).pl hi
      have htp : t ∈ p := List.mem_of_getElem? ht
      refine ⟨T, _, rfl, hT, rfl, _, _, rfl, _, _, rfl, rfl, ?_⟩
      refine ⟨_, rfl, T2, rfl, ⟨_, (hy0.kt k4).sq⟩, ?_⟩
      refine for_tup (K := K) (a := T2) (xs := ys) (fun j σ H5 => (∃ c e, σ = [some (.ref T1), some (.ref T2), some (.ref d), some (.ref m1), some (.int t.2), c, e]) ∧ But d H4 H5 ∧ ∃ es, NdAt K P w H5 d es ∧
        bagOf es = book (prods (p.take i) q ++ (q.take j).map fun b => (mulM t.1 b.1, t.2 * b.2))) ⟨⟨_, _, rfl⟩, But.refl, es, n4, by rw [List.take_zero, List.map_nil, List.append_nil]; exact e4⟩
        (fun j σ H5 _ ⟨_, b5, _⟩ => sqT_kt (.but nt (b4.trans b5)) hy0.sq) ?_ ?_
      · rintro j y σ H5 hj ⟨⟨c, e, rfl⟩, b5, es5, n5, e5⟩
        have nt4 : NotT (H4 d) := by rw [n4.at_]; exact notT_nd
        have k5 : KeepT H0 H5 := .but nt (b4.trans b5)
        obtain ⟨u, hu, U, m2, rfl, hU, _, hm2⟩ := paired_get (hy0.kt k5).pl hj
        have huq : u ∈ q := List.mem_of_getElem? hu
        obtain ⟨o, zs, ho1, ho2⟩ := hpl
        have hpl5 : PlainT H5 m1 := ⟨o, zs, (KeepT.but nt4 b5).2 _ _ _ ho1, ho2⟩
        have hm1' : Dp K H5 (.ref m1) (bD t.1) := bD_kt (κ := Str) (KeepT.but nt4 b5) hm1
        refine ⟨U, _, rfl, hU, rfl, _, _, rfl, _, _, rfl, rfl, ?_⟩
        refine ⟨_, rfl, _, rfl, _, rfl, m1, m2, t.1, u.1, rfl, hpl5, hm1', hm2, M.okp.2.2 t htp, M.okq.2.2 u huq, (szd_of M.okp M.lp M.dp).2 t htp, (szd_of M.okq M.lq M.dq).2 u huq, fun c' H6 s6 hc' => ?_⟩
        have t0 := M.okp.2.1 t htp
        have u0 := M.okq.2.1 u huq
        have tS := le_S M.okp.2.1 htp
        have uS := le_S M.okq.2.1 huq
        have sp := M.sp
        have sq := M.sq
        refine ⟨_, rfl, _, rfl, _, _, rfl, rfl, wide_mul (natAbs_bey (by omega) (by omega)) (natAbs_bey (by omega) (by omega)) (by decide) (by decide) (by decide), ?_⟩
        obtain ⟨B, hB⟩ := prods_split (q := q) ht hu
        have le := look_le2 (A := prods (p.take i) q ++ (q.take j).map fun b => (mulM t.1 b.1, t.2 * b.2)) (p := (mulM t.1 u.1, t.2 * u.2)) (B := B) (by rw [← hB]; exact pos)
        rw [← hB, ← e5, look_bagOf] at le
        simp only at le
        have el : es5.length ≤ 400 := by
          rw [← bagOf_len, e5]
          refine lenB ?_
          rw [hB, List.length_append (as := prods (p.take i) q ++ _)]
          exact Nat.le_add_right _ _
        have n6 := nd_back n5 s6
        refine ⟨d, c', es5, mulM t.1 u.1, t.2 * u.2, rfl, n6, hc', by omega, by omega, ?_⟩
        refine ⟨⟨_, _, rfl⟩, (b5.same s6).trans But.upd, _, nd_put n6 hc', ?_⟩
        rw [bagOf_put, List.take_succ, hu, show (some u).toList = [u] from rfl, List.map_append, List.map_cons, List.map_nil, ← List.append_assoc, book_snoc, ← e5, ← look_bagOf]
        rfl
      · rintro σ H5 ⟨⟨c, e, rfl⟩, b5, es5, n5, e5⟩
        rw [hy.len, List.take_length, ← prods_take_succ ht] at e5
        refine ⟨_, rfl, d, es5, rfl, n5, ?_, ⟨_, _, _, _, rfl⟩, b4.trans b5, es5, n5, e5⟩
        rw [← bagOf_len, e5]
        refine lenB ?_
        have e1 : prods p q = prods (p.take (i + 1)) q ++ prods (p.drop (i + 1)) q := by rw [← prods_app, List.take_append_drop]
        rw [e1, List.length_append]
        exact Nat.le_add_right _ _
    · rintro σ H4 ⟨⟨a, b, c, e, rfl⟩, b4, es, n4, e4⟩
      rw [hx.len, List.take_length] at e4
      exact ⟨_, rfl, k d es H4 (sm_but s0 nd b4) n4 e4⟩
theorem scTimes : FnScope ["p", "q"] ["p", "q"] (defScope sTimes) := ⟨rfl, rfl, rfl, by decide +kernel, rfl, by decide +kernel, by decide +kernel⟩
theorem ok_times {f : Addr} {fd : FuncData} (F : Fun K "times" "times" sTimes f fd) (Gf : Df P w K mg base 1 "frozen" ["p"] (spFroz K)) (Gd : Df P w K mg base 2 "product_terms" ["terms", "others"] (spProd K P w))
    (Gy : Df P w K mg base 2 "poly_of" ["found"] (spPoly K P w)) : FnOk P w K mg base CX0 3 f fd ["p", "q"] (spTimes K) := by
  obtain ⟨ff, fdf, gF, kF, bF, GF⟩ := Gf.ok
  obtain ⟨fp, fdp, gP, kP, bP, GP⟩ := Gd.ok
  obtain ⟨fy, fdy, gY, kY, bY, GY⟩ := Gy.ok
  refine F.ok scTimes (fun vs H Q E h => ?_) (fun cdv A outer s H vs Q E hr h => ?_)
  · obtain ⟨x, y, p, q, rfl, _⟩ := h
    rfl
  · obtain ⟨x, y, p, q, rfl, hx, hy, M, k⟩ := h
    have hr1 : Room 1 _ := hr.mono (by decide)
    have hr2 : Room 2 _ := hr
    refine ⟨_, pss_one (ps_ret (pe_call GY hr2 rfl gY kY bY .nil pass0 (pa_cons (pe_call GP hr2 rfl gP kP bP .nil pass0 (pa_cons (pe_call GF hr1 rfl gF kF bF .nil pass0 (pa_cons (pv 0) pa_nil)) (pa_cons (pe_call GF hr1 rfl gF kF bF .nil pass0 (pa_cons (pv 1) pa_nil)) pa_nil))) pa_nil))), ?_⟩
    refine ⟨_, rfl, x, p, rfl, hx, szd_of M.okp M.lp M.dp, fun T1 xs H1 s1 z1 => ?_⟩
    refine ⟨_, rfl, y, q, rfl, dp_same s1 hy, szd_of M.okq M.lq M.dq, fun T2 ys H2 s2 z2 => ?_⟩
    refine ⟨T1, T2, xs, ys, p, q, rfl, z1.same s2, z2, M, fun d es H3 s3 n3 e3 => ?_⟩
    have pos := pos_of_prods M.okp M.okq
    refine ⟨d, es, rfl, n3, ?_, ?_, fun v H4 s4 h4 => ?_⟩
    · rw [← bagOf_len, e3]
      refine Nat.le_trans (len_book _) ?_
      rw [len_prods]
      exact M.len
    · rw [e3]
      exact poly_lim pos (by rw [S_prods]; exact M.sum) (prods_dg M.okp M.okq M.deg)
    · rw [e3] at h4
      exact k v H4 (((s1.trans s2).trans s3).trans s4) h4
end
end K2


set_option Elab.async false
set_option linter.all false
set_option maxRecDepth 100000
set_option maxHeartbeats 4000000
namespace K2
open PySem L2 Nd Bk
section
variable {κ : Type} [DecidableEq κ] [Ky κ]
def AscK (l : List κ) : Prop := l.Pairwise fun a b => lt a b = true
def cnt (f : List κ) (k : κ) : Nat := (f.filter fun o => lt o k).length
def insK (f : List κ) (k : κ) : List κ := f.take (cnt f k) ++ [k] ++ f.drop (cnt f k)
def sortK (ks : List κ) : List κ := ks.foldl insK []
theorem cut_ok : ∀ {f : List κ} {k : κ}, AscK f → k ∉ f → (∀ a ∈ f.take (cnt f k), lt a k = true) ∧ ∀ b ∈ f.drop (cnt f k), lt k b = true
  | [], k, _, _ => ⟨fun a h => by simp [cnt] at h, fun a h => by simp [cnt] at h⟩
  | x :: r, k, h, hk => by
    obtain ⟨h1, h2⟩ := List.pairwise_cons.mp h
    rw [List.mem_cons, not_or] at hk
    cases e : lt x k with
    | true =>
      have ec : cnt (x :: r) k = cnt r k + 1 := by simp [cnt, List.filter_cons, e]
      obtain ⟨i1, i2⟩ := cut_ok h2 hk.2
      rw [ec, List.take_succ_cons, List.drop_succ_cons]
      refine ⟨fun a ha => ?_, i2⟩
      rcases List.mem_cons.mp ha with q | q
      · rw [q]; exact e
      · exact i1 a q
    | false =>
      have hxk : lt k x = true := by
        cases q : lt k x with
        | true => rfl
        | false => exact absurd (lt_total q e) hk.1
      have hr : ∀ o ∈ r, lt o k = false := fun o ho => lt_asymm (lt_trans hxk (h1 o ho))
      have ec : cnt (x :: r) k = 0 := by
        unfold cnt
        rw [List.filter_cons, e, if_neg Bool.false_ne_true, List.filter_eq_nil_iff.mpr (fun o ho => by rw [hr o ho]; exact Bool.false_ne_true)]
        rfl
      rw [ec]
      refine ⟨fun a ha => by simp at ha, fun b hb => ?_⟩
      rw [List.drop_zero] at hb
      rcases List.mem_cons.mp hb with q | q
      · rw [q]; exact hxk
      · exact lt_trans hxk (h1 b q)
theorem insK_perm (f : List κ) (k : κ) : (insK f k).Perm (k :: f) := by
  unfold insK
  have h : (f.take (cnt f k) ++ [k] ++ f.drop (cnt f k)).Perm (k :: (f.take (cnt f k) ++ f.drop (cnt f k))) := by
    rw [List.append_assoc, List.singleton_append]
    exact List.perm_middle
  rw [List.take_append_drop] at h
  exact h
theorem insK_asc {f : List κ} {k : κ} (h : AscK f) (hk : k ∉ f) : AscK (insK f k) := by
  obtain ⟨h1, h2⟩ := cut_ok h hk
  unfold insK AscK
  rw [List.append_assoc, List.singleton_append, List.pairwise_append]
  refine ⟨List.Pairwise.sublist (List.take_sublist _ _) h, List.pairwise_cons.mpr ⟨h2, List.Pairwise.sublist (List.drop_sublist _ _) h⟩, fun a ha b hb => ?_⟩
  rcases List.mem_cons.mp hb with q | q
  · rw [q]; exact h1 a ha
  · exact lt_trans (h1 a ha) (h2 b q)
theorem sortK_ok : ∀ (ks f : List κ), (f ++ ks).Nodup → AscK f → AscK (ks.foldl insK f) ∧ (ks.foldl insK f).Perm (f ++ ks)
  | [], f, _, h => ⟨h, by rw [List.append_nil]; exact List.Perm.refl _⟩
  | k :: r, f, hn, h => by
    have hk : k ∉ f := fun q => by
      rw [List.nodup_append] at hn
      exact hn.2.2 k q k List.mem_cons_self rfl
    have p1 : (insK f k ++ r).Perm (f ++ k :: r) := ((insK_perm f k).append_right r).trans (by rw [List.cons_append]; exact List.perm_middle.symm)
    obtain ⟨h1, h2⟩ := sortK_ok r (insK f k) (p1.nodup_iff.mpr hn) (insK_asc h hk)
    exact ⟨h1, h2.trans p1⟩
theorem sortK_len {ks : List κ} (h : ks.Nodup) : (sortK ks).length = ks.length := by
  have := (sortK_ok ks [] (by simpa using h) List.Pairwise.nil).2.length_eq
  simpa [sortK] using this
theorem srt_keys {l : Bag κ} (h : (l.map (·.1)).Nodup) : (srt l).map (·.1) = sortK (l.map (·.1)) := by
  obtain ⟨h1, h2⟩ := sortK_ok (l.map (·.1)) [] (by simpa using h) List.Pairwise.nil
  have h3 := srt_asc h
  have h4 : (((srt l).map (·.1)).map fun k => (k, (0 : Int))) = (sortK (l.map (·.1))).map fun k => (k, (0 : Int)) := by
    refine asc_ext ?_ ?_ fun p => ?_
    · unfold Asc at h3 ⊢
      rw [List.map_map, List.pairwise_map]
      exact h3
    · unfold Asc
      rw [List.pairwise_map]
      exact h1
    · have e : ∀ k, k ∈ (srt l).map (·.1) ↔ k ∈ sortK (l.map (·.1)) := fun k => by
        rw [(((srt_perm l).map _).mem_iff : k ∈ (srt l).map (·.1) ↔ k ∈ l.map (·.1))]
        have := h2.mem_iff (a := k)
        rw [List.nil_append] at this
        exact this.symm
      simp only [List.mem_map (f := fun k : κ => (k, (0 : Int)))]
      constructor
      · rintro ⟨k, hk, rfl⟩
        exact ⟨k, (e k).mp hk, rfl⟩
      · rintro ⟨k, hk, rfl⟩
        exact ⟨k, (e k).mpr hk, rfl⟩
  have inv : ∀ l : List κ, (l.map fun k => (k, (0 : Int))).map (·.1) = l := fun l => by
    induction l with
    | nil => rfl
    | cons x r ih => rw [List.map_cons, List.map_cons, ih]
  have h5 := congrArg (List.map (·.1)) h4
  rw [inv, inv] at h5
  exact h5
theorem sortK_take {ks : List κ} {i : Nat} {k : κ} (h : ks[i]? = some k) : sortK (ks.take (i + 1)) = insK (sortK (ks.take i)) k := by
  rw [List.take_succ, h]
  simp [sortK]
end
def spSort (K : PySem.W.Frag) (κ : Type) [DecidableEq κ] [Ky κ] : Sp := fun vs H Q _ => ∃ (a : Addr) (xs : List V) (ks : List κ), vs = [.ref a] ∧ SqL K H a xs ∧ DpAll K H xs (ks.map Ky.enc) ∧ ks.Nodup ∧ ks.length ≤ 1000 ∧
  ∀ (l : Addr) (ys : List V) (H' : Hp), H l = none → Same H H' → H' l = some (.lst ys) → DpAll K H' ys ((sortK ks).map Ky.enc) → Q (.ref l) H'
theorem tu_encs {κ : Type} [DecidableEq κ] [Ky κ] [Tu κ] (l : List κ) : tupOnlyAll (l.map Ky.enc) = true := tupOnlyAll_of fun d h => by
  obtain ⟨k, _, rfl⟩ := List.mem_map.mp h
  exact Tu.tu k
theorem enc_get {K : PySem.W.Frag} {H : Hp} {κ : Type} [DecidableEq κ] [Ky κ] {xs : List V} {l : List κ} (h : DpAll K H xs (l.map Ky.enc)) {i : Nat} {x : V} (e : xs[i]? = some x) : ∃ k, l[i]? = some k ∧ Dp K H x (Ky.enc k) := by
  obtain ⟨d, h1, h2⟩ := dpAll_get h e
  rw [List.getElem?_map] at h1
  cases q : l[i]? with
  | none => rw [q] at h1; cases h1
  | some p =>
    rw [q] at h1
    cases h1
    exact ⟨p, rfl, h2⟩
theorem dpAll_take {K : PySem.W.Frag} {H : Hp} : ∀ {xs : List V} {ds : List PyData} (n : Nat), DpAll K H xs ds → DpAll K H (xs.take n) (ds.take n)
  | _, _, 0, h => by rw [List.take_zero, List.take_zero]; exact .nil
  | _, _, n + 1, .nil => by rw [List.take_nil, List.take_nil]; exact .nil
  | _, _, n + 1, .cons h t => by rw [List.take_succ_cons, List.take_succ_cons]; exact .cons h (dpAll_take n t)
theorem dpAll_drop {K : PySem.W.Frag} {H : Hp} : ∀ {xs : List V} {ds : List PyData} (n : Nat), DpAll K H xs ds → DpAll K H (xs.drop n) (ds.drop n)
  | _, _, 0, h => by rw [List.drop_zero, List.drop_zero]; exact h
  | _, _, n + 1, .nil => by rw [List.drop_nil, List.drop_nil]; exact .nil
  | _, _, n + 1, .cons h t => by rw [List.drop_succ_cons, List.drop_succ_cons]; exact dpAll_drop n t
section
variable {P : Program} {w : World} {K : PySem.W.Frag} {mg : Str → Option Value} {base : Heap}
theorem scSort : FnScope ["row", "found", "one", "other"] ["row"] (defScope sSort) := ⟨rfl, rfl, rfl, by decide +kernel, rfl, by decide +kernel, by decide +kernel⟩
theorem ok_sort (κ : Type) [DecidableEq κ] [Ky κ] [Tu κ] {f : Addr} {fd : FuncData} (F : Fun K "_law_sorted" "_law_sorted" sSort f fd) (C : Cn K mg) : FnOk P w K mg base CX0 1 f fd ["row"] (spSort K κ) := by
  refine F.ok scSort (fun vs H Q E h => ?_) (fun cdv A outer s H vs Q E hr h => ?_)
  · obtain ⟨a, xs, ks, rfl, _⟩ := h
    rfl
  · obtain ⟨a, xs, ks, rfl, hs, hd, hn, hl, k⟩ := h
    refine ⟨_, pss_cons (ps_set (i := 1) scSort.nd rfl (Or.inl rfl) (pe_lst pa_nil))
      (pss_cons (ps_for PassesOwn.never rfl (pi_list (pv 0)) (pg_name (i := 2) scSort.nd rfl (Or.inr rfl))
        (pss_one (ps_expr (pe_bm PySem.F.plainAttrs_list PySem.F.slot_list_insert PySem.F.type_list_insert mt_insert (pv 1) (pa_cons (pe_callB call_len_seq (by rfl) C.N.len PySem.boot_len (pa_cons
          (pe_lc (own := [("other", 3)]) (g := gName 3) (tt := tTest (tOp (rLtD K) (tVar 3) (tVar 2))) rfl scSort.nd (pi_list (pv 1)) (blkOk_by (N := ["row", "found", "one", "other"]) (sc := defScope sSort) (by decide +kernel))
            (fun _ _ _ _ _ => pg_name (i := 3) scSort.nd rfl (Or.inl rfl)) (fun _ _ _ _ _ => pts_one (pt_cmpR (show OpR _ _ (rLtD K) from op_ltD (u64 hr)) (pv 3) (pv 2) (nomark _))) (fun _ _ _ _ _ => pv 3)) pa_nil)) (pa_cons (pv 2) pa_nil))))))
      (pss_one (ps_ret (pv 1)))), ?_⟩
    refine ⟨(by show 0 ≤ sizeLine; decide), fun l nl => ?_⟩
    have s0 : Same H (upd H l (.lst [])) := sm_new sm_refl nl
    have h0 : upd H l (.lst []) l = some (.lst []) := upd_same
    generalize upd H l (.lst []) = H0 at s0 h0 ⊢
    refine ⟨_, rfl, a, rfl, ⟨_, s0.seq hs⟩, ?_⟩
    refine for_list (K := K) (a := a) (xs := xs) (fun i σ H4 => (∃ v, σ = [some (.ref a), some (.ref l), v, none]) ∧ But l H0 H4 ∧ ∃ ys, H4 l = some (.lst ys) ∧ DpAll K H4 ys ((sortK (ks.take i)).map Ky.enc)) ⟨⟨none, rfl⟩, But.refl, [], h0, .nil⟩
      (fun i σ H4 _ ⟨_, b4, _⟩ => (sm_but s0 nl b4).seq hs) ?_ ?_
    · rintro i x σ H4 hi ⟨⟨v, rfl⟩, b4, ys, h4, d4⟩
      obtain ⟨k1, hk, hx⟩ := enc_get hd hi
      have s4 := sm_but s0 nl b4
      have nk : (ks.take i).Nodup := List.Nodup.sublist (List.take_sublist _ _) hn
      have ly : ys.length ≤ 1000 := by
        rw [dpAll_len d4, List.length_map, sortK_len nk, List.length_take]
        omega
      refine ⟨_, rfl, .inl ⟨rfl, ys, SqL.of h4⟩, _, rfl, l, rfl, ⟨_, SqL.of h4⟩, fun D nD => ?_⟩
      refine lc_list (K := K) (a := l) (xs := ys) (fun j H5 => Same H4 H5 ∧ ∃ acc, H5 D = some (.lst acc) ∧ acc.length = (((sortK (ks.take i)).take j).filter fun o => lt o k1).length) ⟨sm_new sm_refl nD, [], upd_same, rfl⟩ (fun j H5 _ ⟨s5, _⟩ => s5.seq (SqL.of h4)) ?_ ?_
      · rintro j y H5 hj ⟨s5, acc, hD, hlen⟩
        obtain ⟨o, ho, hy⟩ := enc_get d4 hj
        have hd1 := Ky.dep o
        refine ⟨rfl, _, rfl, _, rfl, _, _, dp_same s5 hy, dp_same (s4.trans s5) hx, Ky.al _ _, Ky.nn _, by omega, _, rfl, ?_⟩
        have hacc : acc.length ≤ 1000 := by
          rw [hlen]
          refine Nat.le_trans (List.length_filter_le _ _) ?_
          rw [List.length_take, sortK_len nk, List.length_take]
          omega
        show if lt o k1 = true then _ else _
        cases e : lt o k1 with
        | true =>
          refine iteT ⟨_, rfl, acc, hD, small1000 hacc, sm_new s5 nD, _, upd_same, ?_⟩
          rw [List.length_append, hlen, List.take_succ, ho, List.filter_append, List.length_append]
          simp [e]
        | false =>
          refine iteF ⟨s5, acc, hD, ?_⟩
          rw [hlen, List.take_succ, ho, List.filter_append, List.length_append]
          simp [e]
      · rintro H5 ⟨s5, acc, hD, hlen⟩
        have lk : (sortK (ks.take i)).length = ys.length := by rw [dpAll_len d4, List.length_map]
        rw [← lk, List.take_length] at hlen
        have hcnt : acc.length = cnt (sortK (ks.take i)) k1 := hlen
        have hacc : acc.length ≤ 1000 := by
          rw [hlen]
          refine Nat.le_trans (List.length_filter_le _ _) ?_
          rw [lk]
          exact ly
        have h5 := s5 _ _ h4
        refine ⟨D, acc, rfl, .inl (SqL.of hD), _, rfl, l, ys, _, x, rfl, rfl, h5, ?_, by omega, by omega, ⟨_, rfl⟩, (b4.same s5).trans But.upd, _, upd_same, ?_⟩
        · rw [sizeLine_eq]
          omega
        · have nt : NotT (H5 l) := by rw [h5]; exact notT_lst
          rw [Int.toNat_natCast, hcnt, sortK_take hk]
          unfold insK
          rw [List.map_append, List.map_append, List.map_take, List.map_drop]
          have d5 := dpAll_put (o := .lst (ys.take (cnt (sortK (ks.take i)) k1) ++ [x] ++ ys.drop (cnt (sortK (ks.take i)) k1))) nt (tu_encs _) (dpAll_same s5 d4)
          exact dpAll_append (dpAll_append (dpAll_take _ d5) (.cons (dp_put nt (Tu.tu k1) (dp_same (s4.trans s5) hx)) .nil)) (dpAll_drop _ d5)
    · rintro σ H4 ⟨⟨v, rfl⟩, b4, ys, h4, d4⟩
      have lk : xs.length = ks.length := by rw [dpAll_len hd, List.length_map]
      rw [lk, List.take_length] at d4
      exact ⟨_, rfl, k l ys H4 nl (sm_but s0 nl b4) h4 d4⟩
end
end K2


set_option Elab.async false
set_option linter.all false
set_option maxRecDepth 100000
set_option maxHeartbeats 4000000
namespace K2
open PySem L2 Nd Bk
def spNorm (K : PySem.W.Frag) (P : Program) (w : World) : Sp := fun vs H Q _ => ∃ (d : Addr) (es : List Ent), vs = [.ref d] ∧ NdAt K P w H d es ∧ ((bagOf es).map (·.1)).Nodup ∧ Pos (bagOf es) ∧ es.length ≤ 1000 ∧
  ∀ (v : V) (H' : Hp), Same H H' → Dp K H' v (bD (srt (bagOf es))) → Q v H'
def spLPlus (K : PySem.W.Frag) : Sp := fun vs H Q _ => ∃ (x y : V) (p q : Poly), vs = [x, y] ∧ Dp K H x (bD p) ∧ Dp K H y (bD q) ∧ POk p ∧ POk q ∧ p.length + q.length ≤ 1000 ∧
  ∀ (v : V) (H' : Hp), Same H H' → Dp K H' v (bD (plusP p q)) → Q v H'
theorem keys_dp {K : PySem.W.Frag} {H : Hp} {es : List Ent} (h : ∀ e ∈ es, Dp K H (.ref e.2.1) (mD e.1)) : DpAll K H (es.map fun e => V.ref e.2.1) (((bagOf es).map (·.1)).map Ky.enc) := by
  induction es with
  | nil => exact .nil
  | cons e r ih => exact .cons (h e List.mem_cons_self) (ih fun x hx => h x (List.mem_cons_of_mem _ hx))
section
variable {P : Program} {w : World} {K : PySem.W.Frag} {mg : Str → Option Value} {base : Heap}
theorem scNorm : FnScope ["book", "monomial", "one"] ["book"] (defScope sNorm) := ⟨rfl, rfl, rfl, by decide +kernel, rfl, by decide +kernel, by decide +kernel⟩
theorem ok_norm {f : Addr} {fd : FuncData} (F : Fun K "_law_normal" "_law_normal" sNorm f fd) (C : Cn K mg) (Gs : Df P w K mg base 1 "_law_sorted" ["row"] (spSort K Mono)) : FnOk P w K mg base CX0 2 f fd ["book"] (spNorm K P w) := by
  obtain ⟨fs, fds, gS, kS, bS, GS⟩ := Gs.ok
  refine F.ok scNorm (fun vs H Q E h => ?_) (fun cdv A outer s H vs Q E hr h => ?_)
  · obtain ⟨d, es, rfl, _⟩ := h
    rfl
  · obtain ⟨d, es, rfl, n, nd, pos, hl, k⟩ := h
    have hr1 : Room 1 _ := hr
    refine ⟨_, pss_one (ps_ret (pe_callTy call_tuple_of (by rfl) C.N.tup (by rfl) (pa_cons
      (pe_lc (own := [("monomial", 1)]) (g := gName 1) (tt := tTest (tOp (rI0 fun i j => .bl (decide (j < i))) (tNdGet K P w (tVar 0) (tVar 1)) (tC (.int 0)))) rfl scNorm.nd
        (pi_list (pe_call GS hr1 rfl gS kS bS .nil pass0 (pa_cons (pe_lock (pe_lc (own := [("one", 2)]) (g := gName 2) (tt := tYes) rfl scNorm.nd (show PI _ _ _ (iKeysN P w _) from pi_keysN (pv 0)) (blkOk_by (N := ["book", "monomial", "one"]) (sc := defScope sNorm) (by decide +kernel))
          (fun _ _ _ _ _ => pg_name (i := 2) scNorm.nd rfl (Or.inl rfl)) (fun _ _ _ _ _ => pts_nil) (fun _ _ _ _ _ => pv 2))) pa_nil)))
        (blkOk_by (N := ["book", "monomial", "one"]) (sc := defScope sNorm) (by decide +kernel))
        (fun _ _ _ _ _ => pg_name (i := 1) scNorm.nd rfl (Or.inl rfl)) (fun _ _ _ _ _ => pts_one (pt_cmpR op_gt (show PE _ _ (tNdGet K P w (tVar 0) (tVar 1)) from pe_ndGet (u9 hr) (pv 0) (pv 1) (fun _ _ => rfl)) pe_int (nomark _)))
        (fun _ _ _ _ _ => pe_tup (pa_cons (pv 1) (pa_cons (show PE _ _ (tNdGet K P w (tVar 0) (tVar 1)) from pe_ndGet (u9 hr) (pv 0) (pv 1) (fun _ _ => rfl)) pa_nil)))) pa_nil))), ?_⟩
    refine ⟨d, _, n.at_, mut_nd, fun od => ?_⟩
    refine ⟨_, rfl, d, od, es, rfl, upd_same, fun D nD => ?_⟩
    have Dd : D ≠ d := fun e => by rw [e, upd_same] at nD; cases nD
    refine lc_it walk_keysN (fun i H2 => Same (upd H d (.frz od (ndO P w d es))) H2 ∧ H2 D = some (.lst ((es.take i).map fun e => V.ref e.2.1))) ⟨sm_new sm_refl nD, upd_same⟩ (fun i H2 _ ⟨s2, _⟩ => s2 _ _ upd_same) ?_ ?_
    · rintro i x H2 H3 hi ⟨s2, hD⟩ ⟨rfl, e, he, rfl⟩
      refine ⟨rfl, _, rfl, _, hD, small1000 (by rw [List.length_map, List.length_take]; omega), sm_new s2 nD, ?_⟩
      rw [upd_same, List.take_succ, he, List.map_append]
      rfl
    · rintro H2 ⟨s2, hD⟩
      rw [List.take_length] at hD
      refine ⟨s2 _ _ upd_same, ?_⟩
      have sb := lock_back n.at_ s2
      have hD3 : upd H2 d (ndO P w d es) D = some (.lst (es.map fun e => V.ref e.2.1)) := by rw [upd_ne Dd]; exact hD
      generalize upd H2 d (ndO P w d es) = H3 at sb hD3 ⊢
      have n3 := nd_back n sb
      refine ⟨D, _, (bagOf es).map (·.1), rfl, SqL.of hD3, keys_dp n3.keys, nd, by rw [List.length_map, bagOf_len]; exact hl, fun l ys H4 nl s4 hys hd4 => ?_⟩
      have n4 := nd_back n3 s4
      have lsrt : (srt (bagOf es)).length ≤ 1000 := by
        rw [(srt_perm _).length_eq, bagOf_len]
        exact hl
      rw [← srt_keys nd] at hd4
      have ly : ys.length = (srt (bagOf es)).length := by rw [dpAll_len hd4, List.length_map, List.length_map]
      refine ⟨l, rfl, ⟨_, SqL.of hys⟩, fun D2 nD2 => ?_⟩
      refine lc_list (K := K) (a := l) (xs := ys) (fun j H5 => AccI K H4 D2 ((srt (bagOf es)).map encP) j H5) (acc_zero nD2) (fun j H5 _ a5 => a5.sm.seq (SqL.of hys)) ?_ ?_
      · rintro j y H5 hj a5
        obtain ⟨key, hk, hy⟩ := enc_get hd4 hj
        rw [List.getElem?_map] at hk
        obtain ⟨t, ht, rfl⟩ := Option.map_eq_some_iff.mp hk
        obtain ⟨a, zs, rfl, _⟩ := dp_bag (κ := Str) hy
        have tm : t ∈ bagOf es := (srt_perm _).mem_iff.mp (List.mem_of_getElem? ht)
        have hg : getN es t.1 = some t.2 := by
          rw [← look_bagOf]
          exact look_of_mem nd tm
        have n5 := nd_back n4 a5.sm
        have hm5 : Dp K H5 (.ref a) (mD t.1) := dp_same a5.sm hy
        refine ⟨rfl, _, rfl, _, rfl, d, a, es, t.1, t.2, rfl, rfl, n5, hm5, hg, _, _, rfl, rfl, _, rfl, ?_⟩
        have := pos t tm
        rw [show decide ((0 : Int) < t.2) = true from decide_eq_true this]
        refine iteT ?_
        refine ⟨_, rfl, _, rfl, _, rfl, d, a, es, t.1, t.2, rfl, rfl, n5, hm5, hg, (by show 2 ≤ sizeLine; decide), fun W nW => ?_⟩
        exact acc_step a5 nD2 (by rw [List.length_map]; exact list1000 lsrt) (tu_encPs _) (sm_new sm_refl nW) (by rw [List.getElem?_map, ht]; rfl) (dp_mk (κ := Mono) (x := t.1) (SqT.of upd_same) (dp_same (sm_new sm_refl nW) hm5))
      · rintro H5 a5
        obtain ⟨s5, zs, hz, hd5⟩ := acc_end a5 (by rw [ly, List.length_map])
        refine ⟨D2, zs, rfl, .inl ⟨SqL.of hz, fun v nv => ?_⟩⟩
        have s05 : Same H H5 := (sb.trans s4).trans s5
        exact k _ _ (sm_new s05 (s05.free nv)) (.tup (SqT.of upd_same) (dpAll_put (by rw [nv]; exact notT_none) (tupOnlyAll_of (tu_encPs _)) hd5))
theorem scLPlus : FnScope ["p", "q", "book", "monomial", "coefficient"] ["p", "q"] (defScope sLPlus) := ⟨rfl, rfl, rfl, by decide +kernel, rfl, by decide +kernel, by decide +kernel⟩
theorem ok_lplus {f : Addr} {fd : FuncData} (F : Fun K "_law_plus" "_law_plus" sLPlus f fd) (Gn : Df P w K mg base 2 "_law_normal" ["book"] (spNorm K P w)) : FnOk P w K mg base CX0 3 f fd ["p", "q"] (spLPlus K) := by
  obtain ⟨fn, fdn, gN, kN, bN, GN⟩ := Gn.ok
  refine F.ok scLPlus (fun vs H Q E h => ?_) (fun cdv A outer s H vs Q E hr h => ?_)
  · obtain ⟨x, y, p, q, rfl, _⟩ := h
    rfl
  · obtain ⟨x, y, p, q, rfl, hx, hy, okp, okq, hl, k⟩ := h
    have hr2 : Room 2 _ := hr
    refine ⟨_, pss_cons (ps_set (i := 2) scLPlus.nd rfl (Or.inl rfl) (show PE _ _ (tNdNew P w) from pe_ndNew))
      (pss_cons (ps_for PassesOwn.never rfl (pi_tup (pe_op op_catA (pv 0) (pv 1))) (pg_tup rfl (pgs_cons (pg_name (i := 3) scLPlus.nd rfl (Or.inl rfl)) (pgs_cons (pg_name (i := 4) scLPlus.nd rfl (Or.inl rfl)) pgs_nil)))
        (pss_one (ps_asg (pe_op op_add (pe_ndGetOr (u9 hr) (pv 2) (pv 3) pe_int ⟨rfl, rfl, rfl, rfl⟩) (pv 4)) (pg_sub (pv 2) (pv 3) (set_nd (u9 hr))))))
      (pss_one (ps_ret (pe_call GN hr2 rfl gN kN bN .nil pass0 (pa_cons (pv 2) pa_nil))))), ?_⟩
    intro d nd
    have s0 : Same H (upd H d (ndO P w d [])) := sm_new sm_refl nd
    have n0 : NdAt K P w (upd H d (ndO P w d [])) d [] := ⟨upd_same, fun e he => nomatch he⟩
    generalize upd H d (ndO P w d []) = H0 at s0 n0 ⊢
    obtain ⟨a1, xs, rfl, hxs, lx, hxa⟩ := dp_bag (dp_same s0 hx)
    obtain ⟨a2, ys, rfl, hys, lY, hya⟩ := dp_bag (dp_same s0 hy)
    refine ⟨_, rfl, _, rfl, rcat_mk hxs hys (by rw [lx, lY, sizeLine_eq]; omega) fun r H3 s3 hr3 => ?_⟩
    have all3 : DpAll K H3 (xs ++ ys) ((p ++ q).map encP) := by
      rw [List.map_append]
      exact dpAll_append (dpAll_same s3 hxa) (dpAll_same s3 hya)
    have lz : (xs ++ ys).length = (p ++ q).length := by rw [List.length_append, List.length_append, lx, lY]
    have n3 := nd_back n0 s3
    have nt3 : NotT (H3 d) := by rw [n3.at_]; exact notT_nd
    have pos : Pos (p ++ q) := pos_append okp.2.1 okq.2.1
    have len : (p ++ q).length ≤ 1000 := by rw [List.length_append]; exact hl
    refine ⟨r, rfl, ⟨_, hr3⟩, ?_⟩
    refine for_tup (K := K) (a := r) (xs := xs ++ ys) (fun i σ H4 => (∃ a b, σ = [some (.ref a1), some (.ref a2), some (.ref d), a, b]) ∧ But d H3 H4 ∧ ∃ es, NdAt K P w H4 d es ∧ bagOf es = book ((p ++ q).take i)) ⟨⟨none, none, rfl⟩, But.refl, [], n3, rfl⟩
      (fun i σ H4 _ ⟨_, b4, _⟩ => sqT_kt (.but nt3 b4) hr3) ?_ ?_
    · rintro i u σ H4 hi ⟨⟨a, b, rfl⟩, b4, es, n4, e4⟩
      have k4 : KeepT H3 H4 := .but nt3 b4
      obtain ⟨t, ht, hu⟩ := bag_get (bA_kt k4 all3) hi
      obtain ⟨T, kk, rfl, hT, hk⟩ := dp_pair hu
      obtain ⟨b', zs, rfl, _⟩ := dp_bag (κ := Str) hk
      have el : es.length ≤ 1000 := by
        rw [← bagOf_len, e4]
        refine Nat.le_trans (len_book _) ?_
        rw [List.length_take]
        omega
      refine ⟨T, _, rfl, hT, rfl, _, _, rfl, _, _, rfl, rfl, ?_⟩
      refine ⟨_, rfl, d, es, rfl, n4, _, rfl, b', t.1, 0, rfl, rfl, n4, hk, _, rfl, _, _, rfl, rfl, ?_⟩
      refine ⟨_, rfl, _, rfl, d, b', es, t.1, _, rfl, rfl, rfl, n4, hk, small1000 el, ?_⟩
      refine ⟨⟨_, _, rfl⟩, b4.trans But.upd, _, nd_put n4 hk, ?_⟩
      rw [bagOf_put, List.take_succ, ht, show (some t).toList = [t] from rfl, book_snoc, ← e4, ← look_bagOf]
      rfl
    · rintro σ H4 ⟨⟨a, b, rfl⟩, b4, es, n4, e4⟩
      rw [lz, List.take_length] at e4
      refine ⟨_, rfl, d, es, rfl, n4, by rw [e4]; exact book_nodup _, by rw [e4]; exact pos_book pos, ?_, fun v H5 s5 h5 => ?_⟩
      · rw [← bagOf_len, e4]
        exact Nat.le_trans (len_book _) len
      · rw [e4] at h5
        exact k v H5 ((sm_but (s0.trans s3) nd b4).trans s5) h5
end
end K2


set_option Elab.async false
set_option linter.all false
set_option maxRecDepth 100000
set_option maxHeartbeats 4000000
namespace K2
open PySem L2 Nd Bk
def spLProd (K : PySem.W.Frag) : Sp := fun vs H Q _ => ∃ (x y : V) (m n : Mono), vs = [x, y] ∧ Dp K H x (mD m) ∧ Dp K H y (mD n) ∧ MOk m ∧ MOk n ∧ m.length + n.length ≤ 1000 ∧ ∀ (a : Addr) (H' : Hp), Same H H' → Dp K H' (.ref a) (mD (mulM m n)) → Q (.ref a) H'
def spLTimes (K : PySem.W.Frag) : Sp := fun vs H Q _ => ∃ (x y : V) (p q : Poly), vs = [x, y] ∧ Dp K H x (bD p) ∧ Dp K H y (bD q) ∧ POk p ∧ POk q ∧ p.length * q.length ≤ 1000 ∧ S p < BEY ∧ S q < BEY ∧ Dg p 500 ∧ Dg q 500 ∧
  ∀ (v : V) (H' : Hp), Same H H' → Dp K H' v (bD (timesP p q)) → Q v H'
theorem txkeys_dp {K : PySem.W.Frag} {H : Hp} (m : Mono) : DpAll K H ((tx m).map fun kv => kV kv.1) ((m.map (·.1)).map Ky.enc) := by
  induction m with
  | nil => exact .nil
  | cons e r ih => exact .cons (.str e.1) ih
section
variable {P : Program} {w : World} {K : PySem.W.Frag} {mg : Str → Option Value} {base : Heap}
theorem scLProd : FnScope ["one", "other", "book", "token", "exponent", "part"] ["one", "other"] (defScope sLProd) := ⟨rfl, rfl, rfl, by decide +kernel, rfl, by decide +kernel, by decide +kernel⟩
theorem ok_lprod {f : Addr} {fd : FuncData} (F : Fun K "_law_product" "_law_product" sLProd f fd) (C : Cn K mg) (Gs : Df P w K mg base 1 "_law_sorted" ["row"] (spSort K Str)) : FnOk P w K mg base CX0 2 f fd ["one", "other"] (spLProd K) := by
  obtain ⟨fs, fds, gS, kS, bS, GS⟩ := Gs.ok
  refine F.ok scLProd (fun vs H Q E h => ?_) (fun cdv A outer s H vs Q E hr h => ?_)
  · obtain ⟨x, y, m, n, rfl, _⟩ := h
    rfl
  · obtain ⟨x, y, m, n, rfl, hx, hy, okm, okn, hl, k⟩ := h
    have hr1 : Room 1 _ := hr
    refine ⟨_, pss_cons (ps_set (i := 2) scLProd.nd rfl (Or.inr rfl) pe_dnewK)
      (pss_cons (ps_for PassesOwn.never rfl (pi_tup (pe_op op_catA (pv 0) (pv 1))) (pg_tup rfl (pgs_cons (pg_name (i := 3) scLProd.nd rfl (Or.inl rfl)) (pgs_cons (pg_name (i := 4) scLProd.nd rfl (Or.inl rfl)) pgs_nil)))
        (pss_one (ps_dput (u1 hr) (pv 2) (pv 3) (pe_op op_add (pe_dget2 (u1 hr) (pv 2) (pv 3) pe_int ⟨rfl, rfl, rfl, rfl⟩) (pv 4)) rfl)))
      (pss_one (ps_ret (pe_callTy call_tuple_of (by rfl) C.N.tup (by rfl) (pa_cons
        (pe_lc (own := [("token", 3)]) (g := gName 3) (tt := tYes) rfl scLProd.nd
          (pi_list (pe_call GS hr1 rfl gS kS bS .nil pass0 (pa_cons (pe_lock (pe_lc (own := [("part", 5)]) (g := gName 5) (tt := tYes) rfl scLProd.nd (pi_keys (pv 2)) (blkOk_by (N := ["one", "other", "book", "token", "exponent", "part"]) (sc := defScope sLProd) (by decide +kernel))
            (fun _ _ _ _ _ => pg_name (i := 5) scLProd.nd rfl (Or.inl rfl)) (fun _ _ _ _ _ => pts_nil) (fun _ _ _ _ _ => pv 5))) pa_nil)))
          (blkOk_by (N := ["one", "other", "book", "token", "exponent", "part"]) (sc := defScope sLProd) (by decide +kernel))
          (fun _ _ _ _ _ => pg_name (i := 3) scLProd.nd rfl (Or.inl rfl)) (fun _ _ _ _ _ => pts_nil)
          (fun _ _ _ _ _ => pe_tup (pa_cons (pv 3) (pa_cons (pe_dget (u1 hr) (pv 2) (pv 3) (fun _ _ => rfl)) pa_nil)))) pa_nil))))), ?_⟩
    intro d nd
    have s0 : Same H (upd H d (.dK [])) := sm_new sm_refl nd
    have d0 : upd H d (.dK []) d = some (.dK (tx [])) := upd_same
    generalize upd H d (.dK []) = H0 at s0 d0 ⊢
    obtain ⟨a1, xs, rfl, hxs, lx, hxa⟩ := dp_bag (κ := Str) (dp_same s0 hx)
    obtain ⟨a2, ys, rfl, hys, lY, hya⟩ := dp_bag (κ := Str) (dp_same s0 hy)
    refine ⟨_, rfl, _, rfl, rcat_mk hxs hys (by rw [lx, lY, sizeLine_eq]; omega) fun r H3 s3 hr3 => ?_⟩
    have all3 : DpAll K H3 (xs ++ ys) ((m ++ n).map encP) := by
      rw [List.map_append]
      exact dpAll_append (dpAll_same s3 hxa) (dpAll_same s3 hya)
    have lz : (xs ++ ys).length = (m ++ n).length := by rw [List.length_append, List.length_append, lx, lY]
    have d3 := s3 _ _ d0
    have nt3 : NotT (H3 d) := by rw [d3]; exact notT_dK
    have len : (m ++ n).length ≤ 1000 := by rw [List.length_append]; exact hl
    have lenb : ∀ i, (tx (book ((m ++ n).take i))).length ≤ 1000 := fun i => by
      rw [tx_len]
      refine Nat.le_trans (len_book _) ?_
      rw [List.length_take]
      omega
    refine ⟨r, rfl, ⟨_, hr3⟩, ?_⟩
    refine for_tup (K := K) (a := r) (xs := xs ++ ys) (fun i σ H4 => (∃ u v, σ = [some (.ref a1), some (.ref a2), some (.ref d), u, v, none]) ∧ But d H3 H4 ∧ H4 d = some (.dK (tx (book ((m ++ n).take i))))) ⟨⟨none, none, rfl⟩, But.refl, d3⟩
      (fun i σ H4 _ ⟨_, b4, _⟩ => sqT_kt (.but nt3 b4) hr3) ?_ ?_
    · rintro i y σ H4 hi ⟨⟨u, v, rfl⟩, b4, h4⟩
      obtain ⟨t, ht, hy⟩ := bag_get (bA_kt (.but nt3 b4) all3) hi
      obtain ⟨T, kk, rfl, hT, hk⟩ := dp_pair hy
      cases dp_str (i := t.1) hk
      refine ⟨T, _, rfl, hT, rfl, _, _, rfl, _, _, rfl, rfl, ?_⟩
      refine ⟨_, rfl, d, rfl, .inl ⟨_, .inl h4⟩, _, rfl, _, DGet.k (k := Sum.inr t.1) h4, _, rfl, ?_⟩
      rw [getD_tx]
      refine ⟨_, _, rfl, rfl, _, rfl, _, rfl, d, _, rfl, DPut.k (k := Sum.inr t.1) h4 (small1000 (lenb i)), ⟨_, _, rfl⟩, b4.trans But.upd, ?_⟩
      rw [upd_same, putK_tx, List.take_succ, ht, show (some t).toList = [t] from rfl, book_snoc]
      rfl
    · rintro σ H4 ⟨⟨u, v, rfl⟩, b4, h4⟩
      rw [lz, List.take_length] at h4
      have lenB : (tx (book (m ++ n))).length ≤ 1000 := by
        have := lenb (m ++ n).length
        rw [List.take_length] at this
        exact this
      have s4 : Same H H4 := sm_but (s0.trans s3) nd b4
      clear hx hy
      generalize hB : book (m ++ n) = B at h4 lenB
      have ndB : (B.map (·.1)).Nodup := by rw [← hB]; exact book_nodup _
      refine ⟨d, _, h4, True.intro, fun od => ?_⟩
      refine ⟨_, rfl, d, od, rfl, .inl ⟨_, upd_same, fun D nD => ?_⟩⟩
      have Dd : D ≠ d := fun e => by rw [e, upd_same] at nD; cases nD
      refine lc_it walk_keys (fun i H5 => Same (upd H4 d (.frz od (.dK (tx B)))) H5 ∧ H5 D = some (.lst (((tx B).take i).map fun kv => kV kv.1))) ⟨sm_new sm_refl nD, upd_same⟩ (fun i H5 _ ⟨s5, _⟩ => s5 _ _ upd_same) ?_ ?_
      · rintro i x H5 H6 hi ⟨s5, hD⟩ ⟨rfl, kk, vv, he, rfl⟩
        refine ⟨rfl, _, rfl, _, hD, small1000 (by rw [List.length_map, List.length_take]; omega), sm_new s5 nD, ?_⟩
        rw [upd_same, List.take_succ, he, List.map_append]
        rfl
      · rintro H5 ⟨s5, hD⟩
        rw [List.take_length] at hD
        refine ⟨s5 _ _ upd_same, ?_⟩
        have sb := lock_back h4 s5
        have hD3 : upd H5 d (.dK (tx B)) D = some (.lst ((tx B).map fun kv => kV kv.1)) := by rw [upd_ne Dd]; exact hD
        generalize upd H5 d (.dK (tx B)) = H6 at sb hD3 ⊢
        have h6 := sb _ _ h4
        refine ⟨D, _, B.map (·.1), rfl, SqL.of hD3, txkeys_dp B, ndB, by rw [List.length_map, ← tx_len]; exact lenB, fun l zs H7 nl s7 hzs hd7 => ?_⟩
        have lsrt : (srt B).length ≤ 1000 := by
          rw [(srt_perm _).length_eq, ← tx_len]
          exact lenB
        rw [← srt_keys ndB] at hd7
        have lz : zs.length = (srt B).length := by rw [dpAll_len hd7, List.length_map, List.length_map]
        refine ⟨l, rfl, ⟨_, SqL.of hzs⟩, fun D2 nD2 => ?_⟩
        refine lc_list (K := K) (a := l) (xs := zs) (fun j H8 => AccI K H7 D2 ((srt B).map encP) j H8) (acc_zero nD2) (fun j H8 _ a8 => a8.sm.seq (SqL.of hzs)) ?_ ?_
        · rintro j y H8 hj a8
          obtain ⟨key, hk, hy⟩ := enc_get hd7 hj
          rw [List.getElem?_map] at hk
          obtain ⟨t, ht, rfl⟩ := Option.map_eq_some_iff.mp hk
          cases dp_str (i := t.1) hy
          have tm : t ∈ B := (srt_perm _).mem_iff.mp (List.mem_of_getElem? ht)
          have hg : valV (tx B) (.inr t.1) = some (.int t.2) := by
            rw [valV_tx, look_of_mem ndB tm]
            rfl
          have h8 := a8.sm _ _ (s7 _ _ h6)
          refine ⟨rfl, _, rfl, _, rfl, _, rfl, d, .int t.2, rfl, by rw [← hg]; exact DGet.k (k := Sum.inr t.1) h8, (by show 2 ≤ sizeLine; decide), fun W nW => ?_⟩
          exact acc_step a8 nD2 (by rw [List.length_map]; exact list1000 lsrt) (tu_encPs _) (sm_new sm_refl nW) (by rw [List.getElem?_map, ht]; rfl) (dp_mk (κ := Str) (x := t.1) (SqT.of upd_same) (.str _))
        · rintro H8 a8
          obtain ⟨s8, us, hu, hd8⟩ := acc_end a8 (by rw [lz, List.length_map])
          refine ⟨D2, us, rfl, .inl ⟨SqL.of hu, fun v nv => ?_⟩⟩
          have s08 : Same H H8 := ((s4.trans sb).trans s7).trans s8
          refine k _ _ (sm_new s08 (s08.free nv)) ?_
          have e : mulM m n = srt B := by rw [← hB]; rfl
          rw [e]
          exact .tup (SqT.of upd_same) (dpAll_put (by rw [nv]; exact notT_none) (tupOnlyAll_of (tu_encPs _)) hd8)
end
end K2


set_option Elab.async false
set_option linter.all false
set_option maxRecDepth 100000
set_option maxHeartbeats 4000000
namespace K2
open PySem L2 Nd Bk
section
variable {P : Program} {w : World} {K : PySem.W.Frag} {mg : Str → Option Value} {base : Heap}
theorem scLTimes : FnScope ["p", "q", "book", "one", "other", "monomial"] ["p", "q"] (defScope sLTimes) := ⟨rfl, rfl, rfl, by decide +kernel, rfl, by decide +kernel, by decide +kernel⟩
theorem ok_ltimes {f : Addr} {fd : FuncData} (F : Fun K "_law_times" "_law_times" sLTimes f fd) (Gp : Df P w K mg base 2 "_law_product" ["one", "other"] (spLProd K)) (Gn : Df P w K mg base 2 "_law_normal" ["book"] (spNorm K P w)) : FnOk P w K mg base CX0 3 f fd ["p", "q"] (spLTimes K) := by
  obtain ⟨fp, fdp, gP, kP, bP, GP⟩ := Gp.ok
  obtain ⟨fn, fdn, gN, kN, bN, GN⟩ := Gn.ok
  refine F.ok scLTimes (fun vs H Q E h => ?_) (fun cdv A outer s H vs Q E hr h => ?_)
  · obtain ⟨x, y, p, q, rfl, _⟩ := h
    rfl
  · obtain ⟨x, y, p, q, rfl, hx, hy, okp, okq, hl, sp, sq, dp, dq, k⟩ := h
    have hr2 : Room 2 _ := hr
    refine ⟨_, pss_cons (ps_set (i := 2) scLTimes.nd rfl (Or.inl rfl) (show PE _ _ (tNdNew P w) from pe_ndNew))
      (pss_cons (ps_for PassesOwn.never rfl (pi_tup (pv 0)) (pg_name (i := 3) scLTimes.nd rfl (Or.inl rfl))
        (pss_one (ps_for PassesOwn.never rfl (pi_tup (pv 1)) (pg_name (i := 4) scLTimes.nd rfl (Or.inl rfl))
          (pss_cons (ps_set (i := 5) scLTimes.nd rfl (Or.inl rfl) (pe_call GP hr2 rfl gP kP bP .nil pass0 (pa_cons (pe_ix ix_tup (pv 3) pe_int (fun _ _ => rfl)) (pa_cons (pe_ix ix_tup (pv 4) pe_int (fun _ _ => rfl)) pa_nil))))
          (pss_one (ps_asg (pe_op op_add (pe_ndGetOr (u9 hr) (pv 2) (pv 5) pe_int ⟨rfl, rfl, rfl, rfl⟩) (pe_op op_mulW (pe_ix ix_tup (pv 3) pe_int (fun _ _ => rfl)) (pe_ix ix_tup (pv 4) pe_int (fun _ _ => rfl)))) (pg_sub (pv 2) (pv 5) (set_nd (u9 hr)))))))))
      (pss_one (ps_ret (pe_call GN hr2 rfl gN kN bN .nil pass0 (pa_cons (pv 2) pa_nil))))), ?_⟩
    intro d nd
    have s0 : Same H (upd H d (ndO P w d [])) := sm_new sm_refl nd
    have n0 : NdAt K P w (upd H d (ndO P w d [])) d [] := ⟨upd_same, fun e he => nomatch he⟩
    generalize upd H d (ndO P w d []) = H0 at s0 n0 ⊢
    have nt : NotT (H0 d) := by rw [n0.at_]; exact notT_nd
    obtain ⟨T1, xs, rfl, hxs, lx, hxa⟩ := dp_bag (dp_same s0 hx)
    obtain ⟨T2, ys, rfl, hys, ly, hya⟩ := dp_bag (dp_same s0 hy)
    have pos := pos_of_prods okp okq
    have lenB : ∀ {A : Poly}, A.length ≤ (prods p q).length → (book A).length ≤ 1000 := fun {A} h => by
      refine Nat.le_trans (len_book A) (Nat.le_trans h ?_)
      rw [len_prods]
      exact hl
    refine ⟨_, rfl, T1, rfl, ⟨_, hxs⟩, ?_⟩
    refine for_tup (K := K) (a := T1) (xs := xs) (fun i σ H4 => (∃ a c e, σ = [some (.ref T1), some (.ref T2), some (.ref d), a, c, e]) ∧ But d H0 H4 ∧ ∃ es, NdAt K P w H4 d es ∧ bagOf es = book (prods (p.take i) q)) ⟨⟨none, none, none, rfl⟩, But.refl, [], n0, rfl⟩
      (fun i σ H4 _ ⟨_, b4, _⟩ => sqT_kt (.but nt b4) hxs) ?_ ?_
    · rintro i x σ H4 hi ⟨⟨a, c, e, rfl⟩, b4, es, n4, e4⟩
      have k4 : KeepT H0 H4 := .but nt b4
      obtain ⟨t, ht, hxt⟩ := bag_get (bA_kt k4 hxa) hi
      have htp : t ∈ p := List.mem_of_getElem? ht
      refine ⟨_, rfl, T2, rfl, ⟨_, sqT_kt k4 hys⟩, ?_⟩
      refine for_tup (K := K) (a := T2) (xs := ys) (fun j σ H5 => (∃ c e, σ = [some (.ref T1), some (.ref T2), some (.ref d), some x, c, e]) ∧ But d H4 H5 ∧ ∃ es, NdAt K P w H5 d es ∧
        bagOf es = book (prods (p.take i) q ++ (q.take j).map fun b => (mulM t.1 b.1, t.2 * b.2))) ⟨⟨_, _, rfl⟩, But.refl, es, n4, by rw [List.take_zero, List.map_nil, List.append_nil]; exact e4⟩
        (fun j σ H5 _ ⟨_, b5, _⟩ => sqT_kt (.but nt (b4.trans b5)) hys) ?_ ?_
      · rintro j y σ H5 hj ⟨⟨c, e, rfl⟩, b5, es5, n5, e5⟩
        have nt4 : NotT (H4 d) := by rw [n4.at_]; exact notT_nd
        have k5 : KeepT H0 H5 := .but nt (b4.trans b5)
        have hx5 : Dp K H5 x (encP t) := dp_kt0 (KeepT.but nt4 b5) hxt (tu_encP t)
        obtain ⟨u, hu, hyu⟩ := bag_get (bA_kt k5 hya) hj
        have huq : u ∈ q := List.mem_of_getElem? hu
        obtain ⟨T, m1, rfl, hT, hm1⟩ := dp_pair hx5
        obtain ⟨U, m2, rfl, hU, hm2⟩ := dp_pair hyu
        have l1 := len_le_S (okp.2.2 t htp).2
        have l2 := len_le_S (okq.2.2 u huq).2
        have l3 := dp t htp
        have l4 := dq u huq
        refine ⟨_, rfl, T, _, _, _, rfl, rfl, hT, rfl, _, rfl, U, _, _, _, rfl, rfl, hU, rfl, m1, m2, t.1, u.1, rfl, hm1, hm2, okp.2.2 t htp, okq.2.2 u huq, by omega, fun c' H6 s6 hc' => ?_⟩
        have t0 := okp.2.1 t htp
        have u0 := okq.2.1 u huq
        have tS := le_S okp.2.1 htp
        have uS := le_S okq.2.1 huq
        obtain ⟨B, hB⟩ := prods_split (q := q) ht hu
        have el : es5.length ≤ 1000 := by
          rw [← bagOf_len, e5]
          refine lenB ?_
          rw [hB, List.length_append (as := prods (p.take i) q ++ _)]
          exact Nat.le_add_right _ _
        have n6 := nd_back n5 s6
        refine ⟨_, rfl, d, es5, rfl, n6, _, rfl, c', mulM t.1 u.1, 0, rfl, rfl, n6, hc', ?_⟩
        refine ⟨_, rfl, T, _, _, _, rfl, rfl, sqT_same s6 hT, rfl, _, rfl, U, _, _, _, rfl, rfl, sqT_same s6 hU, rfl, _, _, rfl, rfl, wide_mul (natAbs_bey (by omega) (by omega)) (natAbs_bey (by omega) (by omega)) (by decide) (by decide) (by decide), ?_⟩
        refine ⟨_, _, rfl, rfl, _, rfl, _, rfl, d, c', es5, mulM t.1 u.1, _, rfl, rfl, rfl, n6, hc', small1000 el, ?_⟩
        refine ⟨⟨_, _, rfl⟩, (b5.same s6).trans But.upd, _, nd_put n6 hc', ?_⟩
        rw [bagOf_put, List.take_succ, hu, show (some u).toList = [u] from rfl, List.map_append, List.map_cons, List.map_nil, ← List.append_assoc, book_snoc, ← e5, ← look_bagOf]
        rfl
      · rintro σ H5 ⟨⟨c, e, rfl⟩, b5, es5, n5, e5⟩
        rw [ly, List.take_length, ← prods_take_succ ht] at e5
        exact ⟨⟨_, _, _, rfl⟩, b4.trans b5, es5, n5, e5⟩
    · rintro σ H4 ⟨⟨a, c, e, rfl⟩, b4, es, n4, e4⟩
      rw [lx, List.take_length] at e4
      refine ⟨_, rfl, d, es, rfl, n4, by rw [e4]; exact book_nodup _, by rw [e4]; exact pos_book pos, ?_, fun v H5 s5 h5 => ?_⟩
      · rw [← bagOf_len, e4]
        exact lenB (Nat.le_refl _)
      · rw [e4] at h5
        exact k v H5 ((sm_but s0 nd b4).trans s5) h5
end
end K2


set_option Elab.async false
set_option linter.all false
set_option maxRecDepth 100000
set_option maxHeartbeats 4000000
namespace K2
open PySem L2 Nd Bk
theorem BoxAt.notT {H : Hp} {b c : Addr} {ns : List Int} (x : BoxAt H b c ns) : NotT (H b) := by
  obtain ⟨d0, d1, at_, s, m, _, h⟩ := x.lst
  rw [h]
  exact notT_lst
theorem BoxAt.off {H : Hp} {b c d : Addr} {ns : List Int} (x : BoxAt H b c ns) (n : H d = none) : d ≠ b := by
  obtain ⟨d0, d1, at_, s, m, _, h⟩ := x.lst
  exact Ne.symm (ne_of_none h n)
/-- a thing of ours at d changes -/
theorem BoxAt.mine {H : Hp} {b c d : Addr} {ns : List Int} {o : HO} (x : BoxAt H b c ns) (h1 : b ≠ d) (h2 : c ≠ d) : BoxAt (upd H d o) b c ns := by
  obtain ⟨d0, d1, at_, s, m, h0, h⟩ := x.lst
  exact ⟨⟨d0, d1, at_, s, m, h0, by rw [upd_ne h1]; exact h⟩, by rw [upd_ne h2]; exact x.cells, x.len⟩
theorem but_mine {H H4 : Hp} {b d : Addr} {o : HO} (k : But b H H4) (n : H d = none) : But b H (upd H4 d o) := fun a u h ne => by
  rw [upd_ne (ne_of_none h n)]
  exact k a u h ne
theorem pick_int {zs : List Int} {j : Nat} (h : j < zs.length) : ∃ z, (zs.map V.int)[j]? = some (V.int z) ∧ z ∈ zs := ⟨zs[j], by rw [List.getElem?_map, List.getElem?_eq_getElem h]; rfl, List.getElem_mem h⟩
theorem pick_str {zs : List Str} {j : Nat} (h : j < zs.length) : ∃ z, (zs.map V.str)[j]? = some (V.str z) := ⟨zs[j], by rw [List.getElem?_map, List.getElem?_eq_getElem h]; rfl⟩
/-- a short text -/
def shT (z : Str) : Bool := decide (z.length ≤ 10) && z.cps.toList.all fun c => decide (c < 16 ^ 8)
theorem ofString_small (t : String) : ∀ c ∈ (Str.ofString t).cps.toList, c < 16 ^ 8 := by
  rw [Str.ofString_eq_toList]
  intro c hc
  obtain ⟨x, _, rfl⟩ := List.mem_map.mp hc
  have h : x.val.toNat < UInt32.size := x.val.toNat_lt
  have e : (16 : Nat) ^ 8 = UInt32.size := by decide
  rw [e]
  exact h
theorem shT_mk {z : Str} (h1 : z.length ≤ 10) (h2 : ∀ c ∈ z.cps.toList, c < 16 ^ 8) : shT z = true := by
  unfold shT
  rw [Bool.and_eq_true, decide_eq_true_eq, List.all_eq_true]
  exact ⟨h1, fun c hc => decide_eq_true (h2 c hc)⟩
theorem pick_strM {zs : List Str} {j : Nat} (h : j < zs.length) : ∃ z, (zs.map V.str)[j]? = some (V.str z) ∧ z ∈ zs := ⟨zs[j], by rw [List.getElem?_map, List.getElem?_eq_getElem h]; rfl, List.getElem_mem h⟩
def spTok : Sp := fun vs H Q _ => ∃ (b c : Addr) (ns : List Int), vs = [.ref b] ∧ BoxAt H b c ns ∧ ∀ (z : Str) (H' : Hp), shT z = true → BoxAt H' b c ns → But b H H' → Q (.str z) H'
section
variable {P : Program} {w : World} {K : PySem.W.Frag} {mg : Str → Option Value} {base : Heap}
theorem scTok : FnScope ["box"] ["box"] (defScope sTok) := ⟨rfl, rfl, rfl, by decide +kernel, rfl, by decide +kernel, by decide +kernel⟩
theorem ok_tok {f : Addr} {fd : FuncData} (F : Fun K "_law_token" "_law_token" sTok f fd) (C : Cn K mg) (Gd : Df P w K mg base 2 "_law_draw" ["box", "many"] spDraw) : FnOk P w K mg base CX0 3 f fd ["box"] spTok := by
  obtain ⟨fd', fdd, gD, kD, bD', GD⟩ := Gd.ok
  refine F.ok scTok (fun vs H Q E h => ?_) (fun cdv A outer s H vs Q E hr h => ?_)
  · obtain ⟨b, c, ns, rfl, _⟩ := h
    rfl
  · obtain ⟨b, c, ns, rfl, hB, k⟩ := h
    have hr2 : Room 2 _ := hr
    refine ⟨_, pss_cons (ps_if (pt_cmpR op_gt (pe_call GD hr2 rfl gD kD bD' .nil pass0 (pa_cons (pv 0) (pa_cons pe_int pa_nil))) pe_int (nomark _))
        (pss_one (ps_ret (pe_ix ix_list (pe_lst (pa_cons pe_str (pa_cons pe_str (pa_cons pe_str (pa_cons pe_str (pa_cons pe_str (pa_cons pe_str (pa_cons pe_str pa_nil))))))))
          (pe_call GD hr2 rfl gD kD bD' .nil pass0 (pa_cons (pv 0) (pa_cons pe_int pa_nil))) (fun _ _ => rfl)))) pss_nil)
      (pss_one (ps_ret (pe_op op_add_str (pe_ix ix_str pe_str (pe_call GD hr2 rfl gD kD bD' .nil pass0 (pa_cons (pv 0) (pa_cons pe_int pa_nil))) (fun _ _ => rfl))
        (pe_callTy call_str_int (by rfl) C.N.str (by rfl) (pa_cons (pe_op op_add pe_int (pe_call GD hr2 rfl gD kD bD' .nil pass0 (pa_cons (pv 0) (pa_cons
          (pe_ix ix_list (pe_lst (pa_cons pe_int (pa_cons pe_int pa_nil))) (pe_call GD hr2 rfl gD kD bD' .nil pass0 (pa_cons (pv 0) (pa_cons pe_int pa_nil))) (fun _ _ => rfl)) pa_nil)))) pa_nil))))), ?_⟩
    refine ⟨_, rfl, b, c, ns, _, rfl, by decide, by decide, hB, fun r H1 h0 h1 B1 k1 => ⟨_, _, rfl, rfl, _, rfl, ?_⟩⟩
    refine ite2 (fun _ => ?_) (fun _ => ?_)
    · refine ⟨by show 7 ≤ sizeLine; decide, fun p np => ?_⟩
      have s2 : Same H1 (upd H1 p (.lst ((["a1", "a2", "a10", "b1", "a100", "z9999", "b12"] : List Str).map V.str))) := sm_new sm_refl np
      have pb := B1.off np
      refine ⟨_, rfl, b, c, ns, _, rfl, by decide, by decide, B1.same s2, fun r2 H3 h2 h3 B3 k3 => ?_⟩
      obtain ⟨j, rfl⟩ := Int.eq_ofNat_of_zero_le h2
      obtain ⟨z, hz, hzm⟩ := pick_strM (zs := ["a1", "a2", "a10", "b1", "a100", "z9999", "b12"]) (j := j) (by show j < 7; omega)
      have sz := (by decide +kernel : ∀ z ∈ (["a1", "a2", "a10", "b1", "a100", "z9999", "b12"] : List Str), shT z = true) z hzm
      exact ⟨p, _, _, _, rfl, rfl, SqL.of (k3 _ _ upd_same pb), atI_nat hz, k z H3 sz B3 ((k1.same s2).trans k3)⟩
    · refine ⟨_, rfl, b, c, ns, _, rfl, by decide, by decide, B1, fun r2 H2 h2 h3 B2 k2 => ?_⟩
      obtain ⟨j, rfl⟩ := Int.eq_ofNat_of_zero_le h2
      have len3 : (Str.cps "abz").toList.length = 3 := by decide +kernel
      have hj : j < (Str.cps "abz").toList.length := by omega
      refine ⟨_, _, _, rfl, rfl, by decide +kernel, atI_nat (List.getElem?_eq_getElem hj), ?_⟩
      refine ⟨_, rfl, by show 2 ≤ sizeLine; decide, fun p np => ?_⟩
      have s3 : Same H2 (upd H2 p (.lst (([9, 9999] : List Int).map V.int))) := sm_new sm_refl np
      have pb := B2.off np
      refine ⟨_, rfl, b, c, ns, _, rfl, by decide, by decide, B2.same s3, fun r4 H4 h4 h5 B4 k4 => ?_⟩
      obtain ⟨j4, rfl⟩ := Int.eq_ofNat_of_zero_le h4
      obtain ⟨z, hz, hzm⟩ := pick_int (zs := [9, 9999]) (j := j4) (by show j4 < 2; omega)
      have hz9 : 0 < z ∧ z ≤ 9999 := by
        simp only [List.mem_cons, List.not_mem_nil, or_false] at hzm
        omega
      refine ⟨p, _, _, _, rfl, rfl, SqL.of (k4 _ _ upd_same pb), atI_nat hz, ?_⟩
      refine ⟨b, c, ns, z, rfl, by omega, by omega, B4, fun r6 H6 h6 h7 B6 k6 => ?_⟩
      refine ⟨_, _, rfl, rfl, _, rfl, ?_, ?_⟩
      · refine (Nat.log2_lt (by omega)).mpr (Nat.lt_of_lt_of_le (show (1 + r6).natAbs < 2 ^ 14 by omega) (Nat.pow_le_pow_right (by decide) (by decide)))
      · have e1 : Str.length ⟨#[(Str.cps "abz").toList[j]]⟩ = 1 := rfl
        have l4 : (Str.ofString (toString (1 + r6))).length ≤ 5 := PyProof.Rows.toString_length_le (by omega) (by decide) (by omega)
        refine ⟨_, _, rfl, rfl, ?_, k _ H6 (shT_mk ?_ ?_) B6 ((((k1.trans k2).same s3).trans k4).trans k6)⟩
        · rw [sizeLine_eq, e1]
          have := PySem.W.KT.len_num (n := 1 + r6) (by omega) (by omega)
          omega
        · rw [Str.length_append, e1]
          omega
        · intro x hx
          rw [PySem.W.KT.app_list] at hx
          rcases List.mem_append.mp hx with q | q
          · have e2 : x ∈ (Str.cps "abz").toList := by
              rw [List.mem_singleton.mp q]
              exact List.getElem_mem hj
            exact (by decide +kernel : ∀ y ∈ (Str.cps "abz").toList, y < 16 ^ 8) x e2
          · exact ofString_small _ x q
end
end K2


set_option Elab.async false
set_option linter.all false
set_option maxRecDepth 100000
set_option maxHeartbeats 4000000
namespace K2
open PySem L2 Nd Bk
structure PM (m : Mono) : Prop where
  ok : MOk m
  len : m.length ≤ 3
  sz : S m ≤ 36
  tk : ∀ x ∈ m, shT x.1 = true
structure PB (p : Poly) : Prop where
  ok : POk p
  len : p.length ≤ 5
  sz : S p ≤ 5000
  dg : Dg p 36
  tk : ∀ t ∈ p, ∀ x ∈ t.1, shT x.1 = true
theorem S_le {κ : Type} {l : Bag κ} {n : Nat} {c : Int} (hc : 0 ≤ c) (hl : l.length ≤ n) (h : ∀ t ∈ l, t.2 ≤ c) : S l ≤ n * c := by
  induction l generalizing n with
  | nil =>
    have : (0 : Int) ≤ n * c := Int.mul_nonneg (by omega) hc
    exact this
  | cons x r ih =>
    cases n with
    | zero => simp at hl
    | succ n =>
      have h1 := h x List.mem_cons_self
      have h2 := ih (n := n) (by rw [List.length_cons] at hl; omega) fun t ht => h t (List.mem_cons_of_mem _ ht)
      have e : S (x :: r) = x.2 * 1 + S r := by unfold S pr; simp
      have e2 : ((n + 1 : Nat) : Int) * c = (n : Int) * c + c := by rw [Int.natCast_add, Int.add_mul]; simp
      omega
theorem put_all {κ : Type} [DecidableEq κ] {l : Bag κ} {k : κ} {v : Int} {R : κ × Int → Prop} (h : ∀ t ∈ l, R t) (hv : R (k, v)) : ∀ t ∈ put l k v, R t := fun t ht => by
  unfold put at ht
  split at ht
  · obtain ⟨e, he, rfl⟩ := List.mem_map.mp ht
    by_cases q : e.1 = k
    · rw [if_pos q, q]
      exact hv
    · rw [if_neg q]
      exact h e he
  · rcases List.mem_append.mp ht with q | q
    · exact h t q
    · rw [List.mem_singleton.mp q]
      exact hv
theorem put_len {κ : Type} [DecidableEq κ] (l : Bag κ) (k : κ) (v : Int) : (put l k v).length ≤ l.length + 1 := by
  unfold put
  split
  · rw [List.length_map]; omega
  · rw [List.length_append]; exact Nat.le_refl _
def spLMono (K : PySem.W.Frag) : Sp := fun vs H Q _ => ∃ (b c : Addr) (ns : List Int), vs = [.ref b, .int 3] ∧ BoxAt H b c ns ∧ ∀ (a : Addr) (m : Mono) (H' : Hp), PM m → BoxAt H' b c ns → But b H H' → Dp K H' (.ref a) (mD m) → Q (.ref a) H'
def spLPoly (K : PySem.W.Frag) : Sp := fun vs H Q _ => ∃ (b c : Addr) (ns : List Int), vs = [.ref b, .int 5, .int 3] ∧ BoxAt H b c ns ∧ ∀ (v : V) (p : Poly) (H' : Hp), PB p → BoxAt H' b c ns → But b H H' → Dp K H' v (bD p) → Q v H'
section
variable {P : Program} {w : World} {K : PySem.W.Frag} {mg : Str → Option Value} {base : Heap}
theorem scLMono : FnScope ["box", "most", "book", "k", "one", "token"] ["box", "most"] (defScope sLMono) := ⟨rfl, rfl, rfl, by decide +kernel, rfl, by decide +kernel, by decide +kernel⟩
theorem ok_lmono {f : Addr} {fd : FuncData} (F : Fun K "_law_monomial" "_law_monomial" sLMono f fd) (C : Cn K mg) (Gd : Df P w K mg base 2 "_law_draw" ["box", "many"] spDraw) (Gt : Df P w K mg base 3 "_law_token" ["box"] spTok)
    (Gs : Df P w K mg base 1 "_law_sorted" ["row"] (spSort K Str)) : FnOk P w K mg base CX0 4 f fd ["box", "most"] (spLMono K) := by
  obtain ⟨fd', fdd, gD, kD, bD', GD⟩ := Gd.ok
  obtain ⟨ft, fdt, gT, kT, bT, GT⟩ := Gt.ok
  obtain ⟨fs, fds, gS, kS, bS, GS⟩ := Gs.ok
  refine F.ok scLMono (fun vs H Q E h => ?_) (fun cdv A outer s H vs Q E hr h => ?_)
  · obtain ⟨b, c, ns, rfl, _⟩ := h
    rfl
  · obtain ⟨b, c, ns, rfl, hB, k⟩ := h
    have hr1 : Room 1 _ := hr.mono (by decide)
    have hr2 : Room 2 _ := hr.mono (by decide)
    have hr3 : Room 3 _ := hr
    refine ⟨_, pss_cons (ps_set (i := 2) scLMono.nd rfl (Or.inr rfl) pe_dnewK)
      (pss_cons (ps_for PassesOwn.never rfl (pi_range1 rfl C.N.rng (pa_cons (pe_call GD hr2 rfl gD kD bD' .nil pass0 (pa_cons (pv 0) (pa_cons (pe_op op_add (pv 1) pe_int) pa_nil))) pa_nil)) (pg_name (i := 3) scLMono.nd rfl (Or.inl rfl))
        (pss_one (ps_dput (u1 hr) (pv 2) (pe_call GT hr3 rfl gT kT bT .nil pass0 (pa_cons (pv 0) pa_nil)) (pe_op op_add pe_int (pe_call GD hr2 rfl gD kD bD' .nil pass0 (pa_cons (pv 0) (pa_cons
          (pe_ix ix_list (pe_lst (pa_cons pe_int (pa_cons pe_int (pa_cons pe_int pa_nil)))) (pe_call GD hr2 rfl gD kD bD' .nil pass0 (pa_cons (pv 0) (pa_cons pe_int pa_nil))) (fun _ _ => rfl)) pa_nil)))) rfl)))
      (pss_one (ps_ret (pe_callTy call_tuple_of (by rfl) C.N.tup (by rfl) (pa_cons
        (pe_lc (own := [("token", 5)]) (g := gName 5) (tt := tYes) rfl scLMono.nd
          (pi_list (pe_call GS hr1 rfl gS kS bS .nil pass0 (pa_cons (pe_lock (pe_lc (own := [("one", 4)]) (g := gName 4) (tt := tYes) rfl scLMono.nd (pi_keys (pv 2)) (blkOk_by (N := ["box", "most", "book", "k", "one", "token"]) (sc := defScope sLMono) (by decide +kernel))
            (fun _ _ _ _ _ => pg_name (i := 4) scLMono.nd rfl (Or.inl rfl)) (fun _ _ _ _ _ => pts_nil) (fun _ _ _ _ _ => pv 4))) pa_nil)))
          (blkOk_by (N := ["box", "most", "book", "k", "one", "token"]) (sc := defScope sLMono) (by decide +kernel))
          (fun _ _ _ _ _ => pg_name (i := 5) scLMono.nd rfl (Or.inl rfl)) (fun _ _ _ _ _ => pts_nil)
          (fun _ _ _ _ _ => pe_tup (pa_cons (pv 5) (pa_cons (pe_dget (u1 hr) (pv 2) (pv 5) (fun _ _ => rfl)) pa_nil)))) pa_nil))))), ?_⟩
    intro d nd
    have s0 : Same H (upd H d (.dK [])) := sm_new sm_refl nd
    have d0 : upd H d (.dK []) d = some (.dK (tx [])) := upd_same
    have db := hB.off nd
    have dc : c ≠ d := ne_of_none hB.cells nd
    generalize upd H d (.dK []) = H0 at s0 d0 ⊢
    have k0 : But b H H0 := But.refl.same s0
    refine ⟨_, rfl, _, rfl, _, _, rfl, rfl, b, c, ns, _, rfl, by decide, by decide, hB.same s0, fun r H1 h0 h1 B1 k1 => ?_⟩
    refine ⟨_, rfl, by omega, by omega, ?_⟩
    refine for_range (n := r.toNat) (fun i σ H4 => (∃ v, σ = [some (.ref b), some (.int 3), some (.ref d), v, none, none]) ∧ BoxAt H4 b c ns ∧ But b H H4 ∧ ∃ m : Mono, H4 d = some (.dK (tx m)) ∧ (m.map (·.1)).Nodup ∧ m.length ≤ i ∧ ∀ t ∈ m, (0 < t.2 ∧ t.2 ≤ 12) ∧ shT t.1 = true)
      ⟨⟨none, rfl⟩, B1, k0.trans k1, [], k1 _ _ d0 db, List.nodup_nil, Nat.le_refl _, fun t ht => nomatch ht⟩ ?_ ?_
    · rintro i σ H4 hi ⟨⟨v, rfl⟩, B4, k4, m, h4, hn, hl, hm⟩
      refine ⟨_, rfl, by show 3 ≤ sizeLine; decide, fun p np => ?_⟩
      have s5 : Same H4 (upd H4 p (.lst (([1, 3, 12] : List Int).map V.int))) := sm_new sm_refl np
      have pb := B4.off np
      refine ⟨_, rfl, b, c, ns, _, rfl, by decide, by decide, B4.same s5, fun r2 H6 h2 h3 B6 k6 => ?_⟩
      obtain ⟨j, rfl⟩ := Int.eq_ofNat_of_zero_le h2
      obtain ⟨z, hz, hzm⟩ := pick_int (zs := [1, 3, 12]) (j := j) (by show j < 3; omega)
      have hz9 : 0 < z ∧ z ≤ 12 := by
        simp only [List.mem_cons, List.not_mem_nil, or_false] at hzm
        omega
      refine ⟨p, _, _, _, rfl, rfl, SqL.of (k6 _ _ upd_same pb), atI_nat hz, ?_⟩
      refine ⟨b, c, ns, z, rfl, by omega, by omega, B6, fun e H7 h6 h7 B7 k7 => ?_⟩
      refine ⟨_, _, rfl, rfl, _, rfl, _, rfl, b, c, ns, rfl, B7, fun x H8 sx B8 k8 => ?_⟩
      have k48 : But b H4 H8 := (((But.refl.same s5).trans k6).trans k7).trans k8
      have h8 := k48 _ _ h4 db
      refine ⟨d, _, rfl, DPut.k (k := Sum.inr x) h8 (small1000 (by rw [tx_len]; omega)), ⟨_, rfl⟩, B8.mine (Ne.symm db) dc, but_mine (k4.trans k48) nd, put m x (1 + e), ?_, nodup_put hn _ _, ?_, ?_⟩
      · rw [upd_same, putK_tx]
      · have := put_len m x (1 + e)
        omega
      · exact put_all (R := fun t => (0 < t.2 ∧ t.2 ≤ 12) ∧ shT t.1 = true) hm ⟨⟨by show 0 < 1 + e; omega, by show 1 + e ≤ 12; omega⟩, sx⟩
    · rintro σ H4 ⟨⟨v, rfl⟩, B4, k4, B, h4, ndB, hl, hm⟩
      have lenB : (tx B).length ≤ 1000 := by rw [tx_len]; omega
      refine ⟨d, _, h4, True.intro, fun od => ?_⟩
      refine ⟨_, rfl, d, od, rfl, .inl ⟨_, upd_same, fun D nD => ?_⟩⟩
      have Dd : D ≠ d := fun e => by rw [e, upd_same] at nD; cases nD
      refine lc_it walk_keys (fun i H5 => Same (upd H4 d (.frz od (.dK (tx B)))) H5 ∧ H5 D = some (.lst (((tx B).take i).map fun kv => kV kv.1))) ⟨sm_new sm_refl nD, upd_same⟩ (fun i H5 _ ⟨s5, _⟩ => s5 _ _ upd_same) ?_ ?_
      · rintro i x H5 H6 hi ⟨s5, hD⟩ ⟨rfl, kk, vv, he, rfl⟩
        refine ⟨rfl, _, rfl, _, hD, small1000 (by rw [List.length_map, List.length_take]; omega), sm_new s5 nD, ?_⟩
        rw [upd_same, List.take_succ, he, List.map_append]
        rfl
      · rintro H5 ⟨s5, hD⟩
        rw [List.take_length] at hD
        refine ⟨s5 _ _ upd_same, ?_⟩
        have sb := lock_back h4 s5
        have hD3 : upd H5 d (.dK (tx B)) D = some (.lst ((tx B).map fun kv => kV kv.1)) := by rw [upd_ne Dd]; exact hD
        generalize upd H5 d (.dK (tx B)) = H6 at sb hD3 ⊢
        have h6 := sb _ _ h4
        refine ⟨D, _, B.map (·.1), rfl, SqL.of hD3, txkeys_dp B, ndB, by rw [List.length_map, ← tx_len]; exact lenB, fun l zs H7 nl s7 hzs hd7 => ?_⟩
        have lsrt : (srt B).length ≤ 1000 := by
          rw [(srt_perm _).length_eq, ← tx_len]
          exact lenB
        rw [← srt_keys ndB] at hd7
        have lz : zs.length = (srt B).length := by rw [dpAll_len hd7, List.length_map, List.length_map]
        refine ⟨l, rfl, ⟨_, SqL.of hzs⟩, fun D2 nD2 => ?_⟩
        refine lc_list (K := K) (a := l) (xs := zs) (fun j H8 => AccI K H7 D2 ((srt B).map encP) j H8) (acc_zero nD2) (fun j H8 _ a8 => a8.sm.seq (SqL.of hzs)) ?_ ?_
        · rintro j y H8 hj a8
          obtain ⟨key, hk, hy⟩ := enc_get hd7 hj
          rw [List.getElem?_map] at hk
          obtain ⟨t, ht, rfl⟩ := Option.map_eq_some_iff.mp hk
          cases dp_str (i := t.1) hy
          have tm : t ∈ B := (srt_perm _).mem_iff.mp (List.mem_of_getElem? ht)
          have hg : valV (tx B) (.inr t.1) = some (.int t.2) := by
            rw [valV_tx, look_of_mem ndB tm]
            rfl
          have h8 := a8.sm _ _ (s7 _ _ h6)
          refine ⟨rfl, _, rfl, _, rfl, _, rfl, d, .int t.2, rfl, by rw [← hg]; exact DGet.k (k := Sum.inr t.1) h8, (by show 2 ≤ sizeLine; decide), fun W nW => ?_⟩
          exact acc_step a8 nD2 (by rw [List.length_map]; exact list1000 lsrt) (tu_encPs _) (sm_new sm_refl nW) (by rw [List.getElem?_map, ht]; rfl) (dp_mk (κ := Str) (x := t.1) (SqT.of upd_same) (.str _))
        · rintro H8 a8
          obtain ⟨s8, us, hu, hd8⟩ := acc_end a8 (by rw [lz, List.length_map])
          have s48 : Same H4 H8 := (sb.trans s7).trans s8
          have mem : ∀ t ∈ srt B, (0 < t.2 ∧ t.2 ≤ 12) ∧ shT t.1 = true := fun t ht => hm t ((srt_perm _).mem_iff.mp ht)
          have ls3 : (srt B).length ≤ 3 := by
            rw [(srt_perm _).length_eq]
            omega
          refine ⟨D2, us, rfl, .inl ⟨SqL.of hu, fun v nv => ?_⟩⟩
          have s9 : Same H4 (upd H8 v (.tup us)) := sm_new s48 (s48.free nv)
          refine k v (srt B) _ ⟨⟨srt_asc ndB, fun t ht => (mem t ht).1.1⟩, ls3, ?_, fun t ht => (mem t ht).2⟩ (B4.same s9) (k4.same s9) (.tup (SqT.of upd_same) (dpAll_put (by rw [nv]; exact notT_none) (tupOnlyAll_of (tu_encPs _)) hd8))
          exact S_le (n := 3) (c := 12) (by decide) ls3 fun t ht => (mem t ht).1.2
theorem scLPoly : FnScope ["box", "terms", "most", "book", "k"] ["box", "terms", "most"] (defScope sLPoly) := ⟨rfl, rfl, rfl, by decide +kernel, rfl, by decide +kernel, by decide +kernel⟩
theorem ok_lpoly {f : Addr} {fd : FuncData} (F : Fun K "_law_poly" "_law_poly" sLPoly f fd) (C : Cn K mg) (Gd : Df P w K mg base 2 "_law_draw" ["box", "many"] spDraw) (Gm : Df P w K mg base 4 "_law_monomial" ["box", "most"] (spLMono K))
    (Gn : Df P w K mg base 2 "_law_normal" ["book"] (spNorm K P w)) : FnOk P w K mg base CX0 5 f fd ["box", "terms", "most"] (spLPoly K) := by
  obtain ⟨fd', fdd, gD, kD, bD', GD⟩ := Gd.ok
  obtain ⟨fm, fdm, gM, kM, bM, GM⟩ := Gm.ok
  obtain ⟨fn, fdn, gN, kN, bN, GN⟩ := Gn.ok
  refine F.ok scLPoly (fun vs H Q E h => ?_) (fun cdv A outer s H vs Q E hr h => ?_)
  · obtain ⟨b, c, ns, rfl, _⟩ := h
    rfl
  · obtain ⟨b, c, ns, rfl, hB, k⟩ := h
    have hr2 : Room 2 _ := hr.mono (by decide)
    have hr4 : Room 4 _ := hr
    refine ⟨_, pss_cons (ps_set (i := 3) scLPoly.nd rfl (Or.inl rfl) (show PE _ _ (tNdNew P w) from pe_ndNew))
      (pss_cons (ps_for PassesOwn.never rfl (pi_range1 rfl C.N.rng (pa_cons (pe_call GD hr2 rfl gD kD bD' .nil pass0 (pa_cons (pv 0) (pa_cons (pe_op op_add (pv 1) pe_int) pa_nil))) pa_nil)) (pg_name (i := 4) scLPoly.nd rfl (Or.inl rfl))
        (pss_one (ps_asg (pe_op op_add pe_int (pe_call GD hr2 rfl gD kD bD' .nil pass0 (pa_cons (pv 0) (pa_cons
          (pe_ix ix_list (pe_lst (pa_cons pe_int (pa_cons pe_int (pa_cons pe_int pa_nil)))) (pe_call GD hr2 rfl gD kD bD' .nil pass0 (pa_cons (pv 0) (pa_cons pe_int pa_nil))) (fun _ _ => rfl)) pa_nil))))
          (pg_sub (pv 3) (pe_call GM hr4 rfl gM kM bM .nil pass0 (pa_cons (pv 0) (pa_cons (pv 2) pa_nil))) (set_nd (u9 hr))))))
      (pss_one (ps_ret (pe_call GN hr2 rfl gN kN bN .nil pass0 (pa_cons (pv 3) pa_nil))))), ?_⟩
    intro d nd
    have s0 : Same H (upd H d (ndO P w d [])) := sm_new sm_refl nd
    have n0 : NdAt K P w (upd H d (ndO P w d [])) d [] := ⟨upd_same, fun e he => nomatch he⟩
    have db := hB.off nd
    have dc : c ≠ d := ne_of_none hB.cells nd
    generalize upd H d (ndO P w d []) = H0 at s0 n0 ⊢
    have k0 : But b H H0 := But.refl.same s0
    refine ⟨_, rfl, _, rfl, _, _, rfl, rfl, b, c, ns, _, rfl, by decide, by decide, hB.same s0, fun r H1 h0 h1 B1 k1 => ?_⟩
    have nd_but : ∀ {H2 H3 : Hp} {es : List Ent}, BoxAt H2 b c ns → But b H2 H3 → NdAt K P w H2 d es → NdAt K P w H3 d es := fun {H2 H3 es} hb kb n => ⟨kb _ _ n.at_ db, fun e he => bD_kt (κ := Str) (KeepT.but hb.notT kb) (n.keys e he)⟩
    refine ⟨_, rfl, by omega, by omega, ?_⟩
    refine for_range (n := r.toNat) (fun i σ H4 => (∃ v, σ = [some (.ref b), some (.int 5), some (.int 3), some (.ref d), v]) ∧ BoxAt H4 b c ns ∧ But b H H4 ∧ ∃ es, NdAt K P w H4 d es ∧ ((bagOf es).map (·.1)).Nodup ∧ es.length ≤ i ∧ ∀ t ∈ bagOf es, (0 < t.2 ∧ t.2 ≤ 1000) ∧ PM t.1)
      ⟨⟨none, rfl⟩, B1, k0.trans k1, [], nd_but (hB.same s0) k1 n0, List.nodup_nil, Nat.le_refl _, fun t ht => nomatch ht⟩ ?_ ?_
    · rintro i σ H4 hi ⟨⟨v, rfl⟩, B4, k4, es, n4, hn, hl, hm⟩
      refine ⟨_, rfl, by show 3 ≤ sizeLine; decide, fun p np => ?_⟩
      have s5 : Same H4 (upd H4 p (.lst (([1, 3, 1000] : List Int).map V.int))) := sm_new sm_refl np
      have pb := B4.off np
      refine ⟨_, rfl, b, c, ns, _, rfl, by decide, by decide, B4.same s5, fun r2 H6 h2 h3 B6 k6 => ?_⟩
      obtain ⟨j, rfl⟩ := Int.eq_ofNat_of_zero_le h2
      obtain ⟨z, hz, hzm⟩ := pick_int (zs := [1, 3, 1000]) (j := j) (by show j < 3; omega)
      have hz9 : 0 < z ∧ z ≤ 1000 := by
        simp only [List.mem_cons, List.not_mem_nil, or_false] at hzm
        omega
      refine ⟨p, _, _, _, rfl, rfl, SqL.of (k6 _ _ upd_same pb), atI_nat hz, ?_⟩
      refine ⟨b, c, ns, z, rfl, by omega, by omega, B6, fun e H7 h6 h7 B7 k7 => ?_⟩
      refine ⟨_, _, rfl, rfl, _, rfl, _, rfl, _, rfl, b, c, ns, rfl, B7, fun a m H8 pm B8 k8 hm8 => ?_⟩
      have k48 : But b H4 H8 := (((But.refl.same s5).trans k6).trans k7).trans k8
      have n8 := nd_but B4 k48 n4
      refine ⟨d, a, es, m, _, rfl, rfl, rfl, n8, hm8, small1000 (by omega), ⟨_, rfl⟩, B8.mine (Ne.symm db) dc, but_mine (k4.trans k48) nd, _, nd_put n8 hm8, ?_, ?_, ?_⟩
      · rw [bagOf_put]
        exact nodup_put hn _ _
      · have := putN_len es m a (1 + e)
        omega
      · rw [bagOf_put]
        exact put_all (R := fun t => (0 < t.2 ∧ t.2 ≤ 1000) ∧ PM t.1) hm ⟨⟨by show 0 < 1 + e; omega, by show 1 + e ≤ 1000; omega⟩, pm⟩
    · rintro σ H4 ⟨⟨v, rfl⟩, B4, k4, es, n4, hn, hl, hm⟩
      refine ⟨_, rfl, d, es, rfl, n4, hn, fun t ht => (hm t ht).1.1, by omega, fun v H5 s5 h5 => ?_⟩
      have mem : ∀ t ∈ srt (bagOf es), (0 < t.2 ∧ t.2 ≤ 1000) ∧ PM t.1 := fun t ht => hm t ((srt_perm _).mem_iff.mp ht)
      have ls5 : (srt (bagOf es)).length ≤ 5 := by
        rw [(srt_perm _).length_eq, bagOf_len]
        omega
      exact k v _ H5 ⟨⟨srt_asc hn, fun t ht => (mem t ht).1.1, fun t ht => (mem t ht).2.ok⟩, ls5, S_le (n := 5) (c := 1000) (by decide) ls5 fun t ht => (mem t ht).1.2, fun t ht => (mem t ht).2.sz, fun t ht => (mem t ht).2.tk⟩ (B4.same s5) (k4.same s5) h5
end
end K2


set_option Elab.async false
set_option linter.all false
set_option maxRecDepth 100000
set_option maxHeartbeats 4000000
namespace K2
open PySem L2 Nd Bk
/-- sizes of a polynomial -/
structure PZ (p : Poly) (l : Nat) (s d : Int) : Prop where
  ok : POk p
  len : p.length ≤ l
  sz : S p ≤ s
  dg : Dg p d
theorem PB.z {p : Poly} (h : PB p) : PZ p 5 5000 36 := ⟨h.ok, h.len, h.sz, h.dg⟩
theorem pb_zero : PB [] := ⟨pok_zero, by decide, by decide, (fun _ h => nomatch h), fun _ h => nomatch h⟩
theorem pb_one : PB oneP := ⟨pok_one, by decide, by decide, fun t h => by rw [List.mem_singleton.mp h]; decide, fun t h x hx => by rw [List.mem_singleton.mp h] at hx; exact nomatch hx⟩
theorem PZ.weak {p : Poly} {l l' : Nat} {s s' d d' : Int} (h : PZ p l s d) (h1 : l ≤ l') (h2 : s ≤ s') (h3 : d ≤ d') : PZ p l' s' d' := ⟨h.ok, Nat.le_trans h.len h1, Int.le_trans h.sz h2, fun t ht => Int.le_trans (h.dg t ht) h3⟩
theorem PZ.plus {p q : Poly} {l l' : Nat} {s s' d : Int} (h : PZ p l s d) (h' : PZ q l' s' d) : PZ (plusP p q) (l + l') (s + s') d := by
  refine ⟨plusP_ok h.ok h'.ok, ?_, ?_, Dg_plus h.dg h'.dg⟩
  · refine Nat.le_trans (nf_len _) ?_
    have := h.len
    have := h'.len
    rw [List.length_append]
    omega
  · rw [S_plus]
    have := h.sz
    have := h'.sz
    omega
theorem PZ.sz0 {p : Poly} {l : Nat} {s d : Int} (h : PZ p l s d) : 0 ≤ S p := S_nonneg h.ok.2.1
theorem mul_S {p q : Poly} {l l' : Nat} {s s' d d' : Int} (h : PZ p l s d) (h' : PZ q l' s' d') : S p * S q ≤ s * s' :=
  Int.mul_le_mul h.sz h'.sz h'.sz0 (Int.le_trans h.sz0 h.sz)
theorem PZ.times {p q : Poly} {l l' : Nat} {s s' d d' : Int} (h : PZ p l s d) (h' : PZ q l' s' d') : PZ (timesP p q) (l * l') (s * s') (d + d') := by
  refine ⟨timesP_ok h.ok h'.ok, ?_, ?_, Dg_times h.dg h'.dg⟩
  · refine Nat.le_trans (nf_len _) ?_
    rw [len_prods]
    exact Nat.mul_le_mul h.len h'.len
  · rw [S_times]
    exact mul_S h h'
theorem Dg.le {p : Poly} {d d' : Int} (h : Dg p d) (h' : d ≤ d') : Dg p d' := fun t ht => Int.le_trans (h t ht) h'
section
variable {K : PySem.W.Frag} {H : Hp} {x y : V} {p q : Poly} {l l' : Nat} {s s' d d' : Int} {Q : VK}
theorem go_plus (hx : Dp K H x (bD p)) (hy : Dp K H y (bD q)) (zp : PZ p l s d) (zq : PZ q l' s' d') (h1 : l + l' ≤ 400) (h2 : s + s' < BEY) (h3 : d ≤ 1000) (h4 : d' ≤ 1000)
    (k : ∀ (v : V) (H' : Hp), Same H H' → Dp K H' v (bD (plusP p q)) → Q v H') : spPlus K [x, y] H Q E0 := by
  have := zp.len
  have := zq.len
  have := zp.sz
  have := zq.sz
  exact ⟨x, y, p, q, rfl, hx, hy, zp.ok, zq.ok, by omega, by omega, Dg.le zp.dg h3, Dg.le zq.dg h4, k⟩
theorem go_lplus (hx : Dp K H x (bD p)) (hy : Dp K H y (bD q)) (zp : PZ p l s d) (zq : PZ q l' s' d') (h1 : l + l' ≤ 1000)
    (k : ∀ (v : V) (H' : Hp), Same H H' → Dp K H' v (bD (plusP p q)) → Q v H') : spLPlus K [x, y] H Q E0 := by
  have := zp.len
  have := zq.len
  exact ⟨x, y, p, q, rfl, hx, hy, zp.ok, zq.ok, by omega, k⟩
theorem go_times (hx : Dp K H x (bD p)) (hy : Dp K H y (bD q)) (zp : PZ p l s d) (zq : PZ q l' s' d') (h1 : l * l' ≤ 400) (h2 : s * s' < BEY) (h3 : d + d' ≤ 1000) (h5 : l ≤ 1000) (h6 : l' ≤ 1000) (h7 : s < BEY) (h8 : s' < BEY) (h9 : d ≤ 1000) (hA : d' ≤ 1000)
    (k : ∀ (v : V) (H' : Hp), Same H H' → Dp K H' v (bD (timesP p q)) → Q v H') : spTimes K [x, y] H Q E0 := by
  have a1 := zp.len
  have a2 := zq.len
  have a3 := mul_S zp zq
  have a4 := zp.sz
  have a5 := zq.sz
  exact ⟨x, y, p, q, rfl, hx, hy, ⟨zp.ok, zq.ok, Nat.le_trans (Nat.mul_le_mul a1 a2) h1, by omega, by omega, by omega, by omega, by omega, Dg.le zp.dg h9, Dg.le zq.dg hA, fun a ha b hb => by
    have := zp.dg a ha
    have := zq.dg b hb
    omega⟩, k⟩
theorem go_ltimes (hx : Dp K H x (bD p)) (hy : Dp K H y (bD q)) (zp : PZ p l s d) (zq : PZ q l' s' d') (h1 : l * l' ≤ 1000) (h7 : s < BEY) (h8 : s' < BEY) (h9 : d ≤ 500) (hA : d' ≤ 500)
    (k : ∀ (v : V) (H' : Hp), Same H H' → Dp K H' v (bD (timesP p q)) → Q v H') : spLTimes K [x, y] H Q E0 := by
  have a1 := zp.len
  have a2 := zq.len
  have a4 := zp.sz
  have a5 := zq.sz
  exact ⟨x, y, p, q, rfl, hx, hy, zp.ok, zq.ok, Nat.le_trans (Nat.mul_le_mul a1 a2) h1, by omega, by omega, Dg.le zp.dg h9, Dg.le zq.dg hA, k⟩
end
/-! alike -/
section
variable {K : PySem.W.Frag} {H : Hp}
theorem ak_int {n : Nat} {x y : V} {i : Int} (hx : Dp K H x (.int i)) (hy : Dp K H y (.int i)) : Alike K H n x y := by
  cases dp_int hx
  cases dp_int hy
  cases n with
  | zero => exact ⟨rfl, trivial⟩
  | succ n => exact .inl ⟨rfl, trivial⟩
theorem ak_str {n : Nat} {x y : V} {i : Str} (hx : Dp K H x (.str i)) (hy : Dp K H y (.str i)) : Alike K H n x y := by
  cases dp_str hx
  cases dp_str hy
  cases n with
  | zero => exact ⟨rfl, trivial⟩
  | succ n => exact .inl ⟨rfl, trivial⟩
theorem ak_tup {n : Nat} {x y : V} {ds : List PyData} (hx : Dp K H x (.tuple ds)) (hy : Dp K H y (.tuple ds)) (hl : ds.length ≤ 1000000) (h : ∀ d ∈ ds, ∀ u v, Dp K H u d → Dp K H v d → Alike K H n u v) : Alike K H (n + 1) x y := by
  obtain ⟨a, xs, rfl, h1, h2⟩ := dp_tup hx
  obtain ⟨b, ys, rfl, h3, h4⟩ := dp_tup hy
  refine .inr ⟨a, b, xs, ys, rfl, rfl, .inl ⟨h1, h3⟩, by rw [dpAll_len h2, dpAll_len h4], by rw [dpAll_len h4]; exact hl, fun i u v e1 e2 => ?_⟩
  obtain ⟨d1, q1, r1⟩ := dpAll_get h2 e1
  obtain ⟨d2, q2, r2⟩ := dpAll_get h4 e2
  rw [q1] at q2
  cases q2
  exact h d1 (List.mem_of_getElem? q1) u v r1 r2
theorem ak_pair {n : Nat} {κ : Type} [DecidableEq κ] [Ky κ] {p : κ × Int} {x y : V} (h : ∀ u v, Dp K H u (Ky.enc p.1) → Dp K H v (Ky.enc p.1) → Alike K H n u v) (hx : Dp K H x (encP p)) (hy : Dp K H y (encP p)) : Alike K H (n + 1) x y :=
  ak_tup hx hy (by show 2 ≤ 1000000; decide) fun d hd u v hu hv => by
    simp only [List.mem_cons, List.not_mem_nil, or_false] at hd
    rcases hd with rfl | rfl
    · exact h u v hu hv
    · exact ak_int hu hv
theorem ak_mono {m : Mono} {x y : V} (hl : m.length ≤ 1000) (hx : Dp K H x (bD m)) (hy : Dp K H y (bD m)) : Alike K H 2 x y :=
  ak_tup hx hy (by rw [List.length_map]; omega) fun d hd u v hu hv => by
    obtain ⟨p, _, rfl⟩ := List.mem_map.mp hd
    exact ak_pair (κ := Str) (fun _ _ h1 h2 => ak_str (i := p.1) h1 h2) hu hv
theorem ak_poly {p : Poly} {x y : V} (hz : Szd p) (hx : Dp K H x (bD p)) (hy : Dp K H y (bD p)) : Alike K H 4 x y :=
  ak_tup hx hy (by rw [List.length_map]; have := hz.1; omega) fun d hd u v hu hv => by
    obtain ⟨t, ht, rfl⟩ := List.mem_map.mp hd
    exact ak_pair (κ := Mono) (fun _ _ h1 h2 => ak_mono (hz.2 t ht) h1 h2) hu hv
theorem PZ.szd {p : Poly} {l : Nat} {s d : Int} (z : PZ p l s d) (h1 : l ≤ 1000) (h2 : d ≤ 1000) : Szd p := szd_of z.ok (Nat.le_trans z.len h1) (Dg.le z.dg h2)
/-- two list displays -/
theorem ak_list {A B : Addr} {xs ys : List V} (h1 : H A = some (.lst xs)) (h2 : H B = some (.lst ys)) (hl : xs.length = ys.length) (hz : ys.length ≤ 1000000) (h : ∀ (i : Nat) (u v : V), xs[i]? = some u → ys[i]? = some v → Alike K H 4 u v) : Alike K H 5 (.ref A) (.ref B) :=
  .inr ⟨A, B, xs, ys, rfl, rfl, .inr ⟨SqL.of h1, SqL.of h2⟩, hl, hz, h⟩
end
theorem ak_polys {K : PySem.W.Frag} {H : Hp} {A B : Addr} {xs ys : List V} {ps : List Poly} (h1 : H A = some (.lst xs)) (h2 : H B = some (.lst ys)) (a1 : DpAll K H xs (ps.map bD)) (a2 : DpAll K H ys (ps.map bD)) (hl : ps.length ≤ 10) (hz : ∀ p ∈ ps, Szd p) : Alike K H 5 (.ref A) (.ref B) := by
  have l1 := dpAll_len a1
  have l2 := dpAll_len a2
  rw [List.length_map] at l1 l2
  refine ak_list h1 h2 (by omega) (by omega) fun i u v e1 e2 => ?_
  obtain ⟨d1, q1, r1⟩ := dpAll_get a1 e1
  obtain ⟨d2, q2, r2⟩ := dpAll_get a2 e2
  rw [q1] at q2
  cases q2
  have m := List.mem_of_getElem? q1
  obtain ⟨p, hp, rfl⟩ := List.mem_map.mp m
  exact ak_poly (hz p hp) r1 r2
/-- told and due, the lists just laid -/
theorem ak_laid {K : PySem.W.Frag} {H : Hp} {A B : Addr} {xs ys : List V} {ps : List Poly} (nA : H A = none) (nB : upd H A (.lst xs) B = none) (a1 : DpAll K H xs (ps.map bD)) (a2 : DpAll K H ys (ps.map bD)) (hl : ps.length ≤ 10) (hz : ∀ p ∈ ps, Szd p) :
    Alike K (upd (upd H A (.lst xs)) B (.lst ys)) 5 (.ref A) (.ref B) ∧ Same H (upd (upd H A (.lst xs)) B (.lst ys)) := by
  have s1 : Same H (upd H A (.lst xs)) := sm_new sm_refl nA
  have s2 : Same (upd H A (.lst xs)) (upd (upd H A (.lst xs)) B (.lst ys)) := sm_new sm_refl nB
  have hA : upd (upd H A (.lst xs)) B (.lst ys) A = some (.lst xs) := s2 _ _ upd_same
  have s := s1.trans s2
  exact ⟨ak_polys hA upd_same (dpAll_same s a1) (dpAll_same s a2) hl hz, s⟩
def spTri (K : PySem.W.Frag) : Sp := fun vs H Q _ => ∃ (x y z : V) (p q r : Poly), vs = [x, y, z] ∧ Dp K H x (bD p) ∧ Dp K H y (bD q) ∧ Dp K H z (bD r) ∧ PB p ∧ PB q ∧ PB r ∧ ∀ H', Same H H' → Q (.bl true) H'
section
variable {P : Program} {w : World} {K : PySem.W.Frag} {mg : Str → Option Value} {base : Heap}
theorem scSummed : FnScope ["p", "q", "r", "due"] ["p", "q", "r"] (defScope sSummed) := ⟨rfl, rfl, rfl, by decide +kernel, rfl, by decide +kernel, by decide +kernel⟩
theorem ok_summed {f : Addr} {fd : FuncData} (F : Fun K "_law_summed" "_law_summed" sSummed f fd) (C : Cn K mg) (Gp : Df P w K mg base 3 "plus" ["p", "q"] (spPlus K)) (Gl : Df P w K mg base 3 "_law_plus" ["p", "q"] (spLPlus K)) (Ga : Df P w K mg base 6 "_law_alike" ["told", "due"] (spA K 6)) :
    FnOk P w K mg base CX0 7 f fd ["p", "q", "r"] (spTri K) := by
  obtain ⟨fp, fdp, gP, kP, bP, GP⟩ := Gp.ok
  obtain ⟨fl, fdl, gL, kL, bL, GL⟩ := Gl.ok
  obtain ⟨fa, fda, gA, kA, bA, GA⟩ := Ga.ok
  refine F.ok scSummed (fun vs H Q E h => ?_) (fun cdv A outer s H vs Q E hr h => ?_)
  · obtain ⟨x, y, z, p, q, r, rfl, _⟩ := h
    rfl
  · obtain ⟨x, y, z, p, q, r, rfl, hx, hy, hz, bp, bq, br, k⟩ := h
    have hr3 : Room 3 _ := hr.mono (by decide)
    have hr6 : Room 6 _ := hr
    obtain ⟨zr, hzr, hzd⟩ := C.zero
    refine ⟨_, pss_cons (ps_set (i := 3) scSummed.nd rfl (Or.inl rfl) (pe_call GL hr3 rfl gL kL bL .nil pass0 (pa_cons (pe_call GL hr3 rfl gL kL bL .nil pass0 (pa_cons (pv 0) (pa_cons (pv 1) pa_nil))) (pa_cons (pv 2) pa_nil))))
      (pss_cons (ps_if (pt_not (pt_val (pe_call GA hr6 rfl gA kA bA .nil pass0 (pa_cons (pe_lst
          (pa_cons (pe_call GP hr3 rfl gP kP bP .nil pass0 (pa_cons (pe_call GP hr3 rfl gP kP bP .nil pass0 (pa_cons (pv 0) (pa_cons (pv 1) pa_nil))) (pa_cons (pv 2) pa_nil)))
          (pa_cons (pe_call GP hr3 rfl gP kP bP .nil pass0 (pa_cons (pv 0) (pa_cons (pe_call GP hr3 rfl gP kP bP .nil pass0 (pa_cons (pv 1) (pa_cons (pv 2) pa_nil))) pa_nil)))
          (pa_cons (pe_call GP hr3 rfl gP kP bP .nil pass0 (pa_cons (pv 2) (pa_cons (pe_call GP hr3 rfl gP kP bP .nil pass0 (pa_cons (pv 1) (pa_cons (pv 0) pa_nil))) pa_nil))) pa_nil))))
          (pa_cons (pe_lst (pa_cons (pv 3) (pa_cons (pv 3) (pa_cons (pv 3) pa_nil)))) pa_nil))))) (pss_one (ps_ret pe_bl)) pss_nil)
      (pss_one (ps_ret (pe_call GA hr6 rfl gA kA bA .nil pass0 (pa_cons (pe_lst
          (pa_cons (pe_call GP hr3 rfl gP kP bP .nil pass0 (pa_cons (pv 0) (pa_cons (pe_glob (v := .ref zr) (by rfl) hzr rfl) pa_nil)))
          (pa_cons (pe_call GP hr3 rfl gP kP bP .nil pass0 (pa_cons (pe_glob (v := .ref zr) (by rfl) hzr rfl) (pa_cons (pv 0) pa_nil))) pa_nil)))
          (pa_cons (pe_lst (pa_cons (pv 0) (pa_cons (pv 0) pa_nil))) pa_nil)))))), ?_⟩
    have zp := bp.z
    have zq := bq.z
    have zr' := br.z
    refine ⟨_, rfl, _, rfl, go_lplus hx hy zp zq (by decide) fun v1 H1 s1 h1 => ?_⟩
    refine ⟨_, rfl, go_lplus h1 (dp_same s1 hz) (zp.plus zq) zr' (by decide) fun v2 H2 s2 h2 => ?_⟩
    have t2 := s1.trans s2
    refine ⟨_, rfl, _, rfl, go_plus (dp_same t2 hx) (dp_same t2 hy) zp zq (by decide) (by decide +kernel) (by decide) (by decide) fun v3 H3 s3 h3 => ?_⟩
    have t3 := t2.trans s3
    refine ⟨_, rfl, go_plus h3 (dp_same t3 hz) (zp.plus zq) zr' (by decide) (by decide +kernel) (by decide) (by decide) fun v4 H4 s4 h4 => ?_⟩
    have t4 := t3.trans s4
    refine ⟨_, rfl, _, rfl, _, rfl, go_plus (dp_same t4 hy) (dp_same t4 hz) zq zr' (by decide) (by decide +kernel) (by decide) (by decide) fun v5 H5 s5 h5 => ?_⟩
    have t5 := t4.trans s5
    refine go_plus (dp_same t5 hx) h5 zp (zq.plus zr') (by decide) (by decide +kernel) (by decide) (by decide) fun v6 H6 s6 h6 => ?_
    have t6 := t5.trans s6
    refine ⟨_, rfl, _, rfl, _, rfl, go_plus (dp_same t6 hy) (dp_same t6 hx) zq zp (by decide) (by decide +kernel) (by decide) (by decide) fun v7 H7 s7 h7 => ?_⟩
    have t7 := t6.trans s7
    refine go_plus (dp_same t7 hz) h7 zr' (zq.plus zp) (by decide) (by decide +kernel) (by decide) (by decide) fun v8 H8 s8 h8 => ?_
    have t8 := t7.trans s8
    rw [← plus_assoc bp.ok bq.ok br.ok] at h6
    rw [plus_comm br.ok (plusP_ok bq.ok bp.ok), plus_comm bq.ok bp.ok] at h8
    have d2 : Dp K H8 v2 (bD (plusP (plusP p q) r)) := dp_same (((((s3.trans s4).trans s5).trans s6).trans s7).trans s8) h2
    have d4 : Dp K H8 v4 (bD (plusP (plusP p q) r)) := dp_same (((s5.trans s6).trans s7).trans s8) h4
    have d6 : Dp K H8 v6 (bD (plusP (plusP p q) r)) := dp_same (s7.trans s8) h6
    have zd : Szd (plusP (plusP p q) r) := ((zp.plus zq).plus zr').szd (by decide) (by decide)
    refine ⟨(by show 3 ≤ sizeLine; decide), fun A nA => ⟨_, rfl, _, rfl, _, rfl, (by show 3 ≤ sizeLine; decide), fun B nB => ?_⟩⟩
    obtain ⟨ak, sA⟩ := ak_laid (ps := [plusP (plusP p q) r, plusP (plusP p q) r, plusP (plusP p q) r]) nA nB (.cons d4 (.cons d6 (.cons h8 .nil))) (.cons d2 (.cons d2 (.cons d2 .nil))) (by show 3 ≤ 10; decide) (fun p hp => by
      simp only [List.mem_cons, List.not_mem_nil, or_false, or_self] at hp
      rw [hp]
      exact zd)
    refine ⟨_, _, rfl, ak, fun H9 s9 => ⟨_, rfl, iteF ?_⟩⟩
    have t9 := (t8.trans sA).trans s9
    have zz := pb_zero.z
    refine ⟨_, rfl, go_plus (dp_same t9 hx) (hzd _) zp zz (by decide) (by decide +kernel) (by decide) (by decide) fun v10 H10 s10 h10 => ?_⟩
    have t10 := t9.trans s10
    refine ⟨_, rfl, go_plus (hzd _) (dp_same t10 hx) zz zp (by decide) (by decide +kernel) (by decide) (by decide) fun v11 H11 s11 h11 => ?_⟩
    have t11 := t10.trans s11
    rw [plus_zero bp.ok] at h10
    rw [zero_plus bp.ok] at h11
    have e11 := dp_same t11 hx
    refine ⟨(by show 2 ≤ sizeLine; decide), fun A2 nA2 => ⟨_, rfl, _, rfl, (by show 2 ≤ sizeLine; decide), fun B2 nB2 => ?_⟩⟩
    obtain ⟨ak2, sA2⟩ := ak_laid (ps := [p, p]) nA2 nB2 (.cons (dp_same s11 h10) (.cons h11 .nil)) (.cons e11 (.cons e11 .nil)) (by show 2 ≤ 10; decide) (fun p' hp => by
      simp only [List.mem_cons, List.not_mem_nil, or_false, or_self] at hp
      rw [hp]
      exact zp.szd (by decide) (by decide))
    exact ⟨_, _, rfl, ak2, fun H12 s12 => k H12 ((t11.trans sA2).trans s12)⟩
end
end K2


set_option Elab.async false
set_option linter.all false
set_option maxRecDepth 100000
set_option maxHeartbeats 4000000
namespace K2
open PySem L2 Nd Bk
section
variable {P : Program} {w : World} {K : PySem.W.Frag} {mg : Str → Option Value} {base : Heap}
theorem scMult : FnScope ["p", "q", "r", "due"] ["p", "q", "r"] (defScope sMult) := ⟨rfl, rfl, rfl, by decide +kernel, rfl, by decide +kernel, by decide +kernel⟩
theorem ok_mult {f : Addr} {fd : FuncData} (F : Fun K "_law_multiplied" "_law_multiplied" sMult f fd) (C : Cn K mg) (Gp : Df P w K mg base 3 "times" ["p", "q"] (spTimes K)) (Gl : Df P w K mg base 3 "_law_times" ["p", "q"] (spLTimes K)) (Ga : Df P w K mg base 6 "_law_alike" ["told", "due"] (spA K 6)) :
    FnOk P w K mg base CX0 7 f fd ["p", "q", "r"] (spTri K) := by
  obtain ⟨fp, fdp, gP, kP, bP, GP⟩ := Gp.ok
  obtain ⟨fl, fdl, gL, kL, bL, GL⟩ := Gl.ok
  obtain ⟨fa, fda, gA, kA, bA, GA⟩ := Ga.ok
  refine F.ok scMult (fun vs H Q E h => ?_) (fun cdv A outer s H vs Q E hr h => ?_)
  · obtain ⟨x, y, z, p, q, r, rfl, _⟩ := h
    rfl
  · obtain ⟨x, y, z, p, q, r, rfl, hx, hy, hz, bp, bq, br, k⟩ := h
    have hr3 : Room 3 _ := hr.mono (by decide)
    have hr6 : Room 6 _ := hr
    obtain ⟨zr, hzr, hzd⟩ := C.zero
    obtain ⟨on, hon, hod⟩ := C.one
    refine ⟨_, pss_cons (ps_set (i := 3) scMult.nd rfl (Or.inl rfl) (pe_call GL hr3 rfl gL kL bL .nil pass0 (pa_cons (pe_call GL hr3 rfl gL kL bL .nil pass0 (pa_cons (pv 0) (pa_cons (pv 1) pa_nil))) (pa_cons (pv 2) pa_nil))))
      (pss_cons (ps_if (pt_not (pt_val (pe_call GA hr6 rfl gA kA bA .nil pass0 (pa_cons (pe_lst
          (pa_cons (pe_call GP hr3 rfl gP kP bP .nil pass0 (pa_cons (pe_call GP hr3 rfl gP kP bP .nil pass0 (pa_cons (pv 0) (pa_cons (pv 1) pa_nil))) (pa_cons (pv 2) pa_nil)))
          (pa_cons (pe_call GP hr3 rfl gP kP bP .nil pass0 (pa_cons (pv 0) (pa_cons (pe_call GP hr3 rfl gP kP bP .nil pass0 (pa_cons (pv 1) (pa_cons (pv 2) pa_nil))) pa_nil)))
          (pa_cons (pe_call GP hr3 rfl gP kP bP .nil pass0 (pa_cons (pv 2) (pa_cons (pe_call GP hr3 rfl gP kP bP .nil pass0 (pa_cons (pv 1) (pa_cons (pv 0) pa_nil))) pa_nil))) pa_nil))))
          (pa_cons (pe_lst (pa_cons (pv 3) (pa_cons (pv 3) (pa_cons (pv 3) pa_nil)))) pa_nil))))) (pss_one (ps_ret pe_bl)) pss_nil)
      (pss_one (ps_ret (pe_call GA hr6 rfl gA kA bA .nil pass0 (pa_cons (pe_lst
          (pa_cons (pe_call GP hr3 rfl gP kP bP .nil pass0 (pa_cons (pv 0) (pa_cons (pe_glob (v := .ref on) (by rfl) hon rfl) pa_nil)))
          (pa_cons (pe_call GP hr3 rfl gP kP bP .nil pass0 (pa_cons (pe_glob (v := .ref on) (by rfl) hon rfl) (pa_cons (pv 0) pa_nil)))
          (pa_cons (pe_call GP hr3 rfl gP kP bP .nil pass0 (pa_cons (pv 0) (pa_cons (pe_glob (v := .ref zr) (by rfl) hzr rfl) pa_nil)))
          (pa_cons (pe_call GP hr3 rfl gP kP bP .nil pass0 (pa_cons (pe_glob (v := .ref zr) (by rfl) hzr rfl) (pa_cons (pv 0) pa_nil))) pa_nil)))))
          (pa_cons (pe_lst (pa_cons (pv 0) (pa_cons (pv 0) (pa_cons (pe_tup pa_nil) (pa_cons (pe_tup pa_nil) pa_nil))))) pa_nil)))))), ?_⟩
    have zp := bp.z
    have zq := bq.z
    have zr' := br.z
    refine ⟨_, rfl, _, rfl, go_ltimes hx hy zp zq (by decide) (by decide +kernel) (by decide +kernel) (by decide) (by decide) fun v1 H1 s1 h1 => ?_⟩
    refine ⟨_, rfl, go_ltimes h1 (dp_same s1 hz) (zp.times zq) zr' (by decide) (by decide +kernel) (by decide +kernel) (by decide) (by decide) fun v2 H2 s2 h2 => ?_⟩
    have t2 := s1.trans s2
    refine ⟨_, rfl, _, rfl, go_times (dp_same t2 hx) (dp_same t2 hy) zp zq (by decide) (by decide +kernel) (by decide) (by decide) (by decide) (by decide +kernel) (by decide +kernel) (by decide) (by decide) fun v3 H3 s3 h3 => ?_⟩
    have t3 := t2.trans s3
    refine ⟨_, rfl, go_times h3 (dp_same t3 hz) (zp.times zq) zr' (by decide) (by decide +kernel) (by decide) (by decide) (by decide) (by decide +kernel) (by decide +kernel) (by decide) (by decide) fun v4 H4 s4 h4 => ?_⟩
    have t4 := t3.trans s4
    refine ⟨_, rfl, _, rfl, _, rfl, go_times (dp_same t4 hy) (dp_same t4 hz) zq zr' (by decide) (by decide +kernel) (by decide) (by decide) (by decide) (by decide +kernel) (by decide +kernel) (by decide) (by decide) fun v5 H5 s5 h5 => ?_⟩
    have t5 := t4.trans s5
    refine go_times (dp_same t5 hx) h5 zp (zq.times zr') (by decide) (by decide +kernel) (by decide) (by decide) (by decide) (by decide +kernel) (by decide +kernel) (by decide) (by decide) fun v6 H6 s6 h6 => ?_
    have t6 := t5.trans s6
    refine ⟨_, rfl, _, rfl, _, rfl, go_times (dp_same t6 hy) (dp_same t6 hx) zq zp (by decide) (by decide +kernel) (by decide) (by decide) (by decide) (by decide +kernel) (by decide +kernel) (by decide) (by decide) fun v7 H7 s7 h7 => ?_⟩
    have t7 := t6.trans s7
    refine go_times (dp_same t7 hz) h7 zr' (zq.times zp) (by decide) (by decide +kernel) (by decide) (by decide) (by decide) (by decide +kernel) (by decide +kernel) (by decide) (by decide) fun v8 H8 s8 h8 => ?_
    have t8 := t7.trans s8
    rw [← times_assoc bp.ok bq.ok br.ok] at h6
    rw [times_comm br.ok (timesP_ok bq.ok bp.ok), times_comm bq.ok bp.ok] at h8
    have d2 : Dp K H8 v2 (bD (timesP (timesP p q) r)) := dp_same (((((s3.trans s4).trans s5).trans s6).trans s7).trans s8) h2
    have d4 : Dp K H8 v4 (bD (timesP (timesP p q) r)) := dp_same (((s5.trans s6).trans s7).trans s8) h4
    have d6 : Dp K H8 v6 (bD (timesP (timesP p q) r)) := dp_same (s7.trans s8) h6
    have zd : Szd (timesP (timesP p q) r) := ((zp.times zq).times zr').szd (by decide) (by decide)
    refine ⟨(by show 3 ≤ sizeLine; decide), fun A nA => ⟨_, rfl, _, rfl, _, rfl, (by show 3 ≤ sizeLine; decide), fun B nB => ?_⟩⟩
    obtain ⟨ak, sA⟩ := ak_laid (ps := [timesP (timesP p q) r, timesP (timesP p q) r, timesP (timesP p q) r]) nA nB (.cons d4 (.cons d6 (.cons h8 .nil))) (.cons d2 (.cons d2 (.cons d2 .nil))) (by show 3 ≤ 10; decide) (fun p hp => by
      simp only [List.mem_cons, List.not_mem_nil, or_false, or_self] at hp
      rw [hp]
      exact zd)
    refine ⟨_, _, rfl, ak, fun H9 s9 => ⟨_, rfl, iteF ?_⟩⟩
    have t9 := (t8.trans sA).trans s9
    have zz := pb_zero.z
    have zo := pb_one.z
    refine ⟨_, rfl, go_times (dp_same t9 hx) (hod _) zp zo (by decide) (by decide +kernel) (by decide) (by decide) (by decide) (by decide +kernel) (by decide +kernel) (by decide) (by decide) fun v10 H10 s10 h10 => ?_⟩
    have t10 := t9.trans s10
    refine ⟨_, rfl, go_times (hod _) (dp_same t10 hx) zo zp (by decide) (by decide +kernel) (by decide) (by decide) (by decide) (by decide +kernel) (by decide +kernel) (by decide) (by decide) fun v11 H11 s11 h11 => ?_⟩
    have t11 := t10.trans s11
    refine ⟨_, rfl, go_times (dp_same t11 hx) (hzd _) zp zz (by decide) (by decide +kernel) (by decide) (by decide) (by decide) (by decide +kernel) (by decide +kernel) (by decide) (by decide) fun v12 H12 s12 h12 => ?_⟩
    have t12 := t11.trans s12
    refine ⟨_, rfl, go_times (hzd _) (dp_same t12 hx) zz zp (by decide) (by decide +kernel) (by decide) (by decide) (by decide) (by decide +kernel) (by decide +kernel) (by decide) (by decide) fun v13 H13 s13 h13 => ?_⟩
    have t13 := t12.trans s13
    rw [times_one bp.ok] at h10
    rw [one_times bp.ok] at h11
    rw [times_zero] at h12
    rw [zero_times] at h13
    have e13 := dp_same t13 hx
    refine ⟨(by show 4 ≤ sizeLine; decide), fun A2 nA2 => ⟨_, rfl, _, rfl, (by show 0 ≤ sizeLine; decide), fun T1 n1 => ⟨(by show 0 ≤ sizeLine; decide), fun T2 n2 => ⟨(by show 4 ≤ sizeLine; decide), fun B2 nB2 => ?_⟩⟩⟩⟩
    have sa : Same H13 (upd H13 A2 (.lst [v10, v11, v12, v13])) := sm_new sm_refl nA2
    have ha : upd H13 A2 (.lst [v10, v11, v12, v13]) A2 = some (.lst [v10, v11, v12, v13]) := upd_same
    generalize upd H13 A2 (.lst [v10, v11, v12, v13]) = Ha at sa ha n1 n2 nB2 ⊢
    have sb : Same Ha (upd Ha T1 (.tup [])) := sm_new sm_refl n1
    have db : Dp K (upd Ha T1 (.tup [])) (.ref T1) (bD ([] : Poly)) := .tup (SqT.of upd_same) .nil
    generalize upd Ha T1 (.tup []) = Hb at sb db n2 nB2 ⊢
    have sc : Same Hb (upd Hb T2 (.tup [])) := sm_new sm_refl n2
    have dc : Dp K (upd Hb T2 (.tup [])) (.ref T2) (bD ([] : Poly)) := .tup (SqT.of upd_same) .nil
    generalize upd Hb T2 (.tup []) = Hc at sc dc nB2 ⊢
    have sd : Same Hc (upd Hc B2 (.lst [x, x, .ref T1, .ref T2])) := sm_new sm_refl nB2
    have hd : upd Hc B2 (.lst [x, x, .ref T1, .ref T2]) B2 = some (.lst [x, x, .ref T1, .ref T2]) := upd_same
    generalize upd Hc B2 (.lst [x, x, .ref T1, .ref T2]) = Hd at sd hd ⊢
    have sad := (sb.trans sc).trans sd
    have all := sa.trans sad
    have ex := dp_same all e13
    refine ⟨_, _, rfl, ak_polys (ps := [p, p, [], []]) (sad _ _ ha) hd (dpAll_same all (.cons (dp_same ((s11.trans s12).trans s13) h10) (.cons (dp_same (s12.trans s13) h11) (.cons (dp_same s13 h12) (.cons h13 .nil)))))
      (.cons ex (.cons ex (.cons (dp_same (sc.trans sd) db) (.cons (dp_same sd dc) .nil)))) (by show 4 ≤ 10; decide) (fun p' hp => ?_), fun H14 s14 => k H14 ((t13.trans all).trans s14)⟩
    simp only [List.mem_cons, List.not_mem_nil, or_false] at hp
    rcases hp with rfl | rfl | rfl | rfl
    · exact zp.szd (by decide) (by decide)
    · exact zp.szd (by decide) (by decide)
    · exact zz.szd (by decide) (by decide)
    · exact zz.szd (by decide) (by decide)
theorem scPart : FnScope ["p", "q", "r", "due", "told"] ["p", "q", "r"] (defScope sPart) := ⟨rfl, rfl, rfl, by decide +kernel, rfl, by decide +kernel, by decide +kernel⟩
theorem ok_part {f : Addr} {fd : FuncData} (F : Fun K "_law_parted" "_law_parted" sPart f fd) (Gp : Df P w K mg base 3 "plus" ["p", "q"] (spPlus K)) (Gl : Df P w K mg base 3 "_law_plus" ["p", "q"] (spLPlus K))
    (Gt : Df P w K mg base 3 "times" ["p", "q"] (spTimes K)) (Gm : Df P w K mg base 3 "_law_times" ["p", "q"] (spLTimes K)) (Ga : Df P w K mg base 6 "_law_alike" ["told", "due"] (spA K 6)) :
    FnOk P w K mg base CX0 7 f fd ["p", "q", "r"] (spTri K) := by
  obtain ⟨fp, fdp, gP, kP, bP, GP⟩ := Gp.ok
  obtain ⟨fl, fdl, gL, kL, bL, GL⟩ := Gl.ok
  obtain ⟨ft, fdt, gT, kT, bT, GT⟩ := Gt.ok
  obtain ⟨fm, fdm, gM, kM, bM, GM⟩ := Gm.ok
  obtain ⟨fa, fda, gA, kA, bA, GA⟩ := Ga.ok
  refine F.ok scPart (fun vs H Q E h => ?_) (fun cdv A outer s H vs Q E hr h => ?_)
  · obtain ⟨x, y, z, p, q, r, rfl, _⟩ := h
    rfl
  · obtain ⟨x, y, z, p, q, r, rfl, hx, hy, hz, bp, bq, br, k⟩ := h
    have hr3 : Room 3 _ := hr.mono (by decide)
    have hr6 : Room 6 _ := hr
    refine ⟨_, pss_cons (ps_set (i := 3) scPart.nd rfl (Or.inl rfl) (pe_call GL hr3 rfl gL kL bL .nil pass0 (pa_cons (pe_call GM hr3 rfl gM kM bM .nil pass0 (pa_cons (pv 0) (pa_cons (pv 1) pa_nil)))
          (pa_cons (pe_call GM hr3 rfl gM kM bM .nil pass0 (pa_cons (pv 0) (pa_cons (pv 2) pa_nil))) pa_nil))))
      (pss_cons (ps_set (i := 4) scPart.nd rfl (Or.inl rfl) (pe_lst
          (pa_cons (pe_call GT hr3 rfl gT kT bT .nil pass0 (pa_cons (pv 0) (pa_cons (pe_call GP hr3 rfl gP kP bP .nil pass0 (pa_cons (pv 1) (pa_cons (pv 2) pa_nil))) pa_nil)))
          (pa_cons (pe_call GP hr3 rfl gP kP bP .nil pass0 (pa_cons (pe_call GT hr3 rfl gT kT bT .nil pass0 (pa_cons (pv 0) (pa_cons (pv 1) pa_nil))) (pa_cons (pe_call GT hr3 rfl gT kT bT .nil pass0 (pa_cons (pv 0) (pa_cons (pv 2) pa_nil))) pa_nil)))
          (pa_cons (pe_call GT hr3 rfl gT kT bT .nil pass0 (pa_cons (pe_call GP hr3 rfl gP kP bP .nil pass0 (pa_cons (pv 1) (pa_cons (pv 2) pa_nil))) (pa_cons (pv 0) pa_nil))) pa_nil)))))
      (pss_one (ps_ret (pe_call GA hr6 rfl gA kA bA .nil pass0 (pa_cons (pv 4)
          (pa_cons (pe_lst (pa_cons (pv 3) (pa_cons (pv 3) (pa_cons (pv 3) pa_nil)))) pa_nil)))))), ?_⟩
    have zp := bp.z
    have zq := bq.z
    have zr := br.z
    refine ⟨_, rfl, _, rfl, go_ltimes hx hy zp zq (by decide) (by decide +kernel) (by decide +kernel) (by decide) (by decide) fun v1 H1 s1 h1 => ?_⟩
    refine ⟨_, rfl, _, rfl, go_ltimes (dp_same s1 hx) (dp_same s1 hz) zp zr (by decide) (by decide +kernel) (by decide +kernel) (by decide) (by decide) fun v2 H2 s2 h2 => ?_⟩
    refine go_lplus (dp_same s2 h1) h2 (zp.times zq) (zp.times zr) (by decide) fun v3 H3 s3 h3 => ?_
    have t3 := (s1.trans s2).trans s3
    refine ⟨_, rfl, _, rfl, _, rfl, go_plus (dp_same t3 hy) (dp_same t3 hz) zq zr (by decide) (by decide +kernel) (by decide) (by decide) fun v4 H4 s4 h4 => ?_⟩
    have t4 := t3.trans s4
    refine go_times (dp_same t4 hx) h4 zp (zq.plus zr) (by decide) (by decide +kernel) (by decide) (by decide) (by decide) (by decide +kernel) (by decide +kernel) (by decide) (by decide) fun v5 H5 s5 h5 => ?_
    have t5 := t4.trans s5
    refine ⟨_, rfl, _, rfl, go_times (dp_same t5 hx) (dp_same t5 hy) zp zq (by decide) (by decide +kernel) (by decide) (by decide) (by decide) (by decide +kernel) (by decide +kernel) (by decide) (by decide) fun v6 H6 s6 h6 => ?_⟩
    have t6 := t5.trans s6
    refine ⟨_, rfl, _, rfl, go_times (dp_same t6 hx) (dp_same t6 hz) zp zr (by decide) (by decide +kernel) (by decide) (by decide) (by decide) (by decide +kernel) (by decide +kernel) (by decide) (by decide) fun v7 H7 s7 h7 => ?_⟩
    have t7 := t6.trans s7
    refine go_plus (dp_same s7 h6) h7 (zp.times zq) (zp.times zr) (by decide) (by decide +kernel) (by decide) (by decide) fun v8 H8 s8 h8 => ?_
    have t8 := t7.trans s8
    refine ⟨_, rfl, _, rfl, go_plus (dp_same t8 hy) (dp_same t8 hz) zq zr (by decide) (by decide +kernel) (by decide) (by decide) fun v9 H9 s9 h9 => ?_⟩
    have t9 := t8.trans s9
    refine ⟨_, rfl, go_times h9 (dp_same t9 hx) (zq.plus zr) zp (by decide) (by decide +kernel) (by decide) (by decide) (by decide) (by decide +kernel) (by decide +kernel) (by decide) (by decide) fun v10 H10 s10 h10 => ?_⟩
    have t10 := t9.trans s10
    rw [times_plus bp.ok bq.ok br.ok] at h5
    rw [times_comm (plusP_ok bq.ok br.ok) bp.ok, times_plus bp.ok bq.ok br.ok] at h10
    have d3 : Dp K H10 v3 (bD (plusP (timesP p q) (timesP p r))) := dp_same ((((((s4.trans s5).trans s6).trans s7).trans s8).trans s9).trans s10) h3
    have d5 : Dp K H10 v5 (bD (plusP (timesP p q) (timesP p r))) := dp_same ((((s6.trans s7).trans s8).trans s9).trans s10) h5
    have d8 : Dp K H10 v8 (bD (plusP (timesP p q) (timesP p r))) := dp_same (s9.trans s10) h8
    have zd : Szd (plusP (timesP p q) (timesP p r)) := ((zp.times zq).plus (zp.times zr)).szd (by decide) (by decide)
    refine ⟨(by show 3 ≤ sizeLine; decide), fun A nA => ⟨_, rfl, _, rfl, _, rfl, _, rfl, (by show 3 ≤ sizeLine; decide), fun B nB => ?_⟩⟩
    obtain ⟨ak, sA⟩ := ak_laid (ps := [plusP (timesP p q) (timesP p r), plusP (timesP p q) (timesP p r), plusP (timesP p q) (timesP p r)]) nA nB (.cons d5 (.cons d8 (.cons h10 .nil))) (.cons d3 (.cons d3 (.cons d3 .nil))) (by show 3 ≤ 10; decide) (fun p hp => by
      simp only [List.mem_cons, List.not_mem_nil, or_false, or_self] at hp
      rw [hp]
      exact zd)
    exact ⟨_, _, rfl, ak, fun H11 s11 => k H11 ((t10.trans sA).trans s11)⟩
end
end K2


set_option Elab.async false
set_option linter.all false
set_option maxRecDepth 100000
set_option maxHeartbeats 4000000
namespace K2
open PySem L2 Nd Bk
def spLaw (K : PySem.W.Frag) : Sp := fun vs H Q _ => ∃ (a : Addr) (ns : List Int), vs = [.ref a] ∧ SqL K H a (ns.map V.int) ∧ ns.length ≤ 63 ∧ ∀ H', Q (.bl true) H'
def TriAt (K : PySem.W.Frag) (H : Hp) (x : V) : Prop := ∃ (T : Addr) (a b c : V) (pa pb pc : Poly), x = .ref T ∧ SqT K H T [a, b, c] ∧ Dp K H a (bD pa) ∧ Dp K H b (bD pb) ∧ Dp K H c (bD pc) ∧ PB pa ∧ PB pb ∧ PB pc
theorem TriAt.same {K : PySem.W.Frag} {H H' : Hp} {x : V} (s : Same H H') (h : TriAt K H x) : TriAt K H' x := let ⟨T, a, b, c, pa, pb, pc, h1, h2, h3, h4, h5, h6⟩ := h; ⟨T, a, b, c, pa, pb, pc, h1, sqT_same s h2, dp_same s h3, dp_same s h4, dp_same s h5, h6⟩
theorem tri_mk {K : PySem.W.Frag} {H : Hp} {T : Addr} {a b c : V} {pa pb pc : Poly} (n : H T = none) (h1 : Dp K H a (bD pa)) (h2 : Dp K H b (bD pb)) (h3 : Dp K H c (bD pc)) (b1 : PB pa) (b2 : PB pb) (b3 : PB pc) : TriAt K (upd H T (.tup [a, b, c])) (.ref T) ∧ Same H (upd H T (.tup [a, b, c])) :=
  have s : Same H (upd H T (.tup [a, b, c])) := sm_new sm_refl n
  ⟨⟨T, a, b, c, pa, pb, pc, rfl, SqT.of upd_same, dp_same s h1, dp_same s h2, dp_same s h3, b1, b2, b3⟩, s⟩
section
variable {P : Program} {w : World} {K : PySem.W.Frag} {mg : Str → Option Value} {base : Heap}
theorem scLaw : FnScope ["script", "box", "far", "p", "q", "r", "one", "other", "third"] ["script"] (defScope sLaw) := ⟨rfl, rfl, rfl, by decide +kernel, rfl, by decide +kernel, by decide +kernel⟩
theorem ok_law {f : Addr} {fd : FuncData} (F : Fun K "law" "law" sLaw f fd) (C : Cn K mg) (Gb : Df P w K mg base 1 "_law_box" ["script", "at"] (spBox K)) (Gp : Df P w K mg base 5 "_law_poly" ["box", "terms", "most"] (spLPoly K))
    (Gs : Df P w K mg base 7 "_law_summed" ["p", "q", "r"] (spTri K)) (Gm : Df P w K mg base 7 "_law_multiplied" ["p", "q", "r"] (spTri K)) (Gt : Df P w K mg base 7 "_law_parted" ["p", "q", "r"] (spTri K)) : FnOk P w K mg base CX0 8 f fd ["script"] (spLaw K) := by
  obtain ⟨fb, fdb, gB, kB, bB, GB⟩ := Gb.ok
  obtain ⟨fp, fdp, gP, kP, bP, GP⟩ := Gp.ok
  obtain ⟨fs, fds, gS, kS, bS, GS⟩ := Gs.ok
  obtain ⟨fm, fdm, gM, kM, bM, GM⟩ := Gm.ok
  obtain ⟨ft, fdt, gT, kT, bT, GT⟩ := Gt.ok
  refine F.ok scLaw (fun vs H Q E h => ?_) (fun cdv A outer s H vs Q E hr h => ?_)
  · obtain ⟨a, ns, rfl, _⟩ := h
    rfl
  · obtain ⟨a, ns, rfl, hS, hl, k⟩ := h
    have hr1 : Room 1 _ := hr.mono (by decide)
    have hr5 : Room 5 _ := hr.mono (by decide)
    have hr7 : Room 7 _ := hr
    obtain ⟨zr, hzr, hzd⟩ := C.zero
    obtain ⟨on, hon, hod⟩ := C.one
    refine ⟨_, pss_cons (ps_set (i := 1) scLaw.nd rfl (Or.inl rfl) (pe_call GB hr1 rfl gB kB bB .nil pass0 (pa_cons (pv 0) (pa_cons pe_int pa_nil))))
      (pss_cons (ps_set (i := 2) scLaw.nd rfl (Or.inl rfl) (pe_call GB hr1 rfl gB kB bB .nil pass0 (pa_cons (pv 0) (pa_cons pe_int pa_nil))))
      (pss_cons (ps_set (i := 3) scLaw.nd rfl (Or.inl rfl) (pe_call GP hr5 rfl gP kP bP .nil pass0 (pa_cons (pv 1) (pa_cons pe_int (pa_cons pe_int pa_nil)))))
      (pss_cons (ps_set (i := 4) scLaw.nd rfl (Or.inl rfl) (pe_call GP hr5 rfl gP kP bP .nil pass0 (pa_cons (pv 2) (pa_cons pe_int (pa_cons pe_int pa_nil)))))
      (pss_cons (ps_set (i := 5) scLaw.nd rfl (Or.inl rfl) (pe_call GP hr5 rfl gP kP bP .nil pass0 (pa_cons (pv 2) (pa_cons pe_int (pa_cons pe_int pa_nil)))))
      (pss_cons (ps_for PassesOwn.never rfl (pi_list (pe_lst
          (pa_cons (pe_tup (pa_cons (pv 3) (pa_cons (pv 4) (pa_cons (pv 5) pa_nil))))
          (pa_cons (pe_tup (pa_cons (pv 4) (pa_cons (pv 5) (pa_cons (pv 3) pa_nil))))
          (pa_cons (pe_tup (pa_cons (pv 3) (pa_cons (pv 3) (pa_cons (pv 4) pa_nil))))
          (pa_cons (pe_tup (pa_cons (pv 3) (pa_cons (pv 4) (pa_cons (pe_glob (v := .ref zr) (by rfl) hzr rfl) pa_nil))))
          (pa_cons (pe_tup (pa_cons (pe_glob (v := .ref on) (by rfl) hon rfl) (pa_cons (pv 3) (pa_cons (pv 4) pa_nil))))
          (pa_cons (pe_tup (pa_cons (pv 3) (pa_cons (pv 3) (pa_cons (pv 3) pa_nil)))) pa_nil))))))))
        (pg_tup rfl (pgs_cons (pg_name (i := 6) scLaw.nd rfl (Or.inl rfl)) (pgs_cons (pg_name (i := 7) scLaw.nd rfl (Or.inl rfl)) (pgs_cons (pg_name (i := 8) scLaw.nd rfl (Or.inl rfl)) pgs_nil))))
        (pss_cons (ps_if (PW.pt (pw_or (pt_not (pt_val (pe_call GS hr7 rfl gS kS bS .nil pass0 (pa_cons (pv 6) (pa_cons (pv 7) (pa_cons (pv 8) pa_nil))))))
            (pw_or1 (pt_not (pt_val (pe_call GM hr7 rfl gM kM bM .nil pass0 (pa_cons (pv 6) (pa_cons (pv 7) (pa_cons (pv 8) pa_nil))))))))) (pss_one (ps_ret pe_bl)) pss_nil)
        (pss_one (ps_if (pt_not (pt_val (pe_call GT hr7 rfl gT kT bT .nil pass0 (pa_cons (pv 6) (pa_cons (pv 7) (pa_cons (pv 8) pa_nil)))))) (pss_one (ps_ret pe_bl)) pss_nil))))
      (pss_one (ps_ret pe_bl))))))), ?_⟩
    refine ⟨_, rfl, a, ns, 0, rfl, hS, by omega, by decide, fun b c H1 nb nc s1 B1 => ?_⟩
    refine ⟨_, rfl, a, ns, 1, rfl, s1.seq hS, by omega, by decide, fun b2 c2 H2 nb2 nc2 s2 B2 => ?_⟩
    have n1 : b2 ≠ b := B1.off nb2
    have n2 : c2 ≠ b := B1.off nc2
    refine ⟨_, rfl, b, c, ns, rfl, B1.same s2, fun v1 p H3 bp B3 k3 h3 => ?_⟩
    have F3 := B2.keep k3 n1 n2
    refine ⟨_, rfl, b2, c2, ns, rfl, F3, fun v2 q H4 bq B4 k4 h4 => ?_⟩
    have e4 : Dp K H4 v1 (bD p) := bD_kt (KeepT.but F3.notT k4) h3
    refine ⟨_, rfl, b2, c2, ns, rfl, B4, fun v3 r H5 br B5 k5 h5 => ?_⟩
    have x5 : Dp K H5 v1 (bD p) := bD_kt (KeepT.but B4.notT k5) e4
    have y5 : Dp K H5 v2 (bD q) := bD_kt (KeepT.but B4.notT k5) h4
    refine ⟨_, rfl, _, rfl, _, rfl, (by show 3 ≤ sizeLine; decide), fun T1 m1 => ?_⟩
    obtain ⟨g1, a1⟩ := tri_mk m1 x5 y5 h5 bp bq br
    generalize upd H5 T1 (.tup [v1, v2, v3]) = J1 at g1 a1 ⊢
    refine ⟨_, rfl, _, rfl, _, rfl, (by show 3 ≤ sizeLine; decide), fun T2 m2 => ?_⟩
    obtain ⟨g2, a2⟩ := tri_mk m2 (dp_same a1 y5) (dp_same a1 h5) (dp_same a1 x5) bq br bp
    have a02 := a1.trans a2
    generalize upd J1 T2 (.tup [v2, v3, v1]) = J2 at g2 a2 a02 ⊢
    refine ⟨_, rfl, _, rfl, _, rfl, (by show 3 ≤ sizeLine; decide), fun T3 m3 => ?_⟩
    obtain ⟨g3, a3⟩ := tri_mk m3 (dp_same a02 x5) (dp_same a02 x5) (dp_same a02 y5) bp bp bq
    have a03 := a02.trans a3
    generalize upd J2 T3 (.tup [v1, v1, v2]) = J3 at g3 a3 a03 ⊢
    refine ⟨_, rfl, _, rfl, (by show 3 ≤ sizeLine; decide), fun T4 m4 => ?_⟩
    obtain ⟨g4, a4⟩ := tri_mk m4 (dp_same a03 x5) (dp_same a03 y5) (hzd _) bp bq pb_zero
    have a04 := a03.trans a4
    generalize upd J3 T4 (.tup [v1, v2, .ref zr]) = J4 at g4 a4 a04 ⊢
    refine ⟨_, rfl, _, rfl, (by show 3 ≤ sizeLine; decide), fun T5 m5 => ?_⟩
    obtain ⟨g5, a5⟩ := tri_mk m5 (hod _) (dp_same a04 x5) (dp_same a04 y5) pb_one bp bq
    have a05 := a04.trans a5
    generalize upd J4 T5 (.tup [.ref on, v1, v2]) = J5 at g5 a5 a05 ⊢
    refine ⟨_, rfl, _, rfl, _, rfl, (by show 3 ≤ sizeLine; decide), fun T6 m6 => ?_⟩
    obtain ⟨g6, a6⟩ := tri_mk m6 (dp_same a05 x5) (dp_same a05 x5) (dp_same a05 x5) bp bp bp
    generalize upd J5 T6 (.tup [v1, v1, v1]) = J6 at g6 a6 ⊢
    refine ⟨(by show 6 ≤ sizeLine; decide), fun L nL => ?_⟩
    have sL : Same J6 (upd J6 L (.lst [.ref T1, .ref T2, .ref T3, .ref T4, .ref T5, .ref T6])) := sm_new sm_refl nL
    have hL : upd J6 L (.lst [.ref T1, .ref T2, .ref T3, .ref T4, .ref T5, .ref T6]) L = some (.lst [.ref T1, .ref T2, .ref T3, .ref T4, .ref T5, .ref T6]) := upd_same
    generalize upd J6 L (.lst [.ref T1, .ref T2, .ref T3, .ref T4, .ref T5, .ref T6]) = J at sL hL ⊢
    have tri : ∀ x ∈ ([.ref T1, .ref T2, .ref T3, .ref T4, .ref T5, .ref T6] : List V), TriAt K J x := fun x hx => by
      simp only [List.mem_cons, List.not_mem_nil, or_false] at hx
      rcases hx with rfl | rfl | rfl | rfl | rfl | rfl
      · exact g1.same (((((a2.trans a3).trans a4).trans a5).trans a6).trans sL)
      · exact g2.same ((((a3.trans a4).trans a5).trans a6).trans sL)
      · exact g3.same (((a4.trans a5).trans a6).trans sL)
      · exact g4.same ((a5.trans a6).trans sL)
      · exact g5.same (a6.trans sL)
      · exact g6.same sL
    refine ⟨L, rfl, ⟨_, SqL.of hL⟩, ?_⟩
    refine for_list (K := K) (a := L) (xs := [.ref T1, .ref T2, .ref T3, .ref T4, .ref T5, .ref T6]) (fun i σ H6 => (∃ u v t, σ = [some (.ref a), some (.ref b), some (.ref b2), some v1, some v2, some v3, u, v, t]) ∧ Same J H6) ⟨⟨_, _, _, rfl⟩, sm_refl⟩ (fun i σ H6 _ ⟨_, s6⟩ => s6.seq (SqL.of hL)) ?_ ?_
    · rintro i x σ H6 hi ⟨⟨u, v, t, rfl⟩, s6⟩
      obtain ⟨T, d1, d2, d3, pa, pb, pc, rfl, hT, w1, w2, w3, b1, b2', b3⟩ := (tri x (List.mem_of_getElem? hi)).same s6
      refine ⟨T, _, rfl, hT, rfl, _, _, rfl, _, _, rfl, _, _, rfl, rfl, ?_⟩
      refine ⟨_, rfl, _, rfl, _, rfl, d1, d2, d3, pa, pb, pc, rfl, w1, w2, w3, b1, b2', b3, fun H7 s7 => ⟨_, rfl, iteF ?_⟩⟩
      refine ⟨_, rfl, _, rfl, _, rfl, d1, d2, d3, pa, pb, pc, rfl, dp_same s7 w1, dp_same s7 w2, dp_same s7 w3, b1, b2', b3, fun H8 s8 => ⟨_, rfl, iteF ?_⟩⟩
      have s78 := s7.trans s8
      refine ⟨_, rfl, _, rfl, _, rfl, d1, d2, d3, pa, pb, pc, rfl, dp_same s78 w1, dp_same s78 w2, dp_same s78 w3, b1, b2', b3, fun H9 s9 => ⟨_, rfl, iteF ?_⟩⟩
      exact ⟨⟨_, _, _, rfl⟩, (s6.trans s78).trans s9⟩
    · rintro σ H6 ⟨_, s6⟩
      exact k H6
end
end K2


set_option Elab.async false
set_option linter.all false
set_option maxRecDepth 100000
set_option maxHeartbeats 4000000
namespace K2
open PySem L2 Nd Bk
theorem sq_k {K : PySem.W.Frag} {a : Addr} {its : List Value} {n : Nat} {dd : Option Addr} {sl : Array (Option Value)} {xs : List V} (h : K.lookup a = some ⟨.type "tuple", dd, .seq its.toArray n, sl⟩) (hz : its.length ≤ 10) (r : Vals xs its) (H : Hp) : SqT K H a xs :=
  .inr ⟨_, its.toArray, n, h, rfl, rfl, by rw [sizeLine_eq, List.size_toArray]; omega, r⟩
theorem all_mk {l : PySem.W.OpenLaw} {w : World} {K : PySem.W.Frag} {h : Heap} {mg : Str → Option Value} {fa : Addr} (X : K.In h) (G : h.Ns mainGlobals mg) (hfa : mg "law" = some (.ref fa))
    {zA oA oB oC : Addr} {zn on1 on2 on3 : Nat} {zd od1 od2 od3 : Option Addr} {zs os1 os2 os3 : Array (Option Value)} {tb tm t1 : Tok}
    {f0 : Addr} {fod0 fan0 : Option Addr} {fsl0 : Array (Option Value)} {foc0 fkV0 fdc0 fpm0 fcd0 fct0 : Value}
    {f1 : Addr} {fod1 fan1 : Option Addr} {fsl1 : Array (Option Value)} {foc1 fkV1 fdc1 fpm1 fcd1 fct1 : Value}
    {f2 : Addr} {fod2 fan2 : Option Addr} {fsl2 : Array (Option Value)} {foc2 fkV2 fdc2 fpm2 fcd2 fct2 : Value}
    {f3 : Addr} {fod3 fan3 : Option Addr} {fsl3 : Array (Option Value)} {foc3 fkV3 fdc3 fpm3 fcd3 fct3 : Value}
    {f4 : Addr} {fod4 fan4 : Option Addr} {fsl4 : Array (Option Value)} {foc4 fkV4 fdc4 fpm4 fcd4 fct4 : Value}
    {f5 : Addr} {fod5 fan5 : Option Addr} {fsl5 : Array (Option Value)} {foc5 fkV5 fdc5 fpm5 fcd5 fct5 : Value}
    {f6 : Addr} {fod6 fan6 : Option Addr} {fsl6 : Array (Option Value)} {foc6 fkV6 fdc6 fpm6 fcd6 fct6 : Value}
    {f7 : Addr} {fod7 fan7 : Option Addr} {fsl7 : Array (Option Value)} {foc7 fkV7 fdc7 fpm7 fcd7 fct7 : Value}
    {f8 : Addr} {fod8 fan8 : Option Addr} {fsl8 : Array (Option Value)} {foc8 fkV8 fdc8 fpm8 fcd8 fct8 : Value}
    {f9 : Addr} {fod9 fan9 : Option Addr} {fsl9 : Array (Option Value)} {foc9 fkV9 fdc9 fpm9 fcd9 fct9 : Value}
    {f10 : Addr} {fod10 fan10 : Option Addr} {fsl10 : Array (Option Value)} {foc10 fkV10 fdc10 fpm10 fcd10 fct10 : Value}
    {f11 : Addr} {fod11 fan11 : Option Addr} {fsl11 : Array (Option Value)} {foc11 fkV11 fdc11 fpm11 fcd11 fct11 : Value}
    {f12 : Addr} {fod12 fan12 : Option Addr} {fsl12 : Array (Option Value)} {foc12 fkV12 fdc12 fpm12 fcd12 fct12 : Value}
    {f13 : Addr} {fod13 fan13 : Option Addr} {fsl13 : Array (Option Value)} {foc13 fkV13 fdc13 fpm13 fcd13 fct13 : Value}
    {f14 : Addr} {fod14 fan14 : Option Addr} {fsl14 : Array (Option Value)} {foc14 fkV14 fdc14 fpm14 fcd14 fct14 : Value}
    {f15 : Addr} {fod15 fan15 : Option Addr} {fsl15 : Array (Option Value)} {foc15 fkV15 fdc15 fpm15 fcd15 fct15 : Value}
    {f16 : Addr} {fod16 fan16 : Option Addr} {fsl16 : Array (Option Value)} {foc16 fkV16 fdc16 fpm16 fcd16 fct16 : Value}
    {f17 : Addr} {fod17 fan17 : Option Addr} {fsl17 : Array (Option Value)} {foc17 fkV17 fdc17 fpm17 fcd17 fct17 : Value}
    {f18 : Addr} {fod18 fan18 : Option Addr} {fsl18 : Array (Option Value)} {foc18 fkV18 fdc18 fpm18 fcd18 fct18 : Value}
    {f19 : Addr} {fod19 fan19 : Option Addr} {fsl19 : Array (Option Value)} {foc19 fkV19 fdc19 fpm19 fcd19 fct19 : Value}
    {f20 : Addr} {fod20 fan20 : Option Addr} {fsl20 : Array (Option Value)} {foc20 fkV20 fdc20 fpm20 fcd20 fct20 : Value}
    {f21 : Addr} {fod21 fan21 : Option Addr} {fsl21 : Array (Option Value)} {foc21 fkV21 fdc21 fpm21 fcd21 fct21 : Value}
    {f22 : Addr} {fod22 fan22 : Option Addr} {fsl22 : Array (Option Value)} {foc22 fkV22 fdc22 fpm22 fcd22 fct22 : Value}
    {f23 : Addr} {fod23 fan23 : Option Addr} {fsl23 : Array (Option Value)} {foc23 fkV23 fdc23 fpm23 fcd23 fct23 : Value}
    {f24 : Addr} {fod24 fan24 : Option Addr} {fsl24 : Array (Option Value)} {foc24 fkV24 fdc24 fpm24 fcd24 fct24 : Value}
    {f25 : Addr} {fod25 fan25 : Option Addr} {fsl25 : Array (Option Value)} {foc25 fkV25 fdc25 fpm25 fcd25 fct25 : Value}
    (bey : PySem.W.nsIn K mainGlobals "BEYOND_FIGURES" = some (some (.int BEY tb)))
    (most : PySem.W.nsIn K mainGlobals "MOST_TERMS" = some (some (.int 400 tm)))
    (zer : PySem.W.nsIn K mainGlobals "ZERO" = some (some (.ref zA)))
    (zl : K.lookup zA = some ⟨.type "tuple", zd, .seq #[] zn, zs⟩)
    (one : PySem.W.nsIn K mainGlobals "ONE" = some (some (.ref oA)))
    (o1 : K.lookup oA = some ⟨.type "tuple", od1, .seq #[.ref oB] on1, os1⟩)
    (o2 : K.lookup oB = some ⟨.type "tuple", od2, .seq #[.ref oC, .int 1 t1] on2, os2⟩)
    (o3 : K.lookup oC = some ⟨.type "tuple", od3, .seq #[] on3, os3⟩)
    (fa0 : PySem.W.nsIn K mainGlobals "plus" = some (some (.ref f0)))
    (fl0 : K.lookup f0 = some ⟨foc0, fod0, .func (PySem.W.fnOf "plus" "plus" (defArgs sPlus) (defBody sPlus) (defScope sPlus) .none fkV0 fdc0 fpm0 fan0 fcd0 fct0), fsl0⟩)
    (fc0 : PySem.W.codeIn K fcd0 "plus" = true)
    (fk0 : PySem.W.keepIn K (.ref f0) = true)
    (fa1 : PySem.W.nsIn K mainGlobals "times" = some (some (.ref f1)))
    (fl1 : K.lookup f1 = some ⟨foc1, fod1, .func (PySem.W.fnOf "times" "times" (defArgs sTimes) (defBody sTimes) (defScope sTimes) .none fkV1 fdc1 fpm1 fan1 fcd1 fct1), fsl1⟩)
    (fc1 : PySem.W.codeIn K fcd1 "times" = true)
    (fk1 : PySem.W.keepIn K (.ref f1) = true)
    (fa2 : PySem.W.nsIn K mainGlobals "frozen" = some (some (.ref f2)))
    (fl2 : K.lookup f2 = some ⟨foc2, fod2, .func (PySem.W.fnOf "frozen" "frozen" (defArgs sFrozen) (defBody sFrozen) (defScope sFrozen) .none fkV2 fdc2 fpm2 fan2 fcd2 fct2), fsl2⟩)
    (fc2 : PySem.W.codeIn K fcd2 "frozen" = true)
    (fk2 : PySem.W.keepIn K (.ref f2) = true)
    (fa3 : PySem.W.nsIn K mainGlobals "put" = some (some (.ref f3)))
    (fl3 : K.lookup f3 = some ⟨foc3, fod3, .func (PySem.W.fnOf "put" "put" (defArgs sPut) (defBody sPut) (defScope sPut) .none fkV3 fdc3 fpm3 fan3 fcd3 fct3), fsl3⟩)
    (fc3 : PySem.W.codeIn K fcd3 "put" = true)
    (fk3 : PySem.W.keepIn K (.ref f3) = true)
    (fa4 : PySem.W.nsIn K mainGlobals "product_terms" = some (some (.ref f4)))
    (fl4 : K.lookup f4 = some ⟨foc4, fod4, .func (PySem.W.fnOf "product_terms" "product_terms" (defArgs sProd) (defBody sProd) (defScope sProd) .none fkV4 fdc4 fpm4 fan4 fcd4 fct4), fsl4⟩)
    (fc4 : PySem.W.codeIn K fcd4 "product_terms" = true)
    (fk4 : PySem.W.keepIn K (.ref f4) = true)
    (fa5 : PySem.W.nsIn K mainGlobals "_joined" = some (some (.ref f5)))
    (fl5 : K.lookup f5 = some ⟨foc5, fod5, .func (PySem.W.fnOf "_joined" "_joined" (defArgs sJoin) (defBody sJoin) (defScope sJoin) .none fkV5 fdc5 fpm5 fan5 fcd5 fct5), fsl5⟩)
    (fc5 : PySem.W.codeIn K fcd5 "_joined" = true)
    (fk5 : PySem.W.keepIn K (.ref f5) = true)
    (fa6 : PySem.W.nsIn K mainGlobals "check_terms" = some (some (.ref f6)))
    (fl6 : K.lookup f6 = some ⟨foc6, fod6, .func (PySem.W.fnOf "check_terms" "check_terms" (defArgs sChk) (defBody sChk) (defScope sChk) .none fkV6 fdc6 fpm6 fan6 fcd6 fct6), fsl6⟩)
    (fc6 : PySem.W.codeIn K fcd6 "check_terms" = true)
    (fk6 : PySem.W.keepIn K (.ref f6) = true)
    (fa7 : PySem.W.nsIn K mainGlobals "poly_of" = some (some (.ref f7)))
    (fl7 : K.lookup f7 = some ⟨foc7, fod7, .func (PySem.W.fnOf "poly_of" "poly_of" (defArgs sPoly) (defBody sPoly) (defScope sPoly) .none fkV7 fdc7 fpm7 fan7 fcd7 fct7), fsl7⟩)
    (fc7 : PySem.W.codeIn K fcd7 "poly_of" = true)
    (fk7 : PySem.W.keepIn K (.ref f7) = true)
    (fa8 : PySem.W.nsIn K mainGlobals "_law_mix" = some (some (.ref f8)))
    (fl8 : K.lookup f8 = some ⟨foc8, fod8, .func (PySem.W.fnOf "_law_mix" "_law_mix" (defArgs sMix) (defBody sMix) (defScope sMix) .none fkV8 fdc8 fpm8 fan8 fcd8 fct8), fsl8⟩)
    (fc8 : PySem.W.codeIn K fcd8 "_law_mix" = true)
    (fk8 : PySem.W.keepIn K (.ref f8) = true)
    (fa9 : PySem.W.nsIn K mainGlobals "_law_box" = some (some (.ref f9)))
    (fl9 : K.lookup f9 = some ⟨foc9, fod9, .func (PySem.W.fnOf "_law_box" "_law_box" (defArgs sBox) (defBody sBox) (defScope sBox) .none fkV9 fdc9 fpm9 fan9 fcd9 fct9), fsl9⟩)
    (fc9 : PySem.W.codeIn K fcd9 "_law_box" = true)
    (fk9 : PySem.W.keepIn K (.ref f9) = true)
    (fa10 : PySem.W.nsIn K mainGlobals "_law_draw" = some (some (.ref f10)))
    (fl10 : K.lookup f10 = some ⟨foc10, fod10, .func (PySem.W.fnOf "_law_draw" "_law_draw" (defArgs sDraw) (defBody sDraw) (defScope sDraw) .none fkV10 fdc10 fpm10 fan10 fcd10 fct10), fsl10⟩)
    (fc10 : PySem.W.codeIn K fcd10 "_law_draw" = true)
    (fk10 : PySem.W.keepIn K (.ref f10) = true)
    (fa11 : PySem.W.nsIn K mainGlobals "_law_alike" = some (some (.ref f11)))
    (fl11 : K.lookup f11 = some ⟨foc11, fod11, .func (PySem.W.fnOf "_law_alike" "_law_alike" (defArgs sAlike) (defBody sAlike) (defScope sAlike) .none fkV11 fdc11 fpm11 fan11 fcd11 fct11), fsl11⟩)
    (fc11 : PySem.W.codeIn K fcd11 "_law_alike" = true)
    (fk11 : PySem.W.keepIn K (.ref f11) = true)
    (fa12 : PySem.W.nsIn K mainGlobals "_law_token" = some (some (.ref f12)))
    (fl12 : K.lookup f12 = some ⟨foc12, fod12, .func (PySem.W.fnOf "_law_token" "_law_token" (defArgs sTok) (defBody sTok) (defScope sTok) .none fkV12 fdc12 fpm12 fan12 fcd12 fct12), fsl12⟩)
    (fc12 : PySem.W.codeIn K fcd12 "_law_token" = true)
    (fk12 : PySem.W.keepIn K (.ref f12) = true)
    (fa13 : PySem.W.nsIn K mainGlobals "_law_sorted" = some (some (.ref f13)))
    (fl13 : K.lookup f13 = some ⟨foc13, fod13, .func (PySem.W.fnOf "_law_sorted" "_law_sorted" (defArgs sSort) (defBody sSort) (defScope sSort) .none fkV13 fdc13 fpm13 fan13 fcd13 fct13), fsl13⟩)
    (fc13 : PySem.W.codeIn K fcd13 "_law_sorted" = true)
    (fk13 : PySem.W.keepIn K (.ref f13) = true)
    (fa14 : PySem.W.nsIn K mainGlobals "_law_normal" = some (some (.ref f14)))
    (fl14 : K.lookup f14 = some ⟨foc14, fod14, .func (PySem.W.fnOf "_law_normal" "_law_normal" (defArgs sNorm) (defBody sNorm) (defScope sNorm) .none fkV14 fdc14 fpm14 fan14 fcd14 fct14), fsl14⟩)
    (fc14 : PySem.W.codeIn K fcd14 "_law_normal" = true)
    (fk14 : PySem.W.keepIn K (.ref f14) = true)
    (fa15 : PySem.W.nsIn K mainGlobals "_law_monomial" = some (some (.ref f15)))
    (fl15 : K.lookup f15 = some ⟨foc15, fod15, .func (PySem.W.fnOf "_law_monomial" "_law_monomial" (defArgs sLMono) (defBody sLMono) (defScope sLMono) .none fkV15 fdc15 fpm15 fan15 fcd15 fct15), fsl15⟩)
    (fc15 : PySem.W.codeIn K fcd15 "_law_monomial" = true)
    (fk15 : PySem.W.keepIn K (.ref f15) = true)
    (fa16 : PySem.W.nsIn K mainGlobals "_law_poly" = some (some (.ref f16)))
    (fl16 : K.lookup f16 = some ⟨foc16, fod16, .func (PySem.W.fnOf "_law_poly" "_law_poly" (defArgs sLPoly) (defBody sLPoly) (defScope sLPoly) .none fkV16 fdc16 fpm16 fan16 fcd16 fct16), fsl16⟩)
    (fc16 : PySem.W.codeIn K fcd16 "_law_poly" = true)
    (fk16 : PySem.W.keepIn K (.ref f16) = true)
    (fa17 : PySem.W.nsIn K mainGlobals "_law_plus" = some (some (.ref f17)))
    (fl17 : K.lookup f17 = some ⟨foc17, fod17, .func (PySem.W.fnOf "_law_plus" "_law_plus" (defArgs sLPlus) (defBody sLPlus) (defScope sLPlus) .none fkV17 fdc17 fpm17 fan17 fcd17 fct17), fsl17⟩)
    (fc17 : PySem.W.codeIn K fcd17 "_law_plus" = true)
    (fk17 : PySem.W.keepIn K (.ref f17) = true)
    (fa18 : PySem.W.nsIn K mainGlobals "_law_product" = some (some (.ref f18)))
    (fl18 : K.lookup f18 = some ⟨foc18, fod18, .func (PySem.W.fnOf "_law_product" "_law_product" (defArgs sLProd) (defBody sLProd) (defScope sLProd) .none fkV18 fdc18 fpm18 fan18 fcd18 fct18), fsl18⟩)
    (fc18 : PySem.W.codeIn K fcd18 "_law_product" = true)
    (fk18 : PySem.W.keepIn K (.ref f18) = true)
    (fa19 : PySem.W.nsIn K mainGlobals "_law_times" = some (some (.ref f19)))
    (fl19 : K.lookup f19 = some ⟨foc19, fod19, .func (PySem.W.fnOf "_law_times" "_law_times" (defArgs sLTimes) (defBody sLTimes) (defScope sLTimes) .none fkV19 fdc19 fpm19 fan19 fcd19 fct19), fsl19⟩)
    (fc19 : PySem.W.codeIn K fcd19 "_law_times" = true)
    (fk19 : PySem.W.keepIn K (.ref f19) = true)
    (fa20 : PySem.W.nsIn K mainGlobals "_law_summed" = some (some (.ref f20)))
    (fl20 : K.lookup f20 = some ⟨foc20, fod20, .func (PySem.W.fnOf "_law_summed" "_law_summed" (defArgs sSummed) (defBody sSummed) (defScope sSummed) .none fkV20 fdc20 fpm20 fan20 fcd20 fct20), fsl20⟩)
    (fc20 : PySem.W.codeIn K fcd20 "_law_summed" = true)
    (fk20 : PySem.W.keepIn K (.ref f20) = true)
    (fa21 : PySem.W.nsIn K mainGlobals "_law_multiplied" = some (some (.ref f21)))
    (fl21 : K.lookup f21 = some ⟨foc21, fod21, .func (PySem.W.fnOf "_law_multiplied" "_law_multiplied" (defArgs sMult) (defBody sMult) (defScope sMult) .none fkV21 fdc21 fpm21 fan21 fcd21 fct21), fsl21⟩)
    (fc21 : PySem.W.codeIn K fcd21 "_law_multiplied" = true)
    (fk21 : PySem.W.keepIn K (.ref f21) = true)
    (fa22 : PySem.W.nsIn K mainGlobals "_law_parted" = some (some (.ref f22)))
    (fl22 : K.lookup f22 = some ⟨foc22, fod22, .func (PySem.W.fnOf "_law_parted" "_law_parted" (defArgs sPart) (defBody sPart) (defScope sPart) .none fkV22 fdc22 fpm22 fan22 fcd22 fct22), fsl22⟩)
    (fc22 : PySem.W.codeIn K fcd22 "_law_parted" = true)
    (fk22 : PySem.W.keepIn K (.ref f22) = true)
    (fa23 : PySem.W.nsIn K mainGlobals "as_terms" = some (some (.ref f23)))
    (fl23 : K.lookup f23 = some ⟨foc23, fod23, .func (PySem.W.fnOf "as_terms" "as_terms" (defArgs sAs) (defBody sAs) (defScope sAs) .none fkV23 fdc23 fpm23 fan23 fcd23 fct23), fsl23⟩)
    (fc23 : PySem.W.codeIn K fcd23 "as_terms" = true)
    (fk23 : PySem.W.keepIn K (.ref f23) = true)
    (fa24 : PySem.W.nsIn K mainGlobals "check_figures" = some (some (.ref f24)))
    (fl24 : K.lookup f24 = some ⟨foc24, fod24, .func (PySem.W.fnOf "check_figures" "check_figures" (defArgs sCkF) (defBody sCkF) (defScope sCkF) .none fkV24 fdc24 fpm24 fan24 fcd24 fct24), fsl24⟩)
    (fc24 : PySem.W.codeIn K fcd24 "check_figures" = true)
    (fk24 : PySem.W.keepIn K (.ref f24) = true)
    (fa25 : PySem.W.nsIn K mainGlobals "law" = some (some (.ref f25)))
    (fl25 : K.lookup f25 = some ⟨foc25, fod25, .func (PySem.W.fnOf "law" "law" (defArgs sLaw) (defBody sLaw) (defScope sLaw) .none fkV25 fdc25 fpm25 fan25 fcd25 fct25), fsl25⟩)
    (fc25 : PySem.W.codeIn K fcd25 "law" = true)
    (fk25 : PySem.W.keepIn K (.ref f25) = true)
    (z_isinstance : PySem.W.nsIn K mainGlobals "isinstance" = some none)
    (z_tuple : PySem.W.nsIn K mainGlobals "tuple" = some none)
    (z_list : PySem.W.nsIn K mainGlobals "list" = some none)
    (z_len : PySem.W.nsIn K mainGlobals "len" = some none)
    (z_range : PySem.W.nsIn K mainGlobals "range" = some none)
    (z_bool : PySem.W.nsIn K mainGlobals "bool" = some none)
    (z_str : PySem.W.nsIn K mainGlobals "str" = some none)
    (z_int : PySem.W.nsIn K mainGlobals "int" = some none)
    (z_min : PySem.W.nsIn K mainGlobals "min" = some none)
    (z_any : PySem.W.nsIn K mainGlobals "any" = some none)
    (z_dict : PySem.W.nsIn K mainGlobals "dict" = some none)
    (z_sorted : PySem.W.nsIn K mainGlobals "sorted" = some none)
    : ∃ fd : FuncData, (∀ (s : Shared) (v : Value), BindsTo s fd ⟨[v], []⟩ [("script", v)]) ∧ ∀ base : Heap, K.In base → base.Ns mainGlobals mg → FnOk l.prog w K mg base CX0 8 fa fd ["script"] (spLaw K) := by
  have e := hfa.symm.trans (PySem.W.mg_of X G fa25)
  cases e
  have C : Cn K mg := {
    N := ⟨PySem.W.mg_none_of X G z_isinstance, PySem.W.mg_none_of X G z_tuple, PySem.W.mg_none_of X G z_list, PySem.W.mg_none_of X G z_len, PySem.W.mg_none_of X G z_range, PySem.W.mg_none_of X G z_bool, PySem.W.mg_none_of X G z_str, PySem.W.mg_none_of X G z_int⟩
    min := PySem.W.mg_none_of X G z_min, any := PySem.W.mg_none_of X G z_any, dict := PySem.W.mg_none_of X G z_dict, srt := PySem.W.mg_none_of X G z_sorted
    bey := ⟨_, PySem.W.mg_of X G bey⟩, most := ⟨_, PySem.W.mg_of X G most⟩
    zero := ⟨zA, PySem.W.mg_of X G zer, fun H => .tup (sq_k (its := []) (xs := []) zl (by decide) .nil H) .nil⟩
    one := ⟨oA, PySem.W.mg_of X G one, fun H => .tup (sq_k (its := [.ref oB]) (xs := [.ref oB]) o1 (by show 1 ≤ 10; decide) (.cons (show RelV (.ref oB) _ from rfl) .nil) H) (.cons (.tup (sq_k (its := [.ref oC, .int 1 t1]) (xs := [.ref oC, .int 1]) o2 (by show 2 ≤ 10; decide) (.cons (show RelV (.ref oC) _ from rfl) (.cons (show RelV (.int 1) _ from ⟨_, rfl⟩) .nil)) H) (.cons (.tup (sq_k (its := []) (xs := []) o3 (by decide) .nil H) .nil) (.cons (.int 1) .nil))) .nil)⟩ }
  have F0 := fun_mk (st := sPlus) fl0 fc0 fk0
  have b0 := F0.binds (ps := ["p", "q"]) fun _ _ _ _ _ _ us hl => match us, hl with | [_, _], _ => rfl
  have F1 := fun_mk (st := sTimes) fl1 fc1 fk1
  have b1 := F1.binds (ps := ["p", "q"]) fun _ _ _ _ _ _ us hl => match us, hl with | [_, _], _ => rfl
  have F2 := fun_mk (st := sFrozen) fl2 fc2 fk2
  have b2 := F2.binds (ps := ["p"]) fun _ _ _ _ _ _ us hl => match us, hl with | [_], _ => rfl
  have F3 := fun_mk (st := sPut) fl3 fc3 fk3
  have b3 := F3.binds (ps := ["found", "monomial", "coefficient"]) fun _ _ _ _ _ _ us hl => match us, hl with | [_, _, _], _ => rfl
  have F4 := fun_mk (st := sProd) fl4 fc4 fk4
  have b4 := F4.binds (ps := ["terms", "others"]) fun _ _ _ _ _ _ us hl => match us, hl with | [_, _], _ => rfl
  have F5 := fun_mk (st := sJoin) fl5 fc5 fk5
  have b5 := F5.binds (ps := ["monomial", "another"]) fun _ _ _ _ _ _ us hl => match us, hl with | [_, _], _ => rfl
  have F6 := fun_mk (st := sChk) fl6 fc6 fk6
  have b6 := F6.binds (ps := ["terms"]) fun _ _ _ _ _ _ us hl => match us, hl with | [_], _ => rfl
  have F7 := fun_mk (st := sPoly) fl7 fc7 fk7
  have b7 := F7.binds (ps := ["found"]) fun _ _ _ _ _ _ us hl => match us, hl with | [_], _ => rfl
  have F8 := fun_mk (st := sMix) fl8 fc8 fk8
  have b8 := F8.binds (ps := ["cell", "salt"]) fun _ _ _ _ _ _ us hl => match us, hl with | [_, _], _ => rfl
  have F9 := fun_mk (st := sBox) fl9 fc9 fk9
  have b9 := F9.binds (ps := ["script", "at"]) fun _ _ _ _ _ _ us hl => match us, hl with | [_, _], _ => rfl
  have F10 := fun_mk (st := sDraw) fl10 fc10 fk10
  have b10 := F10.binds (ps := ["box", "many"]) fun _ _ _ _ _ _ us hl => match us, hl with | [_, _], _ => rfl
  have F11 := fun_mk (st := sAlike) fl11 fc11 fk11
  have b11 := F11.binds (ps := ["told", "due"]) fun _ _ _ _ _ _ us hl => match us, hl with | [_, _], _ => rfl
  have F12 := fun_mk (st := sTok) fl12 fc12 fk12
  have b12 := F12.binds (ps := ["box"]) fun _ _ _ _ _ _ us hl => match us, hl with | [_], _ => rfl
  have F13 := fun_mk (st := sSort) fl13 fc13 fk13
  have b13 := F13.binds (ps := ["row"]) fun _ _ _ _ _ _ us hl => match us, hl with | [_], _ => rfl
  have F14 := fun_mk (st := sNorm) fl14 fc14 fk14
  have b14 := F14.binds (ps := ["book"]) fun _ _ _ _ _ _ us hl => match us, hl with | [_], _ => rfl
  have F15 := fun_mk (st := sLMono) fl15 fc15 fk15
  have b15 := F15.binds (ps := ["box", "most"]) fun _ _ _ _ _ _ us hl => match us, hl with | [_, _], _ => rfl
  have F16 := fun_mk (st := sLPoly) fl16 fc16 fk16
  have b16 := F16.binds (ps := ["box", "terms", "most"]) fun _ _ _ _ _ _ us hl => match us, hl with | [_, _, _], _ => rfl
  have F17 := fun_mk (st := sLPlus) fl17 fc17 fk17
  have b17 := F17.binds (ps := ["p", "q"]) fun _ _ _ _ _ _ us hl => match us, hl with | [_, _], _ => rfl
  have F18 := fun_mk (st := sLProd) fl18 fc18 fk18
  have b18 := F18.binds (ps := ["one", "other"]) fun _ _ _ _ _ _ us hl => match us, hl with | [_, _], _ => rfl
  have F19 := fun_mk (st := sLTimes) fl19 fc19 fk19
  have b19 := F19.binds (ps := ["p", "q"]) fun _ _ _ _ _ _ us hl => match us, hl with | [_, _], _ => rfl
  have F20 := fun_mk (st := sSummed) fl20 fc20 fk20
  have b20 := F20.binds (ps := ["p", "q", "r"]) fun _ _ _ _ _ _ us hl => match us, hl with | [_, _, _], _ => rfl
  have F21 := fun_mk (st := sMult) fl21 fc21 fk21
  have b21 := F21.binds (ps := ["p", "q", "r"]) fun _ _ _ _ _ _ us hl => match us, hl with | [_, _, _], _ => rfl
  have F22 := fun_mk (st := sPart) fl22 fc22 fk22
  have b22 := F22.binds (ps := ["p", "q", "r"]) fun _ _ _ _ _ _ us hl => match us, hl with | [_, _, _], _ => rfl
  have F23 := fun_mk (st := sAs) fl23 fc23 fk23
  have b23 := F23.binds (ps := ["found"]) fun _ _ _ _ _ _ us hl => match us, hl with | [_], _ => rfl
  have F24 := fun_mk (st := sCkF) fl24 fc24 fk24
  have b24 := F24.binds (ps := ["terms"]) fun _ _ _ _ _ _ us hl => match us, hl with | [_], _ => rfl
  have F25 := fun_mk (st := sLaw) fl25 fc25 fk25
  refine ⟨PySem.W.fnOf "law" "law" (defArgs sLaw) (defBody sLaw) (defScope sLaw) .none fkV25 fdc25 fpm25 fan25 fcd25 fct25, fun s v => .of_eq rfl, fun base _ _ => ?_⟩
  · have N := C.N
    have D6 : Df l.prog w K mg base 1 "check_terms" ["terms"] (spChk K l.prog w) := ⟨f6, _, PySem.W.mg_of X G fa6, fk6, b6, ok_chk F6 C⟩
    have D3 : Df l.prog w K mg base 1 "put" ["found", "monomial", "coefficient"] (spPut K l.prog w) := ⟨f3, _, PySem.W.mg_of X G fa3, fk3, b3, ok_put F3 C⟩
    have D2 : Df l.prog w K mg base 1 "frozen" ["p"] (spFroz K) := ⟨f2, _, PySem.W.mg_of X G fa2, fk2, b2, ok_froz F2 C⟩
    have D5 : Df l.prog w K mg base 1 "_joined" ["monomial", "another"] (spJoin K) := ⟨f5, _, PySem.W.mg_of X G fa5, fk5, b5, ok_join F5 C⟩
    have D23 : Df l.prog w K mg base 1 "as_terms" ["found"] (spAs K l.prog w) := ⟨f23, _, PySem.W.mg_of X G fa23, fk23, b23, ok_as F23 C⟩
    have D24 : Df l.prog w K mg base 1 "check_figures" ["terms"] (spCkF K) := ⟨f24, _, PySem.W.mg_of X G fa24, fk24, b24, ok_ckF F24 C⟩
    have D7 : Df l.prog w K mg base 2 "poly_of" ["found"] (spPoly K l.prog w) := ⟨f7, _, PySem.W.mg_of X G fa7, fk7, b7, ok_poly F7 C D6 D23 D24⟩
    have D4 : Df l.prog w K mg base 2 "product_terms" ["terms", "others"] (spProd K l.prog w) := ⟨f4, _, PySem.W.mg_of X G fa4, fk4, b4, ok_prod F4 C D5 D3 D6⟩
    have D0 : Df l.prog w K mg base 3 "plus" ["p", "q"] (spPlus K) := ⟨f0, _, PySem.W.mg_of X G fa0, fk0, b0, ok_plus F0 C D2 D3 D7⟩
    have D1 : Df l.prog w K mg base 3 "times" ["p", "q"] (spTimes K) := ⟨f1, _, PySem.W.mg_of X G fa1, fk1, b1, ok_times F1 D2 D4 D7⟩
    have D9 : Df l.prog w K mg base 1 "_law_box" ["script", "at"] (spBox K) := ⟨f9, _, PySem.W.mg_of X G fa9, fk9, b9, ok_box F9 N.int⟩
    have D10 : Df l.prog w K mg base 2 "_law_draw" ["box", "many"] spDraw := ⟨f10, _, PySem.W.mg_of X G fa10, fk10, b10, ok_draw F10 F8 b8 (PySem.W.mg_of X G fa8) fk8 N.int N.len⟩
    have D11 : Df l.prog w K mg base 6 "_law_alike" ["told", "due"] (spA K 6) := ⟨f11, _, PySem.W.mg_of X G fa11, fk11, b11, ok_alike F11 b11 (PySem.W.mg_of X G fa11) fk11 N 6⟩
    have D12 : Df l.prog w K mg base 3 "_law_token" ["box"] spTok := ⟨f12, _, PySem.W.mg_of X G fa12, fk12, b12, ok_tok F12 C D10⟩
    have D13m : Df l.prog w K mg base 1 "_law_sorted" ["row"] (spSort K Mono) := ⟨f13, _, PySem.W.mg_of X G fa13, fk13, b13, ok_sort Mono F13 C⟩
    have D13s : Df l.prog w K mg base 1 "_law_sorted" ["row"] (spSort K Str) := ⟨f13, _, PySem.W.mg_of X G fa13, fk13, b13, ok_sort Str F13 C⟩
    have D14 : Df l.prog w K mg base 2 "_law_normal" ["book"] (spNorm K l.prog w) := ⟨f14, _, PySem.W.mg_of X G fa14, fk14, b14, ok_norm F14 C D13m⟩
    have D15 : Df l.prog w K mg base 4 "_law_monomial" ["box", "most"] (spLMono K) := ⟨f15, _, PySem.W.mg_of X G fa15, fk15, b15, ok_lmono F15 C D10 D12 D13s⟩
    have D16 : Df l.prog w K mg base 5 "_law_poly" ["box", "terms", "most"] (spLPoly K) := ⟨f16, _, PySem.W.mg_of X G fa16, fk16, b16, ok_lpoly F16 C D10 D15 D14⟩
    have D17 : Df l.prog w K mg base 3 "_law_plus" ["p", "q"] (spLPlus K) := ⟨f17, _, PySem.W.mg_of X G fa17, fk17, b17, ok_lplus F17 D14⟩
    have D18 : Df l.prog w K mg base 2 "_law_product" ["one", "other"] (spLProd K) := ⟨f18, _, PySem.W.mg_of X G fa18, fk18, b18, ok_lprod F18 C D13s⟩
    have D19 : Df l.prog w K mg base 3 "_law_times" ["p", "q"] (spLTimes K) := ⟨f19, _, PySem.W.mg_of X G fa19, fk19, b19, ok_ltimes F19 D18 D14⟩
    have D20 : Df l.prog w K mg base 7 "_law_summed" ["p", "q", "r"] (spTri K) := ⟨f20, _, PySem.W.mg_of X G fa20, fk20, b20, ok_summed F20 C D0 D17 D11⟩
    have D21 : Df l.prog w K mg base 7 "_law_multiplied" ["p", "q", "r"] (spTri K) := ⟨f21, _, PySem.W.mg_of X G fa21, fk21, b21, ok_mult F21 C D1 D19 D11⟩
    have D22 : Df l.prog w K mg base 7 "_law_parted" ["p", "q", "r"] (spTri K) := ⟨f22, _, PySem.W.mg_of X G fa22, fk22, b22, ok_part F22 D0 D17 D1 D19 D11⟩
    exact ok_law F25 C D9 D16 D20 D21 D22
theorem walk {l : PySem.W.OpenLaw} {q : Program} {loose : List Str} {XP : (Str → Option Value) → Heap → Prop} {YP : World → Heap → Prop} {d : DefRec} {K : Params → PySem.W.Frag} (hn : l.most = some 63) (hdf : d.params.defaults = [])
    (hY : ∀ (w : World) (h : Heap), YP w h → (K w.params).In h)
    (F : ∀ (w : World) (mg : Str → Option Value) (fa : Addr) (h : Heap), (K w.params).In h → h.Ns mainGlobals mg → mg d.name = some (.ref fa) →
      ∃ fd : FuncData, (∀ (s : Shared) (u : Value), BindsTo s fd ⟨[u], []⟩ [("script", u)]) ∧ ∀ base : Heap, (K w.params).In base → base.Ns mainGlobals mg → FnOk l.prog w (K w.params) mg base CX0 8 fa fd ["script"] (spLaw (K w.params))) :
    PySem.W.WalkO q loose XP YP l.row.toRowW d [] (fun f vs => PySem.call f vs) :=
  L2.walk_of (n := 63) (k := 8) (x := "script") (CX := fun _ => CX0) (sp := fun w => spLaw (K w.params)) hn (by decide) hdf ⟨rfl, by decide, by decide⟩ hY F (fun _ _ a ns hl _ hS => ⟨a, ns, rfl, hS, hl, fun _ => rfl⟩) fun _ _ _ _ _ z => z
end K2


set_option Elab.async false
open PySem PySem.W PyProof.Rows
set_option maxRecDepth 100000 in
set_option maxHeartbeats 0 in
theorem PySem.Challenge.cw_ledgertrace_k02_whole_semiring_holds : PySem.Challenge.rw_ledgertrace_k02_whole_semiring.Holds := by
  w_on; o_law; k_head; (case hw => w_witness2)
  k_fill
  refine K2.walk (l := PySem.Challenge.rw_ledgertrace_k02_whole_semiring) rfl rfl (fun w h Y => PySem.W.kIn_of Y) ?F
  case F =>
    intro w mg fa h KX G hmg
    refine' K2.all_mk KX G hmg ?bey ?most ?zer ?zl ?one ?o1 ?o2 ?o3 ?fa0 ?fl0 ?fc0 ?fk0 ?fa1 ?fl1 ?fc1 ?fk1 ?fa2 ?fl2 ?fc2 ?fk2 ?fa3 ?fl3 ?fc3 ?fk3 ?fa4 ?fl4 ?fc4 ?fk4 ?fa5 ?fl5 ?fc5 ?fk5 ?fa6 ?fl6 ?fc6 ?fk6 ?fa7 ?fl7 ?fc7 ?fk7 ?fa8 ?fl8 ?fc8 ?fk8 ?fa9 ?fl9 ?fc9 ?fk9 ?fa10 ?fl10 ?fc10 ?fk10 ?fa11 ?fl11 ?fc11 ?fk11 ?fa12 ?fl12 ?fc12 ?fk12 ?fa13 ?fl13 ?fc13 ?fk13 ?fa14 ?fl14 ?fc14 ?fk14 ?fa15 ?fl15 ?fc15 ?fk15 ?fa16 ?fl16 ?fc16 ?fk16 ?fa17 ?fl17 ?fc17 ?fk17 ?fa18 ?fl18 ?fc18 ?fk18 ?fa19 ?fl19 ?fc19 ?fk19 ?fa20 ?fl20 ?fc20 ?fk20 ?fa21 ?fl21 ?fc21 ?fk21 ?fa22 ?fl22 ?fc22 ?fk22 ?fa23 ?fl23 ?fc23 ?fk23 ?fa24 ?fl24 ?fc24 ?fk24 ?fa25 ?fl25 ?fc25 ?fk25 ?z_isinstance ?z_tuple ?z_list ?z_len ?z_range ?z_bool ?z_str ?z_int ?z_min ?z_any ?z_dict ?z_sorted
    (case bey => k_is)
    (case most => k_is)
    (case zer => k_is)
    (case zl => k_is)
    (case one => k_is)
    (case o1 => k_is)
    (case o2 => k_is)
    (case o3 => k_is)
    (case fa0 => k_is)
    (case fl0 => k_is)
    (case fc0 => k_is)
    (case fk0 => k_is)
    (case fa1 => k_is)
    (case fl1 => k_is)
    (case fc1 => k_is)
    (case fk1 => k_is)
    (case fa2 => k_is)
    (case fl2 => k_is)
    (case fc2 => k_is)
    (case fk2 => k_is)
    (case fa3 => k_is)
    (case fl3 => k_is)
    (case fc3 => k_is)
    (case fk3 => k_is)
    (case fa4 => k_is)
    (case fl4 => k_is)
    (case fc4 => k_is)
    (case fk4 => k_is)
    (case fa5 => k_is)
    (case fl5 => k_is)
    (case fc5 => k_is)
    (case fk5 => k_is)
    (case fa6 => k_is)
    (case fl6 => k_is)
    (case fc6 => k_is)
    (case fk6 => k_is)
    (case fa7 => k_is)
    (case fl7 => k_is)
    (case fc7 => k_is)
    (case fk7 => k_is)
    (case fa8 => k_is)
    (case fl8 => k_is)
    (case fc8 => k_is)
    (case fk8 => k_is)
    (case fa9 => k_is)
    (case fl9 => k_is)
    (case fc9 => k_is)
    (case fk9 => k_is)
    (case fa10 => k_is)
    (case fl10 => k_is)
    (case fc10 => k_is)
    (case fk10 => k_is)
    (case fa11 => k_is)
    (case fl11 => k_is)
    (case fc11 => k_is)
    (case fk11 => k_is)
    (case fa12 => k_is)
    (case fl12 => k_is)
    (case fc12 => k_is)
    (case fk12 => k_is)
    (case fa13 => k_is)
    (case fl13 => k_is)
    (case fc13 => k_is)
    (case fk13 => k_is)
    (case fa14 => k_is)
    (case fl14 => k_is)
    (case fc14 => k_is)
    (case fk14 => k_is)
    (case fa15 => k_is)
    (case fl15 => k_is)
    (case fc15 => k_is)
    (case fk15 => k_is)
    (case fa16 => k_is)
    (case fl16 => k_is)
    (case fc16 => k_is)
    (case fk16 => k_is)
    (case fa17 => k_is)
    (case fl17 => k_is)
    (case fc17 => k_is)
    (case fk17 => k_is)
    (case fa18 => k_is)
    (case fl18 => k_is)
    (case fc18 => k_is)
    (case fk18 => k_is)
    (case fa19 => k_is)
    (case fl19 => k_is)
    (case fc19 => k_is)
    (case fk19 => k_is)
    (case fa20 => k_is)
    (case fl20 => k_is)
    (case fc20 => k_is)
    (case fk20 => k_is)
    (case fa21 => k_is)
    (case fl21 => k_is)
    (case fc21 => k_is)
    (case fk21 => k_is)
    (case fa22 => k_is)
    (case fl22 => k_is)
    (case fc22 => k_is)
    (case fk22 => k_is)
    (case fa23 => k_is)
    (case fl23 => k_is)
    (case fc23 => k_is)
    (case fk23 => k_is)
    (case fa24 => k_is)
    (case fl24 => k_is)
    (case fc24 => k_is)
    (case fk24 => k_is)
    (case fa25 => k_is)
    (case fl25 => k_is)
    (case fc25 => k_is)
    (case fk25 => k_is)
    (case z_isinstance => k_is)
    (case z_tuple => k_is)
    (case z_list => k_is)
    (case z_len => k_is)
    (case z_range => k_is)
    (case z_bool => k_is)
    (case z_str => k_is)
    (case z_int => k_is)
    (case z_min => k_is)
    (case z_any => k_is)
    (case z_dict => k_is)
    (case z_sorted => k_is)

