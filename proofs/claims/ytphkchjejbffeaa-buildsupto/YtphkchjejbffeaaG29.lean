/- How the laws' arguments come in: acts in memory. -/
import Derived.Test.YtphkchjejbffeaaG28
import Derived.Test.YtphkchjejbffeaaRows
import Derived.ProofKit
import Derived.OpenShut
import Derived.ShutString
import Derived.ChangeOld
import Derived.Below
import Derived.SizedLaws
import Derived.Deep.Slices
import Derived.JoinedCond
import Derived.ChangeMaps
namespace Go.Proofs.Ytphkchjejbffeaa
open Go.ChangeShapes Go.WideShapes Go.ChangeAt Go.RowKit Go.Deep

theorem own : ownKnob Try.prog.godebug = none := by kernel_rfl
theorem laidOut : laidOutB Try.prog = true := by kernel_rfl
theorem Try.cells49 : Try.prog.cellsOf 49 = 7 := by kernel_rfl
theorem Try.cells3 : Try.prog.cellsOf 3 = 1 := by kernel_rfl
theorem Try.bytes49 : Try.prog.bytesOf 49 = 56 := by kernel_rfl

theorem list7 {α : Type} (l : List α) (h : l.length = 7) : ∃ a b c d e f g, l = [a, b, c, d, e, f, g] := by
  match l, h with
  | [a, b, c, d, e, f, g], _ => exact ⟨a, b, c, d, e, f, g, rfl⟩

theorem wf_i64 {x : Int} (h : (Lit.int .i64 x).wf = true) : I64 x := by
  simp [Lit.wf, IntKind.min, IntKind.max, IntKind.signed, IntKind.bits] at h
  unfold I64
  omega

theorem one_int {H : Type} {enc : TypeId × Value → H} {W : World} {base : Nat} {sp : Nat → Bool} {held : Bool} {n : Nat} {v : Value} {x : DataW H × List MemPlace}
    (h : DataW.trod enc Try.prog W base sp held n 3 [v] = some x) : ∃ y : Int, v = .int .i64 y ∧ I64 y := by
  obtain ⟨y, e, -, wy⟩ := DataW.trod_int Try.underlying3 h
  simp at e
  exact ⟨y, e, wf_i64 wy⟩

theorem open_act {H : Type} {enc : TypeId × Value → H} {W : World} {base : Nat} {sp : Nat → Bool} {held : Bool} {n : Nat} {cs : List Value} {x : DataW H × List MemPlace}
    (h : DataW.trod enc Try.prog W base sp held n 49 cs = some x) : ∃ a : Act, a.ok ∧ cs = a.cells.toList := by
  obtain ⟨xs, m, -, -, hl, hlen, hf⟩ := DataW.trod_struct Try.underlying49 h
  rw [Try.cells49] at hl
  obtain ⟨v0, v1, v2, v3, v4, v5, v6, rfl⟩ := list7 cs hl
  obtain ⟨y0, y1, y2, y3, y4, y5, y6, rfl⟩ := list7 xs hlen
  have f0 : DataW.trod enc Try.prog W base sp held m 3 (([v0, v1, v2, v3, v4, v5, v6].drop 0).take (Try.prog.cellsOf 3)) = some y0 := hf 0 _ rfl
  have f1 : DataW.trod enc Try.prog W base sp held m 3 (([v0, v1, v2, v3, v4, v5, v6].drop 1).take (Try.prog.cellsOf 3)) = some y1 := hf 1 _ rfl
  have f2 : DataW.trod enc Try.prog W base sp held m 3 (([v0, v1, v2, v3, v4, v5, v6].drop 2).take (Try.prog.cellsOf 3)) = some y2 := hf 2 _ rfl
  have f3 : DataW.trod enc Try.prog W base sp held m 3 (([v0, v1, v2, v3, v4, v5, v6].drop 3).take (Try.prog.cellsOf 3)) = some y3 := hf 3 _ rfl
  have f4 : DataW.trod enc Try.prog W base sp held m 3 (([v0, v1, v2, v3, v4, v5, v6].drop 4).take (Try.prog.cellsOf 3)) = some y4 := hf 4 _ rfl
  have f5 : DataW.trod enc Try.prog W base sp held m 3 (([v0, v1, v2, v3, v4, v5, v6].drop 5).take (Try.prog.cellsOf 3)) = some y5 := hf 5 _ rfl
  have f6 : DataW.trod enc Try.prog W base sp held m 3 (([v0, v1, v2, v3, v4, v5, v6].drop 6).take (Try.prog.cellsOf 3)) = some y6 := hf 6 _ rfl
  rw [Try.cells3] at f0 f1 f2 f3 f4 f5 f6
  obtain ⟨a0, rfl, b0⟩ := one_int (v := v0) f0
  obtain ⟨a1, rfl, b1⟩ := one_int (v := v1) f1
  obtain ⟨a2, rfl, b2⟩ := one_int (v := v2) f2
  obtain ⟨a3, rfl, b3⟩ := one_int (v := v3) f3
  obtain ⟨a4, rfl, b4⟩ := one_int (v := v4) f4
  obtain ⟨a5, rfl, b5⟩ := one_int (v := v5) f5
  obtain ⟨a6, rfl, b6⟩ := one_int (v := v6) f6
  exact ⟨⟨a0, a1, a2, a3, a4, a5, a6⟩, ⟨b0, b1, b2, b3, b4, b5, b6⟩, rfl⟩

theorem mapM_get {α β : Type} (f : α → Option β) : ∀ (l : List α) (r : List β), l.mapM f = some r → ∀ (i : Nat) (a : α), l[i]? = some a → ∃ b, r[i]? = some b ∧ f a = some b := by
  intro l
  induction l with
  | nil => intro r _ i a h; simp at h
  | cons x l ih =>
    intro r h i a hi
    rw [List.mapM_cons] at h
    cases hx : f x with
    | none => rw [hx] at h; cases h
    | some b =>
      rw [hx] at h
      cases hl : l.mapM f with
      | none => rw [hl] at h; cases h
      | some r' =>
        rw [hl] at h
        cases h
        cases i with
        | zero => simp at hi; subst hi; exact ⟨b, rfl, hx⟩
        | succ i => simp at hi; obtain ⟨c, h1, h2⟩ := ih r' hl i a hi; exact ⟨c, by simpa using h1, h2⟩

theorem add_add (a : Addr) (i j : Nat) : a.add (i + j) = (a.add i).add j := by
  obtain ⟨b, o, s⟩ := a
  by_cases hi : i = 0
  · subst hi; simp [Addr.add]
  · by_cases hj : j = 0
    · subst hj; simp [Addr.add]
    · simp only [Addr.add, if_neg hi, if_neg hj, if_neg (by omega : ¬ i + j = 0)]
      congr 1
      omega

theorem open_acts {H : Type} {enc : TypeId × Value → H} {W : World} {n : Nat} {a : Option Addr} {len cap : Nat} {x : DataW H × List MemPlace} {sp : Nat → Bool} {held : Bool}
    (h : DataW.trod enc Try.prog W 0 sp held n 40 [.slice a len cap] = some x) :
    ∃ l : List Act, ActsAt W (.slice a len cap) l ∧ ((l = [] ∧ x.1 = .nil) ∨ ∃ es spare, x.1 = .slice es spare ∧ es.length = l.length) := by
  rcases open_slice Try.underlying40 h with ⟨h1, h2⟩ | ⟨ad, len', cap', m, k, D, Pl, h1, h2, h3, h4, h5, h6, h7⟩
  · simp at h1
    obtain ⟨rfl, rfl, rfl⟩ := h1
    exact ⟨[], .inl ⟨_, _, rfl, rfl⟩, .inl ⟨rfl, by rw [h2]⟩⟩
  · simp at h1
    obtain ⟨rfl, rfl, rfl⟩ := h1
    have hm : len ≤ m := by rw [h5]; split <;> omega
    have hel : ∀ i, i < len → ∃ b : Act, b.ok ∧ ∀ j u, b.cells[j]? = some u → W.cell? (ad.add (i * 7 + j)) = some u := by
      intro i hi
      obtain ⟨cs, hc, ht⟩ := h7 i (by omega)
      obtain ⟨b, hb, rfl⟩ := open_act ht
      refine ⟨b, hb, ?_⟩
      intro j u hu
      rw [Try.cells49] at hc
      unfold World.cells? at hc
      rw [if_pos (Nat.zero_le _)] at hc
      have hj : j < 7 := by
        rcases Nat.lt_or_ge j 7 with h' | h'
        · exact h'
        · rw [Array.getElem?_eq_none (by simpa [Act.cells] using h')] at hu; cases hu
      obtain ⟨c, hc1, hc2⟩ := mapM_get _ _ _ hc j j (by rw [List.getElem?_range hj])
      have : c = u := by
        have hu' : b.cells.toList[j]? = some u := by simpa using hu
        rw [hu'] at hc1
        exact (Option.some.inj hc1).symm
      subst this
      rw [← hc2, add_add]
    rcases Nat.eq_zero_or_pos len with h0 | h0
    · subst h0
      exact ⟨[], .inl ⟨_, _, rfl, rfl⟩, .inr ⟨_, _, by rw [h6], by simp⟩⟩
    · have : Inhabited Act := ⟨⟨0, 0, 0, 0, 0, 0, 0⟩⟩
      obtain ⟨f, hf⟩ := choose_lt hel
      obtain ⟨blk, off, spot⟩ := ad
      have hsp : spot = none := by
        have := (hf 0 h0).2 0 _ rfl
        simpa [Addr.add] using World.cell?_spot this
      subst hsp
      have hblk : blk < W.heap.size := by
        have := (hf 0 h0).2 0 _ rfl
        simpa [Addr.add] using World.block_lt_of_cell? W _ this
      have hl : ((List.range len).map f).length = len := by simp
      refine ⟨(List.range len).map f, .inr ⟨blk, off, cap, by rw [hl], hblk, by rw [hl]; unfold maxLen at h4; omega, ?_⟩, .inr ⟨_, _, by rw [h6], by simp⟩⟩
      intro i b hb
      rw [List.getElem?_map, Option.map_eq_some_iff] at hb
      obtain ⟨i', hi', rfl⟩ := hb
      have hil : i < len := by
        rcases Nat.lt_or_ge i len with h' | h'
        · exact h'
        · rw [List.getElem?_eq_none (by simpa using h')] at hi'; cases hi'
      rw [List.getElem?_range hil] at hi'
      cases hi'
      refine ⟨(hf i hil).1, ?_⟩
      intro j u hu
      have := (hf i hil).2 j u hu
      rw [Addr.add_lit] at this
      rw [Nat.add_assoc]; exact this

end Go.Proofs.Ytphkchjejbffeaa

/- How the laws' arguments come in: whole numbers in memory, and how much there may be. -/
namespace Go.Proofs.Ytphkchjejbffeaa
open Go.ChangeShapes Go.WideShapes Go.ChangeAt Go.RowKit Go.Deep

theorem mapM_len {α β : Type} (f : α → Option β) : ∀ (l : List α) (r : List β), l.mapM f = some r → r.length = l.length := by
  intro l
  induction l with
  | nil => intro r h; simp at h; subst h; rfl
  | cons x l ih =>
    intro r h
    rw [List.mapM_cons] at h
    cases hx : f x with
    | none => rw [hx] at h; cases h
    | some b =>
      rw [hx] at h
      cases hl : l.mapM f with
      | none => rw [hl] at h; cases h
      | some r' =>
        rw [hl] at h
        cases h
        simp [ih r' hl]

/-- Whole numbers that may be read. -/
def IntsAt (w : World) (v : Value) (l : List Int) : Prop :=
  ∃ ra rc, v = .slice ra l.length rc ∧ l.length ≤ 9223372036854775807 ∧
    ∀ (i : Nat) (a : Int), l[i]? = some a → I64 a ∧ ∃ g o, ra = some ⟨g, o, none⟩ ∧ g < w.heap.size ∧ w.cell? ⟨g, o + i, none⟩ = some (.int .i64 a)

theorem open_ints {H : Type} {enc : TypeId × Value → H} {W : World} {n : Nat} {a : Option Addr} {len cap : Nat} {x : DataW H × List MemPlace} {sp : Nat → Bool} {held : Bool}
    (h : DataW.trod enc Try.prog W 0 sp held n 22 [.slice a len cap] = some x) :
    ∃ l : List Int, IntsAt W (.slice a len cap) l ∧ ((l = [] ∧ x.1 = .nil) ∨ ∃ es spare, x.1 = .slice es spare ∧ es.length = l.length) := by
  rcases open_slice Try.underlying22 h with ⟨h1, h2⟩ | ⟨ad, len', cap', m, k, D, Pl, h1, h2, h3, h4, h5, h6, h7⟩
  · simp at h1
    obtain ⟨rfl, rfl, rfl⟩ := h1
    exact ⟨[], ⟨_, _, rfl, by simp, fun i a h => by simp at h⟩, .inl ⟨rfl, by rw [h2]⟩⟩
  · simp at h1
    obtain ⟨rfl, rfl, rfl⟩ := h1
    have hm : len ≤ m := by rw [h5]; split <;> omega
    have hel : ∀ i, i < len → ∃ b : Int, I64 b ∧ W.cell? (ad.add i) = some (.int .i64 b) := by
      intro i hi
      obtain ⟨cs, hc, ht⟩ := h7 i (by omega)
      rw [Try.cells3] at hc
      unfold World.cells? at hc
      rw [if_pos (Nat.zero_le _)] at hc
      obtain ⟨c, hc1, hc2⟩ := mapM_get _ _ _ hc 0 0 rfl
      have hcl : cs = [c] := by
        have hl : cs.length = 1 := mapM_len _ _ _ hc
        match cs, hl with
        | [y], _ => simp at hc1; rw [hc1]
      subst hcl
      obtain ⟨y, rfl, hy⟩ := one_int ht
      refine ⟨y, hy, ?_⟩
      rw [← hc2, Nat.mul_one]
      simp [Addr.add]
    rcases Nat.eq_zero_or_pos len with h0 | h0
    · subst h0
      exact ⟨[], ⟨_, _, rfl, by simp, fun i a h => by simp at h⟩, .inr ⟨_, _, by rw [h6], by simp⟩⟩
    · obtain ⟨f, hf⟩ := choose_lt hel
      obtain ⟨blk, off, spot⟩ := ad
      have hsp : spot = none := by
        have := (hf 0 h0).2
        simpa [Addr.add] using World.cell?_spot this
      subst hsp
      have hblk : blk < W.heap.size := by
        have := (hf 0 h0).2
        simpa [Addr.add] using World.block_lt_of_cell? W _ this
      have hl : ((List.range len).map f).length = len := by simp
      refine ⟨(List.range len).map f, ⟨some ⟨blk, off, none⟩, cap, by rw [hl], by rw [hl]; unfold maxLen at h4; omega, ?_⟩, .inr ⟨_, _, by rw [h6], by simp⟩⟩
      intro i b hb
      rw [List.getElem?_map, Option.map_eq_some_iff] at hb
      obtain ⟨i', hi', rfl⟩ := hb
      have hil : i < len := by
        rcases Nat.lt_or_ge i len with h' | h'
        · exact h'
        · rw [List.getElem?_eq_none (by simpa using h')] at hi'; cases hi'
      rw [List.getElem?_range hil] at hi'
      cases hi'
      refine ⟨(hf i hil).1, blk, off, rfl, hblk, ?_⟩
      have := (hf i hil).2
      rw [Addr.add_lit] at this
      exact this

theorem bulk_one {H : Type} (d : DataW H) : 1 ≤ Rows.uptoBulk d := by
  cases d with
  | lit l => cases l <;> simp [Rows.uptoBulk]
  | nil => simp [Rows.uptoBulk]
  | ptr d => simp [Rows.uptoBulk]
  | slice elems spare => simp [Rows.uptoBulk]
  | agg parts => simp [Rows.uptoBulk]
  | iface t d => simp [Rows.uptoBulk]
  | map entries => simp [Rows.uptoBulk]
  | held h => simp [Rows.uptoBulk]
theorem bulk_len {H : Type} (l : List (DataW H)) : l.length ≤ Rows.uptoBulkAll l := by
  induction l with
  | nil => simp [Rows.uptoBulkAll]
  | cons x r ih => have := bulk_one x; simp only [Rows.uptoBulkAll, List.length_cons]; omega
theorem bulk_slice {H : Type} (elems spare : List (DataW H)) : elems.length ≤ Rows.uptoBulk (.slice elems spare) := by
  have h1 := bulk_len elems
  simp only [Rows.uptoBulk]
  omega
theorem bulk_part {H : Type} {d : DataW H} {l : List (DataW H)} (h : d ∈ l) : Rows.uptoBulk d ≤ Rows.uptoBulkAll l := by
  induction l with
  | nil => cases h
  | cons x r ih =>
    simp only [Rows.uptoBulkAll]
    cases List.mem_cons.1 h with
    | inl e => subst e; omega
    | inr e => have := ih e; omega
theorem bulk_bound {H : Type} {l : List (DataW H)} (hk : Rows.uptoSmall H l = true) : Rows.uptoBulkAll l ≤ 1048576 := of_decide_eq_true hk

end Go.Proofs.Ytphkchjejbffeaa

/- The law Builds as it is stated for what is not too great. -/
namespace Go.Proofs.Ytphkchjejbffeaa
open Go.ChangeShapes Go.WideShapes Go.ChangeAt Go.RowKit
open Go.ChangeMaps (open_string shut_string)

set_option maxRecDepth 100000 in
theorem builds_lifted (os : Os) (started : os.Started) (H : Type) (enc : TypeId × Value → H) (F : Stop.Interp) :
    ReturnsInHanded {} Try.checked os 9 .any ((Rows.OpenSpec.upto Rows.buildsSpec).pre6 enc Try.prog Try.f9 Rows.buildsUptoRow.domain false) (((Rows.OpenSpec.upto Rows.buildsSpec).at F).post enc Try.prog Try.f9 false true false false) := by
  refine returnsInHanded_of_cond (C := Try.checked) (s := Rows.OpenSpec.upto Rows.buildsSpec) (k := Rows.uptoSmall) rfl own started (by kernel_rfl) Try.func9
    (OpenSpec.witness (enc := enc) (C := Try.checked) (s := Rows.OpenSpec.upto Rows.buildsSpec) (k := Rows.uptoSmall) rfl false ⟨#[], #[.string .empty, .string .empty], []⟩ 8 (by kernel_rfl) (by kernel_rfl) (by kernel_rfl)
      (x := ([.lit (.string []), .lit (.string [])], [], [])) (by kernel_rfl) rfl (by kernel_rfl)) ?_
  intro W base args ds gs before hval0 hW _ hk0 _
  have hval : ∀ (j : Nat) t v, Try.f9.params[j]? = some t → args[j]? = some v → Value.okWide Try.prog W .any base t v := hval0
  have hk : Rows.uptoSmall H (ds ++ gs) = true := hk0
  have hW' := hW
  obtain ⟨p, q, hA0, hV, rfl, hfz, hnd⟩ := hW
  have hA : DataW.TrodAll enc Try.prog W 0 (fun _ => true) true Try.f9.params.toList args.toList ds p := hA0
  rw [Try.params9] at hA hval
  obtain ⟨v0, vs0, d0, ds0, p0, q0, hargs, rfl, rfl, h0, r0⟩ := trodAll_cons hA
  obtain ⟨v1, vs1, d1, ds1, p1, q1, rfl, rfl, rfl, h1, r1⟩ := trodAll_cons r0
  obtain ⟨rfl, rfl, rfl⟩ := trodAll_nil r1
  obtain rfl : args = #[v0, v1] := by cases args; simp_all
  obtain ⟨rfl, rfl⟩ := trodVars_none hV
  obtain ⟨s0, rfl, rfl, rfl, hmax0⟩ := open_string Try.underlying9 (hval 0 9 v0 rfl rfl) h0
  obtain ⟨s1, rfl, rfl, rfl, hmax1⟩ := open_string Try.underlying9 (hval 1 9 v1 rfl rfl) h1
  have hb := bulk_bound hk
  have t0 : s0.data.toList.length ≤ 1048576 := by
    have h2 := bulk_part (d := DataW.lit (H := H) (.string s0.data.toList)) (l := [DataW.lit (.string s0.data.toList), DataW.lit (.string s1.data.toList)] ++ []) (by simp)
    simp only [Rows.uptoBulk] at h2
    omega
  have t1 : s1.data.toList.length ≤ 1048576 := by
    have h2 := bulk_part (d := DataW.lit (H := H) (.string s1.data.toList)) (l := [DataW.lit (.string s0.data.toList), DataW.lit (.string s1.data.toList)] ++ []) (by simp)
    simp only [Rows.uptoBulk] at h2
    omega
  clear hA0 hval0 hb hk0
  have hc := builds_any s0.data.toList s1.data.toList t0 t1 W
  rw [show (⟨s0.data.toList.toArray⟩ : ByteArray) = s0 by simp, show (⟨s1.data.toList.toArray⟩ : ByteArray) = s1 by simp] at hc
  refine hc.mono fun e W' ⟨he, bel⟩ => ?_
  subst he
  exact ⟨_, rfl, _, _, _, [], _, [], hW', trodAll_mk1 (shut_bool Try.underlying4 _), (trodAll_cons_mk (shut_string Try.underlying9 hmax0) (trodAll_cons_mk (shut_string Try.underlying9 hmax1) trodAll_mk0)), rfl, bel.frame _, fun h => by cases h⟩

theorem builds_said : Rows.BuildsUptoSaid :=
  OpenClaim.holds_of_cond 9 Try.f9 rfl rfl rfl rfl rfl rfl rfl ⟨rfl, rfl, rfl, rfl, rfl⟩ rfl rfl rfl rfl rfl (by kernel_rfl) Try.func9 (by kernel_rfl)
    (of_decide_eq_true (by kernel_rfl)) (by unfold Func.isWrapper; first | (rw [if_pos (by decide +kernel)]; kernel_rfl) | (rw [if_neg (by decide +kernel)]; exact ⟨rfl, rfl⟩))
    (fun os started H enc _ F => builds_lifted os started H enc F)

end Go.Proofs.Ytphkchjejbffeaa
