/- The walk of the document's insert. -/
import Derived.Test.YtphkchjejbffeaaG24
namespace Go.Proofs.Ytphkchjejbffeaa
open Go.RowKit
attribute [local go_sem ↓] Go.wp_at_zero Go.wp_at_succ

theorem ins_at (o : Ord) (S : List Ord) : ∀ (j : Nat), j ≤ S.length → (∀ x ∈ S.take j, aheadO x o = true) → (j = S.length ∨ ∃ x, S[j]? = some x ∧ aheadO x o = false) → insO o S = S.take j ++ o :: S.drop j := by
  induction S with
  | nil =>
    intro j hj _ _
    have : j = 0 := by simpa using hj
    subst this
    rfl
  | cons y S ih =>
    intro j hj h1 h2
    cases j with
    | zero =>
      rcases h2 with h2 | ⟨x, hx, hf⟩
      · simp at h2
      · simp at hx
        subst hx
        unfold insO
        rw [if_neg (by rw [hf]; simp)]
        rfl
    | succ j =>
      have hy := h1 y (by simp)
      unfold insO
      rw [if_pos hy, ih j (by simpa using hj) (fun x hx => h1 x (by simp [hx])) ?_]
      · rfl
      · rcases h2 with h2 | ⟨x, hx, hf⟩
        · left; simpa using h2
        · right; exact ⟨x, by simpa using hx, hf⟩

set_option maxRecDepth 100000 in
set_option maxHeartbeats 2000000 in
theorem insert_any (w : World) (base : Nat) (v : Value) (S : List Ord) (o : Ord) (h : RsAt w base v S) (hn : S.length ≤ 1000000000) :
    Calls Try.prog 104 #[v, .agg o.cells.toArray] w fun e w' => ∃ v', e = .returned v' ∧ RsAt w' w.heap.size v' (insO o S) ∧ Below w.heap.size w w' := by
  obtain ⟨ra, cap, rfl, hc1, hc2, -⟩ := h.form
  obtain ⟨i0, hi0, hz0, hz1, hz2⟩ := info_parts Try.infoRo
  have HI := Hid.mk (And.intro hi0 (And.intro hz0 (And.intro hz1 hz2)))
  have HH := Hid.mk h
  have hra : (ra = none ∧ S.length = 0 ∧ cap = 0) ∨ ∃ g, ra = some ⟨g, 0, none⟩ ∧ g < w.heap.size := by
    rcases h.2 with ⟨e, e2⟩ | ⟨g, cap', cur, e, -, e3, -⟩
    · simp only [Value.slice.injEq] at e
      exact .inl ⟨e.1, e2, e.2.2⟩
    · simp only [Value.slice.injEq] at e
      exact .inr ⟨g, e.1, (Array.getElem?_eq_some_iff.1 e3).1⟩
  obtain ⟨n, hnn⟩ : ∃ n, S.length = n := ⟨_, rfl⟩
  have HNL := Hid.mk hnn
  rw [hnn] at hn hc1 hra
  clear h hi0 hz0 hz1 hz2
  rw [hnn]
  clear hnn
  have j4 : (n : Int) ≤ (cap : Int) := by omega
  have j5 : (cap : Int) ≤ 9223372036854775807 := by unfold maxLen at hc2; omega
  unfold Ord.cells
  go_enter Try.func104, Try.ntmps104
  go_wp2_with fail
  generalize hO : Obj.cells _ 46 = O
  have k0 : (w.alloc O).cell? ⟨w.heap.size, 0, none⟩ = some (.int .i64 o.ref) := by rw [← hO]; exact new_cell _ _ _ 0 _ rfl
  have k1 : (w.alloc O).cell? ⟨w.heap.size, 1, none⟩ = some (.int .i64 o.token) := by rw [← hO]; exact new_cell _ _ _ 1 _ rfl
  have k2 : (w.alloc O).cell? ⟨w.heap.size, 2, none⟩ = some (.int .u8 o.side.toNat) := by rw [← hO]; exact new_cell _ _ _ 2 _ rfl
  have k3 : (w.alloc O).cell? ⟨w.heap.size, 3, none⟩ = some (.int .i64 o.stock) := by rw [← hO]; exact new_cell _ _ _ 3 _ rfl
  have k4 : (w.alloc O).cell? ⟨w.heap.size, 4, none⟩ = some (.int .i64 o.price) := by rw [← hO]; exact new_cell _ _ _ 4 _ rfl
  have k5 : (w.alloc O).cell? ⟨w.heap.size, 5, none⟩ = some (.int .i64 o.shares) := by rw [← hO]; exact new_cell _ _ _ 5 _ rfl
  have HBW : Hid (Below w.heap.size w (w.alloc O)) := (Below.refl _ w).alloc (Nat.le_refl _) O
  have HSZ : Hid ((w.alloc O).heap.size = w.heap.size + 1) := size_alloc _ _
  have HSR : Hid (RsAt (w.alloc O) base (.slice ra S.length cap) S) := ownsRow_keep HH.out (fun g hg => by rw [heap_alloc, if_neg (by have := (World.ownsRow.lt HH.out g hg).2; omega)])
  clear hO
  generalize w.alloc O = W at *
  have HK := Hid.mk (And.intro k0 (And.intro k1 (And.intro k2 (And.intro k3 (And.intro k4 k5)))))
  have HRD : Hid (∀ (w3 : World), Below W.heap.size W w3 → ∀ (m j : Nat) (vx : Value), j ≤ n → m = n - j → (vx = .slice none 0 0 ∧ n = 0 ∨ ∃ g o c, ra = some ⟨g, 0, none⟩ ∧ vx = .slice (some ⟨g, o, none⟩) m c ∧ (m = 0 ∨ o = j * 6)) → RdRow w3 6 vx m ((S.drop j).flatMap Ord.cells)) := by
    rintro w3 hB m j vx hj hm (⟨rfl, h0⟩ | ⟨g, o, c, rfl, rfl, ho⟩)
    · have hS : S = [] := List.length_eq_zero_iff.1 (by rw [HNL.out]; exact h0)
      subst hS
      have : m = 0 := by omega
      subst this
      exact .inl ⟨rfl, rfl, by simp⟩
    · refine rd_below (rd_drop HSR.out j m o c (by rw [HNL.out]; exact hj) (by rw [HNL.out]; exact hm) ho) hB (fun g' hg' => ?_)
      cases hg'
      exact (World.ownsRow.lt HSR.out g rfl).2
  have HLT : Hid (∀ j, j ≤ n → (S.take j).length = j) := fun j hj => by rw [List.length_take, HNL.out]; omega
  clear k0 k1 k2 k3 k4 k5
  go_loopw [5, 6] (fun v i wr => ∃ j : Nat, j ≤ n ∧ i = .int .i64 j ∧ Hid (wr.ownsRow W.heap.size 46 6 v j ((S.take j).flatMap Ord.cells)) ∧ Hid (Below W.heap.size W wr) ∧ Hid (∀ x ∈ S.take j, aheadO x o = true)) (fun _ i _ => n - (intOf i).toNat)
  case atStart => exact ⟨0, Nat.zero_le _, rfl, World.ownsRow_nil _ _ _ _, Below.refl _ _, fun x hx => by simp at hx⟩
  case round =>
    obtain ⟨j, hj, rfl, hown, hB, HAH⟩ := hrel
    have hbx : wr.cell? ⟨w.heap.size, 0, none⟩ = some (.int .i64 o.ref) ∧ wr.cell? ⟨w.heap.size, 1, none⟩ = some (.int .i64 o.token) ∧ wr.cell? ⟨w.heap.size, 2, none⟩ = some (.int .u8 o.side.toNat) ∧ wr.cell? ⟨w.heap.size, 3, none⟩ = some (.int .i64 o.stock) ∧ wr.cell? ⟨w.heap.size, 4, none⟩ = some (.int .i64 o.price) ∧ wr.cell? ⟨w.heap.size, 5, none⟩ = some (.int .i64 o.shares) := by
      have hlt : w.heap.size < W.heap.size := by have := HSZ.out; omega
      obtain ⟨k0, k1, k2, k3, k4, k5⟩ := HK.out
      exact ⟨(hB.out.cell (p := ⟨w.heap.size, 0, none⟩) hlt).trans k0, (hB.out.cell (p := ⟨w.heap.size, 1, none⟩) hlt).trans k1, (hB.out.cell (p := ⟨w.heap.size, 2, none⟩) hlt).trans k2, (hB.out.cell (p := ⟨w.heap.size, 3, none⟩) hlt).trans k3, (hB.out.cell (p := ⟨w.heap.size, 4, none⟩) hlt).trans k4, (hB.out.cell (p := ⟨w.heap.size, 5, none⟩) hlt).trans k5⟩
    by_cases hjl : j < n
    · obtain ⟨g, rfl, hgl⟩ : ∃ g, ra = some ⟨g, 0, none⟩ ∧ g < w.heap.size := by
        rcases hra with ⟨-, h0, -⟩ | h0
        · omega
        · exact h0
      obtain ⟨x, hx⟩ : ∃ x, S[j]? = some x := ⟨_, List.getElem?_eq_getElem (by rw [HNL.out]; exact hjl)⟩
      have hgW : g < W.heap.size := by have := HSZ.out; omega
      obtain ⟨d0, d1, d2, d3, d4, d5⟩ : wr.cell? ⟨g, j * 6, none⟩ = some (.int .i64 x.ref) ∧ wr.cell? ⟨g, j * 6 + 1, none⟩ = some (.int .i64 x.token) ∧ wr.cell? ⟨g, j * 6 + 2, none⟩ = some (.int .u8 x.side.toNat) ∧ wr.cell? ⟨g, j * 6 + 3, none⟩ = some (.int .i64 x.stock) ∧ wr.cell? ⟨g, j * 6 + 4, none⟩ = some (.int .i64 x.price) ∧ wr.cell? ⟨g, j * 6 + 5, none⟩ = some (.int .i64 x.shares) := by
        obtain ⟨ra', cap', e, -, -, hcs⟩ := HSR.out.form
        obtain ⟨g', e', -, -, -, hrg⟩ := hcs j x hx
        simp only [Value.slice.injEq] at e
        rw [e'] at e
        simp only [Option.some.injEq, Addr.mk.injEq, and_true] at e
        obtain ⟨rfl, -, -⟩ := e
        exact ord_cells x hB.out hgW (fun t u _ hu => hrg t u hu)
      have HX := Hid.mk hx
      have i2 : (j : Int) < (n : Int) := by omega
      have i3 : (0 : Int) ≤ (j : Int) := by omega
      have HAA : Hid (∀ W', Calls Try.prog 135 #[.agg #[.int .i64 x.ref, .int .i64 x.token, .int .u8 x.side.toNat, .int .i64 x.stock, .int .i64 x.price, .int .i64 x.shares], .agg #[.int .i64 o.ref, .int .i64 o.token, .int .u8 o.side.toNat, .int .i64 o.stock, .int .i64 o.price, .int .i64 o.shares]] W' fun e w' => e = .returned (.bool (aheadO x o)) ∧ Below W'.heap.size W' w') := fun W' => rahead_any x o W'
      obtain ⟨ah, hah⟩ : ∃ ah, aheadO x o = ah := ⟨_, rfl⟩
      rw [hah] at HAA
      have HAV := Hid.mk hah
      clear hah
      obtain ⟨k0, k1, k2, k3, k4, k5⟩ := hbx
      have hgr : g < wr.heap.size := Nat.lt_of_lt_of_le hgW hB.out.size
      have hwr : w.heap.size < wr.heap.size := by have h1 := HSZ.out; have h2 := hB.out.size; omega
      clear hx hra
      go_wp2_with fail
      go_region_held3 (fun w' => (w'.cell? ⟨g, j * 6, none⟩ = some (.int .i64 x.ref) ∧ w'.cell? ⟨g, j * 6 + 1, none⟩ = some (.int .i64 x.token) ∧ w'.cell? ⟨g, j * 6 + 2, none⟩ = some (.int .u8 x.side.toNat) ∧ w'.cell? ⟨g, j * 6 + 3, none⟩ = some (.int .i64 x.stock) ∧ w'.cell? ⟨g, j * 6 + 4, none⟩ = some (.int .i64 x.price) ∧ w'.cell? ⟨g, j * 6 + 5, none⟩ = some (.int .i64 x.shares)) ∧ w'.cell? ⟨w.heap.size, 0, none⟩ = some (.int .i64 o.ref) ∧ w'.cell? ⟨w.heap.size, 1, none⟩ = some (.int .i64 o.token) ∧ w'.cell? ⟨w.heap.size, 2, none⟩ = some (.int .u8 o.side.toNat) ∧ w'.cell? ⟨w.heap.size, 3, none⟩ = some (.int .i64 o.stock) ∧ w'.cell? ⟨w.heap.size, 4, none⟩ = some (.int .i64 o.price) ∧ w'.cell? ⟨w.heap.size, 5, none⟩ = some (.int .i64 o.shares)) (first | exact m1 | go_keep)
        ((go_at_call 135; refine (HAA.out _).mono ?_; rintro e w2 ⟨rfl, hb2⟩; have m1 := And.intro (And.intro ((hb2.cell (p := ⟨g, j * 6, none⟩) hgr).trans d0) (And.intro ((hb2.cell (p := ⟨g, j * 6 + 1, none⟩) hgr).trans d1) (And.intro ((hb2.cell (p := ⟨g, j * 6 + 2, none⟩) hgr).trans d2) (And.intro ((hb2.cell (p := ⟨g, j * 6 + 3, none⟩) hgr).trans d3) (And.intro ((hb2.cell (p := ⟨g, j * 6 + 4, none⟩) hgr).trans d4) ((hb2.cell (p := ⟨g, j * 6 + 5, none⟩) hgr).trans d5)))))) (And.intro ((hb2.cell (p := ⟨w.heap.size, 0, none⟩) hwr).trans k0) (And.intro ((hb2.cell (p := ⟨w.heap.size, 1, none⟩) hwr).trans k1) (And.intro ((hb2.cell (p := ⟨w.heap.size, 2, none⟩) hwr).trans k2) (And.intro ((hb2.cell (p := ⟨w.heap.size, 3, none⟩) hwr).trans k3) (And.intro ((hb2.cell (p := ⟨w.heap.size, 4, none⟩) hwr).trans k4) ((hb2.cell (p := ⟨w.heap.size, 5, none⟩) hwr).trans k5)))))); replace hb2 := Hid.mk hb2))
      have HB2 : Hid (Below W.heap.size W w2) := hB.out.drew.trans (hb2.out.mono (by show W.heap.size ≤ wr.heap.size; exact hB.out.size))
      have hown2 : w2.ownsRow W.heap.size 46 6 u5 j ((S.take j).flatMap Ord.cells) := ownsRow_keep hown.out (fun g hg => by
        have := (hown.out.lt g hg).2
        exact hb2.out.block g this)
      have HOA : Hid (∀ Ob : Obj, (w2.alloc Ob).ownsRow W.heap.size 46 6 u5 j ((S.take j).flatMap Ord.cells)) := fun Ob => ownsRow_keep hown2 (fun g hg => by rw [heap_alloc, if_neg (by have := (hown2.lt g hg).2; omega)])
      have HOX := Hid.mk hown2
      obtain ⟨⟨d0', d1', d2', d3', d4', d5'⟩, k0', k1', k2', k3', k4', k5'⟩ := m1
      clear hown2 hown hB d0 d1 d2 d3 d4 d5 k0 k1 k2 k3 k4 k5 HAA hb2
      cases ah with
      | true =>
        have HTK : Hid (S.take (j + 1) = S.take j ++ [x]) := by
          show _ = _
          rw [List.take_add_one, HX.out]
          rfl
        go_wp2_with (at_builtin; go_must (refine wpList_append_row rfl _ _ 42 rfl W.heap.size 46 i0 _ 6 48 und_api HI.out.1 HI.out.2.1 HI.out.2.2.1 HI.out.2.2.2 rfl (by decide) u5 j ((S.take j).flatMap Ord.cells) rfl (HOA.out _) (.slice (some ⟨w2.heap.size, 0, none⟩) 1 1) 1 x.cells rfl (rdRow_api w2 x) (cells_ones x) (by unfold maxLen; omega) (by omega) (by rw [size_alloc]; have := HB2.out.size; omega) ?_); intro rb capb w3 hown3 hg3 hv3; have hB3 : Hid (Below W.heap.size W w3) := Hid.mk ((HB2.out.alloc HB2.out.size _).grown hg3 (by rw [size_alloc]; have := HB2.out.size; omega) (fun g hg => (HOX.out.lt g hg).1)); replace hown3 := Hid.mk hown3; clear hg3 hv3)
        refine ⟨⟨j + 1, by omega, by go_num, ?_, hB3, ?_⟩, by simp [intOf]; omega⟩
        · show World.ownsRow _ _ _ _ _ _ _
          rw [HTK.out, List.flatMap_append]
          simpa using hown3.out
        · show ∀ y ∈ S.take (j + 1), _
          rw [HTK.out]
          intro y hy
          rcases List.mem_append.1 hy with hy | hy
          · exact HAH.out y hy
          · simp at hy
            rw [hy]
            exact HAV.out
      | false =>
        have b7 : ¬ cap = j := by omega
        have b8 : (j : Int) ≤ (n : Int) := by omega
        have HIN : Hid (insO o S = S.take j ++ o :: S.drop j) := ins_at o S j (by rw [HNL.out]; exact hj) HAH.out (Or.inr ⟨x, HX.out, HAV.out⟩)
        go_wp2_with (first
          | (at_builtin; refine wpList_append_row rfl _ _ 42 rfl W.heap.size 46 i0 _ 6 48 und_api HI.out.1 HI.out.2.1 HI.out.2.2.1 HI.out.2.2.2 rfl (by decide) u5 j ((S.take j).flatMap Ord.cells) rfl (HOA.out _) (.slice (some ⟨w2.heap.size, 0, none⟩) 1 1) 1 o.cells rfl (rdRow_api w2 o) (cells_ones o) (by unfold maxLen; omega) (by omega) (by rw [size_alloc]; have := HB2.out.size; omega) ?_; intro rb capb w3 hown3 hg3 hv3; have hB3 : Hid (Below W.heap.size W w3) := Hid.mk ((HB2.out.alloc HB2.out.size _).grown hg3 (by rw [size_alloc]; have := HB2.out.size; omega) (fun g hg => (HOX.out.lt g hg).1)); replace hown3 := Hid.mk hown3; clear hg3 hv3)
          | (at_builtin; refine wpList_append_row rfl _ _ 42 rfl W.heap.size 46 i0 _ 6 48 und_api HI.out.1 HI.out.2.1 HI.out.2.2.1 HI.out.2.2.2 rfl (by decide) (.slice rb (j + 1) capb) (j + 1) ((S.take j).flatMap Ord.cells ++ o.cells) rfl hown3.out (.slice (some ⟨g, j * 6, none⟩) (n - j) (cap - j)) _ ((S.drop j).flatMap Ord.cells) rfl (HRD.out w3 hB3.out _ _ _ hj rfl (Or.inr ⟨g, _, _, rfl, rfl, Or.inr rfl⟩)) (flat_ones _) (by unfold maxLen; omega) (by omega) hB3.out.size ?_; intro rc capc w4 hown4 hg4 hv4; have hB4 : Hid (Below W.heap.size W w4) := Hid.mk (hB3.out.grown hg4 hB3.out.size (fun g hg => (hown3.out.lt g hg).1)); replace hown4 := Hid.mk hown4; clear hg4 hv4))
        go_ret
        refine ⟨_, rfl, ?_, HBW.out.trans (hB4.out.mono (by have := HSZ.out; omega))⟩
        show World.ownsRow _ _ _ _ _ _ _
        rw [HIN.out, List.length_append, List.length_cons, List.flatMap_append, List.flatMap_cons, List.length_take, List.length_drop, HNL.out, Nat.min_eq_left hj]
        have := ownsRow_base hown4.out (b' := w.heap.size) (by have := HSZ.out; omega)
        rw [List.append_assoc] at this
        rw [show j + (n - j + 1) = j + 1 + (n - j) by omega]
        exact this
    · rcases hra with ⟨rfl, hn0, rfl⟩ | ⟨g, rfl, hgl⟩
      · have hj0 : j = 0 := by omega
        subst hj0
        subst hn0
        obtain ⟨k0, k1, k2, k3, k4, k5⟩ := hbx
        have HB2 := hB
        have HOX := hown
        have HOA : Hid (∀ Ob : Obj, (wr.alloc Ob).ownsRow W.heap.size 46 6 u5 0 ((S.take 0).flatMap Ord.cells)) := fun Ob => ownsRow_keep hown.out (fun g hg => by rw [heap_alloc, if_neg (by have := (hown.out.lt g hg).2; omega)])
        have HIN : Hid (insO o S = S.take 0 ++ o :: S.drop 0) := ins_at o S 0 (by rw [HNL.out]; exact hj) HAH.out (Or.inl HNL.out.symm)
        go_wp2_with (first
          | (at_builtin; refine wpList_append_row rfl _ _ 42 rfl W.heap.size 46 i0 _ 6 48 und_api HI.out.1 HI.out.2.1 HI.out.2.2.1 HI.out.2.2.2 rfl (by decide) u5 0 ((S.take 0).flatMap Ord.cells) rfl (HOA.out _) (.slice (some ⟨wr.heap.size, 0, none⟩) 1 1) 1 o.cells rfl (rdRow_api wr o) (cells_ones o) (by unfold maxLen; omega) (by omega) (by rw [size_alloc]; have := HB2.out.size; omega) ?_; intro rb capb w3 hown3 hg3 hv3; have hB3 : Hid (Below W.heap.size W w3) := Hid.mk ((HB2.out.alloc HB2.out.size _).grown hg3 (by rw [size_alloc]; have := HB2.out.size; omega) (fun g hg => (HOX.out.lt g hg).1)); replace hown3 := Hid.mk hown3; clear hg3 hv3)
          | (at_builtin; refine wpList_append_row rfl _ _ 42 rfl W.heap.size 46 i0 _ 6 48 und_api HI.out.1 HI.out.2.1 HI.out.2.2.1 HI.out.2.2.2 rfl (by decide) (.slice rb (0 + 1) capb) (0 + 1) ((S.take 0).flatMap Ord.cells ++ o.cells) rfl hown3.out (.slice none 0 0) _ ((S.drop 0).flatMap Ord.cells) rfl (HRD.out w3 hB3.out _ _ _ (Nat.le_refl _) rfl (Or.inl ⟨rfl, rfl⟩)) (flat_ones _) (by unfold maxLen; omega) (by omega) hB3.out.size ?_; intro rc capc w4 hown4 hg4 hv4; have hB4 : Hid (Below W.heap.size W w4) := Hid.mk (hB3.out.grown hg4 hB3.out.size (fun g hg => (hown3.out.lt g hg).1)); replace hown4 := Hid.mk hown4; clear hg4 hv4))
        go_ret
        refine ⟨_, rfl, ?_, HBW.out.trans (hB4.out.mono (by have := HSZ.out; omega))⟩
        show World.ownsRow _ _ _ _ _ _ _
        rw [HIN.out, List.length_append, List.length_cons, List.flatMap_append, List.flatMap_cons, List.length_take, List.length_drop, HNL.out, Nat.min_eq_left hj]
        have := ownsRow_base hown4.out (b' := w.heap.size) (by have := HSZ.out; omega)
        rw [List.append_assoc] at this
        exact this
      · by_cases hcj : cap = j
        · have e1 : j = n := by omega
          subst e1
          have e2 : j = cap := hcj.symm
          subst e2
          obtain ⟨k0, k1, k2, k3, k4, k5⟩ := hbx
          have HB2 := hB
          have HOX := hown
          have HOA : Hid (∀ Ob : Obj, (wr.alloc Ob).ownsRow W.heap.size 46 6 u5 j ((S.take j).flatMap Ord.cells)) := fun Ob => ownsRow_keep hown.out (fun g hg => by rw [heap_alloc, if_neg (by have := (hown.out.lt g hg).2; omega)])
          have HIN : Hid (insO o S = S.take j ++ o :: S.drop j) := ins_at o S j (by rw [HNL.out]; exact hj) HAH.out (Or.inl HNL.out.symm)
          go_wp2_with (first
            | (at_builtin; refine wpList_append_row rfl _ _ 42 rfl W.heap.size 46 i0 _ 6 48 und_api HI.out.1 HI.out.2.1 HI.out.2.2.1 HI.out.2.2.2 rfl (by decide) u5 j ((S.take j).flatMap Ord.cells) rfl (HOA.out _) (.slice (some ⟨wr.heap.size, 0, none⟩) 1 1) 1 o.cells rfl (rdRow_api wr o) (cells_ones o) (by unfold maxLen; omega) (by omega) (by rw [size_alloc]; have := HB2.out.size; omega) ?_; intro rb capb w3 hown3 hg3 hv3; have hB3 : Hid (Below W.heap.size W w3) := Hid.mk ((HB2.out.alloc HB2.out.size _).grown hg3 (by rw [size_alloc]; have := HB2.out.size; omega) (fun g hg => (HOX.out.lt g hg).1)); replace hown3 := Hid.mk hown3; clear hg3 hv3)
            | (at_builtin; refine wpList_append_row rfl _ _ 42 rfl W.heap.size 46 i0 _ 6 48 und_api HI.out.1 HI.out.2.1 HI.out.2.2.1 HI.out.2.2.2 rfl (by decide) (.slice rb (j + 1) capb) (j + 1) ((S.take j).flatMap Ord.cells ++ o.cells) rfl hown3.out (.slice (some ⟨g, 0, none⟩) 0 0) _ ((S.drop j).flatMap Ord.cells) rfl (HRD.out w3 hB3.out _ _ _ (Nat.le_refl _) (by omega) (Or.inr ⟨g, 0, 0, rfl, rfl, Or.inl rfl⟩)) (flat_ones _) (by unfold maxLen; omega) (by omega) hB3.out.size ?_; intro rc capc w4 hown4 hg4 hv4; have hB4 : Hid (Below W.heap.size W w4) := Hid.mk (hB3.out.grown hg4 hB3.out.size (fun g hg => (hown3.out.lt g hg).1)); replace hown4 := Hid.mk hown4; clear hg4 hv4))
          go_ret
          refine ⟨_, rfl, ?_, HBW.out.trans (hB4.out.mono (by have := HSZ.out; omega))⟩
          show World.ownsRow _ _ _ _ _ _ _
          rw [HIN.out, List.length_append, List.length_cons, List.flatMap_append, List.flatMap_cons, List.length_take, List.length_drop, HNL.out, Nat.min_eq_left hj]
          have := ownsRow_base hown4.out (b' := w.heap.size) (by have := HSZ.out; omega)
          rw [List.append_assoc] at this
          rw [Nat.sub_self]
          exact this
        · have e1 : j = n := by omega
          subst e1
          obtain ⟨k0, k1, k2, k3, k4, k5⟩ := hbx
          have HB2 := hB
          have HOX := hown
          have HOA : Hid (∀ Ob : Obj, (wr.alloc Ob).ownsRow W.heap.size 46 6 u5 j ((S.take j).flatMap Ord.cells)) := fun Ob => ownsRow_keep hown.out (fun g hg => by rw [heap_alloc, if_neg (by have := (hown.out.lt g hg).2; omega)])
          have HIN : Hid (insO o S = S.take j ++ o :: S.drop j) := ins_at o S j (by rw [HNL.out]; exact hj) HAH.out (Or.inl HNL.out.symm)
          go_wp2_with (first
            | (at_builtin; refine wpList_append_row rfl _ _ 42 rfl W.heap.size 46 i0 _ 6 48 und_api HI.out.1 HI.out.2.1 HI.out.2.2.1 HI.out.2.2.2 rfl (by decide) u5 j ((S.take j).flatMap Ord.cells) rfl (HOA.out _) (.slice (some ⟨wr.heap.size, 0, none⟩) 1 1) 1 o.cells rfl (rdRow_api wr o) (cells_ones o) (by unfold maxLen; omega) (by omega) (by rw [size_alloc]; have := HB2.out.size; omega) ?_; intro rb capb w3 hown3 hg3 hv3; have hB3 : Hid (Below W.heap.size W w3) := Hid.mk ((HB2.out.alloc HB2.out.size _).grown hg3 (by rw [size_alloc]; have := HB2.out.size; omega) (fun g hg => (HOX.out.lt g hg).1)); replace hown3 := Hid.mk hown3; clear hg3 hv3)
            | (at_builtin; refine wpList_append_row rfl _ _ 42 rfl W.heap.size 46 i0 _ 6 48 und_api HI.out.1 HI.out.2.1 HI.out.2.2.1 HI.out.2.2.2 rfl (by decide) (.slice rb (j + 1) capb) (j + 1) ((S.take j).flatMap Ord.cells ++ o.cells) rfl hown3.out (.slice (some ⟨g, j * 6, none⟩) 0 (cap - j)) _ ((S.drop j).flatMap Ord.cells) rfl (HRD.out w3 hB3.out _ _ _ (Nat.le_refl _) (by omega) (Or.inr ⟨g, _, _, rfl, rfl, Or.inr rfl⟩)) (flat_ones _) (by unfold maxLen; omega) (by omega) hB3.out.size ?_; intro rc capc w4 hown4 hg4 hv4; have hB4 : Hid (Below W.heap.size W w4) := Hid.mk (hB3.out.grown hg4 hB3.out.size (fun g hg => (hown3.out.lt g hg).1)); replace hown4 := Hid.mk hown4; clear hg4 hv4))
          go_ret
          refine ⟨_, rfl, ?_, HBW.out.trans (hB4.out.mono (by have := HSZ.out; omega))⟩
          show World.ownsRow _ _ _ _ _ _ _
          rw [HIN.out, List.length_append, List.length_cons, List.flatMap_append, List.flatMap_cons, List.length_take, List.length_drop, HNL.out, Nat.min_eq_left hj]
          have := ownsRow_base hown4.out (b' := w.heap.size) (by have := HSZ.out; omega)
          rw [List.append_assoc] at this
          rw [Nat.sub_self]
          exact this

end Go.Proofs.Ytphkchjejbffeaa

/- The walks of the document's gone and other. -/
namespace Go.Proofs.Ytphkchjejbffeaa
open Go.RowKit
attribute [local go_sem ↓] Go.wp_at_zero Go.wp_at_succ

/-- What the lists of the document hold. -/
def SmR (S : List Ord) : Prop := ∀ o ∈ S, o.small ∧ o.token = 0

theorem rs_set (l : List Ord) (i j : Nat) (x y : Ord) (u : Value) (hi : l[i]? = some x) (hj : j < 6) (hy : y.cells = x.cells.set j u) : (l.flatMap Ord.cells).set (i * 6 + j) u = (l.set i y).flatMap Ord.cells := by
  have hlen : ∀ z : Ord, z.cells.length = 6 := fun _ => rfl
  induction l generalizing i with
  | nil => simp at hi
  | cons z l ih =>
    cases i with
    | zero =>
      simp at hi
      subst hi
      rw [List.flatMap_cons, Nat.zero_mul, Nat.zero_add, List.set_append_left _ _ (by rw [hlen]; omega), ← hy]
      rfl
    | succ i =>
      simp at hi
      rw [List.flatMap_cons, List.set_append_right _ _ (by rw [hlen]; omega), show (i + 1) * 6 + j - z.cells.length = i * 6 + j by rw [hlen]; omega, ih i hi]
      rfl
theorem RsAt.put {w : World} {base g len cap : Nat} {l : List Ord} (h : RsAt w base (.slice (some ⟨g, 0, none⟩) len cap) l) (i j : Nat) (x y : Ord) (u : Value) (hi : l[i]? = some x) (hj : j < 6) (hy : y.cells = x.cells.set j u) :
    RsAt (w.setCell ⟨g, i * 6 + j, none⟩ u) base (.slice (some ⟨g, 0, none⟩) len cap) (l.set i y) := by
  refine ⟨by rw [← rs_set l i j x y u hi hj hy, List.length_set, List.length_set]; exact h.1, ?_⟩
  rcases h.2 with ⟨h1, -⟩ | ⟨g', cap', cur, h1, h2, h3, h4, h5, h6, h7⟩
  · simp at h1
  · simp only [Value.slice.injEq, Option.some.injEq, Addr.mk.injEq] at h1
    obtain ⟨⟨rfl, -, -⟩, h1, rfl⟩ := h1
    refine .inr ⟨g, cap, cur.setIfInBounds (i * 6 + j) u, by rw [List.length_set, h1], h2, heap_setCell_same w g (i * 6 + j) _ _ u h3, by rw [List.length_set]; exact h4, h5, by rw [Array.size_setIfInBounds]; exact h6, ?_⟩
    rw [← rs_set l i j x y u hi hj hy, List.length_set, ← h7, Array.toList_setIfInBounds, List.take_set]
theorem RsAt.putAll {w : World} {base g len cap : Nat} {l : List Ord} (h : RsAt w base (.slice (some ⟨g, 0, none⟩) len cap) l) (i : Nat) (x y : Ord) (hi : l[i]? = some x) :
    RsAt ((((((w.setCell ⟨g, i * 6, none⟩ (.int .i64 y.ref)).setCell ⟨g, i * 6 + 1, none⟩ (.int .i64 y.token)).setCell ⟨g, i * 6 + 2, none⟩ (.int .u8 y.side.toNat)).setCell ⟨g, i * 6 + 3, none⟩ (.int .i64 y.stock)).setCell ⟨g, i * 6 + 4, none⟩ (.int .i64 y.price)).setCell ⟨g, i * 6 + 5, none⟩ (.int .i64 y.shares)) base (.slice (some ⟨g, 0, none⟩) len cap) (l.set i y) := by
  have hlt := (List.getElem?_eq_some_iff.1 hi).1
  have hg : ∀ z, (l.set i z)[i]? = some z := fun z => by rw [List.getElem?_set, if_pos rfl, if_pos hlt]
  have a0 := h.put i 0 x { x with ref := y.ref } (.int .i64 y.ref) hi (by omega) rfl
  have a1 := a0.put i 1 { x with ref := y.ref } { x with ref := y.ref, token := y.token } (.int .i64 y.token) (hg _) (by omega) rfl
  have a2 := a1.put i 2 { x with ref := y.ref, token := y.token } { x with ref := y.ref, token := y.token, side := y.side } (.int .u8 y.side.toNat) (by simp only [List.set_set]; exact hg _) (by omega) rfl
  have a3 := a2.put i 3 { x with ref := y.ref, token := y.token, side := y.side } { x with ref := y.ref, token := y.token, side := y.side, stock := y.stock } (.int .i64 y.stock) (by simp only [List.set_set]; exact hg _) (by omega) rfl
  have a4 := a3.put i 4 { x with ref := y.ref, token := y.token, side := y.side, stock := y.stock } { x with ref := y.ref, token := y.token, side := y.side, stock := y.stock, price := y.price } (.int .i64 y.price) (by simp only [List.set_set]; exact hg _) (by omega) rfl
  have a5 := a4.put i 5 { x with ref := y.ref, token := y.token, side := y.side, stock := y.stock, price := y.price } y (.int .i64 y.shares) (by simp only [List.set_set]; exact hg _) (by omega) rfl
  simp only [List.set_set] at a5
  exact a5

/-- What a message of the tape does to the document's list. -/
def RefP (res : Option (List Ord)) (base : Nat) (w : World) (e : Ending) (w' : World) : Prop :=
  Below base w w' ∧ ((res = none ∧ e = .returned (.tuple #[.slice none 0 0, .bool false])) ∨ ∃ S' v', res = some S' ∧ e = .returned (.tuple #[v', .bool true]) ∧ RsAt w' base v' S' ∧ SmR S')

theorem SmR.set {S : List Ord} (h : SmR S) {i : Nat} {y : Ord} (hy : y.small ∧ y.token = 0) : SmR (S.set i y) := fun o ho => by
  rcases mem_set ho with rfl | ho
  · exact hy
  · exact h o ho
theorem SmR.erase {S : List Ord} (h : SmR S) (i : Nat) : SmR (S.eraseIdx i) := fun o ho => h o (List.mem_of_mem_eraseIdx ho)
theorem ins_mem {o x : Ord} {S : List Ord} (h : x ∈ insO o S) : x = o ∨ x ∈ S := by
  induction S with
  | nil =>
    left
    simpa [insO] using h
  | cons y S ih =>
    unfold insO at h
    split at h
    · rcases List.mem_cons.1 h with rfl | h
      · right; simp
      · rcases ih h with h | h
        · exact .inl h
        · right; simp [h]
    · rcases List.mem_cons.1 h with rfl | h
      · exact .inl rfl
      · exact .inr h
theorem SmR.ins {S : List Ord} (h : SmR S) {y : Ord} (hy : y.small ∧ y.token = 0) : SmR (insO y S) := fun o ho => by
  rcases ins_mem ho with rfl | ho
  · exact hy
  · exact h o ho

def ixv : Option Nat → Int
  | none => -1
  | some i => (i : Int)
theorem rfi_ixv (S : List Ord) (t : Nat) : rfi S t = ixv (rfind S t) := by
  unfold rfi ixv
  cases rfind S t <;> rfl

set_option maxRecDepth 100000 in
set_option maxHeartbeats 2000000 in
theorem rgone_any {w : World} {base : Nat} {v : Value} {S : List Ord} (h : RsAt w base v S) (hsm : SmR S) (hb : base ≤ w.heap.size) (hn : S.length ≤ 1000000000) (iop : Option Nat) (hi : ∀ i, iop = some i → i < S.length) (n : Nat) (hn2 : n < 65536) (all : Bool) :
    Calls Try.prog 105 #[v, .int .i64 (ixv iop), .int .i64 n, .bool all] w (RefP (rGone S iop n all) base w) := by
  cases iop with
  | none =>
    have HR : Hid (rGone S none n all = none) := rfl
    generalize rGone S none n all = res at *
    have hx : ixv none = -1 := rfl
    rw [hx]
    clear h hi hx
    go_enter Try.func105, Try.ntmps105
    go_wp2_with fail
    go_ret2
    exact ⟨Below.refl _ _, Or.inl ⟨HR.out, rfl⟩⟩
  | some i =>
    have hil := hi i rfl
    obtain ⟨o, ho⟩ : ∃ o, S[i]? = some o := ⟨_, List.getElem?_eq_getElem hil⟩
    have hR : rGone S (some i) n all = if n = 0 ∨ o.shares < n ∨ (n = o.shares ∧ all = false) then none else if n = o.shares then some (S.eraseIdx i) else some (S.set i { o with shares := o.shares - n }) := by
      simp only [rGone, ho]
    generalize rGone S (some i) n all = res at *
    obtain ⟨ra, cap, rfl, hc1, hc2, hcs⟩ := h.form
    obtain ⟨g, rfl, hbg, hgl, hfz, hrg⟩ := hcs i o ho
    have c5 : w.cell? ⟨g, i * 6 + 5, none⟩ = some (.int .i64 o.shares) := hrg 5 _ rfl
    have f5 := hfz (i * 6 + 5)
    have hos := hsm o (List.mem_of_getElem? ho)
    have hosh := hos.1.shares
    have i1 : (0 : Int) ≤ (i : Int) := by omega
    have i2 : (i : Int) < (S.length : Int) := by omega
    have i3 : ¬ (i : Int) < 0 := by omega
    have HH := Hid.mk (And.intro h (And.intro ho hsm))
    have hx : ixv (some i) = (i : Int) := rfl
    rw [hx]
    clear h hcs hfz hrg hi hx
    by_cases h0 : n = 0
    · have b0 : ((n : Int) == 0) = true := by simp [h0]
      have HE : Hid (res = none) := by rw [hR, if_pos (Or.inl h0)]; rfl
      clear hR h0
      go_enter Try.func105, Try.ntmps105
      go_wp2_with fail
      go_ret2
      exact ⟨Below.refl _ _, Or.inl ⟨HE.out, rfl⟩⟩
    · have b0 : ((n : Int) == 0) = false := by rw [beq_eq_false_iff_ne]; omega
      by_cases h1 : o.shares < n
      · have b1 : (o.shares : Int) < (n : Int) := by omega
        have HE : Hid (res = none) := by rw [hR, if_pos (Or.inr (Or.inl h1))]; rfl
        clear hR h0 h1
        go_enter Try.func105, Try.ntmps105
        go_wp2_with fail
        go_ret2
        exact ⟨Below.refl _ _, Or.inl ⟨HE.out, rfl⟩⟩
      · have b1 : ¬ (o.shares : Int) < (n : Int) := by omega
        by_cases h2 : n = o.shares
        · have b2 : ((n : Int) == (o.shares : Int)) = true := by simp [h2]
          cases all with
          | false =>
            have HE : Hid (res = none) := by rw [hR, if_pos (Or.inr (Or.inr ⟨h2, rfl⟩))]; rfl
            clear hR h0 h1 h2
            go_enter Try.func105, Try.ntmps105
            go_wp2_with fail
            go_ret2
            exact ⟨Below.refl _ _, Or.inl ⟨HE.out, rfl⟩⟩
          | true =>
            have HE : Hid (res = some (S.eraseIdx i)) := by rw [hR, if_neg (by rintro (hh | hh | hh); exact h0 hh; exact h1 hh; cases hh.2), if_pos h2]; rfl
            have HWO := Hid.mk (without_any w base _ S i HH.out.1 hil hn)
            clear hR h0 h1 h2
            go_enter Try.func105, Try.ntmps105
            go_wp2_with fail
            refine HWO.out.mono ?_
            rintro e w2 ⟨v2, rfl, hr2, hb2⟩
            have H2 := Hid.mk (And.intro hr2 hb2)
            clear hr2 hb2
            go_wp2_with fail
            go_ret2
            exact ⟨H2.out.2.mono hb, Or.inr ⟨_, v2, HE.out, rfl, ownsRow_base H2.out.1 hb, HH.out.2.2.erase i⟩⟩
        · have b2 : ((n : Int) == (o.shares : Int)) = false := by rw [beq_eq_false_iff_ne]; omega
          have HE : Hid (res = some (S.set i { o with shares := o.shares - n })) := by rw [hR, if_neg (by rintro (hh | hh | hh); exact h0 hh; exact h1 hh; exact h2 hh.1), if_neg h2]; rfl
          obtain ⟨d, hd⟩ : ∃ d, o.shares - n = d := ⟨_, rfl⟩
          have w1 : IntKind.i64.wrap ((o.shares : Int) - (n : Int)) = (d : Int) := by rw [IntKind.wrap_i64]; omega
          have w2 : (o.shares : Int) - (n : Int) = (d : Int) := by omega
          have HD := Hid.mk hd
          clear hR h0 h1 h2 hd
          go_enter Try.func105, Try.ntmps105
          go_wp2_with fail
          go_ret2
          refine ⟨(Fr.setCell w ⟨g, i * 6 + 5, none⟩ _).belowB hb hbg, Or.inr ⟨_, _, HE.out, rfl, ?_, ?_⟩⟩
          · rw [HD.out]
            exact HH.out.1.put i 5 o { o with shares := d } (.int .i64 d) HH.out.2.1 (by omega) rfl
          · rw [HD.out]
            exact HH.out.2.2.set ⟨⟨hos.1.ref, hos.1.token, hos.1.stock, hos.1.price, by show d < 65536; have := HD.out; omega⟩, hos.2⟩

end Go.Proofs.Ytphkchjejbffeaa

/- The walk of the document's other. -/
namespace Go.Proofs.Ytphkchjejbffeaa
open Go.RowKit
attribute [local go_sem ↓] Go.wp_at_zero Go.wp_at_succ

theorem rval_part {w : World} {g o : Nat} {M : List UInt8} (h : Lies w g o M) (j n cap t : Nat) (h1 : j + n ≤ M.length) (h2 : n ≤ 7) (ht : num ((M.drop j).take n) 0 = t) :
    Calls Try.prog 102 #[.slice (some ⟨g, o + j, none⟩) n cap] w fun e w' => e = .returned (.int .i64 t) ∧ w' = w := by
  have hl : ((M.drop j).take n).length = n := by rw [List.length_take, List.length_drop]; omega
  have := rval_any g (o + j) cap ((M.drop j).take n) w (by omega) ((h.drop j).take n)
  rw [hl, ht] at this
  exact this
theorem at_drop (M : List UInt8) (k i n : Nat) : num ((M.drop (k + i)).take n) 0 = at_ (M.drop k) i n := by
  unfold at_
  rw [List.drop_drop]

set_option maxRecDepth 100000 in
set_option maxHeartbeats 4000000 in
theorem rother_any {w : World} {base : Nat} {v : Value} {S : List Ord} (h : RsAt w base v S) (hsm : SmR S) (hb : base ≤ w.heap.size) (hn : S.length ≤ 1000000000) (iop : Option Nat) (hi : ∀ i, iop = some i → i < S.length) (gm om cm : Nat) (M : List UInt8) (hM : Lies w gm om M) (hl : M.length = 19) (hc : 19 ≤ cm) (hcm : cm ≤ 9223372036854775807) (_hgm : gm < base) :
    Calls Try.prog 106 #[v, .int .i64 (ixv iop), .slice (some ⟨gm, om, none⟩) 19 cm] w (RefP (rOther S iop (M.drop 7)) base w) := by
  have hu := at_lt4 (M.drop 7) 4
  have hm := at_lt2 (M.drop 7) 8
  have hp := at_lt2 (M.drop 7) 10
  have HS : Hid (∀ u m p, at_ (M.drop 7) 4 4 = u → at_ (M.drop 7) 8 2 = m → at_ (M.drop 7) 10 2 = p → ∀ i o, iop = some i → S[i]? = some o → rOther S iop (M.drop 7) = (if m = 0 ∨ ((rfind S u).isSome ∧ rfind S u ≠ some i) then none
      else if p = o.price ∧ m ≤ o.shares then some (S.set i { ref := u, token := 0, side := o.side, stock := o.stock, price := p, shares := m }) else some (insO { ref := u, token := 0, side := o.side, stock := o.stock, price := p, shares := m } (S.eraseIdx i)))) := by
    rintro u m p rfl rfl rfl i o rfl ho
    simp only [rOther, ho]
    rfl
  have HS0 : Hid (iop = none → rOther S iop (M.drop 7) = none) := by rintro rfl; rfl
  obtain ⟨u, hue⟩ : ∃ u, at_ (M.drop 7) 4 4 = u := ⟨_, rfl⟩
  obtain ⟨m, hme⟩ : ∃ m, at_ (M.drop 7) 8 2 = m := ⟨_, rfl⟩
  obtain ⟨p, hpe⟩ : ∃ p, at_ (M.drop 7) 10 2 = p := ⟨_, rfl⟩
  have HR := Hid.mk (HS.out u m p hue hme hpe)
  have HV : Hid (Calls Try.prog 102 #[.slice (some ⟨gm, om + 11, none⟩) 4 (cm - 11)] w (fun e w' => e = .returned (.int .i64 u) ∧ w' = w) ∧ Calls Try.prog 102 #[.slice (some ⟨gm, om + 15, none⟩) 2 (cm - 15)] w (fun e w' => e = .returned (.int .i64 m) ∧ w' = w) ∧ Calls Try.prog 102 #[.slice (some ⟨gm, om + 17, none⟩) 2 (cm - 17)] w (fun e w' => e = .returned (.int .i64 p) ∧ w' = w)) :=
    ⟨rval_part hM 11 4 _ u (by omega) (by omega) (by rw [← hue]; exact at_drop M 7 4 4), rval_part hM 15 2 _ m (by omega) (by omega) (by rw [← hme]; exact at_drop M 7 8 2), rval_part hM 17 2 _ p (by omega) (by omega) (by rw [← hpe]; exact at_drop M 7 10 2)⟩
  rw [hue] at hu
  rw [hme] at hm
  rw [hpe] at hp
  generalize rOther S iop (M.drop 7) = res at *
  have HF := Hid.mk (rfnd_any w base v S u h)
  rw [rfi_ixv] at HF
  have i4 : (19 : Int) ≤ (cm : Int) := by omega
  have i5 : (cm : Int) ≤ 9223372036854775807 := by omega
  have HH := Hid.mk (And.intro h hsm)
  have HU := Hid.mk hu
  clear HS hue hme hpe hM hl hc hcm
  obtain ⟨ra, cap, hv, hc1, hc2, hcs⟩ := h.form
  subst hv
  go_enter Try.func106, Try.ntmps106
  go_wp2_with fail
  refine HV.out.1.mono ?_
  rintro e w' ⟨rfl, hw⟩
  replace hw := hw.symm
  subst hw
  go_wp2_with fail
  refine HF.out.mono ?_
  rintro e w' ⟨rfl, hw⟩
  replace hw := hw.symm
  subst hw
  go_wp2_with fail
  refine HV.out.2.1.mono ?_
  rintro e w' ⟨rfl, hw⟩
  replace hw := hw.symm
  subst hw
  go_wp2_with fail
  refine HV.out.2.2.mono ?_
  rintro e w' ⟨rfl, hw⟩
  replace hw := hw.symm
  subst hw
  clear HV HF
  cases iop with
  | none =>
    have hx : ixv none = -1 := rfl
    rw [hx]
    have HE := Hid.mk (HS0.out rfl)
    clear hx HS0 HR hcs
    go_wp2_with fail
    go_ret2
    exact ⟨Below.refl _ _, Or.inl ⟨HE.out, rfl⟩⟩
  | some i =>
    have hil := hi i rfl
    obtain ⟨o, ho⟩ : ∃ o, S[i]? = some o := ⟨_, List.getElem?_eq_getElem hil⟩
    have hR := HR.out i o rfl ho
    obtain ⟨g, rfl, hbg, hgl, hfz, hrg⟩ := hcs i o ho
    have hx : ixv (some i) = (i : Int) := rfl
    rw [hx]
    have hos := hsm o (List.mem_of_getElem? ho)
    have i1 : (0 : Int) ≤ (i : Int) := by omega
    have i2 : (i : Int) < (S.length : Int) := by omega
    have i3 : ¬ (i : Int) < 0 := by omega
    have HO := Hid.mk ho
    obtain ⟨c0, c1, c2, c3, c4, c5⟩ : w.cell? ⟨g, i * 6, none⟩ = some (.int .i64 o.ref) ∧ w.cell? ⟨g, i * 6 + 1, none⟩ = some (.int .i64 o.token) ∧ w.cell? ⟨g, i * 6 + 2, none⟩ = some (.int .u8 o.side.toNat) ∧ w.cell? ⟨g, i * 6 + 3, none⟩ = some (.int .i64 o.stock) ∧ w.cell? ⟨g, i * 6 + 4, none⟩ = some (.int .i64 o.price) ∧ w.cell? ⟨g, i * 6 + 5, none⟩ = some (.int .i64 o.shares) := ⟨hrg 0 _ rfl, hrg 1 _ rfl, hrg 2 _ rfl, hrg 3 _ rfl, hrg 4 _ rfl, hrg 5 _ rfl⟩
    rw [hos.2] at c1
    have HFZ := Hid.mk hfz
    clear hx hcs HS0 HR hi hrg hfz h ho hsm
    by_cases h0 : m = 0
    · have b0 : ((m : Int) == 0) = true := by simp [h0]
      have HE : Hid (res = none) := by rw [hR, if_pos (Or.inl h0)]; rfl
      clear hR h0
      go_wp2_with fail
      go_ret2
      exact ⟨Below.refl _ _, Or.inl ⟨HE.out, rfl⟩⟩
    · have b0 : ((m : Int) == 0) = false := by rw [beq_eq_false_iff_ne]; omega
      by_cases hbad : (rfind S u).isSome = true ∧ rfind S u ≠ some i
      · obtain ⟨k, hk⟩ := Option.isSome_iff_exists.1 hbad.1
        have hki : k ≠ i := fun e => hbad.2 (by rw [hk, e])
        have HE : Hid (res = none) := by rw [hR, if_pos (Or.inr hbad)]; rfl
        have hxk : ixv (rfind S u) = (k : Int) := by rw [hk]; rfl
        rw [hxk]
        have b1 : (0 : Int) ≤ (k : Int) := by omega
        have b2 : ((k : Int) == (i : Int)) = false := by rw [beq_eq_false_iff_ne]; omega
        have b2' : ((k : Int) != (i : Int)) = true := by rw [bne, b2]; rfl
        clear hR h0 hbad hk hki hxk
        go_wp2_with fail
        go_ret2
        exact ⟨Below.refl _ _, Or.inl ⟨HE.out, rfl⟩⟩
      · have hR2 : res = if p = o.price ∧ m ≤ o.shares then some (S.set i { ref := u, token := 0, side := o.side, stock := o.stock, price := p, shares := m }) else some (insO { ref := u, token := 0, side := o.side, stock := o.stock, price := p, shares := m } (S.eraseIdx i)) := by
          rw [hR, if_neg (by rintro (hh | hh); exact h0 hh; exact hbad hh)]
        have hfc : rfind S u = none ∨ rfind S u = some i := by
          cases hf : rfind S u with
          | none => exact .inl rfl
          | some k =>
            right
            by_cases e : k = i
            · rw [e]
            · exact absurd ⟨by rw [hf]; rfl, by rw [hf]; intro e2; exact e (Option.some.inj e2)⟩ hbad
        have HR2 := Hid.mk hR2
        have HYS : Hid (Ord.small { ref := u, token := 0, side := o.side, stock := o.stock, price := p, shares := m }) := ⟨HU.out, by show 0 < 4294967296; omega, hos.1.stock, hp, hm⟩
        clear hR hR2 hbad h0
        rcases hfc with hf | hf
        · have hxk : ixv (rfind S u) = -1 := by rw [hf]; rfl
          rw [hxk]
          clear hxk hf
          by_cases hk : p = o.price ∧ m ≤ o.shares
          · have HE : Hid (res = some (S.set i { ref := u, token := 0, side := o.side, stock := o.stock, price := p, shares := m })) := by
              have := HR2.out
              rw [if_pos hk] at this
              exact this
            have b3 : ((p : Int) == (o.price : Int)) = true := by simp [hk.1]
            have b4 : (m : Int) ≤ (o.shares : Int) := by have := hk.2; omega
            have f0 := HFZ.out (i * 6)
            have f1 := HFZ.out (i * 6 + 1)
            have f2 := HFZ.out (i * 6 + 2)
            have f3 := HFZ.out (i * 6 + 3)
            have f4 := HFZ.out (i * 6 + 4)
            have f5 := HFZ.out (i * 6 + 5)
            have HPA : Hid (RsAt ((((((w.setCell ⟨g, i * 6, none⟩ (.int .i64 u)).setCell ⟨g, i * 6 + 1, none⟩ (.int .i64 0)).setCell ⟨g, i * 6 + 2, none⟩ (.int .u8 o.side.toNat)).setCell ⟨g, i * 6 + 3, none⟩ (.int .i64 o.stock)).setCell ⟨g, i * 6 + 4, none⟩ (.int .i64 p)).setCell ⟨g, i * 6 + 5, none⟩ (.int .i64 m)) base (.slice (some ⟨g, 0, none⟩) S.length cap) (S.set i { ref := u, token := 0, side := o.side, stock := o.stock, price := p, shares := m })) := HH.out.1.putAll i o { ref := u, token := 0, side := o.side, stock := o.stock, price := p, shares := m } HO.out
            have HFR : Hid (Fr (fun k => k = g) w ((((((w.setCell ⟨g, i * 6, none⟩ (.int .i64 u)).setCell ⟨g, i * 6 + 1, none⟩ (.int .i64 0)).setCell ⟨g, i * 6 + 2, none⟩ (.int .u8 o.side.toNat)).setCell ⟨g, i * 6 + 3, none⟩ (.int .i64 o.stock)).setCell ⟨g, i * 6 + 4, none⟩ (.int .i64 p)).setCell ⟨g, i * 6 + 5, none⟩ (.int .i64 m))) :=
              (((((Fr.setCell w ⟨g, i * 6, none⟩ _).trans (Fr.setCell _ ⟨g, i * 6 + 1, none⟩ _) (fun _ _ e => e)).trans (Fr.setCell _ ⟨g, i * 6 + 2, none⟩ _) (fun _ _ e => e)).trans (Fr.setCell _ ⟨g, i * 6 + 3, none⟩ _) (fun _ _ e => e)).trans (Fr.setCell _ ⟨g, i * 6 + 4, none⟩ _) (fun _ _ e => e)).trans (Fr.setCell _ ⟨g, i * 6 + 5, none⟩ _) (fun _ _ e => e)
            clear hk HR2
            go_wp2_with fail
            go_ret2
            have hB := HFR.out.belowB hb hbg
            refine ⟨hB.alloc (Nat.le_trans hb hB.size) _, Or.inr ⟨_, _, HE.out, rfl, ?_, HH.out.2.set ⟨HYS.out, rfl⟩⟩⟩
            exact ownsRow_keep HPA.out (fun g' hg' => by rw [heap_alloc, if_neg (by have := (World.ownsRow.lt HPA.out g' hg').2; omega)])
          · have HE : Hid (res = some (insO { ref := u, token := 0, side := o.side, stock := o.stock, price := p, shares := m } (S.eraseIdx i))) := by
              have := HR2.out
              rw [if_neg hk] at this
              exact this
            have hcase : ((p : Int) == (o.price : Int)) = false ∨ (((p : Int) == (o.price : Int)) = true ∧ ¬ (m : Int) ≤ (o.shares : Int)) := by
              by_cases e : p = o.price
              · right
                exact ⟨by simp [e], fun e2 => hk ⟨e, by omega⟩⟩
              · left
                rw [beq_eq_false_iff_ne]
                omega
            clear hk HR2
            rcases hcase with b3 | ⟨b3, b4⟩
            all_goals
              go_wp2_with fail
              generalize hOb : Obj.cells _ 46 = O
              have hbx : ∀ t x, ([.int .i64 u, .int .i64 0, .int .u8 o.side.toNat, .int .i64 o.stock, .int .i64 p, .int .i64 m] : List Value)[t]? = some x → (w.alloc O).cell? ⟨w.heap.size, t, none⟩ = some x := fun t x hx => by rw [← hOb]; exact new_cell _ _ _ t _ (by simpa using hx)
              have hBO : Below base w (w.alloc O) := (Below.refl base w).alloc hb O
              have hSO : RsAt (w.alloc O) base (.slice (some ⟨g, 0, none⟩) S.length cap) S := ownsRow_keep HH.out.1 (fun g' hg' => by rw [heap_alloc, if_neg (by have := (World.ownsRow.lt HH.out.1 g' hg').2; omega)])
              have hszO : (w.alloc O).heap.size = w.heap.size + 1 := size_alloc _ _
              clear hOb
              generalize w.alloc O = W at hbx hBO hSO hszO ⊢
              refine (without_any W base _ S i hSO hil hn).mono ?_
              rintro e w2 ⟨v2, rfl, hr2, hb2⟩
              have k0 : w2.cell? ⟨w.heap.size, 0, none⟩ = some (.int .i64 u) := (hb2.cell (p := ⟨w.heap.size, 0, none⟩) (show w.heap.size < W.heap.size by omega)).trans (hbx 0 _ rfl)
              have k1 : w2.cell? ⟨w.heap.size, 1, none⟩ = some (.int .i64 0) := (hb2.cell (p := ⟨w.heap.size, 1, none⟩) (show w.heap.size < W.heap.size by omega)).trans (hbx 1 _ rfl)
              have k2 : w2.cell? ⟨w.heap.size, 2, none⟩ = some (.int .u8 o.side.toNat) := (hb2.cell (p := ⟨w.heap.size, 2, none⟩) (show w.heap.size < W.heap.size by omega)).trans (hbx 2 _ rfl)
              have k3 : w2.cell? ⟨w.heap.size, 3, none⟩ = some (.int .i64 o.stock) := (hb2.cell (p := ⟨w.heap.size, 3, none⟩) (show w.heap.size < W.heap.size by omega)).trans (hbx 3 _ rfl)
              have k4 : w2.cell? ⟨w.heap.size, 4, none⟩ = some (.int .i64 p) := (hb2.cell (p := ⟨w.heap.size, 4, none⟩) (show w.heap.size < W.heap.size by omega)).trans (hbx 4 _ rfl)
              have k5 : w2.cell? ⟨w.heap.size, 5, none⟩ = some (.int .i64 m) := (hb2.cell (p := ⟨w.heap.size, 5, none⟩) (show w.heap.size < W.heap.size by omega)).trans (hbx 5 _ rfl)
              have HB2 : Hid (Below base w w2) := hBO.trans (hb2.mono (Nat.le_trans hb hBO.size))
              have HIN : Hid (Calls Try.prog 104 #[v2, .agg #[.int .i64 u, .int .i64 0, .int .u8 o.side.toNat, .int .i64 o.stock, .int .i64 p, .int .i64 m]] w2 fun e w' => ∃ v', e = .returned v' ∧ RsAt w' w2.heap.size v' (insO { ref := u, token := 0, side := o.side, stock := o.stock, price := p, shares := m } (S.eraseIdx i)) ∧ Below w2.heap.size w2 w') := insert_any w2 W.heap.size v2 (S.eraseIdx i) { ref := u, token := 0, side := o.side, stock := o.stock, price := p, shares := m } hr2 (by rw [List.length_eraseIdx]; split <;> omega)
              obtain ⟨r2, cap2, hv2, -, -, -⟩ := hr2.form
              subst hv2
              clear hbx hBO hSO hszO hr2 hb2 c0 c1 c2 c3 c4 c5
              go_wp2_with fail
              refine HIN.out.mono ?_
              rintro e w3 ⟨v3, rfl, hr3, hb3⟩
              have H3 := Hid.mk (And.intro hr3 hb3)
              clear hr3 hb3
              go_wp2_with fail
              go_ret2
              have hbw2 := Nat.le_trans hb HB2.out.size
              exact ⟨HB2.out.trans (H3.out.2.mono hbw2), Or.inr ⟨_, v3, HE.out, rfl, ownsRow_base H3.out.1 hbw2, (HH.out.2.erase i).ins ⟨HYS.out, rfl⟩⟩⟩
        · have hxk : ixv (rfind S u) = (i : Int) := by rw [hf]; rfl
          rw [hxk]
          have b2 : ((i : Int) == (i : Int)) = true := by simp
          have b2' : ((i : Int) != (i : Int)) = false := by rw [bne, b2]; rfl
          clear hxk hf
          by_cases hk : p = o.price ∧ m ≤ o.shares
          · have HE : Hid (res = some (S.set i { ref := u, token := 0, side := o.side, stock := o.stock, price := p, shares := m })) := by
              have := HR2.out
              rw [if_pos hk] at this
              exact this
            have b3 : ((p : Int) == (o.price : Int)) = true := by simp [hk.1]
            have b4 : (m : Int) ≤ (o.shares : Int) := by have := hk.2; omega
            have f0 := HFZ.out (i * 6)
            have f1 := HFZ.out (i * 6 + 1)
            have f2 := HFZ.out (i * 6 + 2)
            have f3 := HFZ.out (i * 6 + 3)
            have f4 := HFZ.out (i * 6 + 4)
            have f5 := HFZ.out (i * 6 + 5)
            have HPA : Hid (RsAt ((((((w.setCell ⟨g, i * 6, none⟩ (.int .i64 u)).setCell ⟨g, i * 6 + 1, none⟩ (.int .i64 0)).setCell ⟨g, i * 6 + 2, none⟩ (.int .u8 o.side.toNat)).setCell ⟨g, i * 6 + 3, none⟩ (.int .i64 o.stock)).setCell ⟨g, i * 6 + 4, none⟩ (.int .i64 p)).setCell ⟨g, i * 6 + 5, none⟩ (.int .i64 m)) base (.slice (some ⟨g, 0, none⟩) S.length cap) (S.set i { ref := u, token := 0, side := o.side, stock := o.stock, price := p, shares := m })) := HH.out.1.putAll i o { ref := u, token := 0, side := o.side, stock := o.stock, price := p, shares := m } HO.out
            have HFR : Hid (Fr (fun k => k = g) w ((((((w.setCell ⟨g, i * 6, none⟩ (.int .i64 u)).setCell ⟨g, i * 6 + 1, none⟩ (.int .i64 0)).setCell ⟨g, i * 6 + 2, none⟩ (.int .u8 o.side.toNat)).setCell ⟨g, i * 6 + 3, none⟩ (.int .i64 o.stock)).setCell ⟨g, i * 6 + 4, none⟩ (.int .i64 p)).setCell ⟨g, i * 6 + 5, none⟩ (.int .i64 m))) :=
              (((((Fr.setCell w ⟨g, i * 6, none⟩ _).trans (Fr.setCell _ ⟨g, i * 6 + 1, none⟩ _) (fun _ _ e => e)).trans (Fr.setCell _ ⟨g, i * 6 + 2, none⟩ _) (fun _ _ e => e)).trans (Fr.setCell _ ⟨g, i * 6 + 3, none⟩ _) (fun _ _ e => e)).trans (Fr.setCell _ ⟨g, i * 6 + 4, none⟩ _) (fun _ _ e => e)).trans (Fr.setCell _ ⟨g, i * 6 + 5, none⟩ _) (fun _ _ e => e)
            clear hk HR2
            go_wp2_with fail
            go_ret2
            have hB := HFR.out.belowB hb hbg
            refine ⟨hB.alloc (Nat.le_trans hb hB.size) _, Or.inr ⟨_, _, HE.out, rfl, ?_, HH.out.2.set ⟨HYS.out, rfl⟩⟩⟩
            exact ownsRow_keep HPA.out (fun g' hg' => by rw [heap_alloc, if_neg (by have := (World.ownsRow.lt HPA.out g' hg').2; omega)])
          · have HE : Hid (res = some (insO { ref := u, token := 0, side := o.side, stock := o.stock, price := p, shares := m } (S.eraseIdx i))) := by
              have := HR2.out
              rw [if_neg hk] at this
              exact this
            have hcase : ((p : Int) == (o.price : Int)) = false ∨ (((p : Int) == (o.price : Int)) = true ∧ ¬ (m : Int) ≤ (o.shares : Int)) := by
              by_cases e : p = o.price
              · right
                exact ⟨by simp [e], fun e2 => hk ⟨e, by omega⟩⟩
              · left
                rw [beq_eq_false_iff_ne]
                omega
            clear hk HR2
            rcases hcase with b3 | ⟨b3, b4⟩
            all_goals
              go_wp2_with fail
              generalize hOb : Obj.cells _ 46 = O
              have hbx : ∀ t x, ([.int .i64 u, .int .i64 0, .int .u8 o.side.toNat, .int .i64 o.stock, .int .i64 p, .int .i64 m] : List Value)[t]? = some x → (w.alloc O).cell? ⟨w.heap.size, t, none⟩ = some x := fun t x hx => by rw [← hOb]; exact new_cell _ _ _ t _ (by simpa using hx)
              have hBO : Below base w (w.alloc O) := (Below.refl base w).alloc hb O
              have hSO : RsAt (w.alloc O) base (.slice (some ⟨g, 0, none⟩) S.length cap) S := ownsRow_keep HH.out.1 (fun g' hg' => by rw [heap_alloc, if_neg (by have := (World.ownsRow.lt HH.out.1 g' hg').2; omega)])
              have hszO : (w.alloc O).heap.size = w.heap.size + 1 := size_alloc _ _
              clear hOb
              generalize w.alloc O = W at hbx hBO hSO hszO ⊢
              refine (without_any W base _ S i hSO hil hn).mono ?_
              rintro e w2 ⟨v2, rfl, hr2, hb2⟩
              have k0 : w2.cell? ⟨w.heap.size, 0, none⟩ = some (.int .i64 u) := (hb2.cell (p := ⟨w.heap.size, 0, none⟩) (show w.heap.size < W.heap.size by omega)).trans (hbx 0 _ rfl)
              have k1 : w2.cell? ⟨w.heap.size, 1, none⟩ = some (.int .i64 0) := (hb2.cell (p := ⟨w.heap.size, 1, none⟩) (show w.heap.size < W.heap.size by omega)).trans (hbx 1 _ rfl)
              have k2 : w2.cell? ⟨w.heap.size, 2, none⟩ = some (.int .u8 o.side.toNat) := (hb2.cell (p := ⟨w.heap.size, 2, none⟩) (show w.heap.size < W.heap.size by omega)).trans (hbx 2 _ rfl)
              have k3 : w2.cell? ⟨w.heap.size, 3, none⟩ = some (.int .i64 o.stock) := (hb2.cell (p := ⟨w.heap.size, 3, none⟩) (show w.heap.size < W.heap.size by omega)).trans (hbx 3 _ rfl)
              have k4 : w2.cell? ⟨w.heap.size, 4, none⟩ = some (.int .i64 p) := (hb2.cell (p := ⟨w.heap.size, 4, none⟩) (show w.heap.size < W.heap.size by omega)).trans (hbx 4 _ rfl)
              have k5 : w2.cell? ⟨w.heap.size, 5, none⟩ = some (.int .i64 m) := (hb2.cell (p := ⟨w.heap.size, 5, none⟩) (show w.heap.size < W.heap.size by omega)).trans (hbx 5 _ rfl)
              have HB2 : Hid (Below base w w2) := hBO.trans (hb2.mono (Nat.le_trans hb hBO.size))
              have HIN : Hid (Calls Try.prog 104 #[v2, .agg #[.int .i64 u, .int .i64 0, .int .u8 o.side.toNat, .int .i64 o.stock, .int .i64 p, .int .i64 m]] w2 fun e w' => ∃ v', e = .returned v' ∧ RsAt w' w2.heap.size v' (insO { ref := u, token := 0, side := o.side, stock := o.stock, price := p, shares := m } (S.eraseIdx i)) ∧ Below w2.heap.size w2 w') := insert_any w2 W.heap.size v2 (S.eraseIdx i) { ref := u, token := 0, side := o.side, stock := o.stock, price := p, shares := m } hr2 (by rw [List.length_eraseIdx]; split <;> omega)
              obtain ⟨r2, cap2, hv2, -, -, -⟩ := hr2.form
              subst hv2
              clear hbx hBO hSO hszO hr2 hb2 c0 c1 c2 c3 c4 c5
              go_wp2_with fail
              refine HIN.out.mono ?_
              rintro e w3 ⟨v3, rfl, hr3, hb3⟩
              have H3 := Hid.mk (And.intro hr3 hb3)
              clear hr3 hb3
              go_wp2_with fail
              go_ret2
              have hbw2 := Nat.le_trans hb HB2.out.size
              exact ⟨HB2.out.trans (H3.out.2.mono hbw2), Or.inr ⟨_, v3, HE.out, rfl, ownsRow_base H3.out.1 hbw2, (HH.out.2.erase i).ins ⟨HYS.out, rfl⟩⟩⟩

end Go.Proofs.Ytphkchjejbffeaa
