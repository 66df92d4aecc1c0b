/- The walks of the document's val, long, ahead, find, without, insert. -/
import Derived.Test.YtphkchjejbffeaaG23
namespace Go.Proofs.Ytphkchjejbffeaa
open Go.RowKit
attribute [local go_sem ↓] Go.wp_at_zero Go.wp_at_succ

set_option maxHeartbeats 400000 in
theorem rval_any (b o cap : Nat) (l : List UInt8) (w : World) (hl : l.length ≤ 7) (h : Lies w b o l) :
    Calls Try.prog 102 #[.slice (some ⟨b, o, none⟩) l.length cap] w fun e w' => e = .returned (.int .i64 (num l 0 : Nat)) ∧ w' = w := by
  go_enter Try.func102, Try.ntmps102
  go_wp2
  go_loop [3, 4] (fun v i => ∃ k : Nat, k ≤ l.length ∧ i = .int .i64 k ∧ v = .int .i64 (num (l.take k) 0 : Nat)) (fun _ i => l.length - (intOf i).toNat)
  case atStart => exact ⟨0, Nat.zero_le _, rfl, rfl⟩
  case round =>
    obtain ⟨k, hk, rfl, rfl⟩ := hrel
    by_cases hlt : k < l.length
    · have hb : num (l.take k) 0 < 281474976710656 := by
        have hlt := num_lt (l.take k) 0
        rw [List.length_take, Nat.min_eq_left hk] at hlt
        have : 256 ^ k ≤ 256 ^ 6 := Nat.pow_le_pow_right (by omega) (by omega)
        omega
      have hcell := h.cell k hlt
      have hc := B_lt (l.getD k 0)
      have HS : Hid (num (l.take (k + 1)) 0 = 256 * num (l.take k) 0 + (l.getD k 0).toNat) := by
        show _ = _
        rw [getD_append_snoc l k hlt, num_append]; rfl
      generalize l.getD k 0 = c at *
      generalize num (l.take k) 0 = m at *
      have hn : (m : Int) < 281474976710656 := by omega
      go_wp2
      go_round
      case rel => exact ⟨k + 1, by omega, by go_num, by rw [HS.out]; simp⟩
      case measure => simp [intOf]; omega
    · go_wp2
      go_ret
      exact ⟨ret_int (by rw [List.take_of_length_le (by omega)]), rfl⟩

set_option maxHeartbeats 400000 in
theorem rlong_any (t : UInt8) (w : World) : Calls Try.prog 67 #[.int .u8 t.toNat] w fun e w' => e = .returned (.int .i64 (tSize t : Nat)) ∧ w' = w := by
  have ne : ∀ u : UInt8, t ≠ u → (((t.toNat : Int)) == (u.toNat : Int)) = false := by
    intro u hu
    rw [beq_eq_false_iff_ne]
    intro e
    exact hu (UInt8.toNat_inj.1 (by omega))
  have hall : t = 97 ∨ t = 101 ∨ t = 120 ∨ t = 100 ∨ t = 117 ∨ (t ≠ 97 ∧ t ≠ 101 ∧ t ≠ 120 ∧ t ≠ 100 ∧ t ≠ 117) := by
    by_cases h1 : t = 97
    · exact .inl h1
    · by_cases h2 : t = 101
      · exact .inr (.inl h2)
      · by_cases h3 : t = 120
        · exact .inr (.inr (.inl h3))
        · by_cases h4 : t = 100
          · exact .inr (.inr (.inr (.inl h4)))
          · by_cases h5 : t = 117
            · exact .inr (.inr (.inr (.inr (.inl h5))))
            · exact .inr (.inr (.inr (.inr (.inr ⟨h1, h2, h3, h4, h5⟩))))
  rcases hall with rfl | rfl | rfl | rfl | rfl | ⟨h1, h2, h3, h4, h5⟩
  · go_enter Try.func67, Try.ntmps67
    go_wp2
    go_ret
    exact ⟨rfl, rfl⟩
  · go_enter Try.func67, Try.ntmps67
    go_wp2
    go_ret
    exact ⟨rfl, rfl⟩
  · go_enter Try.func67, Try.ntmps67
    go_wp2
    go_ret
    exact ⟨rfl, rfl⟩
  · go_enter Try.func67, Try.ntmps67
    go_wp2
    go_ret
    exact ⟨rfl, rfl⟩
  · go_enter Try.func67, Try.ntmps67
    go_wp2
    go_ret
    exact ⟨rfl, rfl⟩
  · have e1 : (((t.toNat : Int)) == 97) = false := ne 97 h1
    have e2 : (((t.toNat : Int)) == 101) = false := ne 101 h2
    have e3 : (((t.toNat : Int)) == 120) = false := ne 120 h3
    have e4 : (((t.toNat : Int)) == 100) = false := ne 100 h4
    have e5 : (((t.toNat : Int)) == 117) = false := ne 117 h5
    have HS : Hid (tSize t = 0) := by
      show _ = _
      unfold tSize
      rw [if_neg h1, if_neg h2, if_neg h3, if_neg h4, if_neg h5]
    clear ne h1 h2 h3 h4 h5
    go_enter Try.func67, Try.ntmps67
    go_wp2
    go_ret
    exact ⟨by rw [HS.out]; rfl, rfl⟩

theorem ahead_val (x o : Ord) : (x.stock ≠ o.stock → aheadO x o = decide (x.stock < o.stock)) ∧ (x.stock = o.stock → x.side.toNat ≠ o.side.toNat → aheadO x o = decide (x.side.toNat < o.side.toNat)) ∧
    (x.stock = o.stock → x.side.toNat = o.side.toNat → x.side.toNat = 66 → aheadO x o = decide (o.price ≤ x.price)) ∧ (x.stock = o.stock → x.side.toNat = o.side.toNat → x.side.toNat ≠ 66 → aheadO x o = decide (x.price ≤ o.price)) := by
  have h := byB_lt o x
  have e : ∀ p : Prop, [Decidable p] → (p ↔ ¬ ltc byB o x = true) → aheadO x o = decide p := by
    intro p _ hp
    unfold aheadO
    cases hl : ltc byB o x <;> simp [hl] at hp ⊢ <;> exact hp
  rw [h] at e
  refine ⟨fun h1 => e _ (by omega), fun h1 h2 => e _ (by omega), fun h1 h2 h3 => e _ (by omega), fun h1 h2 h3 => e _ (by omega)⟩

set_option maxRecDepth 100000 in
set_option maxHeartbeats 1000000 in
theorem rahead_any (x o : Ord) (w : World) : Calls Try.prog 135 #[.agg x.cells.toArray, .agg o.cells.toArray] w fun e w' => e = .returned (.bool (aheadO x o)) ∧ Below w.heap.size w w' := by
  obtain ⟨v1, v2, v3, v4⟩ := ahead_val x o
  have HB : Hid (∀ A B : Obj, Below w.heap.size w ((w.alloc A).alloc B)) := fun A B => Below.alloc ((Below.refl _ w).alloc (Nat.le_refl _) _) (by rw [size_alloc]; omega) _
  unfold Ord.cells
  by_cases h1 : x.stock = o.stock
  · have b1 : ((x.stock : Int) == (o.stock : Int)) = true := by simp [h1]
    have b1' : ((x.stock : Int) != (o.stock : Int)) = false := by rw [bne, b1]; rfl
    by_cases h2 : x.side.toNat = o.side.toNat
    · have b2 : ((x.side.toNat : Int) == (o.side.toNat : Int)) = true := by simp [h2]
      have b2' : ((x.side.toNat : Int) != (o.side.toNat : Int)) = false := by rw [bne, b2]; rfl
      by_cases h3 : x.side.toNat = 66
      · have b3 : ((x.side.toNat : Int) == 66) = true := by simp [h3]
        have HV := Hid.mk (v3 h1 h2 h3)
        clear v1 v2 v3 v4 h1 h2 h3
        go_enter Try.func135, Try.ntmps135
        go_wp2_with fail
        go_ret
        exact ⟨by rw [HV.out]; simp, HB.out _ _⟩
      · have b3 : ((x.side.toNat : Int) == 66) = false := by rw [beq_eq_false_iff_ne]; omega
        have HV := Hid.mk (v4 h1 h2 h3)
        clear v1 v2 v3 v4 h1 h2 h3
        go_enter Try.func135, Try.ntmps135
        go_wp2_with fail
        go_ret
        exact ⟨by rw [HV.out]; simp, HB.out _ _⟩
    · have b2 : ((x.side.toNat : Int) == (o.side.toNat : Int)) = false := by rw [beq_eq_false_iff_ne]; omega
      have b2' : ((x.side.toNat : Int) != (o.side.toNat : Int)) = true := by rw [bne, b2]; rfl
      have HV := Hid.mk (v2 h1 h2)
      clear v1 v2 v3 v4 h1 h2
      go_enter Try.func135, Try.ntmps135
      go_wp2_with fail
      go_ret
      exact ⟨by rw [HV.out]; simp, HB.out _ _⟩
  · have b1 : ((x.stock : Int) == (o.stock : Int)) = false := by rw [beq_eq_false_iff_ne]; omega
    have b1' : ((x.stock : Int) != (o.stock : Int)) = true := by rw [bne, b1]; rfl
    have HV := Hid.mk (v1 h1)
    clear v1 v2 v3 v4 h1
    go_enter Try.func135, Try.ntmps135
    go_wp2_with fail
    go_ret
    exact ⟨by rw [HV.out]; simp, HB.out _ _⟩

/-- Sorted orders, in a row of one's own. -/
def RsAt (w : World) (base : Nat) (v : Value) (S : List Ord) : Prop := w.ownsRow base 46 6 v S.length (S.flatMap Ord.cells)

/-- Where a reference stands; -1. -/
def rfi (S : List Ord) (t : Nat) : Int := match rfind S t with | some i => (i : Int) | none => -1
theorem rfi_first {S : List Ord} {t i : Nat} (hi : i < S.length) (h1 : ∀ j, j < i → ∀ x, S[j]? = some x → x.ref ≠ t) (h2 : ∀ x, S[i]? = some x → x.ref = t) : rfi S t = (i : Int) := by
  unfold rfi
  have : rfind S t = some i := by
    unfold rfind
    rw [List.findIdx?_eq_some_iff_getElem]
    refine ⟨hi, by simpa using h2 _ (List.getElem?_eq_getElem hi), ?_⟩
    intro j hj
    simpa using h1 j hj _ (List.getElem?_eq_getElem (by omega))
  rw [this]
theorem rfi_none {S : List Ord} {t : Nat} (h : ∀ x ∈ S, x.ref ≠ t) : rfi S t = -1 := by
  unfold rfi rfind
  rw [List.findIdx?_eq_none_iff.2 (fun x hx => by simpa using h x hx)]

theorem RsAt.form {w : World} {base : Nat} {v : Value} {S : List Ord} (h : RsAt w base v S) : ∃ ra cap, v = .slice ra S.length cap ∧ S.length ≤ cap ∧ cap ≤ maxLen ∧
    ∀ (i : Nat) (x : Ord), S[i]? = some x → ∃ g, ra = some ⟨g, 0, none⟩ ∧ base ≤ g ∧ g < w.heap.size ∧ (∀ j, w.frozen? ⟨g, j, none⟩ = false) ∧ w.rangeAt g (i * 6) x.cells := by
  rcases h.2 with ⟨h1, h2⟩ | ⟨g, cap, cur, h1, h2, h3, h4, h5, h6, h7⟩
  · refine ⟨none, 0, by rw [h1, h2], by omega, by unfold maxLen; omega, ?_⟩
    intro i x hx
    rw [List.length_eq_zero_iff.1 h2] at hx
    simp at hx
  · refine ⟨_, cap, h1, h4, h5, ?_⟩
    intro i x hx
    refine ⟨g, rfl, h2, (Array.getElem?_eq_some_iff.1 h3).1, fun j => by simp [World.frozen?, h3], ?_⟩
    intro j u hu
    have hj : j < 6 := (List.getElem?_eq_some_iff.1 hu).1
    have := h.cells (g := g) (by rw [h1]; rfl) (i * 6 + j) u (flat_getG _ 6 (fun _ => rfl) S i j x u hx hj hu)
    rwa [Addr.add_lit, Nat.zero_add] at this

set_option maxHeartbeats 1000000 in
theorem rfnd_any (w : World) (base : Nat) (v : Value) (S : List Ord) (t : Nat) (h : RsAt w base v S) :
    Calls Try.prog 103 #[v, .int .i64 t] w fun e w' => e = .returned (.int .i64 (rfi S t)) ∧ w' = w := by
  obtain ⟨ra, cap, rfl, h1, h2, hc⟩ := h.form
  have HC := Hid.mk hc
  clear h hc
  have hl1 : (S.length : Int) ≤ 9223372036854775807 := by unfold maxLen at h2; omega
  go_enter Try.func103, Try.ntmps103
  go_wp2_with fail
  go_loopw [5] (fun i wr => ∃ k : Nat, k ≤ S.length ∧ i = .int .i64 k ∧ Hid (wr = w ∧ ∀ j, j < k → ∀ x, S[j]? = some x → x.ref ≠ t)) (fun i _ => S.length - (intOf i).toNat)
  case atStart => exact ⟨0, Nat.zero_le _, rfl, rfl, fun j hj => by omega⟩
  case round =>
    obtain ⟨k, hk, rfl, HR⟩ := hrel
    by_cases hlt : k < S.length
    · obtain ⟨x, hx⟩ : ∃ x, S[k]? = some x := ⟨_, List.getElem?_eq_getElem hlt⟩
      obtain ⟨g, rfl, -, -, -, hrg⟩ := HC.out k x hx
      have c0 : w.cell? ⟨g, k * 6, none⟩ = some (.int .i64 x.ref) := hrg 0 _ rfl
      rw [← HR.out.1] at c0
      have i1 : (0 : Int) ≤ (k : Int) := by omega
      have i2 : (k : Int) < (S.length : Int) := by omega
      by_cases ht : x.ref = t
      · have ht1 : ((x.ref : Int) == (t : Int)) = true := by simp [ht]
        have HE : Hid (rfi S t = (k : Int)) := rfi_first hlt HR.out.2 (fun y hy => by rw [hx] at hy; cases hy; exact ht)
        clear ht hx hrg
        go_wp2_with fail
        go_ret
        exact ⟨by rw [HE.out]; rfl, HR.out.1⟩
      · have ht1 : ((x.ref : Int) == (t : Int)) = false := by rw [beq_eq_false_iff_ne]; omega
        have HE : Hid (∀ j, j < k + 1 → ∀ x, S[j]? = some x → x.ref ≠ t) := by
          intro j hj y hy
          by_cases hjk : j = k
          · subst hjk; rw [hx] at hy; cases hy; exact ht
          · exact HR.out.2 j (by omega) y hy
        clear ht hx hrg
        go_wp2_with fail
        exact ⟨⟨k + 1, by omega, by go_num, HR.out.1, HE.out⟩, by simp [intOf]; omega⟩
    · have HE : Hid (rfi S t = -1) := rfi_none (fun x hx => by
        obtain ⟨j, hj, e⟩ := List.getElem_of_mem hx
        exact HR.out.2 j (by omega) x (by rw [List.getElem?_eq_getElem hj, e]))
      go_wp2_with fail
      go_ret
      exact ⟨by rw [HE.out]; rfl, HR.out.1⟩

theorem Try.infoRo : (Try.prog.info? 46).map (fun i => (i.zero, i.size, i.bytes)) = some (some (.agg #[.int .i64 0, .int .i64 0, .int .u8 0, .int .i64 0, .int .i64 0, .int .i64 0]), 6, 48) := by kernel_rfl

theorem rd_take {w : World} {base g n cap : Nat} {S : List Ord} (h : RsAt w base (.slice (some ⟨g, 0, none⟩) n cap) S) (i c : Nat) (hi : i ≤ S.length) : RdRow w 6 (.slice (some ⟨g, 0, none⟩) i c) i ((S.take i).flatMap Ord.cells) := by
  refine .inr ⟨g, 0, c, rfl, by rw [cells_flat_len, List.length_take, Nat.min_eq_left hi], ?_⟩
  intro j u hu
  have e : S.flatMap Ord.cells = (S.take i).flatMap Ord.cells ++ (S.drop i).flatMap Ord.cells := by rw [← List.flatMap_append, List.take_append_drop]
  have := h.cells (g := g) rfl j u (by rw [e, List.getElem?_append_left (List.getElem?_eq_some_iff.1 hu).1]; exact hu)
  rwa [Addr.add_lit] at this
theorem rd_drop {w : World} {base g n cap : Nat} {S : List Ord} (h : RsAt w base (.slice (some ⟨g, 0, none⟩) n cap) S) (i m o c : Nat) (hi : i ≤ S.length) (hm : m = S.length - i) (ho : m = 0 ∨ o = i * 6) : RdRow w 6 (.slice (some ⟨g, o, none⟩) m c) m ((S.drop i).flatMap Ord.cells) := by
  refine .inr ⟨g, o, c, rfl, by rw [cells_flat_len, List.length_drop, hm], ?_⟩
  intro j u hu
  have hj : j < ((S.drop i).flatMap Ord.cells).length := (List.getElem?_eq_some_iff.1 hu).1
  rw [cells_flat_len, List.length_drop] at hj
  have ho' : o = i * 6 := by
    rcases ho with e | e
    · omega
    · exact e
  subst ho'
  have e : S.flatMap Ord.cells = (S.take i).flatMap Ord.cells ++ (S.drop i).flatMap Ord.cells := by rw [← List.flatMap_append, List.take_append_drop]
  have e2 : ((S.take i).flatMap Ord.cells).length = i * 6 := by rw [cells_flat_len, List.length_take, Nat.min_eq_left hi]
  have := h.cells (g := g) rfl (i * 6 + j) u (by rw [e, List.getElem?_append_right (by omega), e2, Nat.add_sub_cancel_left]; exact hu)
  rwa [Addr.add_lit, Nat.zero_add] at this
theorem rd_below {w w' : World} {v : Value} {m B : Nat} {xs : List Value} (h : RdRow w 6 v m xs) (hB : Below B w w') (hg : ∀ g, v.ownBlock = some g → g < B) : RdRow w' 6 v m xs := by
  rcases h with h | ⟨g, o, c, rfl, h1, h2⟩
  · exact .inl h
  · exact .inr ⟨g, o, c, rfl, h1, fun j u hu => (hB.cell (p := ⟨g, o + j, none⟩) (hg g rfl)).trans (h2 j u hu)⟩
theorem flat_ones (l : List Ord) : ∀ u ∈ l.flatMap Ord.cells, u.oneCell' = true := by
  intro u hu
  obtain ⟨x, -, hx⟩ := List.mem_flatMap.1 hu
  exact cells_ones x u hx

set_option maxRecDepth 100000 in
set_option maxHeartbeats 1000000 in
theorem without_any (w : World) (base : Nat) (v : Value) (S : List Ord) (i : Nat) (h : RsAt w base v S) (hi : i < S.length) (hn : S.length ≤ 1000000000) :
    Calls Try.prog 107 #[v, .int .i64 i] w fun e w' => ∃ v', e = .returned v' ∧ RsAt w' w.heap.size v' (S.eraseIdx i) ∧ Below w.heap.size w w' := by
  obtain ⟨ra, cap, rfl, hc1, hc2, hcs⟩ := h.form
  obtain ⟨g, rfl, -, hgl, -, -⟩ := hcs i _ (List.getElem?_eq_getElem hi)
  have HE : Hid (S.eraseIdx i = S.take i ++ S.drop (i + 1)) := List.eraseIdx_eq_take_drop_succ _ _
  have HR1 := Hid.mk (rd_take h i cap (Nat.le_of_lt hi))
  have HR2 : Hid (∀ m o c, m = S.length - (i + 1) → (m = 0 ∨ o = (i + 1) * 6) → RdRow w 6 (.slice (some ⟨g, o, none⟩) m c) m ((S.drop (i + 1)).flatMap Ord.cells)) := fun m o c h1 h2 => rd_drop h (i + 1) m o c (by omega) h1 h2
  obtain ⟨i0, hi0, hz0, hz1, hz2⟩ := info_parts Try.infoRo
  have HI := Hid.mk (And.intro hi0 (And.intro hz0 (And.intro hz1 hz2)))
  have HTL : Hid ((S.take i).length = i ∧ (S.drop (i + 1)).length = S.length - (i + 1)) := ⟨by rw [List.length_take]; omega, by rw [List.length_drop]⟩
  obtain ⟨n, hnn⟩ : ∃ n, S.length = n := ⟨_, rfl⟩
  obtain ⟨i1, hi1⟩ : ∃ i1, i + 1 = i1 := ⟨_, rfl⟩
  rw [hnn] at hi hn hc1
  rw [hi1] at HR2 HTL HE
  rw [hnn] at HR2 HTL
  generalize (S.take i) = P at *
  generalize (S.drop i1) = D at *
  clear h hcs hi0 hz0 hz1 hz2
  rw [hnn]
  have j1 : (i : Int) ≤ (cap : Int) := by omega
  have j2 : (0 : Int) ≤ (i : Int) := by omega
  have j3 : (i1 : Int) ≤ (n : Int) := by omega
  have j4 : (n : Int) ≤ (cap : Int) := by omega
  have j5 : (cap : Int) ≤ 9223372036854775807 := by unfold maxLen at hc2; omega
  have j6 : IntKind.i64.wrap ((i : Int) + 1) = (i1 : Int) := by rw [IntKind.wrap_i64]; omega
  have j7 : (i : Int) + 1 = (i1 : Int) := by omega
  have HI1 := Hid.mk (And.intro hi1 (And.intro hi hn))
  clear hi1 hi hn hnn
  by_cases hcap : cap = i1
  · subst hcap
    have hnc : n = cap := by have := HI1.out; omega
    subst hnc
    go_enter Try.func107, Try.ntmps107
    go_wp2_with (first
      | (at_builtin; refine wpList_append_row rfl _ _ 42 rfl w.heap.size 46 i0 _ 6 48 und_api HI.out.1 HI.out.2.1 HI.out.2.2.1 HI.out.2.2.2 rfl (by decide) (.slice none 0 0) 0 [] rfl (World.ownsRow_nil _ _ _ _) (.slice (some ⟨g, 0, none⟩) i _) i (P.flatMap Ord.cells) rfl HR1.out (flat_ones P) (by have := HI1.out; unfold maxLen; omega) (by have := HI1.out; omega) (Nat.le_refl _) ?_; intro rb capb w3 hown3 hg3 hv3; have hB3 : Hid (Below w.heap.size w w3) := Hid.mk ((Below.refl _ w).grown hg3 (Nat.le_refl _) (fun g hg => (by cases hg))); rw [Nat.zero_add, List.nil_append] at hown3; replace hown3 := Hid.mk hown3; clear hg3 hv3)
      | (at_builtin; refine wpList_append_row rfl _ _ 42 rfl w.heap.size 46 i0 _ 6 48 und_api HI.out.1 HI.out.2.1 HI.out.2.2.1 HI.out.2.2.2 rfl (by decide) (.slice rb i capb) i (P.flatMap Ord.cells) rfl hown3.out (.slice (some ⟨g, 0, none⟩) 0 0) 0 (D.flatMap Ord.cells) rfl (rd_below (HR2.out _ _ _ (by omega) (Or.inl rfl)) hB3.out (fun g' hg' => (by cases hg'; exact hgl))) (flat_ones D) (by have := HI1.out; unfold maxLen; omega) (by have := HI1.out; omega) hB3.out.size ?_; intro rc capc w4 hown4 hg4 hv4; have hB4 : Hid (Below w.heap.size w w4) := Hid.mk (hB3.out.grown hg4 hB3.out.size (fun g hg => (hown3.out.lt g hg).1)); replace hown4 := Hid.mk hown4; clear hg4 hv4))
    go_ret
    refine ⟨_, rfl, ?_, hB4.out⟩
    show World.ownsRow _ _ _ _ _ _ _
    rw [HE.out, List.length_append, List.flatMap_append, HTL.out.1, HTL.out.2]
    have := hown4.out
    rw [Nat.sub_self]
    exact this
  · go_enter Try.func107, Try.ntmps107
    go_wp2_with (first
      | (at_builtin; refine wpList_append_row rfl _ _ 42 rfl w.heap.size 46 i0 _ 6 48 und_api HI.out.1 HI.out.2.1 HI.out.2.2.1 HI.out.2.2.2 rfl (by decide) (.slice none 0 0) 0 [] rfl (World.ownsRow_nil _ _ _ _) (.slice (some ⟨g, 0, none⟩) i _) i (P.flatMap Ord.cells) rfl HR1.out (flat_ones P) (by have := HI1.out; unfold maxLen; omega) (by have := HI1.out; omega) (Nat.le_refl _) ?_; intro rb capb w3 hown3 hg3 hv3; have hB3 : Hid (Below w.heap.size w w3) := Hid.mk ((Below.refl _ w).grown hg3 (Nat.le_refl _) (fun g hg => (by cases hg))); rw [Nat.zero_add, List.nil_append] at hown3; replace hown3 := Hid.mk hown3; clear hg3 hv3)
      | (at_builtin; refine wpList_append_row rfl _ _ 42 rfl w.heap.size 46 i0 _ 6 48 und_api HI.out.1 HI.out.2.1 HI.out.2.2.1 HI.out.2.2.2 rfl (by decide) (.slice rb i capb) i (P.flatMap Ord.cells) rfl hown3.out (.slice (some ⟨g, i1 * 6, none⟩) (n - i1) (cap - i1)) (n - i1) (D.flatMap Ord.cells) rfl (rd_below (HR2.out _ _ _ rfl (Or.inr rfl)) hB3.out (fun g' hg' => (by cases hg'; exact hgl))) (flat_ones D) (by have := HI1.out; unfold maxLen; omega) (by have := HI1.out; omega) hB3.out.size ?_; intro rc capc w4 hown4 hg4 hv4; have hB4 : Hid (Below w.heap.size w w4) := Hid.mk (hB3.out.grown hg4 hB3.out.size (fun g hg => (hown3.out.lt g hg).1)); replace hown4 := Hid.mk hown4; clear hg4 hv4))
    go_ret
    refine ⟨_, rfl, ?_, hB4.out⟩
    show World.ownsRow _ _ _ _ _ _ _
    rw [HE.out, List.length_append, List.flatMap_append, HTL.out.1, HTL.out.2]
    have := hown4.out
    exact this

end Go.Proofs.Ytphkchjejbffeaa

/- The walk of the document's insert. -/
namespace Go.Proofs.Ytphkchjejbffeaa
open Go.RowKit
attribute [local go_sem ↓] Go.wp_at_zero Go.wp_at_succ

theorem ins_at (o : Ord) (S : List Ord) : ∀ (j : Nat), j ≤ S.length → (∀ x ∈ S.take j, aheadO x o = true) → (j = S.length ∨ ∃ x, S[j]? = some x ∧ aheadO x o = false) → insO o S = S.take j ++ o :: S.drop j := by
  induction S with
  | nil =>
    intro j hj _ _
    have : j = 0 := by simpa using hj
    subst this
    rfl
  | cons y S ih =>
    intro j hj h1 h2
    cases j with
    | zero =>
      rcases h2 with h2 | ⟨x, hx, hf⟩
      · simp at h2
      · simp at hx
        subst hx
        unfold insO
        rw [if_neg (by rw [hf]; simp)]
        rfl
    | succ j =>
      have hy := h1 y (by simp)
      unfold insO
      rw [if_pos hy, ih j (by simpa using hj) (fun x hx => h1 x (by simp [hx])) ?_]
      · rfl
      · rcases h2 with h2 | ⟨x, hx, hf⟩
        · left; simpa using h2
        · right; exact ⟨x, by simpa using hx, hf⟩

set_option maxRecDepth 100000 in
set_option maxHeartbeats 2000000 in
theorem insert_any (w : World) (base : Nat) (v : Value) (S : List Ord) (o : Ord) (h : RsAt w base v S) (hn : S.length ≤ 1000000000) :
    Calls Try.prog 104 #[v, .agg o.cells.toArray] w fun e w' => ∃ v', e = .returned v' ∧ RsAt w' w.heap.size v' (insO o S) ∧ Below w.heap.size w w' := by
  obtain ⟨ra, cap, rfl, hc1, hc2, -⟩ := h.form
  obtain ⟨i0, hi0, hz0, hz1, hz2⟩ := info_parts Try.infoRo
  have HI := Hid.mk (And.intro hi0 (And.intro hz0 (And.intro hz1 hz2)))
  have HH := Hid.mk h
  have hra : (ra = none ∧ S.length = 0 ∧ cap = 0) ∨ ∃ g, ra = some ⟨g, 0, none⟩ ∧ g < w.heap.size := by
    rcases h.2 with ⟨e, e2⟩ | ⟨g, cap', cur, e, -, e3, -⟩
    · simp only [Value.slice.injEq] at e
      exact .inl ⟨e.1, e2, e.2.2⟩
    · simp only [Value.slice.injEq] at e
      exact .inr ⟨g, e.1, (Array.getElem?_eq_some_iff.1 e3).1⟩
  obtain ⟨n, hnn⟩ : ∃ n, S.length = n := ⟨_, rfl⟩
  have HNL := Hid.mk hnn
  rw [hnn] at hn hc1 hra
  clear h hi0 hz0 hz1 hz2
  rw [hnn]
  clear hnn
  have j4 : (n : Int) ≤ (cap : Int) := by omega
  have j5 : (cap : Int) ≤ 9223372036854775807 := by unfold maxLen at hc2; omega
  unfold Ord.cells
  go_enter Try.func104, Try.ntmps104
  go_wp2_with fail
  generalize hO : Obj.cells _ 46 = O
  have k0 : (w.alloc O).cell? ⟨w.heap.size, 0, none⟩ = some (.int .i64 o.ref) := by rw [← hO]; exact new_cell _ _ _ 0 _ rfl
  have k1 : (w.alloc O).cell? ⟨w.heap.size, 1, none⟩ = some (.int .i64 o.token) := by rw [← hO]; exact new_cell _ _ _ 1 _ rfl
  have k2 : (w.alloc O).cell? ⟨w.heap.size, 2, none⟩ = some (.int .u8 o.side.toNat) := by rw [← hO]; exact new_cell _ _ _ 2 _ rfl
  have k3 : (w.alloc O).cell? ⟨w.heap.size, 3, none⟩ = some (.int .i64 o.stock) := by rw [← hO]; exact new_cell _ _ _ 3 _ rfl
  have k4 : (w.alloc O).cell? ⟨w.heap.size, 4, none⟩ = some (.int .i64 o.price) := by rw [← hO]; exact new_cell _ _ _ 4 _ rfl
  have k5 : (w.alloc O).cell? ⟨w.heap.size, 5, none⟩ = some (.int .i64 o.shares) := by rw [← hO]; exact new_cell _ _ _ 5 _ rfl
  have HBW : Hid (Below w.heap.size w (w.alloc O)) := (Below.refl _ w).alloc (Nat.le_refl _) O
  have HSZ : Hid ((w.alloc O).heap.size = w.heap.size + 1) := size_alloc _ _
  have HSR : Hid (RsAt (w.alloc O) base (.slice ra S.length cap) S) := ownsRow_keep HH.out (fun g hg => by rw [heap_alloc, if_neg (by have := (World.ownsRow.lt HH.out g hg).2; omega)])
  clear hO
  generalize w.alloc O = W at *
  have HK := Hid.mk (And.intro k0 (And.intro k1 (And.intro k2 (And.intro k3 (And.intro k4 k5)))))
  have HRD : Hid (∀ (w3 : World), Below W.heap.size W w3 → ∀ (m j : Nat) (vx : Value), j ≤ n → m = n - j → (vx = .slice none 0 0 ∧ n = 0 ∨ ∃ g o c, ra = some ⟨g, 0, none⟩ ∧ vx = .slice (some ⟨g, o, none⟩) m c ∧ (m = 0 ∨ o = j * 6)) → RdRow w3 6 vx m ((S.drop j).flatMap Ord.cells)) := by
    rintro w3 hB m j vx hj hm (⟨rfl, h0⟩ | ⟨g, o, c, rfl, rfl, ho⟩)
    · have hS : S = [] := List.length_eq_zero_iff.1 (by rw [HNL.out]; exact h0)
      subst hS
      have : m = 0 := by omega
      subst this
      exact .inl ⟨rfl, rfl, by simp⟩
    · refine rd_below (rd_drop HSR.out j m o c (by rw [HNL.out]; exact hj) (by rw [HNL.out]; exact hm) ho) hB (fun g' hg' => ?_)
      cases hg'
      exact (World.ownsRow.lt HSR.out g rfl).2
  have HLT : Hid (∀ j, j ≤ n → (S.take j).length = j) := fun j hj => by rw [List.length_take, HNL.out]; omega
  clear k0 k1 k2 k3 k4 k5
  go_loopw [5, 6] (fun v i wr => ∃ j : Nat, j ≤ n ∧ i = .int .i64 j ∧ Hid (wr.ownsRow W.heap.size 46 6 v j ((S.take j).flatMap Ord.cells)) ∧ Hid (Below W.heap.size W wr) ∧ Hid (∀ x ∈ S.take j, aheadO x o = true)) (fun _ i _ => n - (intOf i).toNat)
  case atStart => exact ⟨0, Nat.zero_le _, rfl, World.ownsRow_nil _ _ _ _, Below.refl _ _, fun x hx => by simp at hx⟩
  case round =>
    obtain ⟨j, hj, rfl, hown, hB, HAH⟩ := hrel
    have hbx : wr.cell? ⟨w.heap.size, 0, none⟩ = some (.int .i64 o.ref) ∧ wr.cell? ⟨w.heap.size, 1, none⟩ = some (.int .i64 o.token) ∧ wr.cell? ⟨w.heap.size, 2, none⟩ = some (.int .u8 o.side.toNat) ∧ wr.cell? ⟨w.heap.size, 3, none⟩ = some (.int .i64 o.stock) ∧ wr.cell? ⟨w.heap.size, 4, none⟩ = some (.int .i64 o.price) ∧ wr.cell? ⟨w.heap.size, 5, none⟩ = some (.int .i64 o.shares) := by
      have hlt : w.heap.size < W.heap.size := by have := HSZ.out; omega
      obtain ⟨k0, k1, k2, k3, k4, k5⟩ := HK.out
      exact ⟨(hB.out.cell (p := ⟨w.heap.size, 0, none⟩) hlt).trans k0, (hB.out.cell (p := ⟨w.heap.size, 1, none⟩) hlt).trans k1, (hB.out.cell (p := ⟨w.heap.size, 2, none⟩) hlt).trans k2, (hB.out.cell (p := ⟨w.heap.size, 3, none⟩) hlt).trans k3, (hB.out.cell (p := ⟨w.heap.size, 4, none⟩) hlt).trans k4, (hB.out.cell (p := ⟨w.heap.size, 5, none⟩) hlt).trans k5⟩
    by_cases hjl : j < n
    · obtain ⟨g, rfl, hgl⟩ : ∃ g, ra = some ⟨g, 0, none⟩ ∧ g < w.heap.size := by
        rcases hra with ⟨-, h0, -⟩ | h0
        · omega
        · exact h0
      obtain ⟨x, hx⟩ : ∃ x, S[j]? = some x := ⟨_, List.getElem?_eq_getElem (by rw [HNL.out]; exact hjl)⟩
      have hgW : g < W.heap.size := by have := HSZ.out; omega
      obtain ⟨d0, d1, d2, d3, d4, d5⟩ : wr.cell? ⟨g, j * 6, none⟩ = some (.int .i64 x.ref) ∧ wr.cell? ⟨g, j * 6 + 1, none⟩ = some (.int .i64 x.token) ∧ wr.cell? ⟨g, j * 6 + 2, none⟩ = some (.int .u8 x.side.toNat) ∧ wr.cell? ⟨g, j * 6 + 3, none⟩ = some (.int .i64 x.stock) ∧ wr.cell? ⟨g, j * 6 + 4, none⟩ = some (.int .i64 x.price) ∧ wr.cell? ⟨g, j * 6 + 5, none⟩ = some (.int .i64 x.shares) := by
        obtain ⟨ra', cap', e, -, -, hcs⟩ := HSR.out.form
        obtain ⟨g', e', -, -, -, hrg⟩ := hcs j x hx
        simp only [Value.slice.injEq] at e
        rw [e'] at e
        simp only [Option.some.injEq, Addr.mk.injEq, and_true] at e
        obtain ⟨rfl, -, -⟩ := e
        exact ord_cells x hB.out hgW (fun t u _ hu => hrg t u hu)
      have HX := Hid.mk hx
      have i2 : (j : Int) < (n : Int) := by omega
      have i3 : (0 : Int) ≤ (j : Int) := by omega
      have HAA : Hid (∀ W', Calls Try.prog 135 #[.agg #[.int .i64 x.ref, .int .i64 x.token, .int .u8 x.side.toNat, .int .i64 x.stock, .int .i64 x.price, .int .i64 x.shares], .agg #[.int .i64 o.ref, .int .i64 o.token, .int .u8 o.side.toNat, .int .i64 o.stock, .int .i64 o.price, .int .i64 o.shares]] W' fun e w' => e = .returned (.bool (aheadO x o)) ∧ Below W'.heap.size W' w') := fun W' => rahead_any x o W'
      obtain ⟨ah, hah⟩ : ∃ ah, aheadO x o = ah := ⟨_, rfl⟩
      rw [hah] at HAA
      have HAV := Hid.mk hah
      clear hah
      obtain ⟨k0, k1, k2, k3, k4, k5⟩ := hbx
      have hgr : g < wr.heap.size := Nat.lt_of_lt_of_le hgW hB.out.size
      have hwr : w.heap.size < wr.heap.size := by have h1 := HSZ.out; have h2 := hB.out.size; omega
      clear hx hra
      go_wp2_with fail
      go_region_held3 (fun w' => (w'.cell? ⟨g, j * 6, none⟩ = some (.int .i64 x.ref) ∧ w'.cell? ⟨g, j * 6 + 1, none⟩ = some (.int .i64 x.token) ∧ w'.cell? ⟨g, j * 6 + 2, none⟩ = some (.int .u8 x.side.toNat) ∧ w'.cell? ⟨g, j * 6 + 3, none⟩ = some (.int .i64 x.stock) ∧ w'.cell? ⟨g, j * 6 + 4, none⟩ = some (.int .i64 x.price) ∧ w'.cell? ⟨g, j * 6 + 5, none⟩ = some (.int .i64 x.shares)) ∧ w'.cell? ⟨w.heap.size, 0, none⟩ = some (.int .i64 o.ref) ∧ w'.cell? ⟨w.heap.size, 1, none⟩ = some (.int .i64 o.token) ∧ w'.cell? ⟨w.heap.size, 2, none⟩ = some (.int .u8 o.side.toNat) ∧ w'.cell? ⟨w.heap.size, 3, none⟩ = some (.int .i64 o.stock) ∧ w'.cell? ⟨w.heap.size, 4, none⟩ = some (.int .i64 o.price) ∧ w'.cell? ⟨w.heap.size, 5, none⟩ = some (.int .i64 o.shares)) (first | exact m1 | go_keep)
        ((go_at_call 135; refine (HAA.out _).mono ?_; rintro e w2 ⟨rfl, hb2⟩; have m1 := And.intro (And.intro ((hb2.cell (p := ⟨g, j * 6, none⟩) hgr).trans d0) (And.intro ((hb2.cell (p := ⟨g, j * 6 + 1, none⟩) hgr).trans d1) (And.intro ((hb2.cell (p := ⟨g, j * 6 + 2, none⟩) hgr).trans d2) (And.intro ((hb2.cell (p := ⟨g, j * 6 + 3, none⟩) hgr).trans d3) (And.intro ((hb2.cell (p := ⟨g, j * 6 + 4, none⟩) hgr).trans d4) ((hb2.cell (p := ⟨g, j * 6 + 5, none⟩) hgr).trans d5)))))) (And.intro ((hb2.cell (p := ⟨w.heap.size, 0, none⟩) hwr).trans k0) (And.intro ((hb2.cell (p := ⟨w.heap.size, 1, none⟩) hwr).trans k1) (And.intro ((hb2.cell (p := ⟨w.heap.size, 2, none⟩) hwr).trans k2) (And.intro ((hb2.cell (p := ⟨w.heap.size, 3, none⟩) hwr).trans k3) (And.intro ((hb2.cell (p := ⟨w.heap.size, 4, none⟩) hwr).trans k4) ((hb2.cell (p := ⟨w.heap.size, 5, none⟩) hwr).trans k5)))))); replace hb2 := Hid.mk hb2))
      have HB2 : Hid (Below W.heap.size W w2) := hB.out.drew.trans (hb2.out.mono (by show W.heap.size ≤ wr.heap.size; exact hB.out.size))
      have hown2 : w2.ownsRow W.heap.size 46 6 u5 j ((S.take j).flatMap Ord.cells) := ownsRow_keep hown.out (fun g hg => by
        have := (hown.out.lt g hg).2
        exact hb2.out.block g this)
      have HOA : Hid (∀ Ob : Obj, (w2.alloc Ob).ownsRow W.heap.size 46 6 u5 j ((S.take j).flatMap Ord.cells)) := fun Ob => ownsRow_keep hown2 (fun g hg => by rw [heap_alloc, if_neg (by have := (hown2.lt g hg).2; omega)])
      have HOX := Hid.mk hown2
      obtain ⟨⟨d0', d1', d2', d3', d4', d5'⟩, k0', k1', k2', k3', k4', k5'⟩ := m1
      clear hown2 hown hB d0 d1 d2 d3 d4 d5 k0 k1 k2 k3 k4 k5 HAA hb2
      cases ah with
      | true =>
        have HTK : Hid (S.take (j + 1) = S.take j ++ [x]) := by
          show _ = _
          rw [List.take_add_one, HX.out]
          rfl
        go_wp2_with (at_builtin; go_must (refine wpList_append_row rfl _ _ 42 rfl W.heap.size 46 i0 _ 6 48 und_api HI.out.1 HI.out.2.1 HI.out.2.2.1 HI.out.2.2.2 rfl (by decide) u5 j ((S.take j).flatMap Ord.cells) rfl (HOA.out _) (.slice (some ⟨w2.heap.size, 0, none⟩) 1 1) 1 x.cells rfl (rdRow_api w2 x) (cells_ones x) (by unfold maxLen; omega) (by omega) (by rw [size_alloc]; have := HB2.out.size; omega) ?_); intro rb capb w3 hown3 hg3 hv3; have hB3 : Hid (Below W.heap.size W w3) := Hid.mk ((HB2.out.alloc HB2.out.size _).grown hg3 (by rw [size_alloc]; have := HB2.out.size; omega) (fun g hg => (HOX.out.lt g hg).1)); replace hown3 := Hid.mk hown3; clear hg3 hv3)
        refine ⟨⟨j + 1, by omega, by go_num, ?_, hB3, ?_⟩, by simp [intOf]; omega⟩
        · show World.ownsRow _ _ _ _ _ _ _
          rw [HTK.out, List.flatMap_append]
          simpa using hown3.out
        · show ∀ y ∈ S.take (j + 1), _
          rw [HTK.out]
          intro y hy
          rcases List.mem_append.1 hy with hy | hy
          · exact HAH.out y hy
          · simp at hy
            rw [hy]
            exact HAV.out
      | false =>
        have b7 : ¬ cap = j := by omega
        have b8 : (j : Int) ≤ (n : Int) := by omega
        have HIN : Hid (insO o S = S.take j ++ o :: S.drop j) := ins_at o S j (by rw [HNL.out]; exact hj) HAH.out (Or.inr ⟨x, HX.out, HAV.out⟩)
        go_wp2_with (first
          | (at_builtin; refine wpList_append_row rfl _ _ 42 rfl W.heap.size 46 i0 _ 6 48 und_api HI.out.1 HI.out.2.1 HI.out.2.2.1 HI.out.2.2.2 rfl (by decide) u5 j ((S.take j).flatMap Ord.cells) rfl (HOA.out _) (.slice (some ⟨w2.heap.size, 0, none⟩) 1 1) 1 o.cells rfl (rdRow_api w2 o) (cells_ones o) (by unfold maxLen; omega) (by omega) (by rw [size_alloc]; have := HB2.out.size; omega) ?_; intro rb capb w3 hown3 hg3 hv3; have hB3 : Hid (Below W.heap.size W w3) := Hid.mk ((HB2.out.alloc HB2.out.size _).grown hg3 (by rw [size_alloc]; have := HB2.out.size; omega) (fun g hg => (HOX.out.lt g hg).1)); replace hown3 := Hid.mk hown3; clear hg3 hv3)
          | (at_builtin; refine wpList_append_row rfl _ _ 42 rfl W.heap.size 46 i0 _ 6 48 und_api HI.out.1 HI.out.2.1 HI.out.2.2.1 HI.out.2.2.2 rfl (by decide) (.slice rb (j + 1) capb) (j + 1) ((S.take j).flatMap Ord.cells ++ o.cells) rfl hown3.out (.slice (some ⟨g, j * 6, none⟩) (n - j) (cap - j)) _ ((S.drop j).flatMap Ord.cells) rfl (HRD.out w3 hB3.out _ _ _ hj rfl (Or.inr ⟨g, _, _, rfl, rfl, Or.inr rfl⟩)) (flat_ones _) (by unfold maxLen; omega) (by omega) hB3.out.size ?_; intro rc capc w4 hown4 hg4 hv4; have hB4 : Hid (Below W.heap.size W w4) := Hid.mk (hB3.out.grown hg4 hB3.out.size (fun g hg => (hown3.out.lt g hg).1)); replace hown4 := Hid.mk hown4; clear hg4 hv4))
        go_ret
        refine ⟨_, rfl, ?_, HBW.out.trans (hB4.out.mono (by have := HSZ.out; omega))⟩
        show World.ownsRow _ _ _ _ _ _ _
        rw [HIN.out, List.length_append, List.length_cons, List.flatMap_append, List.flatMap_cons, List.length_take, List.length_drop, HNL.out, Nat.min_eq_left hj]
        have := ownsRow_base hown4.out (b' := w.heap.size) (by have := HSZ.out; omega)
        rw [List.append_assoc] at this
        rw [show j + (n - j + 1) = j + 1 + (n - j) by omega]
        exact this
    · rcases hra with ⟨rfl, hn0, rfl⟩ | ⟨g, rfl, hgl⟩
      · have hj0 : j = 0 := by omega
        subst hj0
        subst hn0
        obtain ⟨k0, k1, k2, k3, k4, k5⟩ := hbx
        have HB2 := hB
        have HOX := hown
        have HOA : Hid (∀ Ob : Obj, (wr.alloc Ob).ownsRow W.heap.size 46 6 u5 0 ((S.take 0).flatMap Ord.cells)) := fun Ob => ownsRow_keep hown.out (fun g hg => by rw [heap_alloc, if_neg (by have := (hown.out.lt g hg).2; omega)])
        have HIN : Hid (insO o S = S.take 0 ++ o :: S.drop 0) := ins_at o S 0 (by rw [HNL.out]; exact hj) HAH.out (Or.inl HNL.out.symm)
        go_wp2_with (first
          | (at_builtin; refine wpList_append_row rfl _ _ 42 rfl W.heap.size 46 i0 _ 6 48 und_api HI.out.1 HI.out.2.1 HI.out.2.2.1 HI.out.2.2.2 rfl (by decide) u5 0 ((S.take 0).flatMap Ord.cells) rfl (HOA.out _) (.slice (some ⟨wr.heap.size, 0, none⟩) 1 1) 1 o.cells rfl (rdRow_api wr o) (cells_ones o) (by unfold maxLen; omega) (by omega) (by rw [size_alloc]; have := HB2.out.size; omega) ?_; intro rb capb w3 hown3 hg3 hv3; have hB3 : Hid (Below W.heap.size W w3) := Hid.mk ((HB2.out.alloc HB2.out.size _).grown hg3 (by rw [size_alloc]; have := HB2.out.size; omega) (fun g hg => (HOX.out.lt g hg).1)); replace hown3 := Hid.mk hown3; clear hg3 hv3)
          | (at_builtin; refine wpList_append_row rfl _ _ 42 rfl W.heap.size 46 i0 _ 6 48 und_api HI.out.1 HI.out.2.1 HI.out.2.2.1 HI.out.2.2.2 rfl (by decide) (.slice rb (0 + 1) capb) (0 + 1) ((S.take 0).flatMap Ord.cells ++ o.cells) rfl hown3.out (.slice none 0 0) _ ((S.drop 0).flatMap Ord.cells) rfl (HRD.out w3 hB3.out _ _ _ (Nat.le_refl _) rfl (Or.inl ⟨rfl, rfl⟩)) (flat_ones _) (by unfold maxLen; omega) (by omega) hB3.out.size ?_; intro rc capc w4 hown4 hg4 hv4; have hB4 : Hid (Below W.heap.size W w4) := Hid.mk (hB3.out.grown hg4 hB3.out.size (fun g hg => (hown3.out.lt g hg).1)); replace hown4 := Hid.mk hown4; clear hg4 hv4))
        go_ret
        refine ⟨_, rfl, ?_, HBW.out.trans (hB4.out.mono (by have := HSZ.out; omega))⟩
        show World.ownsRow _ _ _ _ _ _ _
        rw [HIN.out, List.length_append, List.length_cons, List.flatMap_append, List.flatMap_cons, List.length_take, List.length_drop, HNL.out, Nat.min_eq_left hj]
        have := ownsRow_base hown4.out (b' := w.heap.size) (by have := HSZ.out; omega)
        rw [List.append_assoc] at this
        exact this
      · by_cases hcj : cap = j
        · have e1 : j = n := by omega
          subst e1
          have e2 : j = cap := hcj.symm
          subst e2
          obtain ⟨k0, k1, k2, k3, k4, k5⟩ := hbx
          have HB2 := hB
          have HOX := hown
          have HOA : Hid (∀ Ob : Obj, (wr.alloc Ob).ownsRow W.heap.size 46 6 u5 j ((S.take j).flatMap Ord.cells)) := fun Ob => ownsRow_keep hown.out (fun g hg => by rw [heap_alloc, if_neg (by have := (hown.out.lt g hg).2; omega)])
          have HIN : Hid (insO o S = S.take j ++ o :: S.drop j) := ins_at o S j (by rw [HNL.out]; exact hj) HAH.out (Or.inl HNL.out.symm)
          go_wp2_with (first
            | (at_builtin; refine wpList_append_row rfl _ _ 42 rfl W.heap.size 46 i0 _ 6 48 und_api HI.out.1 HI.out.2.1 HI.out.2.2.1 HI.out.2.2.2 rfl (by decide) u5 j ((S.take j).flatMap Ord.cells) rfl (HOA.out _) (.slice (some ⟨wr.heap.size, 0, none⟩) 1 1) 1 o.cells rfl (rdRow_api wr o) (cells_ones o) (by unfold maxLen; omega) (by omega) (by rw [size_alloc]; have := HB2.out.size; omega) ?_; intro rb capb w3 hown3 hg3 hv3; have hB3 : Hid (Below W.heap.size W w3) := Hid.mk ((HB2.out.alloc HB2.out.size _).grown hg3 (by rw [size_alloc]; have := HB2.out.size; omega) (fun g hg => (HOX.out.lt g hg).1)); replace hown3 := Hid.mk hown3; clear hg3 hv3)
            | (at_builtin; refine wpList_append_row rfl _ _ 42 rfl W.heap.size 46 i0 _ 6 48 und_api HI.out.1 HI.out.2.1 HI.out.2.2.1 HI.out.2.2.2 rfl (by decide) (.slice rb (j + 1) capb) (j + 1) ((S.take j).flatMap Ord.cells ++ o.cells) rfl hown3.out (.slice (some ⟨g, 0, none⟩) 0 0) _ ((S.drop j).flatMap Ord.cells) rfl (HRD.out w3 hB3.out _ _ _ (Nat.le_refl _) (by omega) (Or.inr ⟨g, 0, 0, rfl, rfl, Or.inl rfl⟩)) (flat_ones _) (by unfold maxLen; omega) (by omega) hB3.out.size ?_; intro rc capc w4 hown4 hg4 hv4; have hB4 : Hid (Below W.heap.size W w4) := Hid.mk (hB3.out.grown hg4 hB3.out.size (fun g hg => (hown3.out.lt g hg).1)); replace hown4 := Hid.mk hown4; clear hg4 hv4))
          go_ret
          refine ⟨_, rfl, ?_, HBW.out.trans (hB4.out.mono (by have := HSZ.out; omega))⟩
          show World.ownsRow _ _ _ _ _ _ _
          rw [HIN.out, List.length_append, List.length_cons, List.flatMap_append, List.flatMap_cons, List.length_take, List.length_drop, HNL.out, Nat.min_eq_left hj]
          have := ownsRow_base hown4.out (b' := w.heap.size) (by have := HSZ.out; omega)
          rw [List.append_assoc] at this
          rw [Nat.sub_self]
          exact this
        · have e1 : j = n := by omega
          subst e1
          obtain ⟨k0, k1, k2, k3, k4, k5⟩ := hbx
          have HB2 := hB
          have HOX := hown
          have HOA : Hid (∀ Ob : Obj, (wr.alloc Ob).ownsRow W.heap.size 46 6 u5 j ((S.take j).flatMap Ord.cells)) := fun Ob => ownsRow_keep hown.out (fun g hg => by rw [heap_alloc, if_neg (by have := (hown.out.lt g hg).2; omega)])
          have HIN : Hid (insO o S = S.take j ++ o :: S.drop j) := ins_at o S j (by rw [HNL.out]; exact hj) HAH.out (Or.inl HNL.out.symm)
          go_wp2_with (first
            | (at_builtin; refine wpList_append_row rfl _ _ 42 rfl W.heap.size 46 i0 _ 6 48 und_api HI.out.1 HI.out.2.1 HI.out.2.2.1 HI.out.2.2.2 rfl (by decide) u5 j ((S.take j).flatMap Ord.cells) rfl (HOA.out _) (.slice (some ⟨wr.heap.size, 0, none⟩) 1 1) 1 o.cells rfl (rdRow_api wr o) (cells_ones o) (by unfold maxLen; omega) (by omega) (by rw [size_alloc]; have := HB2.out.size; omega) ?_; intro rb capb w3 hown3 hg3 hv3; have hB3 : Hid (Below W.heap.size W w3) := Hid.mk ((HB2.out.alloc HB2.out.size _).grown hg3 (by rw [size_alloc]; have := HB2.out.size; omega) (fun g hg => (HOX.out.lt g hg).1)); replace hown3 := Hid.mk hown3; clear hg3 hv3)
            | (at_builtin; refine wpList_append_row rfl _ _ 42 rfl W.heap.size 46 i0 _ 6 48 und_api HI.out.1 HI.out.2.1 HI.out.2.2.1 HI.out.2.2.2 rfl (by decide) (.slice rb (j + 1) capb) (j + 1) ((S.take j).flatMap Ord.cells ++ o.cells) rfl hown3.out (.slice (some ⟨g, j * 6, none⟩) 0 (cap - j)) _ ((S.drop j).flatMap Ord.cells) rfl (HRD.out w3 hB3.out _ _ _ (Nat.le_refl _) (by omega) (Or.inr ⟨g, _, _, rfl, rfl, Or.inr rfl⟩)) (flat_ones _) (by unfold maxLen; omega) (by omega) hB3.out.size ?_; intro rc capc w4 hown4 hg4 hv4; have hB4 : Hid (Below W.heap.size W w4) := Hid.mk (hB3.out.grown hg4 hB3.out.size (fun g hg => (hown3.out.lt g hg).1)); replace hown4 := Hid.mk hown4; clear hg4 hv4))
          go_ret
          refine ⟨_, rfl, ?_, HBW.out.trans (hB4.out.mono (by have := HSZ.out; omega))⟩
          show World.ownsRow _ _ _ _ _ _ _
          rw [HIN.out, List.length_append, List.length_cons, List.flatMap_append, List.flatMap_cons, List.length_take, List.length_drop, HNL.out, Nat.min_eq_left hj]
          have := ownsRow_base hown4.out (b' := w.heap.size) (by have := HSZ.out; omega)
          rw [List.append_assoc] at this
          rw [Nat.sub_self]
          exact this

end Go.Proofs.Ytphkchjejbffeaa

/- The walks of the document's gone and other. -/
namespace Go.Proofs.Ytphkchjejbffeaa
open Go.RowKit
attribute [local go_sem ↓] Go.wp_at_zero Go.wp_at_succ

/-- What the lists of the document hold. -/
def SmR (S : List Ord) : Prop := ∀ o ∈ S, o.small ∧ o.token = 0

theorem rs_set (l : List Ord) (i j : Nat) (x y : Ord) (u : Value) (hi : l[i]? = some x) (hj : j < 6) (hy : y.cells = x.cells.set j u) : (l.flatMap Ord.cells).set (i * 6 + j) u = (l.set i y).flatMap Ord.cells := by
  have hlen : ∀ z : Ord, z.cells.length = 6 := fun _ => rfl
  induction l generalizing i with
  | nil => simp at hi
  | cons z l ih =>
    cases i with
    | zero =>
      simp at hi
      subst hi
      rw [List.flatMap_cons, Nat.zero_mul, Nat.zero_add, List.set_append_left _ _ (by rw [hlen]; omega), ← hy]
      rfl
    | succ i =>
      simp at hi
      rw [List.flatMap_cons, List.set_append_right _ _ (by rw [hlen]; omega), show (i + 1) * 6 + j - z.cells.length = i * 6 + j by rw [hlen]; omega, ih i hi]
      rfl
theorem RsAt.put {w : World} {base g len cap : Nat} {l : List Ord} (h : RsAt w base (.slice (some ⟨g, 0, none⟩) len cap) l) (i j : Nat) (x y : Ord) (u : Value) (hi : l[i]? = some x) (hj : j < 6) (hy : y.cells = x.cells.set j u) :
    RsAt (w.setCell ⟨g, i * 6 + j, none⟩ u) base (.slice (some ⟨g, 0, none⟩) len cap) (l.set i y) := by
  refine ⟨by rw [← rs_set l i j x y u hi hj hy, List.length_set, List.length_set]; exact h.1, ?_⟩
  rcases h.2 with ⟨h1, -⟩ | ⟨g', cap', cur, h1, h2, h3, h4, h5, h6, h7⟩
  · simp at h1
  · simp only [Value.slice.injEq, Option.some.injEq, Addr.mk.injEq] at h1
    obtain ⟨⟨rfl, -, -⟩, h1, rfl⟩ := h1
    refine .inr ⟨g, cap, cur.setIfInBounds (i * 6 + j) u, by rw [List.length_set, h1], h2, heap_setCell_same w g (i * 6 + j) _ _ u h3, by rw [List.length_set]; exact h4, h5, by rw [Array.size_setIfInBounds]; exact h6, ?_⟩
    rw [← rs_set l i j x y u hi hj hy, List.length_set, ← h7, Array.toList_setIfInBounds, List.take_set]
theorem RsAt.putAll {w : World} {base g len cap : Nat} {l : List Ord} (h : RsAt w base (.slice (some ⟨g, 0, none⟩) len cap) l) (i : Nat) (x y : Ord) (hi : l[i]? = some x) :
    RsAt ((((((w.setCell ⟨g, i * 6, none⟩ (.int .i64 y.ref)).setCell ⟨g, i * 6 + 1, none⟩ (.int .i64 y.token)).setCell ⟨g, i * 6 + 2, none⟩ (.int .u8 y.side.toNat)).setCell ⟨g, i * 6 + 3, none⟩ (.int .i64 y.stock)).setCell ⟨g, i * 6 + 4, none⟩ (.int .i64 y.price)).setCell ⟨g, i * 6 + 5, none⟩ (.int .i64 y.shares)) base (.slice (some ⟨g, 0, none⟩) len cap) (l.set i y) := by
  have hlt := (List.getElem?_eq_some_iff.1 hi).1
  have hg : ∀ z, (l.set i z)[i]? = some z := fun z => by rw [List.getElem?_set, if_pos rfl, if_pos hlt]
  have a0 := h.put i 0 x { x with ref := y.ref } (.int .i64 y.ref) hi (by omega) rfl
  have a1 := a0.put i 1 { x with ref := y.ref } { x with ref := y.ref, token := y.token } (.int .i64 y.token) (hg _) (by omega) rfl
  have a2 := a1.put i 2 { x with ref := y.ref, token := y.token } { x with ref := y.ref, token := y.token, side := y.side } (.int .u8 y.side.toNat) (by simp only [List.set_set]; exact hg _) (by omega) rfl
  have a3 := a2.put i 3 { x with ref := y.ref, token := y.token, side := y.side } { x with ref := y.ref, token := y.token, side := y.side, stock := y.stock } (.int .i64 y.stock) (by simp only [List.set_set]; exact hg _) (by omega) rfl
  have a4 := a3.put i 4 { x with ref := y.ref, token := y.token, side := y.side, stock := y.stock } { x with ref := y.ref, token := y.token, side := y.side, stock := y.stock, price := y.price } (.int .i64 y.price) (by simp only [List.set_set]; exact hg _) (by omega) rfl
  have a5 := a4.put i 5 { x with ref := y.ref, token := y.token, side := y.side, stock := y.stock, price := y.price } y (.int .i64 y.shares) (by simp only [List.set_set]; exact hg _) (by omega) rfl
  simp only [List.set_set] at a5
  exact a5

/-- What a message of the tape does to the document's list. -/
def RefP (res : Option (List Ord)) (base : Nat) (w : World) (e : Ending) (w' : World) : Prop :=
  Below base w w' ∧ ((res = none ∧ e = .returned (.tuple #[.slice none 0 0, .bool false])) ∨ ∃ S' v', res = some S' ∧ e = .returned (.tuple #[v', .bool true]) ∧ RsAt w' base v' S' ∧ SmR S')

theorem SmR.set {S : List Ord} (h : SmR S) {i : Nat} {y : Ord} (hy : y.small ∧ y.token = 0) : SmR (S.set i y) := fun o ho => by
  rcases mem_set ho with rfl | ho
  · exact hy
  · exact h o ho
theorem SmR.erase {S : List Ord} (h : SmR S) (i : Nat) : SmR (S.eraseIdx i) := fun o ho => h o (List.mem_of_mem_eraseIdx ho)
theorem ins_mem {o x : Ord} {S : List Ord} (h : x ∈ insO o S) : x = o ∨ x ∈ S := by
  induction S with
  | nil =>
    left
    simpa [insO] using h
  | cons y S ih =>
    unfold insO at h
    split at h
    · rcases List.mem_cons.1 h with rfl | h
      · right; simp
      · rcases ih h with h | h
        · exact .inl h
        · right; simp [h]
    · rcases List.mem_cons.1 h with rfl | h
      · exact .inl rfl
      · exact .inr h
theorem SmR.ins {S : List Ord} (h : SmR S) {y : Ord} (hy : y.small ∧ y.token = 0) : SmR (insO y S) := fun o ho => by
  rcases ins_mem ho with rfl | ho
  · exact hy
  · exact h o ho

def ixv : Option Nat → Int
  | none => -1
  | some i => (i : Int)
theorem rfi_ixv (S : List Ord) (t : Nat) : rfi S t = ixv (rfind S t) := by
  unfold rfi ixv
  cases rfind S t <;> rfl

set_option maxRecDepth 100000 in
set_option maxHeartbeats 2000000 in
theorem rgone_any {w : World} {base : Nat} {v : Value} {S : List Ord} (h : RsAt w base v S) (hsm : SmR S) (hb : base ≤ w.heap.size) (hn : S.length ≤ 1000000000) (iop : Option Nat) (hi : ∀ i, iop = some i → i < S.length) (n : Nat) (hn2 : n < 65536) (all : Bool) :
    Calls Try.prog 105 #[v, .int .i64 (ixv iop), .int .i64 n, .bool all] w (RefP (rGone S iop n all) base w) := by
  cases iop with
  | none =>
    have HR : Hid (rGone S none n all = none) := rfl
    generalize rGone S none n all = res at *
    have hx : ixv none = -1 := rfl
    rw [hx]
    clear h hi hx
    go_enter Try.func105, Try.ntmps105
    go_wp2_with fail
    go_ret2
    exact ⟨Below.refl _ _, Or.inl ⟨HR.out, rfl⟩⟩
  | some i =>
    have hil := hi i rfl
    obtain ⟨o, ho⟩ : ∃ o, S[i]? = some o := ⟨_, List.getElem?_eq_getElem hil⟩
    have hR : rGone S (some i) n all = if n = 0 ∨ o.shares < n ∨ (n = o.shares ∧ all = false) then none else if n = o.shares then some (S.eraseIdx i) else some (S.set i { o with shares := o.shares - n }) := by
      simp only [rGone, ho]
    generalize rGone S (some i) n all = res at *
    obtain ⟨ra, cap, rfl, hc1, hc2, hcs⟩ := h.form
    obtain ⟨g, rfl, hbg, hgl, hfz, hrg⟩ := hcs i o ho
    have c5 : w.cell? ⟨g, i * 6 + 5, none⟩ = some (.int .i64 o.shares) := hrg 5 _ rfl
    have f5 := hfz (i * 6 + 5)
    have hos := hsm o (List.mem_of_getElem? ho)
    have hosh := hos.1.shares
    have i1 : (0 : Int) ≤ (i : Int) := by omega
    have i2 : (i : Int) < (S.length : Int) := by omega
    have i3 : ¬ (i : Int) < 0 := by omega
    have HH := Hid.mk (And.intro h (And.intro ho hsm))
    have hx : ixv (some i) = (i : Int) := rfl
    rw [hx]
    clear h hcs hfz hrg hi hx
    by_cases h0 : n = 0
    · have b0 : ((n : Int) == 0) = true := by simp [h0]
      have HE : Hid (res = none) := by rw [hR, if_pos (Or.inl h0)]; rfl
      clear hR h0
      go_enter Try.func105, Try.ntmps105
      go_wp2_with fail
      go_ret2
      exact ⟨Below.refl _ _, Or.inl ⟨HE.out, rfl⟩⟩
    · have b0 : ((n : Int) == 0) = false := by rw [beq_eq_false_iff_ne]; omega
      by_cases h1 : o.shares < n
      · have b1 : (o.shares : Int) < (n : Int) := by omega
        have HE : Hid (res = none) := by rw [hR, if_pos (Or.inr (Or.inl h1))]; rfl
        clear hR h0 h1
        go_enter Try.func105, Try.ntmps105
        go_wp2_with fail
        go_ret2
        exact ⟨Below.refl _ _, Or.inl ⟨HE.out, rfl⟩⟩
      · have b1 : ¬ (o.shares : Int) < (n : Int) := by omega
        by_cases h2 : n = o.shares
        · have b2 : ((n : Int) == (o.shares : Int)) = true := by simp [h2]
          cases all with
          | false =>
            have HE : Hid (res = none) := by rw [hR, if_pos (Or.inr (Or.inr ⟨h2, rfl⟩))]; rfl
            clear hR h0 h1 h2
            go_enter Try.func105, Try.ntmps105
            go_wp2_with fail
            go_ret2
            exact ⟨Below.refl _ _, Or.inl ⟨HE.out, rfl⟩⟩
          | true =>
            have HE : Hid (res = some (S.eraseIdx i)) := by rw [hR, if_neg (by rintro (hh | hh | hh); exact h0 hh; exact h1 hh; cases hh.2), if_pos h2]; rfl
            have HWO := Hid.mk (without_any w base _ S i HH.out.1 hil hn)
            clear hR h0 h1 h2
            go_enter Try.func105, Try.ntmps105
            go_wp2_with fail
            refine HWO.out.mono ?_
            rintro e w2 ⟨v2, rfl, hr2, hb2⟩
            have H2 := Hid.mk (And.intro hr2 hb2)
            clear hr2 hb2
            go_wp2_with fail
            go_ret2
            exact ⟨H2.out.2.mono hb, Or.inr ⟨_, v2, HE.out, rfl, ownsRow_base H2.out.1 hb, HH.out.2.2.erase i⟩⟩
        · have b2 : ((n : Int) == (o.shares : Int)) = false := by rw [beq_eq_false_iff_ne]; omega
          have HE : Hid (res = some (S.set i { o with shares := o.shares - n })) := by rw [hR, if_neg (by rintro (hh | hh | hh); exact h0 hh; exact h1 hh; exact h2 hh.1), if_neg h2]; rfl
          obtain ⟨d, hd⟩ : ∃ d, o.shares - n = d := ⟨_, rfl⟩
          have w1 : IntKind.i64.wrap ((o.shares : Int) - (n : Int)) = (d : Int) := by rw [IntKind.wrap_i64]; omega
          have w2 : (o.shares : Int) - (n : Int) = (d : Int) := by omega
          have HD := Hid.mk hd
          clear hR h0 h1 h2 hd
          go_enter Try.func105, Try.ntmps105
          go_wp2_with fail
          go_ret2
          refine ⟨(Fr.setCell w ⟨g, i * 6 + 5, none⟩ _).belowB hb hbg, Or.inr ⟨_, _, HE.out, rfl, ?_, ?_⟩⟩
          · rw [HD.out]
            exact HH.out.1.put i 5 o { o with shares := d } (.int .i64 d) HH.out.2.1 (by omega) rfl
          · rw [HD.out]
            exact HH.out.2.2.set ⟨⟨hos.1.ref, hos.1.token, hos.1.stock, hos.1.price, by show d < 65536; have := HD.out; omega⟩, hos.2⟩

end Go.Proofs.Ytphkchjejbffeaa
