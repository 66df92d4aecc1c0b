/- bourselaw's back. -/
import Derived.Test.YtphkchjejbffeaaG26
namespace Go.Proofs.Ytphkchjejbffeaa
open Go.RowKit
attribute [local go_sem ↓] Go.wp_at_zero Go.wp_at_succ

theorem wrap_small (k : Nat) (h : k ≤ 100000000) : wrap64 (k : Int) = (k : Int) := by unfold wrap64; omega

theorem wrap_less (k k1 : Nat) (h : k + 1 = k1) (hk : k ≤ 100000000) : IntKind.i64.wrap ((k1 : Int) - 1) = (k : Int) := by rw [IntKind.wrap_i64]; omega
theorem wrap_more (k k1 : Nat) (h : k + 1 = k1) (hk : k ≤ 100000000) : IntKind.i64.wrap ((k : Int) + 1) = (k1 : Int) := by rw [IntKind.wrap_i64]; omega

theorem iwrap_small (k : Nat) (h : k ≤ 100000000) : IntKind.i64.wrap (k : Int) = (k : Int) := by rw [IntKind.wrap_i64]; omega

/-- What was lent, of which the first ones are written over. -/
def overL (l : List UInt8) (j : Nat) : List Value := List.replicate j (B 69) ++ (lentL l).drop j
theorem lent_len (l : List UInt8) : (lentL l).length = l.length + 2 := by simp [lentL]
theorem over_len (l : List UInt8) (j : Nat) (h : j ≤ l.length + 2) : (overL l j).length = l.length + 2 := by
  unfold overL
  rw [List.length_append, List.length_replicate, List.length_drop, lent_len]
  omega
theorem over_set (l : List UInt8) (j : Nat) (h : j < l.length + 2) : (overL l j).toArray.setIfInBounds j (B 69) = (overL l (j + 1)).toArray := by
  rw [List.setIfInBounds_toArray]
  congr 1
  unfold overL
  rw [List.set_append_right _ _ (by rw [List.length_replicate]; exact Nat.le_refl _), List.length_replicate, Nat.sub_self, List.drop_eq_getElem_cons (by rw [lent_len]; exact h), List.set_cons_zero, List.replicate_succ', List.append_assoc]
  rfl
theorem over_full (l : List UInt8) : overL l (l.length + 2) = List.replicate (l.length + 2) (B 69) := by
  unfold overL
  rw [List.drop_of_length_le (by rw [lent_len]; exact Nat.le_refl _), List.append_nil]

set_option maxRecDepth 100000 in
set_option maxHeartbeats 2000000 in
theorem back_any {w : World} {B0 wb nn g : Nat} {ins : List Value} {ords : List (Value × Int)} {vi vo vm : Value} (l : List UInt8) (h : WC w B0 wb nn ins [.slice (some ⟨g, 0, none⟩) (l.length + 2) (l.length + 2)] ords vi vo vm) (_hb : B0 ≤ w.heap.size) (_hbg : B0 ≤ g) (hin : ins.length ≤ 1000000) (hl : l.length ≤ 1100000)
    (hg : w.heap[g]? = some (.cells (lentL l).toArray 5)) (hnew : ∀ v ∈ ins, v.ownBlock ≠ some g) :
    Calls Try.prog 41 #[.pointer (some ⟨wb, 0, none⟩), .string ⟨l.toArray⟩] w fun e w' => e = .returned (.bool true) ∧ WC w' B0 wb nn (ins ++ [.slice (some ⟨g, 0, none⟩) (l.length + 2) (l.length + 2)]) [] ords vi vo vm ∧ Fr (fun k => k = g) w w' := by
  obtain ⟨n, hn⟩ : ∃ n, l.length = n := ⟨_, rfl⟩
  obtain ⟨n1, hn1⟩ : ∃ n1, n + 1 = n1 := ⟨_, rfl⟩
  obtain ⟨n2, hn2⟩ : ∃ n2, n + 2 = n2 := ⟨_, rfl⟩
  obtain ⟨k, hk⟩ : ∃ k, ins.length = k := ⟨_, rfl⟩
  obtain ⟨k1, hk1⟩ : ∃ k1, k + 1 = k1 := ⟨_, rfl⟩
  have i1 : (n : Int) < (n2 : Int) := by omega
  have i2 : (0 : Int) ≤ (n : Int) := by omega
  have i3 : (n1 : Int) < (n2 : Int) := by omega
  have i4 : (0 : Int) ≤ (n1 : Int) := by omega
  have i5 : (n : Int) ≤ (n2 : Int) := by omega
  have i6 : (k : Int) < (k1 : Int) := by omega
  have i7 : (0 : Int) ≤ (k : Int) := by omega
  have w2 : (n : Int) + 1 = (n1 : Int) := by omega
  have w7 : (k1 : Int) - 1 = (k : Int) := by omega
  have j0 : (n2 : Int) ≤ 2000000 := by omega
  have j1 : n1 ≤ 100000000 := by omega
  have j2 : k ≤ 100000000 := by omega
  rw [hn, hn2] at h
  have hrow := h.rin
  have hlen : (ins ++ [Value.slice (some ⟨g, 0, none⟩) n2 n2]).length = k1 := by rw [List.length_append]; simp; omega
  rw [hlen] at hrow
  obtain ⟨gi, ci, rfl, hgi⟩ : ∃ gi ci, vi = .slice (some ⟨gi, 0, none⟩) k1 ci ∧ w.cell? ⟨gi, k, none⟩ = some (.slice (some ⟨g, 0, none⟩) n2 n2) := by
    rcases hrow.2 with ⟨-, h2⟩ | ⟨gi, ci, cur, h1, -⟩
    · omega
    · refine ⟨gi, ci, h1, ?_⟩
      have := hrow.cells (g := gi) (by rw [h1]; rfl) k (.slice (some ⟨g, 0, none⟩) n2 n2) (by rw [List.getElem?_append_right (by omega), hk, Nat.sub_self]; rfl)
      rwa [Addr.add_lit, Nat.zero_add] at this
  obtain ⟨-, g2, -, -, -, -, -, hwl⟩ := h.cell
  have hlm : (l.map B).length = n := by rw [List.length_map]; exact hn
  have x0 : w.cell? ⟨g, n, none⟩ = some (.int .u8 165) := by
    rw [cell_of_row w g n _ _ (0, 0) hg, List.getElem?_toArray]
    unfold lentL
    rw [List.getElem?_append_right (by omega), hlm, Nat.sub_self]
    rfl
  have x1 : w.cell? ⟨g, n1, none⟩ = some (.int .u8 165) := by
    rw [cell_of_row w g n1 _ _ (0, 0) hg, List.getElem?_toArray]
    unfold lentL
    rw [List.getElem?_append_right (by omega), hlm, show n1 - n = 1 by omega]
    rfl
  have hlies : Lies w g 0 l := by
    intro j c hc
    have hj : j < l.length := (List.getElem?_eq_some_iff.1 hc).1
    rw [Nat.zero_add, cell_of_row w g j _ _ (0, 0) hg, List.getElem?_toArray]
    unfold lentL
    rw [List.getElem?_append_left (by rw [hlm]; omega), List.getElem?_map, hc]
    rfl
  have t1 : ∀ N, (convert 28 9 (.slice (some ⟨g, 0, none⟩) n n2)).run Try.prog (w.drewN N) = .ok (.string ⟨l.toArray⟩) (w.drewN N) := fun N => run_str (F := fun _ => False) (.inr ⟨g, 0, n2, by rw [hn], hlies.keep rfl, by omega, by unfold maxLen; omega, fun h => h, (Array.getElem?_eq_some_iff.1 hg).1⟩)
  have HH := Hid.mk (And.intro h (And.intro hg hnew))
  have HE := Hid.mk (And.intro hn (And.intro hn2 (And.intro hk (And.intro hn1 hk1))))
  have w4 : wrap64 (n1 : Int) = (n1 : Int) := wrap_small n1 j1
  have w8 : wrap64 (k : Int) = (k : Int) := wrap_small k j2
  have hsz : (⟨l.toArray⟩ : ByteArray).size = n := hn
  have w6 := wrap_less k k1 hk1 j2
  have w9 := iwrap_small k j2
  have HW9 := Hid.mk (iwrap_small n1 j1)
  have HLL := Hid.mk hl
  have HT1 := Hid.mk t1
  have HX := Hid.mk (And.intro x0 x1)
  have HW4 := Hid.mk w4
  clear h hrow hlen hlies hlm hg hnew hn hn1 hn2 hk hk1 hl hin j0 j1 j2 t1 x0 x1 w4 w2 i1 i2 i3 i4 i5 _hb _hbg
  go_enter Try.func41, Try.ntmps41
  go_wp2_with fail
  go_region_held3 (fun w' => w'.cell? ⟨wb, 2, none⟩ = some (.slice (some ⟨gi, 0, none⟩) k1 ci) ∧ w'.cell? ⟨gi, k, none⟩ = some (.slice (some ⟨g, 0, none⟩) n2 n2)) (first | go_keep) (fail)
  rename_i hHeld
  clear hHeld hgi g2 w6 w7 w8 w9 i6 i7
  have i1 : (n : Int) < (n2 : Int) := by have := HE.out.2.1; omega
  have i2 : (0 : Int) ≤ (n : Int) := by omega
  have i3 : (n1 : Int) < (n2 : Int) := by have h1 := HE.out.2.1; have h2 := HE.out.2.2.2.1; omega
  have i4 : (0 : Int) ≤ (n1 : Int) := by omega
  have i5 : (n : Int) ≤ (n2 : Int) := by omega
  have w2 : (n : Int) + 1 = (n1 : Int) := by have h2 := HE.out.2.2.2.1; omega
  have t1 : (convert 28 9 (.slice (some ⟨g, 0, none⟩) n n2)).run Try.prog w.drew = .ok (.string ⟨l.toArray⟩) w.drew := HT1.out 1
  have x0 : w.drew.cell? ⟨g, n, none⟩ = some (.int .u8 165) := HX.out.1
  have x1 : w.drew.cell? ⟨g, n1, none⟩ = some (.int .u8 165) := HX.out.2
  have HG : Hid (w.drew.heap[g]? = some (.cells (overL l 0).toArray 5)) := by
    have : overL l 0 = lentL l := by unfold overL; simp
    show _ = _
    rw [this]
    exact HH.out.2.1
  have HF0 : Hid (Fr (fun k => k = g) w w.drew) := Fr.drew _ w
  generalize w.drew = V at *
  have w4 := HW4.out
  have w9 := HW9.out
  go_wp2_with fail
  clear w4 w9 w2 x0 x1 t1 HT1 HX HW4 HW9 i1 i2 i3 i4 i5
  have hN : n2 ≤ 2000000 := by have h1 := HE.out.1; have h2 := HE.out.2.1; have h3 := HLL.out; omega
  go_loopw [8] (fun i wr => ∃ j : Nat, j ≤ n2 ∧ i = .int .i64 j ∧ Hid (wr.heap[g]? = some (.cells (overL l j).toArray 5)) ∧ Hid (Fr (fun k => k = g) w wr)) (fun i _ => n2 - (intOf i).toNat)
  case atStart => exact ⟨0, Nat.zero_le _, rfl, HG, HF0⟩
  case round =>
    obtain ⟨j, hj, rfl, HGj, HFj⟩ := hrel
    by_cases hjl : j < n2
    · have i1 : (j : Int) < (n2 : Int) := by omega
      have i2 : (0 : Int) ≤ (j : Int) := by omega
      have hl2 : l.length + 2 = n2 := by have h1 := HE.out.1; have h2 := HE.out.2.1; omega
      obtain ⟨u, hu⟩ : ∃ u, wr.cell? ⟨g, j, none⟩ = some u := by
        rw [cell_of_row wr g j _ _ (0, 0) HGj.out, List.getElem?_toArray]
        exact ⟨_, List.getElem?_eq_getElem (by rw [over_len l j (by omega)]; omega)⟩
      have hz : wr.frozen? ⟨g, j, none⟩ = false := by simp [World.frozen?, HGj.out]
      have HN : Hid ((wr.setCell ⟨g, j, none⟩ (.int .u8 69)).heap[g]? = some (.cells (overL l (j + 1)).toArray 5)) := by
        show _ = _
        rw [heap_setCell_same wr g j _ _ _ HGj.out, ← over_set l j (by omega)]
        rfl
      have HFn : Hid (Fr (fun k => k = g) w (wr.setCell ⟨g, j, none⟩ (.int .u8 69))) := HFj.out.trans (Fr.setCell wr ⟨g, j, none⟩ _) (fun _ _ e => e)
      clear hl2
      go_wp2_with fail
      exact ⟨⟨j + 1, by omega, by go_num, HN, HFn⟩, by simp [intOf]; omega⟩
    · have i1 : ¬ (j : Int) < (n2 : Int) := by omega
      have hj2 : j = n2 := by omega
      subst hj2
      go_wp2_with fail
      go_ret
      have hl2 : l.length + 2 = j := by have h1 := HE.out.1; have h2 := HE.out.2.1; omega
      have hfull : wr.heap[g]? = some (.cells (List.replicate (l.length + 2) (B 69)).toArray 5) := by
        rw [← over_full l, hl2]
        exact HGj.out
      obtain ⟨hwc, hg, hnew⟩ := HH.out
      have hkeep : ∀ (a : Nat) (cur : Array Value) (t : TypeId), w.heap[a]? = some (.cells cur t) → t ≠ 5 → wr.heap[a]? = w.heap[a]? := by
        intro a cur t ha ht
        exact HFj.out.block a (Array.getElem?_eq_some_iff.1 ha).1 (fun e => ne_obj ha hg ht e)
      refine ⟨rfl, ⟨(hkeep wb _ _ hwc.blk (by decide)).trans hwc.blk, hwc.bw, ?_, ?_, ?_, ?_, ?_⟩, ?_⟩
      · rw [List.append_nil, hl2]
        exact ownsRow_keep hwc.rin (fun a ha => by obtain ⟨cur, hc⟩ := obj_of_row hwc.rin a ha; exact hkeep a cur _ hc (by decide))
      · exact ownsRow_keep hwc.ror (fun a ha => by obtain ⟨cur, hc⟩ := obj_of_row hwc.ror a ha; exact hkeep a cur _ hc (by decide))
      · exact ownsRow_keep hwc.rom (fun a ha => by obtain ⟨cur, hc⟩ := obj_of_row hwc.rom a ha; exact hkeep a cur _ hc (by decide))
      · intro v hv
        rcases List.mem_append.1 hv with hv | hv
        · obtain ⟨a, m, e1, e2, e3⟩ := hwc.ful v hv
          have hne : a ≠ g := fun e => hnew v hv (by rw [e1, e]; rfl)
          exact ⟨a, m, e1, e2, (HFj.out.block a (Array.getElem?_eq_some_iff.1 e3).1 hne).trans e3⟩
        · simp at hv
          exact ⟨g, l.length + 2, by rw [hv], by omega, hfull⟩
      · exact fun p hp => (hwc.ink p hp).keep (fun a cur ha _ => hkeep a cur _ ha (by decide))
      · exact HFj.out

end Go.Proofs.Ytphkchjejbffeaa

/- Rows that are written over, and appended to. -/
namespace Go.Proofs.Ytphkchjejbffeaa
open Go.RowKit

theorem row_set {w : World} {b g n cap size : Nat} {e : TypeId} {xs : List Value} (h : w.ownsRow b e size (.slice (some ⟨g, 0, none⟩) n cap) n xs) (j : Nat) (u : Value) : (w.setCell ⟨g, j, none⟩ u).ownsRow b e size (.slice (some ⟨g, 0, none⟩) n cap) n (xs.set j u) := by
  refine ⟨by rw [List.length_set]; exact h.1, ?_⟩
  rcases h.2 with ⟨h1, -⟩ | ⟨g', cap', cur, h1, h2, h3, h4, h5, h6, h7⟩
  · simp at h1
  · simp only [Value.slice.injEq, Option.some.injEq, Addr.mk.injEq] at h1
    obtain ⟨⟨rfl, -, -⟩, -, rfl⟩ := h1
    refine .inr ⟨g, cap, cur.setIfInBounds j u, rfl, h2, heap_setCell_same w g j _ _ u h3, h4, h5, by rw [Array.size_setIfInBounds]; exact h6, ?_⟩
    rw [← h7, Array.toList_setIfInBounds, List.take_set]

/-- A row of which the first i orders are written over. -/
def inkRow (m : Int) (xs : List Value) (i : Nat) : List Value := (List.replicate i (inkL m)).flatten ++ xs.drop (i * 6)
theorem ink_flat_len (m : Int) (i : Nat) : ((List.replicate i (inkL m)).flatten).length = i * 6 := by
  induction i with
  | zero => rfl
  | succ i ih =>
    rw [List.replicate_succ, List.flatten_cons, List.length_append, ih]
    show 6 + _ = _
    omega
theorem six {α : Type} (l : List α) (h : 6 ≤ l.length) : ∃ a b c d e f r, l = a :: b :: c :: d :: e :: f :: r := by
  match l, h with
  | a :: b :: c :: d :: e :: f :: r, _ => exact ⟨a, b, c, d, e, f, r, rfl⟩
theorem ink_step (m : Int) (xs : List Value) (i : Nat) (h : (i + 1) * 6 ≤ xs.length) :
    ((((((inkRow m xs i).set (i * 6) (.int .i64 0)).set (i * 6 + 1) (.int .i64 m)).set (i * 6 + 2) (.int .u8 0)).set (i * 6 + 3) (.int .i64 0)).set (i * 6 + 4) (.int .i64 0)).set (i * 6 + 5) (.int .i64 0) = inkRow m xs (i + 1) := by
  unfold inkRow
  obtain ⟨a, b, c, d, e, f, r, hr⟩ := six (xs.drop (i * 6)) (by rw [List.length_drop]; omega)
  have hd : xs.drop ((i + 1) * 6) = r := by
    have : xs.drop ((i + 1) * 6) = (xs.drop (i * 6)).drop 6 := by rw [List.drop_drop]; congr 1; omega
    rw [this, hr]
    rfl
  have hl := ink_flat_len m i
  have hf : (List.replicate (i + 1) (inkL m)).flatten = (List.replicate i (inkL m)).flatten ++ inkL m := by rw [List.replicate_succ', List.flatten_append]; simp
  rw [hr, hd, hf]
  generalize (List.replicate i (inkL m)).flatten = P at *
  rw [List.set_append_right _ _ (by omega), hl, Nat.sub_self, List.set_append_right _ _ (by omega), hl, show i * 6 + 1 - i * 6 = 1 by omega, List.set_append_right _ _ (by omega), hl, show i * 6 + 2 - i * 6 = 2 by omega, List.set_append_right _ _ (by omega), hl, show i * 6 + 3 - i * 6 = 3 by omega, List.set_append_right _ _ (by omega), hl, show i * 6 + 4 - i * 6 = 4 by omega, List.set_append_right _ _ (by omega), hl, show i * 6 + 5 - i * 6 = 5 by omega, List.append_assoc]
  rfl
theorem ink_zero (m : Int) (xs : List Value) : inkRow m xs 0 = xs := by unfold inkRow; simp
theorem ink_full (m : Int) (xs : List Value) (n : Nat) (h : xs.length = n * 6) : inkRow m xs n = (List.replicate n (inkL m)).flatten := by
  unfold inkRow
  rw [List.drop_of_length_le (by omega), List.append_nil]
theorem ink_get (m : Int) (n i t : Nat) (u : Value) (hi : i < n) (hu : (inkL m)[t]? = some u) : ((List.replicate n (inkL m)).flatten)[i * 6 + t]? = some u := by
  have ht : t < 6 := (List.getElem?_eq_some_iff.1 hu).1
  have := flat_getG (fun _ : Unit => inkL m) 6 (fun _ => rfl) (List.replicate n ()) i t () u (by rw [List.getElem?_replicate, if_pos hi]) ht hu
  rwa [show (List.replicate n ()).flatMap (fun _ => inkL m) = (List.replicate n (inkL m)).flatten by rw [List.flatMap_def, List.map_replicate]] at this
theorem ink_ones (m : Int) : ∀ u ∈ inkL m, u.oneCell' = true := by
  intro u hu; simp [inkL] at hu; rcases hu with rfl | rfl | rfl | rfl | rfl | rfl <;> rfl

/-- A row that is written over reads so. -/
theorem ink_of_row {w : World} {b n : Nat} {v : Value} {m : Int} (h : w.ownsRow b 46 6 v n ((List.replicate n (inkL m)).flatten)) (hn : n ≤ 10000000) : Ink w v m := by
  rcases h.2 with ⟨h1, -⟩ | ⟨g, cap, cur, h1, h2, h3, h4, h5, h6, h7⟩
  · exact .inl h1
  · refine .inr ⟨g, n, cap, cur, h1, hn, h4, h5, h3, fun i t u hi hu => ?_⟩
    have := h.cells (g := g) (by rw [h1]; rfl) (i * 6 + t) u (ink_get m n i t u hi hu)
    rwa [Addr.add_lit, Nat.zero_add] at this

/-- What is appended to leaves what was there as it was, and of its kind. -/
theorem run_append_stay {w : World} {base g n cap : Nat} {t ty e : TypeId} {i : TypeInfo} {z : Value} {size bytes : Nat} (ht : Try.prog.underlying t = some (.slice e)) (hi : Try.prog.info? e = some i) (hz : i.zero = some z)
    (hsize : i.size = size) (hby : i.bytes = bytes) (hzs : z.cells.size = size) (hsz : 0 < size) {xs : List Value} (hown : w.ownsRow base e size (.slice (some ⟨g, 0, none⟩) n cap) n xs)
    {ad : Addr} {m c : Nat} {ys : List Value} (hl : ys.length = m * size) (hy : ∀ j u, ys[j]? = some u → w.cell? (ad.add j) = some u) (h1 : ∀ u ∈ ys, u.oneCell' = true)
    (h63 : n + m ≤ maxLen) (hbytes : (n + m) * bytes ≤ 140737488355328) (hbase : base ≤ w.heap.size) :
    ∃ v' w', (Builtin.append_ #[t, t] ty #[.slice (some ⟨g, 0, none⟩) n cap, .slice (some ad) m c]).run Try.prog w = .ok v' w' ∧ w'.ownsRow base e size v' (n + m) (xs ++ ys) ∧ w.grownBy w' (some g) ∧ (∀ j u, xs[j]? = some u → w'.cell? ⟨g, j, none⟩ = some u) ∧ (v'.ownBlock = some g ∨ v'.ownBlock = some w.heap.size) ∧ ∃ cur, w'.heap[g]? = some (.cells cur e (0, 0)) := by
  obtain ⟨v', w', hr, h2, h3, h4, h5⟩ := run_append_own_at (P := Try.prog) w base t ty e i z size bytes ht hi hz hsize hby hzs hsz _ n xs hown ad m c ys hl hy h1 h63 hbytes hbase
  obtain ⟨v2, w2, hr2, -, -, hk2⟩ := run_append_keep (ty := ty) (c := c) ht hi hz hsize hby hzs hsz hown hl hy h1 h63 hbytes hbase
  rw [hr] at hr2
  obtain ⟨rfl, rfl⟩ : v' = v2 ∧ w' = w2 := by
    have := Result.ok.inj hr2
    exact this
  refine ⟨v', w', hr, h2, h3, hk2, h5, ?_⟩
  rcases hown.2 with ⟨h, -⟩ | ⟨g', cap', cur, h, hbg, hg, hnc, hcm, hcs, htake⟩
  · simp at h
  · simp only [Value.slice.injEq, Option.some.injEq, Addr.mk.injEq, and_true, true_and] at h
    obtain ⟨rfl, rfl⟩ := h
    by_cases hroom : n + m ≤ cap
    · have hfit : n * i.size + ys.length ≤ cur.size := by rw [hl, hcs, hsize, ← Nat.add_mul]; exact Nat.mul_le_mul_right _ hroom
      have hr2 := run_append_room (P := Try.prog) w t ty e i ht hi g n cap cur hg ad m c ys (by rw [hsize]; exact hl) hy h1 hroom hfit
      rw [hr] at hr2
      obtain ⟨e1, e2⟩ := Result.ok.inj hr2
      exact obj_of_row h2 g (by rw [e1]; rfl)
    · have holds : ∀ j u, xs[j]? = some u → w.cell? ((⟨g, 0, none⟩ : Addr).add j) = some u := hown.cells (g := g) rfl
      have hr2 := run_append_grow (P := Try.prog) w t ty e i z ht hi hz ⟨g, 0, none⟩ n cap xs (by rw [hsize]; exact hown.1) holds ad m c ys (by rw [hsize]; exact hl) hy (by omega) (by unfold maxLen at h63; omega) (growslice_fits (by omega) (by rw [hby]; exact hbytes))
      rw [hr] at hr2
      obtain ⟨e1, e2⟩ := Result.ok.inj hr2
      have hgl : g < w.heap.size := (Array.getElem?_eq_some_iff.1 hg).1
      refine ⟨cur, ?_⟩
      rw [e2]
      show (w.drew.alloc _).heap[g]? = _
      rw [heap_alloc, if_neg (by show g ≠ w.heap.size; omega)]
      exact hg

theorem wpList_append_stay {w : World} {ops : Array Oper} {rest : List Oper} {o : Oper} {a : Go.Act} {Q : Exit → Go.Act → World → Prop} (hgd : o.guard = none) (s x : Operand) (t : TypeId)
    (ho : o.op = .call { callee := .builtin .append, args := #[s, x], argTypes := #[t, t] })
    (base : Nat) (e : TypeId) (i : TypeInfo) (z : Value) (size bytes : Nat) (ht : Try.prog.underlying t = some (.slice e)) (hi : Try.prog.info? e = some i) (hz : i.zero = some z)
    (hsize : i.size = size) (hby : i.bytes = bytes) (hzs : z.cells.size = size) (hsz : 0 < size)
    (g n cap : Nat) (xs : List Value) (hs : a.eval s = .slice (some ⟨g, 0, none⟩) n cap) (hown : w.ownsRow base e size (.slice (some ⟨g, 0, none⟩) n cap) n xs) (ad : Addr) (m c : Nat) (ys : List Value) (hx : a.eval x = .slice (some ad) m c) (hl : ys.length = m * size) (hy : ∀ j u, ys[j]? = some u → w.cell? (ad.add j) = some u) (h1 : ∀ u ∈ ys, u.oneCell' = true)
    (h63 : n + m ≤ maxLen) (hbytes : (n + m) * bytes ≤ 140737488355328) (hbase : base ≤ w.heap.size)
    (h : ∀ ra cap' w', Hid (w'.ownsRow base e size (.slice ra (n + m) cap') (n + m) (xs ++ ys)) → Hid (w.grownBy w' (some g) ∧ (∀ j u, xs[j]? = some u → w'.cell? ⟨g, j, none⟩ = some u) ∧ (Value.ownBlock (.slice ra (n + m) cap') = some g ∨ Value.ownBlock (.slice ra (n + m) cap') = some w.heap.size) ∧ ∃ cur, w'.heap[g]? = some (.cells cur e (0, 0))) → wpList Try.prog ops Q rest (a.put o.dst (.slice ra (n + m) cap')) w') :
    wpList Try.prog ops Q (o :: rest) a w := by
  refine wpList_plain hgd fun K' hK' => ?_
  obtain ⟨v', w', hr, h2, h3, h4, h5, h6⟩ := run_append_stay (ty := o.type) (c := c) ht hi hz hsize hby hzs hsz hown hl hy h1 h63 hbytes hbase
  obtain ⟨ra, cap', rfl, _, _⟩ := ownsRow_len h2
  unfold Oper.wp execOp
  simp only [ho, resolve, invoke, builtin, Sem.run_bind, Sem.run_pure, Result.andThen_ok, List.map_toArray, List.map_cons, List.map_nil, hs, hx, hr]
  exact hK' _ _ (h ra cap' w' h2 ⟨h3, h4, h5, h6⟩)

/-- The slices that were kept of a row that still grows. -/
def InkIn (ords : List (Value × Int)) (g N : Nat) (m : Int) : Prop := ∀ p ∈ ords, p.1.ownBlock = some g → ∃ np cp, p.1 = .slice (some ⟨g, 0, none⟩) np cp ∧ np ≤ N ∧ p.2 = m

theorem WC.setN {w : World} {B0 wb nn : Nat} {ins ex : List Value} {ords : List (Value × Int)} {vi vo vm : Value} (h : WC w B0 wb nn ins ex ords vi vo vm) (k : Nat) : WC (w.setCell ⟨wb, 1, none⟩ (.int .i64 k)) B0 wb k ins ex ords vi vo vm := by
  have hf := Fr.setCell w ⟨wb, 1, none⟩ (.int .i64 k)
  have hkeep : ∀ (a : Nat) (cur : Array Value) (t : TypeId), w.heap[a]? = some (.cells cur t) → t ≠ 67 → (w.setCell ⟨wb, 1, none⟩ (.int .i64 k)).heap[a]? = w.heap[a]? := fun a cur t ha ht => hf.block a (Array.getElem?_eq_some_iff.1 ha).1 (fun e => ne_obj ha h.blk ht e)
  refine ⟨by rw [heap_setCell_same w wb 1 _ _ _ h.blk]; rfl, h.bw, ?_, ?_, ?_, ?_, ?_⟩
  · exact ownsRow_keep h.rin (fun a ha => by obtain ⟨cur, hc⟩ := obj_of_row h.rin a ha; exact hkeep a cur _ hc (by decide))
  · exact ownsRow_keep h.ror (fun a ha => by obtain ⟨cur, hc⟩ := obj_of_row h.ror a ha; exact hkeep a cur _ hc (by decide))
  · exact ownsRow_keep h.rom (fun a ha => by obtain ⟨cur, hc⟩ := obj_of_row h.rom a ha; exact hkeep a cur _ hc (by decide))
  · exact fun v hv => (h.ful v hv).keep (fun a cur ha => hkeep a cur _ ha (by decide))
  · exact fun p hp => (h.ink p hp).keep (fun a cur ha _ => hkeep a cur _ ha (by decide))

/-- A row of orders turns that none of the kept ones lies in. -/
theorem WC.turnL {w w' : World} {B0 wb nn g : Nat} {ins ex : List Value} {ords : List (Value × Int)} {vi vo vm : Value} {c0 : Array Value} (h : WC w B0 wb nn ins ex ords vi vo vm) (hf : Fr (fun k => k = g) w w') (hg : w.heap[g]? = some (.cells c0 46)) (hn : ∀ p ∈ ords, p.1.ownBlock ≠ some g) : WC w' B0 wb nn ins ex ords vi vo vm := by
  have hkeep : ∀ (a : Nat) (cur : Array Value) (t : TypeId), w.heap[a]? = some (.cells cur t) → t ≠ 46 → w'.heap[a]? = w.heap[a]? := fun a cur t ha ht => hf.block a (Array.getElem?_eq_some_iff.1 ha).1 (fun e => ne_obj ha hg ht e)
  refine ⟨(hkeep wb _ _ h.blk (by decide)).trans h.blk, h.bw, ?_, ?_, ?_, ?_, ?_⟩
  · exact ownsRow_keep h.rin (fun a ha => by obtain ⟨cur, hc⟩ := obj_of_row h.rin a ha; exact hkeep a cur _ hc (by decide))
  · exact ownsRow_keep h.ror (fun a ha => by obtain ⟨cur, hc⟩ := obj_of_row h.ror a ha; exact hkeep a cur _ hc (by decide))
  · exact ownsRow_keep h.rom (fun a ha => by obtain ⟨cur, hc⟩ := obj_of_row h.rom a ha; exact hkeep a cur _ hc (by decide))
  · exact fun v hv => (h.ful v hv).keep (fun a cur ha => hkeep a cur _ ha (by decide))
  · exact fun p hp => (h.ink p hp).keep (fun a cur ha hb => hf.block a (Array.getElem?_eq_some_iff.1 ha).1 (fun e => hn p hp (by rw [hb, e])))

/-- The row that still grows has grown. -/
theorem WC.stay {w w' : World} {B0 wb nn g N : Nat} {m : Int} {ins ex : List Value} {ords : List (Value × Int)} {vi vo vm : Value} {c0 : Array Value} (h : WC w B0 wb nn ins ex ords vi vo vm) (hg : w.heap[g]? = some (.cells c0 46)) (hin : InkIn ords g N m)
    (h1 : w.grownBy w' (some g)) (h2 : ∀ j u, ((List.replicate N (inkL m)).flatten)[j]? = some u → w'.cell? ⟨g, j, none⟩ = some u) (h3 : ∃ cur, w'.heap[g]? = some (.cells cur 46 (0, 0))) : WC w' B0 wb nn ins ex ords vi vo vm := by
  have hf : Fr (fun k => k = g) w w' := (Fr.of_grown h1).mono (fun k _ e => Option.some.inj e)
  have hkeep : ∀ (a : Nat) (cur : Array Value) (t : TypeId), w.heap[a]? = some (.cells cur t) → t ≠ 46 → w'.heap[a]? = w.heap[a]? := fun a cur t ha ht => hf.block a (Array.getElem?_eq_some_iff.1 ha).1 (fun e => ne_obj ha hg ht e)
  refine ⟨(hkeep wb _ _ h.blk (by decide)).trans h.blk, h.bw, ?_, ?_, ?_, ?_, ?_⟩
  · exact ownsRow_keep h.rin (fun a ha => by obtain ⟨cur, hc⟩ := obj_of_row h.rin a ha; exact hkeep a cur _ hc (by decide))
  · exact ownsRow_keep h.ror (fun a ha => by obtain ⟨cur, hc⟩ := obj_of_row h.ror a ha; exact hkeep a cur _ hc (by decide))
  · exact ownsRow_keep h.rom (fun a ha => by obtain ⟨cur, hc⟩ := obj_of_row h.rom a ha; exact hkeep a cur _ hc (by decide))
  · exact fun v hv => (h.ful v hv).keep (fun a cur ha => hkeep a cur _ ha (by decide))
  · intro p hp
    by_cases e : p.1.ownBlock = some g
    · obtain ⟨np, cp, e1, e2, e3⟩ := hin p hp e
      obtain ⟨cur, hc⟩ := h3
      rcases h.ink p hp with i1 | ⟨a, n, cap, cu, i1, i2, i3, i4, i5, i6⟩
      · rw [i1] at e1; cases e1
      · rw [e1] at i1
        simp only [Value.slice.injEq, Option.some.injEq, Addr.mk.injEq, and_true] at i1
        obtain ⟨rfl, rfl, rfl⟩ := i1
        refine .inr ⟨g, np, cp, cur, e1, i2, i3, i4, hc, fun i t u hi hu => ?_⟩
        rw [e3] at hu
        exact h2 _ _ (ink_get m N i t u (by omega) hu)
    · exact (h.ink p hp).keep (fun a cur ha hb => hf.block a (Array.getElem?_eq_some_iff.1 ha).1 (fun e2 => e (by rw [hb, e2])))

/-- One slice more is kept. -/
theorem WC.addOrd {w w' : World} {B0 wb nn : Nat} {m : Int} {ins : List Value} {ords : List (Value × Int)} {vi vo vm vo' vm' vl : Value} (h : WC w B0 wb nn ins [] ords vi vo vm)
    (h1 : w'.heap[wb]? = some (.cells #[.slice none 0 0, .int .i64 nn, vi, .slice none 0 0, .slice none 0 0, vo', vm'] 67)) (h2 : w'.ownsRow B0 42 1 vo' (ords.length + 1) (ords.map (·.1) ++ [vl])) (h3 : w'.ownsRow B0 3 1 vm' (ords.length + 1) ((ords.map fun p => .int .i64 p.2) ++ [.int .i64 m]))
    (hf : Fr (fun k => k = wb ∨ vo.ownBlock = some k ∨ vm.ownBlock = some k) w w') (hi : Ink w' vl m) : WC w' B0 wb nn ins [] (ords ++ [(vl, m)]) vi vo' vm' := by
  have hkeep : ∀ (a : Nat) (cur : Array Value) (t : TypeId), w.heap[a]? = some (.cells cur t) → t ≠ 67 → t ≠ 42 → t ≠ 3 → w'.heap[a]? = w.heap[a]? := by
    intro a cur t ha t1 t2 t3
    refine hf.block a (Array.getElem?_eq_some_iff.1 ha).1 ?_
    rintro (e | e | e)
    · exact ne_obj ha h.blk t1 e
    · obtain ⟨c, hc⟩ := obj_of_row h.ror a e
      exact ne_obj ha hc t2 rfl
    · obtain ⟨c, hc⟩ := obj_of_row h.rom a e
      exact ne_obj ha hc t3 rfl
  refine ⟨h1, h.bw, ?_, ?_, ?_, ?_, ?_⟩
  · exact ownsRow_keep h.rin (fun a ha => by obtain ⟨cur, hc⟩ := obj_of_row h.rin a ha; exact hkeep a cur _ hc (by decide) (by decide) (by decide))
  · rw [List.length_append, List.map_append]
    exact h2
  · rw [List.length_append, List.map_append]
    exact h3
  · exact fun v hv => (h.ful v hv).keep (fun a cur ha => hkeep a cur _ ha (by decide) (by decide) (by decide))
  · intro p hp
    rcases List.mem_append.1 hp with hp | hp
    · exact (h.ink p hp).keep (fun a cur ha _ => hkeep a cur _ ha (by decide) (by decide) (by decide))
    · simp at hp
      rw [hp]
      exact hi

end Go.Proofs.Ytphkchjejbffeaa

/- One slice more is kept, step by step. -/
namespace Go.Proofs.Ytphkchjejbffeaa
open Go.RowKit

theorem size_setCell' (w : World) (a : Addr) (v : Value) : (w.setCell a v).heap.size = w.heap.size := by simp [World.setCell]

structure K1s (wr w2 : World) (B0 b1 wb nn N q : Nat) (vi vo vm vo2 vl : Value) (ovs oms ys : List Value) : Prop where
  c5 : w2.cell? ⟨wb, 5, none⟩ = some vo
  f5 : w2.frozen? ⟨wb, 5, none⟩ = false
  c6 : w2.cell? ⟨wb, 6, none⟩ = some vm
  sz : wr.heap.size ≤ w2.heap.size
  blk : (w2.setCell ⟨wb, 5, none⟩ vo2).heap[wb]? = some (.cells #[.slice none 0 0, .int .i64 nn, vi, .slice none 0 0, .slice none 0 0, vo2, vm] 67)
  r1 : (w2.setCell ⟨wb, 5, none⟩ vo2).ownsRow B0 42 1 vo2 (q + 1) ovs
  r2 : (w2.setCell ⟨wb, 5, none⟩ vo2).ownsRow B0 3 1 vm q oms
  rl : (w2.setCell ⟨wb, 5, none⟩ vo2).ownsRow b1 46 6 vl N ys
  fr : Fr (fun k => k = wb ∨ vo.ownBlock = some k) wr (w2.setCell ⟨wb, 5, none⟩ vo2)

theorem keep_one {wr w2 : World} {B0 b1 wb nn N : Nat} {ins : List Value} {OR : List (Value × Int)} {vi vo vm vo2 vl : Value} {ovs ys : List Value} (h : WC wr B0 wb nn ins [] OR vi vo vm) (O : Obj) (hg : (wr.alloc O).grownBy w2 vo.ownBlock) (hown : w2.ownsRow B0 42 1 vo2 (OR.length + 1) ovs) (hl : wr.ownsRow b1 46 6 vl N ys) :
    K1s wr w2 B0 b1 wb nn N OR.length vi vo vm vo2 vl ovs (OR.map fun p => .int .i64 p.2) ys := by
  have hwl : wb < wr.heap.size := (Array.getElem?_eq_some_iff.1 h.blk).1
  have hf2 : Fr (fun k => vo.ownBlock = some k) wr w2 := ((Fr.alloc (fun k => some k = vo.ownBlock) wr O).trans (Fr.of_grown hg) (fun _ _ e => e)).mono (fun k _ e => e.symm)
  have hkeep : ∀ (a : Nat) (cur : Array Value) (t : TypeId), wr.heap[a]? = some (.cells cur t) → t ≠ 42 → w2.heap[a]? = wr.heap[a]? := by
    intro a cur t ha ht
    refine hf2.block a (Array.getElem?_eq_some_iff.1 ha).1 (fun e => ?_)
    obtain ⟨c, hc⟩ := obj_of_row h.ror a e
    exact ne_obj ha hc ht rfl
  have hb2 : w2.heap[wb]? = _ := (hkeep wb _ _ h.blk (by decide)).trans h.blk
  have hf3 : Fr (fun k => k = wb) w2 (w2.setCell ⟨wb, 5, none⟩ vo2) := Fr.setCell w2 ⟨wb, 5, none⟩ vo2
  have hkeep3 : ∀ (a : Nat) (cur : Array Value) (t : TypeId), w2.heap[a]? = some (.cells cur t) → t ≠ 67 → (w2.setCell ⟨wb, 5, none⟩ vo2).heap[a]? = w2.heap[a]? := fun a cur t ha ht => hf3.block a (Array.getElem?_eq_some_iff.1 ha).1 (fun e => ne_obj ha hb2 ht e)
  refine ⟨cell_of_row w2 wb 5 _ _ (0, 0) hb2, by simp [World.frozen?, hb2], cell_of_row w2 wb 6 _ _ (0, 0) hb2, hf2.size, by rw [heap_setCell_same w2 wb 5 _ _ _ hb2]; rfl, ?_, ?_, ?_, ?_⟩
  · exact ownsRow_keep hown (fun a ha => by obtain ⟨cur, hc⟩ := obj_of_row hown a ha; exact hkeep3 a cur _ hc (by decide))
  · exact ownsRow_keep h.rom (fun a ha => by
      obtain ⟨cur, hc⟩ := obj_of_row h.rom a ha
      have e := hkeep a cur _ hc (by decide)
      exact (hkeep3 a cur _ (e.trans hc) (by decide)).trans e)
  · exact ownsRow_keep hl (fun a ha => by
      obtain ⟨cur, hc⟩ := obj_of_row hl a ha
      have e := hkeep a cur _ hc (by decide)
      exact (hkeep3 a cur _ (e.trans hc) (by decide)).trans e)
  · exact (hf2.mono (fun _ _ e => Or.inr e)).trans (hf3.mono (G := fun k => k = wb ∨ vo.ownBlock = some k) (fun _ _ e => Or.inl e)) (fun _ _ e => e)

structure K2s (wr w4 : World) (B0 b1 wb nn N : Nat) (m : Int) (ins : List Value) (OR : List (Value × Int)) (vi vo2 vm vm2 vl : Value) (ys : List Value) : Prop where
  c6 : w4.cell? ⟨wb, 6, none⟩ = some vm
  f6 : w4.frozen? ⟨wb, 6, none⟩ = false
  wc : WC (w4.setCell ⟨wb, 6, none⟩ vm2) B0 wb nn ins [] (OR ++ [(vl, m)]) vi vo2 vm2
  rl : (w4.setCell ⟨wb, 6, none⟩ vm2).ownsRow b1 46 6 vl N ys
  bel : Below B0 wr (w4.setCell ⟨wb, 6, none⟩ vm2)
  sz : wr.heap.size ≤ w4.heap.size

theorem keep_two {wr w2 w4 : World} {B0 b1 wb nn N : Nat} {m : Int} {ins : List Value} {OR : List (Value × Int)} {vi vo vm vo2 vm2 vl : Value} (h : WC wr B0 wb nn ins [] OR vi vo vm) (hb : B0 ≤ wr.heap.size) (hN : N ≤ 10000000)
    (k : K1s wr w2 B0 b1 wb nn N OR.length vi vo vm vo2 vl (OR.map (·.1) ++ [vl]) (OR.map fun p => .int .i64 p.2) ((List.replicate N (inkL m)).flatten)) (O : Obj) (hg : ((w2.setCell ⟨wb, 5, none⟩ vo2).alloc O).grownBy w4 vm.ownBlock) (hown : w4.ownsRow B0 3 1 vm2 (OR.length + 1) ((OR.map fun p => .int .i64 p.2) ++ [.int .i64 m])) :
    K2s wr w4 B0 b1 wb nn N m ins OR vi vo2 vm vm2 vl ((List.replicate N (inkL m)).flatten) := by
  have hs3 := size_setCell' w2 ⟨wb, 5, none⟩ vo2
  have hf4 : Fr (fun a => vm.ownBlock = some a) (w2.setCell ⟨wb, 5, none⟩ vo2) w4 := ((Fr.alloc (fun a => some a = vm.ownBlock) (w2.setCell ⟨wb, 5, none⟩ vo2) O).trans (Fr.of_grown hg) (fun _ _ e => e)).mono (fun a _ e => e.symm)
  have hkeep : ∀ (a : Nat) (cur : Array Value) (t : TypeId), (w2.setCell ⟨wb, 5, none⟩ vo2).heap[a]? = some (.cells cur t) → t ≠ 3 → w4.heap[a]? = (w2.setCell ⟨wb, 5, none⟩ vo2).heap[a]? := by
    intro a cur t ha ht
    refine hf4.block a (Array.getElem?_eq_some_iff.1 ha).1 (fun e => ?_)
    obtain ⟨c, hc⟩ := obj_of_row k.r2 a e
    exact ne_obj ha hc ht rfl
  have hb4 : w4.heap[wb]? = _ := (hkeep wb _ _ k.blk (by decide)).trans k.blk
  have hf5 : Fr (fun a => a = wb) w4 (w4.setCell ⟨wb, 6, none⟩ vm2) := Fr.setCell w4 ⟨wb, 6, none⟩ vm2
  have hkeep5 : ∀ (a : Nat) (cur : Array Value) (t : TypeId), w4.heap[a]? = some (.cells cur t) → t ≠ 67 → (w4.setCell ⟨wb, 6, none⟩ vm2).heap[a]? = w4.heap[a]? := fun a cur t ha ht => hf5.block a (Array.getElem?_eq_some_iff.1 ha).1 (fun e => ne_obj ha hb4 ht e)
  have hfr : Fr (fun a => a = wb ∨ vo.ownBlock = some a ∨ vm.ownBlock = some a) wr (w4.setCell ⟨wb, 6, none⟩ vm2) :=
    (k.fr.mono (G := fun a => a = wb ∨ vo.ownBlock = some a ∨ vm.ownBlock = some a) (fun _ _ e => e.elim Or.inl (fun e => Or.inr (Or.inl e)))).trans ((hf4.mono (G := fun a => a = wb ∨ vo.ownBlock = some a ∨ vm.ownBlock = some a) (fun _ _ e => Or.inr (Or.inr e))).trans (hf5.mono (G := fun a => a = wb ∨ vo.ownBlock = some a ∨ vm.ownBlock = some a) (fun _ _ e => Or.inl e)) (fun _ _ e => e)) (fun _ _ e => e)
  have hrl : (w4.setCell ⟨wb, 6, none⟩ vm2).ownsRow b1 46 6 vl N ((List.replicate N (inkL m)).flatten) := ownsRow_keep k.rl (fun a ha => by
      obtain ⟨cur, hc⟩ := obj_of_row k.rl a ha
      have e := hkeep a cur _ hc (by decide)
      exact (hkeep5 a cur _ (e.trans hc) (by decide)).trans e)
  refine ⟨cell_of_row w4 wb 6 _ _ (0, 0) hb4, by simp [World.frozen?, hb4], h.addOrd (by rw [heap_setCell_same w4 wb 6 _ _ _ hb4]; rfl) ?_ ?_ hfr (ink_of_row hrl hN), hrl, ?_, ?_⟩
  · exact ownsRow_keep k.r1 (fun a ha => by
      obtain ⟨cur, hc⟩ := obj_of_row k.r1 a ha
      have e := hkeep a cur _ hc (by decide)
      exact (hkeep5 a cur _ (e.trans hc) (by decide)).trans e)
  · exact ownsRow_keep hown (fun a ha => by obtain ⟨cur, hc⟩ := obj_of_row hown a ha; exact hkeep5 a cur _ hc (by decide))
  · refine hfr.below hb ?_
    rintro a (e | e | e)
    · rw [e]; exact h.bw
    · exact (World.ownsRow.lt h.ror a e).1
    · exact (World.ownsRow.lt h.rom a e).1
  · have := k.sz
    have := hf4.size
    omega

end Go.Proofs.Ytphkchjejbffeaa
