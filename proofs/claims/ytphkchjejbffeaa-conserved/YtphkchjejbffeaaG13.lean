/- The orders of a book, listed. -/
import Derived.Test.YtphkchjejbffeaaG12
import Derived.Laws.MakeOwn
namespace Go.Proofs.Ytphkchjejbffeaa
open Go.RowKit
attribute [local go_sem ↓] Go.wp_at_zero Go.wp_at_succ

theorem Try.infoOrd : (Try.prog.info? 129).map (fun i => (i.zero, i.size, i.bytes)) = some (some (ordV 0 0 noOrd), 8, 32) := by kernel_rfl

theorem und_ords : Try.prog.underlying 92 = some (.slice 129) := by kernel_rfl
theorem two_desc : Try.prog.underlying 161 = some (.array 2 5) := by kernel_rfl
theorem u8_desc : Try.prog.underlying 5 = some (.int .u8) := by kernel_rfl
theorem side_ix0 (w : World) : (Instr.index 161 (.agg #[.int .u8 66, .int .u8 83]) (.int .i64 0)).run Try.prog w = .ok (.int .u8 66) w := by
  obtain ⟨i, hi, hs⟩ := Option.map_eq_some_iff.1 Try.size5
  simp [Instr.index, run_underlying two_desc, asIntOf, part, isAgg, run_underlying u8_desc, go_sem]
theorem side_ix1 (w : World) : (Instr.index 161 (.agg #[.int .u8 66, .int .u8 83]) (.int .i64 1)).run Try.prog w = .ok (.int .u8 83) w := by
  obtain ⟨i, hi, hs⟩ := Option.map_eq_some_iff.1 Try.size5
  simp [Instr.index, run_underlying two_desc, asIntOf, part, isAgg, run_underlying u8_desc, go_sem]

def rowsO (bef aft : Nat → Nat) (od : Nat → Ord) (l : List Nat) : List Value := l.flatMap fun x => ordL (bef x) (aft x) (od x)
def lenV : Value → Nat
  | .slice _ n _ => n
  | _ => 0
def sdx (i : Nat) : UInt8 := if i = 0 then 66 else 83
def upR (L : Nat) (ps : Nat → UInt8 → Nat → List Nat) (s : Nat) (d : UInt8) (r : Nat) : List Nat := (List.range r).flatMap fun i => ps s d (if d = 66 then L - i else i + 1)
def upS (L : Nat) (ps : Nat → UInt8 → Nat → List Nat) (s : Nat) (n : Nat) : List Nat := (List.range n).flatMap fun i => upR L ps s (sdx i) L

theorem upR_succ (L : Nat) (ps : Nat → UInt8 → Nat → List Nat) (s : Nat) (d : UInt8) (r : Nat) : upR L ps s d (r + 1) = upR L ps s d r ++ ps s d (if d = 66 then L - r else r + 1) := by
  unfold upR
  rw [List.range_succ, List.flatMap_append]
  simp
theorem upS_succ (L : Nat) (ps : Nat → UInt8 → Nat → List Nat) (s n : Nat) : upS L ps s (n + 1) = upS L ps s n ++ upR L ps s (sdx n) L := by
  unfold upS
  rw [List.range_succ, List.flatMap_append]
  simp
theorem rowsO_append (bef aft : Nat → Nat) (od : Nat → Ord) (a b : List Nat) : rowsO bef aft od (a ++ b) = rowsO bef aft od a ++ rowsO bef aft od b := by
  unfold rowsO; rw [List.flatMap_append]
theorem rowsO_one (bef aft : Nat → Nat) (od : Nat → Ord) (x : Nat) : rowsO bef aft od [x] = ordL (bef x) (aft x) (od x) := by simp [rowsO]
theorem ordL_one (a z : Nat) (o : Ord) : ∀ u ∈ ordL a z o, u.oneCell' = true := by
  intro v hv; simp [ordL] at hv; rcases hv with rfl | rfl | rfl | rfl | rfl | rfl | rfl | rfl <;> rfl
theorem rdRow_one (w : World) (a z : Nat) (o : Ord) : RdRow (w.alloc (.cells (ordL a z o).toArray 129)) 8 (.slice (some ⟨w.heap.size, 0, none⟩) 1 1) 1 (ordL a z o) := by
  refine Or.inr ⟨w.heap.size, 0, 1, rfl, rfl, ?_⟩
  intro j u hu
  rw [cell_of_row _ w.heap.size _ _ 129 (0, 0) (by rw [heap_alloc, if_pos rfl])]
  simpa using hu
theorem nodup_len (n : Nat) : ∀ l : List Nat, l.Nodup → (∀ x ∈ l, x < n) → l.length ≤ n := by
  induction n with
  | zero =>
    intro l _ h
    rcases l with _ | ⟨x, l⟩
    · simp
    · exact absurd (h x (by simp)) (by omega)
  | succ n ih =>
    intro l hn h
    have h1 := ih (l.filter (· != n)) (hn.sublist List.filter_sublist) (by
      intro x hx
      rw [List.mem_filter] at hx
      have := h x hx.1
      have : x ≠ n := by simpa using hx.2
      omega)
    have h2 : l.length ≤ (l.filter (· != n)).length + 1 := by
      clear h h1
      induction l with
      | nil => simp
      | cons x l ih2 =>
        have hn' := List.nodup_cons.1 hn
        by_cases e : x = n
        · subst e
          have : l.filter (· != x) = l := by
            rw [List.filter_eq_self]
            intro y hy
            simp
            intro e; subst e; exact hn'.1 hy
          simp [this]
        · have : (x != n) = true := by simpa using e
          simp only [List.filter_cons, this, if_true, List.length_cons]
          have := ih2 hn'.2
          omega
    omega
theorem len_flat {β : Type} (n m : Nat) (f : Nat → List β) (h : ∀ i, i < n → (f i).length ≤ m) : ((List.range n).flatMap f).length ≤ n * m := by
  induction n with
  | zero => simp
  | succ n ih =>
    rw [List.range_succ, List.flatMap_append, List.length_append]
    have h1 := ih (fun i hi => h i (by omega))
    have h2 := h n (by omega)
    have h3 : ([n].flatMap f).length = (f n).length := by simp
    rw [h3, Nat.add_mul]
    omega
theorem Lk.len {S L n free : Nat} {fs ls : Nat → Nat → Nat} {bef aft : Nat → Nat} {ps : Nat → UInt8 → Nat → List Nat} {fl : List Nat} (h : Lk S L n free fs ls bef aft ps fl) {s : Nat} {d : UInt8} {p : Nat} (hv : VV S L s d p) : (ps s d p).length ≤ n :=
  nodup_len n _ (h.line s d p hv).nodup (h.lt s d p hv)
theorem Lk.lenR {S L n free : Nat} {fs ls : Nat → Nat → Nat} {bef aft : Nat → Nat} {ps : Nat → UInt8 → Nat → List Nat} {fl : List Nat} (h : Lk S L n free fs ls bef aft ps fl) {s : Nat} {d : UInt8} (hs : s < S) (hd : d = 66 ∨ d = 83) (r : Nat) (hr : r ≤ L) : (upR L ps s d r).length ≤ L * n := by
  refine Nat.le_trans (len_flat r n _ ?_) (Nat.mul_le_mul_right _ hr)
  intro i hi
  exact h.len ⟨hs, hd, by split <;> omega, by split <;> omega⟩
theorem sdx_ok (i : Nat) : sdx i = 66 ∨ sdx i = 83 := by
  unfold sdx; split <;> simp
theorem Lk.lenS {S L n free : Nat} {fs ls : Nat → Nat → Nat} {bef aft : Nat → Nat} {ps : Nat → UInt8 → Nat → List Nat} {fl : List Nat} (h : Lk S L n free fs ls bef aft ps fl) {s : Nat} (hs : s < S) (i : Nat) : (upS L ps s i).length ≤ i * (L * n) :=
  len_flat i _ _ (fun j _ => h.lenR hs (sdx_ok j) L (Nat.le_refl _))

set_option maxRecDepth 100000 in
set_option maxHeartbeats 1000000 in
theorem list_mem (k : SK) (ok : k.ok) (s free taken : Nat) (fs ls : Nat → Nat → Nat) (bef aft : Nat → Nat) (od : Nat → Ord) (ps : Nat → UInt8 → Nat → List Nat) (fl : List Nat) (w : World) (h : IsBk w k free taken fs ls bef aft od) (hl : Lk k.S k.L k.n free fs ls bef aft ps fl) (hs : s < k.S) :
    Calls Try.prog 58 #[.pointer (some ⟨k.bk, 0, none⟩), .int .i64 s] w fun e w' => ∃ v, e = .returned v ∧ w'.ownsRow w.heap.size 129 8 v (upS k.L ps s 2).length (rowsO bef aft od (upS k.L ps s 2)) ∧ Below w.heap.size w w' := by
  have hsz : ∀ j, k.F j → j < w.heap.size := h.lt
  have hbl := hsz k.bk (Or.inl rfl)
  have g3 : w.cell? ⟨k.bk, 3, none⟩ = some (.int .i64 k.L) := h.K.cell 3
  have H := Hid.mk h
  have HL := Hid.mk hl
  have okL := ok.L
  clear h hl
  go_enter Try.func58, Try.ntmps58
  go_wp2_with fail
  have HB3 : Hid (k.L * k.n ≤ 4160) := by
    show _ ≤ _
    have := ok.n
    exact Nat.le_trans (Nat.mul_le_mul okL (show k.n ≤ 65 by omega)) (by decide)
  obtain ⟨i0, hi, hz0, hz1, hz2⟩ := info_parts Try.infoOrd
  go_loopw [5, 12] (fun v i wr => ∃ m : Nat, m ≤ 2 ∧ i = .int .i64 m ∧ Hid (wr.ownsRow w.heap.size 129 8 v (upS k.L ps s m).length (rowsO bef aft od (upS k.L ps s m))) ∧ Hid (Below w.heap.size w wr)) (fun _ i _ => 2 - (intOf i).toNat)
  case atStart => exact ⟨0, by omega, rfl, World.ownsRow_nil _ _ _ _, Below.refl _ _⟩
  case round =>
    obtain ⟨m, hm, rfl, hown, hB⟩ := hrel
    by_cases hlt : m < 2
    · have hm01 : m = 0 ∨ m = 1 := by omega
      have g3r : wr.cell? ⟨k.bk, 3, none⟩ = some (.int .i64 k.L) := (hB.out.cell (p := ⟨k.bk, 3, none⟩) hbl).trans g3
      have HM : Hid (upS k.L ps s (m + 1) = upS k.L ps s m ++ upR k.L ps s (sdx m) k.L) := upS_succ _ _ _ _
      have HLS : Hid ((upS k.L ps s m).length ≤ m * (k.L * k.n)) := HL.out.lenS hs m
      have hlt2 : (m : Int) < 2 := by omega
      rcases hm01 with hm0 | hm0
      · have HM2 : Hid (upS k.L ps s (m + 1) = upS k.L ps s m ++ upR k.L ps s 66 k.L) := by
          have := HM.out
          rw [show sdx m = 66 by rw [hm0]; rfl] at this
          exact this
        clear HM
        have HLS2 : Hid ((upS k.L ps s m).length ≤ 4160 * 2) := by
          have h1 := HLS.out
          have h2 := HB3.out
          rw [hm0] at h1
          show _ ≤ _
          rw [hm0]
          omega
        clear HLS
        have hix : (Instr.index 161 (.agg #[.int .u8 66, .int .u8 83]) (.int .i64 (m : Int))).run Try.prog wr = .ok (.int .u8 66) wr := by rw [hm0]; exact side_ix0 wr
        have HM0 := Hid.mk hm0
        clear hm0
        go_wp2_with fail
        clear g3r hix
        generalize upS k.L ps s m = pre at *
        go_loopw [5, 19] (fun v i w2 => ∃ r : Nat, r ≤ k.L ∧ i = .int .i64 r ∧ Hid (w2.ownsRow w.heap.size 129 8 v (pre ++ upR k.L ps s 66 r).length (rowsO bef aft od (pre ++ upR k.L ps s 66 r))) ∧ Hid (Below w.heap.size w w2)) (fun _ i _ => k.L - (intOf i).toNat)
        case atStart => exact ⟨0, Nat.zero_le _, rfl, by simpa [upR] using hown, hB⟩
        case round =>
          clear hown hB
          obtain ⟨r, hr, rfl, hown, hB⟩ := hrel
          by_cases hrl : r < k.L
          · have hB2 : Hid (IsBk wr k free taken fs ls bef aft od) := H.out.keep (fun j hj => hB.out.block j (hsz j hj))
            obtain ⟨p, hpe⟩ : ∃ p, (if (66 : UInt8) = 66 then k.L - r else r + 1) = p := ⟨_, rfl⟩
            have hrk := ranked_any k.bk (k.kc free taken) 66 r wr hB2.out.K (by decide) hrl (show k.L ≤ 1000 by omega)
            rw [show (if (66 : UInt8) = 66 then (k.kc free taken).levels - r else r + 1) = p from hpe] at hrk
            have hp1 : 1 ≤ p ∧ p ≤ k.L := by rw [← hpe]; split <;> omega
            have HRK := Hid.mk hrk
            have HUR : Hid (upR k.L ps s 66 (r + 1) = upR k.L ps s 66 r ++ ps s 66 p) := by
              show _ = _
              rw [upR_succ, hpe]
            have HLR : Hid ((upR k.L ps s 66 r).length ≤ 4160) := Nat.le_trans (HL.out.lenR hs (by decide) r hr) HB3.out
            clear hrk hpe
            have hVV : Hid (VV k.S k.L s 66 p) := ⟨hs, by decide, hp1.1, hp1.2⟩
            have hrl2 : (r : Int) < (k.L : Int) := by omega
            have gL : wr.cell? ⟨k.ln (jx s 66), (p - 1) * 2, none⟩ = some (.int .i64 ((fs (jx s 66) (p - 1) : Nat) : Int)) := (hB2.out.Ls _ (jx_lt _ hs)).cell (p - 1) 0 (by omega) (by omega)
            have hfe := (HL.out.line _ _ _ hVV.out).first
            generalize fs (jx s 66) (p - 1) = x at gL hfe
            have HFE := Hid.mk hfe
            clear hfe
            have HPL : Hid ((ps s 66 p).length ≤ 65) := Nat.le_trans (HL.out.len hVV.out) (by have := ok.n; omega)
            go_wp2_with (first
              | (go_at_call 90; refine HRK.out.mono ?_; rintro e w' ⟨rfl, hw⟩; replace hw := hw.symm; subst hw)
              | (go_at_call 89; refine (line_any k ok s p free taken 66 fs ls bef aft od wr hB2.out hVV.out).mono ?_; rintro e w' ⟨rfl, hw⟩; replace hw := hw.symm; subst hw))
            generalize hpre2 : pre ++ upR k.L ps s 66 r = pre2 at hown
            have HP2 : Hid (pre2.length ≤ 12480) := by
              show _ ≤ _
              have h1 := HLS2.out
              have h2 := HLR.out
              rw [← hpre2, List.length_append]
              omega
            go_loopw [5, 10] (fun v i w3 => ∃ a b : List Nat, ps s 66 p = a ++ b ∧ i = .int .i64 ((b.headD 0 : Nat) : Int) ∧ Hid (w3.ownsRow w.heap.size 129 8 v (pre2 ++ a).length (rowsO bef aft od (pre2 ++ a))) ∧ Hid (Below w.heap.size w w3)) (fun v _ _ => (pre2 ++ ps s 66 p).length - lenV v)
            case atStart => exact ⟨[], ps s 66 p, rfl, by rw [HFE.out], by simpa using hown, hB⟩
            case round =>
              clear hown hB gL
              obtain ⟨a, b, hab, rfl, hown, hB⟩ := hrel
              have HAB := Hid.mk hab
              clear hab
              rcases b with _ | ⟨y, b⟩
              · dsimp only [List.headD_nil]
                go_wp2_with fail
                exact ⟨⟨r + 1, by omega, by go_num, by rw [HUR.out, HAB.out, List.append_nil, ← List.append_assoc, hpre2]; exact hown, hB⟩, by simp [intOf]; omega⟩
              · dsimp only [List.headD_cons]
                have hym : y ∈ ps s 66 p := by rw [HAB.out]; simp
                have hyn : y < k.n := HL.out.lt _ _ _ hVV.out y hym
                have hy0 : y ≠ 0 := HL.out.ne0 hVV.out hym
                have haft : aft y = b.headD 0 := by
                  have := (HL.out.line _ _ _ hVV.out).chain
                  rw [HAB.out] at this
                  exact this.mid.2.1
                have hB3 : Hid (IsBk wr k free taken fs ls bef aft od) := H.out.keep (fun j hj => hB.out.block j (hsz j hj))
                obtain ⟨q0, q1, q2, q3, q4, q5, q6, q7⟩ := hB3.out.P.row y hyn
                have gK : wr.cell? ⟨k.bk, 0, none⟩ = some (.slice (some ⟨k.po, 0, none⟩) k.n k.n) := hB3.out.K.cell 0
                have hpw : k.po < wr.heap.size := hB3.out.P.lt
                have hbw : k.bk < wr.heap.size := hB3.out.K.lt
                have i1 : (y : Int) < (k.n : Int) := by omega
                have b0 : ((y : Int) == 0) = false := by simp; omega
                have b1 : ¬ ((y : Int) = 0) := by omega
                have okn := ok.n
                have HOA : Hid (∀ Ob : Obj, (wr.alloc Ob).ownsRow w.heap.size 129 8 u5 (pre2 ++ a).length (rowsO bef aft od (pre2 ++ a))) := fun Ob => ownsRow_keep hown.out (fun g hg => by rw [heap_alloc, if_neg (by have := (hown.out.lt g hg).2; omega)])
                have HOX := hown
                clear hown
                have HLA : Hid ((pre2 ++ a).length + 1 ≤ 12600 ∧ (pre2 ++ a).length < (pre2 ++ ps s 66 p).length) := by
                  have h1 := HP2.out
                  have h2 := HPL.out
                  refine ⟨?_, ?_⟩
                  · have h3 : (ps s 66 p).length = a.length + (b.length + 1) := by rw [HAB.out]; simp
                    rw [List.length_append]; omega
                  · have h3 : (ps s 66 p).length = a.length + (b.length + 1) := by rw [HAB.out]; simp
                    rw [List.length_append, List.length_append]; omega
                have HAF := Hid.mk haft
                have HNX : Hid (rowsO bef aft od (pre2 ++ (a ++ [y])) = rowsO bef aft od (pre2 ++ a) ++ ordL (bef y) (aft y) (od y)) := by
                  show _ = _
                  rw [← List.append_assoc, rowsO_append, rowsO_one]
                clear haft hym
                obtain ⟨u5a, u5c, hu5, hu5b, hu5d⟩ := ownsRow_len HOX.out
                have HU5 := Hid.mk hu5
                clear hu5 hu5b hu5d
                obtain ⟨nl, hnl⟩ : ∃ nl, (pre2 ++ a).length = nl := ⟨_, rfl⟩
                have HNL := Hid.mk hnl
                rw [hnl] at HOA HLA HU5
                clear hnl
                go_wp2_with (first
                  | (at_builtin; go_must (refine wpList_append_row rfl _ _ 92 rfl w.heap.size 129 i0 _ 8 32 und_ords hi hz0 hz1 hz2 rfl (by decide) u5 nl (rowsO bef aft od (pre2 ++ a)) rfl (HOA.out _) (.slice (some ⟨wr.heap.size, 0, none⟩) 1 1) 1 (ordL (bef y) (aft y) (od y)) rfl (rdRow_one wr _ _ _) (ordL_one _ _ _) (by have := HLA.out.1; unfold maxLen; omega) (by have := HLA.out.1; omega) (by rw [size_alloc]; have := hB.out.size; omega) ?_); intro rb capb w3 hown3 hg3 hv3; have hB4 : Hid (Below w.heap.size w w3) := (hB.out.alloc hB.out.size _).grown hg3 (by rw [size_alloc]; have := hB.out.size; omega) (fun g hg => (HOX.out.lt g hg).1); have hB5 : Hid (IsBk w3 k free taken fs ls bef aft od) := H.out.keep (fun j hj => hB4.out.block j (hsz j hj)); have gK3 : w3.cell? ⟨k.bk, 0, none⟩ = some (.slice (some ⟨k.po, 0, none⟩) k.n k.n) := hB5.out.K.cell 0; replace hown3 := Hid.mk hown3; clear hg3 hv3)
                  | (go_at_call 91; refine (behind_any k.po (y * 8) (aft y) w3 (hB5.out.P.cell y 1 hyn (by omega))).mono ?_; rintro e w' ⟨rfl, hw⟩; replace hw := hw.symm; subst hw))
                refine ⟨⟨a ++ [y], b, by rw [HAB.out]; simp, by rw [HAF.out], ?_, hB4⟩, ?_⟩
                · show World.ownsRow _ _ _ _ _ _ _
                  rw [HNX.out, ← List.append_assoc, List.length_append, HNL.out]
                  exact hown3.out
                · rw [HU5.out]
                  have := HLA.out.2
                  simp only [lenV]
                  omega
          · have hrl2 : ¬ ((r : Int) < (k.L : Int)) := by omega
            go_wp2_with fail
            have : r = k.L := by omega
            subst this
            exact ⟨⟨m + 1, by omega, by go_num, by rw [HM2.out]; exact hown, hB⟩, by simp [intOf]; omega⟩
      · have HM2 : Hid (upS k.L ps s (m + 1) = upS k.L ps s m ++ upR k.L ps s 83 k.L) := by
          have := HM.out
          rw [show sdx m = 83 by rw [hm0]; rfl] at this
          exact this
        clear HM
        have HLS2 : Hid ((upS k.L ps s m).length ≤ 4160 * 2) := by
          have h1 := HLS.out
          have h2 := HB3.out
          rw [hm0] at h1
          show _ ≤ _
          rw [hm0]
          omega
        clear HLS
        have hix : (Instr.index 161 (.agg #[.int .u8 66, .int .u8 83]) (.int .i64 (m : Int))).run Try.prog wr = .ok (.int .u8 83) wr := by rw [hm0]; exact side_ix1 wr
        have HM0 := Hid.mk hm0
        clear hm0
        go_wp2_with fail
        clear g3r hix
        generalize upS k.L ps s m = pre at *
        go_loopw [5, 19] (fun v i w2 => ∃ r : Nat, r ≤ k.L ∧ i = .int .i64 r ∧ Hid (w2.ownsRow w.heap.size 129 8 v (pre ++ upR k.L ps s 83 r).length (rowsO bef aft od (pre ++ upR k.L ps s 83 r))) ∧ Hid (Below w.heap.size w w2)) (fun _ i _ => k.L - (intOf i).toNat)
        case atStart => exact ⟨0, Nat.zero_le _, rfl, by simpa [upR] using hown, hB⟩
        case round =>
          clear hown hB
          obtain ⟨r, hr, rfl, hown, hB⟩ := hrel
          by_cases hrl : r < k.L
          · have hB2 : Hid (IsBk wr k free taken fs ls bef aft od) := H.out.keep (fun j hj => hB.out.block j (hsz j hj))
            obtain ⟨p, hpe⟩ : ∃ p, (if (83 : UInt8) = 66 then k.L - r else r + 1) = p := ⟨_, rfl⟩
            have hrk := ranked_any k.bk (k.kc free taken) 83 r wr hB2.out.K (by decide) hrl (show k.L ≤ 1000 by omega)
            rw [show (if (83 : UInt8) = 66 then (k.kc free taken).levels - r else r + 1) = p from hpe] at hrk
            have hp1 : 1 ≤ p ∧ p ≤ k.L := by rw [← hpe]; split <;> omega
            have HRK := Hid.mk hrk
            have HUR : Hid (upR k.L ps s 83 (r + 1) = upR k.L ps s 83 r ++ ps s 83 p) := by
              show _ = _
              rw [upR_succ, hpe]
            have HLR : Hid ((upR k.L ps s 83 r).length ≤ 4160) := Nat.le_trans (HL.out.lenR hs (by decide) r hr) HB3.out
            clear hrk hpe
            have hVV : Hid (VV k.S k.L s 83 p) := ⟨hs, by decide, hp1.1, hp1.2⟩
            have hrl2 : (r : Int) < (k.L : Int) := by omega
            have gL : wr.cell? ⟨k.ln (jx s 83), (p - 1) * 2, none⟩ = some (.int .i64 ((fs (jx s 83) (p - 1) : Nat) : Int)) := (hB2.out.Ls _ (jx_lt _ hs)).cell (p - 1) 0 (by omega) (by omega)
            have hfe := (HL.out.line _ _ _ hVV.out).first
            generalize fs (jx s 83) (p - 1) = x at gL hfe
            have HFE := Hid.mk hfe
            clear hfe
            have HPL : Hid ((ps s 83 p).length ≤ 65) := Nat.le_trans (HL.out.len hVV.out) (by have := ok.n; omega)
            go_wp2_with (first
              | (go_at_call 90; refine HRK.out.mono ?_; rintro e w' ⟨rfl, hw⟩; replace hw := hw.symm; subst hw)
              | (go_at_call 89; refine (line_any k ok s p free taken 83 fs ls bef aft od wr hB2.out hVV.out).mono ?_; rintro e w' ⟨rfl, hw⟩; replace hw := hw.symm; subst hw))
            generalize hpre2 : pre ++ upR k.L ps s 83 r = pre2 at hown
            have HP2 : Hid (pre2.length ≤ 12480) := by
              show _ ≤ _
              have h1 := HLS2.out
              have h2 := HLR.out
              rw [← hpre2, List.length_append]
              omega
            go_loopw [5, 10] (fun v i w3 => ∃ a b : List Nat, ps s 83 p = a ++ b ∧ i = .int .i64 ((b.headD 0 : Nat) : Int) ∧ Hid (w3.ownsRow w.heap.size 129 8 v (pre2 ++ a).length (rowsO bef aft od (pre2 ++ a))) ∧ Hid (Below w.heap.size w w3)) (fun v _ _ => (pre2 ++ ps s 83 p).length - lenV v)
            case atStart => exact ⟨[], ps s 83 p, rfl, by rw [HFE.out], by simpa using hown, hB⟩
            case round =>
              clear hown hB gL
              obtain ⟨a, b, hab, rfl, hown, hB⟩ := hrel
              have HAB := Hid.mk hab
              clear hab
              rcases b with _ | ⟨y, b⟩
              · dsimp only [List.headD_nil]
                go_wp2_with fail
                exact ⟨⟨r + 1, by omega, by go_num, by rw [HUR.out, HAB.out, List.append_nil, ← List.append_assoc, hpre2]; exact hown, hB⟩, by simp [intOf]; omega⟩
              · dsimp only [List.headD_cons]
                have hym : y ∈ ps s 83 p := by rw [HAB.out]; simp
                have hyn : y < k.n := HL.out.lt _ _ _ hVV.out y hym
                have hy0 : y ≠ 0 := HL.out.ne0 hVV.out hym
                have haft : aft y = b.headD 0 := by
                  have := (HL.out.line _ _ _ hVV.out).chain
                  rw [HAB.out] at this
                  exact this.mid.2.1
                have hB3 : Hid (IsBk wr k free taken fs ls bef aft od) := H.out.keep (fun j hj => hB.out.block j (hsz j hj))
                obtain ⟨q0, q1, q2, q3, q4, q5, q6, q7⟩ := hB3.out.P.row y hyn
                have gK : wr.cell? ⟨k.bk, 0, none⟩ = some (.slice (some ⟨k.po, 0, none⟩) k.n k.n) := hB3.out.K.cell 0
                have hpw : k.po < wr.heap.size := hB3.out.P.lt
                have hbw : k.bk < wr.heap.size := hB3.out.K.lt
                have i1 : (y : Int) < (k.n : Int) := by omega
                have b0 : ((y : Int) == 0) = false := by simp; omega
                have b1 : ¬ ((y : Int) = 0) := by omega
                have okn := ok.n
                have HOA : Hid (∀ Ob : Obj, (wr.alloc Ob).ownsRow w.heap.size 129 8 u5 (pre2 ++ a).length (rowsO bef aft od (pre2 ++ a))) := fun Ob => ownsRow_keep hown.out (fun g hg => by rw [heap_alloc, if_neg (by have := (hown.out.lt g hg).2; omega)])
                have HOX := hown
                clear hown
                have HLA : Hid ((pre2 ++ a).length + 1 ≤ 12600 ∧ (pre2 ++ a).length < (pre2 ++ ps s 83 p).length) := by
                  have h1 := HP2.out
                  have h2 := HPL.out
                  refine ⟨?_, ?_⟩
                  · have h3 : (ps s 83 p).length = a.length + (b.length + 1) := by rw [HAB.out]; simp
                    rw [List.length_append]; omega
                  · have h3 : (ps s 83 p).length = a.length + (b.length + 1) := by rw [HAB.out]; simp
                    rw [List.length_append, List.length_append]; omega
                have HAF := Hid.mk haft
                have HNX : Hid (rowsO bef aft od (pre2 ++ (a ++ [y])) = rowsO bef aft od (pre2 ++ a) ++ ordL (bef y) (aft y) (od y)) := by
                  show _ = _
                  rw [← List.append_assoc, rowsO_append, rowsO_one]
                clear haft hym
                obtain ⟨u5a, u5c, hu5, hu5b, hu5d⟩ := ownsRow_len HOX.out
                have HU5 := Hid.mk hu5
                clear hu5 hu5b hu5d
                obtain ⟨nl, hnl⟩ : ∃ nl, (pre2 ++ a).length = nl := ⟨_, rfl⟩
                have HNL := Hid.mk hnl
                rw [hnl] at HOA HLA HU5
                clear hnl
                go_wp2_with (first
                  | (at_builtin; go_must (refine wpList_append_row rfl _ _ 92 rfl w.heap.size 129 i0 _ 8 32 und_ords hi hz0 hz1 hz2 rfl (by decide) u5 nl (rowsO bef aft od (pre2 ++ a)) rfl (HOA.out _) (.slice (some ⟨wr.heap.size, 0, none⟩) 1 1) 1 (ordL (bef y) (aft y) (od y)) rfl (rdRow_one wr _ _ _) (ordL_one _ _ _) (by have := HLA.out.1; unfold maxLen; omega) (by have := HLA.out.1; omega) (by rw [size_alloc]; have := hB.out.size; omega) ?_); intro rb capb w3 hown3 hg3 hv3; have hB4 : Hid (Below w.heap.size w w3) := (hB.out.alloc hB.out.size _).grown hg3 (by rw [size_alloc]; have := hB.out.size; omega) (fun g hg => (HOX.out.lt g hg).1); have hB5 : Hid (IsBk w3 k free taken fs ls bef aft od) := H.out.keep (fun j hj => hB4.out.block j (hsz j hj)); have gK3 : w3.cell? ⟨k.bk, 0, none⟩ = some (.slice (some ⟨k.po, 0, none⟩) k.n k.n) := hB5.out.K.cell 0; replace hown3 := Hid.mk hown3; clear hg3 hv3)
                  | (go_at_call 91; refine (behind_any k.po (y * 8) (aft y) w3 (hB5.out.P.cell y 1 hyn (by omega))).mono ?_; rintro e w' ⟨rfl, hw⟩; replace hw := hw.symm; subst hw))
                refine ⟨⟨a ++ [y], b, by rw [HAB.out]; simp, by rw [HAF.out], ?_, hB4⟩, ?_⟩
                · show World.ownsRow _ _ _ _ _ _ _
                  rw [HNX.out, ← List.append_assoc, List.length_append, HNL.out]
                  exact hown3.out
                · rw [HU5.out]
                  have := HLA.out.2
                  simp only [lenV]
                  omega
          · have hrl2 : ¬ ((r : Int) < (k.L : Int)) := by omega
            go_wp2_with fail
            have : r = k.L := by omega
            subst this
            exact ⟨⟨m + 1, by omega, by go_num, by rw [HM2.out]; exact hown, hB⟩, by simp [intOf]; omega⟩
    · have hm2 : m = 2 := by omega
      subst hm2
      go_wp2_with fail
      go_ret
      exact ⟨_, rfl, hown.out, hB.out⟩

end Go.Proofs.Ytphkchjejbffeaa

/- A new pool. -/
namespace Go.Proofs.Ytphkchjejbffeaa
open Go.RowKit
attribute [local go_sem ↓] Go.wp_at_zero Go.wp_at_succ

/-- The free places of a new pool, those from p on. -/
def aftN (n p i : Nat) : Nat := if p ≤ i ∧ i < n then i + 1 else 0
theorem made_ords (n : Nat) : madeCells (ordV 0 0 noOrd).cells (n * 8) = rowOf n 8 (oCell (fun _ => 0) (fun _ => 0) (fun _ => noOrd)) := by
  apply Array.ext
  · simp [madeCells, rowOf]
  · intro i h1 h2
    have hi : i % 8 < 8 := by omega
    simp only [madeCells, rowOf, Array.getElem_ofFn]
    have hs : (ordV 0 0 noOrd).cells.size = 8 := rfl
    generalize hj : i % 8 = j at hi
    match j, hi with
    | 0, _ => simp [hs, hj]; rfl
    | 1, _ => simp [hs, hj]; rfl
    | 2, _ => simp [hs, hj]; rfl
    | 3, _ => simp [hs, hj]; rfl
    | 4, _ => simp [hs, hj]; rfl
    | 5, _ => simp [hs, hj]; rfl
    | 6, _ => simp [hs, hj]; rfl
    | 7, _ => simp [hs, hj]; rfl

set_option maxRecDepth 100000 in
set_option maxHeartbeats 1000000 in
theorem newPool_any (n : Nat) (w : World) (h1 : 1 ≤ n) (h2 : n ≤ 64) :
    Calls Try.prog 69 #[.int .i64 n] w fun e w' => ∃ po, w.heap.size ≤ po ∧ e = .returned (.agg #[.slice (some ⟨po, 0, none⟩) (n + 1) (n + 1), .int .i64 1, .int .i64 0]) ∧
      IsP w' po (n + 1) (fun _ => 0) (aftN n 1) (fun _ => noOrd) ∧ Below w.heap.size w w' := by
  obtain ⟨m, hm⟩ : ∃ m, m = n + 1 := ⟨_, rfl⟩
  rw [← hm]
  obtain ⟨i0, hi, hz0, hz1, hz2⟩ := info_parts Try.infoOrd
  have hmk : ∀ w : World, (Instr.makeSlice 92 (.int .i64 ((n : Int) + 1)) (.int .i64 ((n : Int) + 1))).run Try.prog w = .ok (.slice (some ⟨w.heap.size, 0, none⟩) m m) (w.alloc (.cells (rowOf m 8 (oCell (fun _ => 0) (fun _ => 0) (fun _ => noOrd))) 129)) := by
    intro w
    have := run_make (P := Try.prog) w 92 129 i0 (ordV 0 0 noOrd) und_ords hi hz0 .i64 .i64 m m (by omega) (by omega) (by rw [hz2]; omega) (by omega)
    rw [hz1, Int.toNat_natCast, made_ords] at this
    rw [show ((n : Int) + 1) = (m : Int) by omega]
    exact this
  have wm : IntKind.i64.wrap ((n : Int) + 1) = (n : Int) + 1 := by rw [IntKind.wrap_i64]; omega
  have HM := Hid.mk hm
  clear hm
  go_enter Try.func69, Try.ntmps69
  go_wp2_with fail
  obtain ⟨po, hpo⟩ : ∃ po, po = w.heap.size + 1 := ⟨_, rfl⟩
  obtain ⟨pb, hpb⟩ : ∃ pb, pb = w.heap.size + 1 + 1 := ⟨_, rfl⟩
  rw [← hpb, ← hpo]
  generalize hW : (World.alloc _ (Obj.cells #[Value.slice (some ⟨po, 0, none⟩) m m, Value.int .i64 0, Value.int .i64 0] 121)) = W
  have hBW : Hid (Below w.heap.size w W) := by
    rw [← hW]
    exact (((Below.refl _ _).alloc (Nat.le_refl _) _).alloc (by rw [size_alloc]; omega) _).alloc (by rw [size_alloc, size_alloc]; omega) _
  have hsW : W.heap.size = w.heap.size + 3 := by rw [← hW, size_alloc, size_alloc, size_alloc]
  have hRW : W.heap[w.heap.size]? = some (.cells #[.slice none 0 0, .int .i64 0, .int .i64 0] 121) := by
    rw [← hW, heap_alloc, if_neg (by rw [size_alloc, size_alloc]; omega), heap_alloc, if_neg (by rw [size_alloc]; omega), heap_alloc, if_pos rfl]
  have hPW : IsP W po m (fun _ => 0) (aftN n (n + 1)) (fun _ => noOrd) := by
    have e : aftN n (n + 1) = fun _ => 0 := by
      funext i
      unfold aftN
      rw [if_neg (by omega)]
    rw [e]
    refine ⟨?_⟩
    rw [← hW, heap_alloc, if_neg (by rw [size_alloc, size_alloc]; omega), heap_alloc, if_pos (by rw [size_alloc]; omega)]
  have hBX : W.heap[pb]? = some (.cells #[.slice (some ⟨po, 0, none⟩) m m, .int .i64 0, .int .i64 0] 121) := by
    rw [← hW, heap_alloc, if_pos (by rw [size_alloc, size_alloc]; omega)]
  clear hW
  have npo : pb ≠ po := by omega
  have nr1 : w.heap.size ≠ po := by omega
  have nr2 : w.heap.size ≠ pb := by omega
  have HPO := Hid.mk (And.intro hpo hpb)
  clear hpo hpb
  have i1m : (n : Int) < (m : Int) := by have := HM.out; omega
  go_loopw [4] (fun i wr => ∃ j f : Nat, j ≤ n ∧ (f = if j < n then j + 1 else 0) ∧ i = .int .i64 j ∧ Hid (Below w.heap.size w wr ∧ wr.heap[w.heap.size]? = some (.cells #[.slice none 0 0, .int .i64 0, .int .i64 0] 121) ∧ IsP wr po m (fun _ => 0) (aftN n (j + 1)) (fun _ => noOrd) ∧ wr.heap[pb]? = some (.cells #[.slice (some ⟨po, 0, none⟩) m m, .int .i64 f, .int .i64 0] 121))) (fun i _ => (intOf i).toNat)
  case atStart => exact ⟨n, 0, Nat.le_refl _, by rw [if_neg (by omega)], rfl, hBW.out, hRW, hPW, hBX⟩
  case round =>
    obtain ⟨j, f, hj, hf, rfl, hrel⟩ := hrel
    clear hBW hRW hPW hBX
    obtain ⟨hB, hR, hP, hX⟩ := hrel.out
    clear hrel
    have g0 : wr.cell? ⟨pb, 0, none⟩ = some (.slice (some ⟨po, 0, none⟩) m m) := by rw [cell_of_row wr pb 0 _ _ (0, 0) hX]; rfl
    have g1 : wr.cell? ⟨pb, 1, none⟩ = some (.int .i64 f) := by rw [cell_of_row wr pb 1 _ _ (0, 0) hX]; rfl
    have g2 : wr.cell? ⟨pb, 2, none⟩ = some (.int .i64 0) := by rw [cell_of_row wr pb 2 _ _ (0, 0) hX]; rfl
    have HF := Hid.mk hf
    have HH := Hid.mk (And.intro hB (And.intro hR (And.intro hP hX)))
    clear hf
    by_cases h0 : 0 < j
    · have b1 : (0 : Int) < (j : Int) := by omega
      have i1 : (j : Int) < (m : Int) := by omega
      have hjm : j < m := by have := HM.out; omega
      clear hB hR hP hX
      go_wp2_with fail
      go_region_held3 (fun w' => w'.cell? ⟨pb, 0, none⟩ = some (.slice (some ⟨po, 0, none⟩) m m) ∧ w'.cell? ⟨pb, 1, none⟩ = some (.int .i64 f)) (first | exact ⟨m1, m2⟩ | go_keep)
        ((go_at_call 108; refine (setBehind_pool po m j f _ _ _ wr.drew ⟨HH.out.2.2.1.blk⟩ hjm).mono ?_; rintro e w3 ⟨rfl, hp3, hf3⟩; have m1 := hf3.out.cell (w := wr.drew) g0 npo; have m2 := hf3.out.cell (w := wr.drew) g1 npo))
      have hX3 : Hid (w3.heap[pb]? = some (.cells #[.slice (some ⟨po, 0, none⟩) m m, .int .i64 f, .int .i64 0] 121)) := by
        have h := HH.out.2.2.2
        exact (hf3.out.block pb (show pb < wr.drew.heap.size from (Array.getElem?_eq_some_iff.1 h).1) npo).trans h
      have fz : w3.frozen? ⟨pb, 1, none⟩ = false := by
        have h := hX3.out
        simp [World.frozen?, h]
      have wj : IntKind.i64.wrap ((j : Int) - 1) = (j : Int) - 1 := by rw [IntKind.wrap_i64]; omega
      go_wp2_with fail
      refine ⟨⟨j - 1, j, by omega, by rw [if_pos (by omega)]; omega, by go_num, ?_⟩, by simp [intOf]; omega⟩
      have hfr : Fr (fun k => k = pb) w3 (w3.setCell ⟨pb, 1, none⟩ (.int .i64 j)) := Fr.setCell w3 ⟨pb, 1, none⟩ _
      obtain ⟨hB, hR, hP, hX⟩ := HH.out
      have hsz : w.heap.size ≤ wr.heap.size := hB.size
      refine ⟨?_, ?_, ?_, ?_⟩
      · have hp' := HPO.out.1
        have hp2 := HPO.out.2
        exact ((hB.drew).trans (hf3.out.below (w := wr.drew) hsz (fun k e => by have e : k = po := e; omega))).trans (hfr.below (by have := hf3.out.size; exact Nat.le_trans hsz this) (fun k e => by have e : k = pb := e; omega))
      · have hl : w.heap.size < wr.heap.size := (Array.getElem?_eq_some_iff.1 hR).1
        exact (hfr.block _ (Nat.lt_of_lt_of_le hl hf3.out.size) nr2).trans ((hf3.out.block _ hl nr1).trans hR)
      · have e : updN (aftN n (j + 1)) j f = aftN n (j - 1 + 1) := by
          funext i
          have hf := HF.out
          unfold updN aftN
          rw [show j - 1 + 1 = j by omega]
          by_cases e : i = j
          · subst e
            rw [if_pos rfl, hf]
            by_cases e2 : i < n
            · rw [if_pos e2, if_pos ⟨Nat.le_refl _, e2⟩]
            · rw [if_neg e2, if_neg (fun h => e2 h.2)]
          · rw [if_neg e]
            by_cases e2 : j + 1 ≤ i ∧ i < n
            · rw [if_pos e2, if_pos ⟨by omega, e2.2⟩]
            · rw [if_neg e2, if_neg (fun h => e2 ⟨by omega, h.2⟩)]
        rw [← e]
        exact hp3.out.keep (hfr.block po hp3.out.lt (Ne.symm npo))
      · rw [heap_setCell_same w3 pb 1 _ _ _ hX3.out]; rfl
    · have hj0 : j = 0 := by omega
      have b1 : ¬ ((0 : Int) < (j : Int)) := by omega
      have hf1 : f = 1 := by rw [HF.out, hj0, if_pos (by omega)]
      have fz : ∀ i, wr.frozen? ⟨w.heap.size, i, none⟩ = false := fun i => by simp [World.frozen?, hR]
      have f0 := fz 0
      have f1 := fz 1
      have f2 := fz 2
      have r0 : wr.cell? ⟨w.heap.size, 0, none⟩ = some (.slice none 0 0) := by rw [cell_of_row wr w.heap.size 0 _ _ (0, 0) hR]; rfl
      have r1 : wr.cell? ⟨w.heap.size, 1, none⟩ = some (.int .i64 0) := by rw [cell_of_row wr w.heap.size 1 _ _ (0, 0) hR]; rfl
      have r2 : wr.cell? ⟨w.heap.size, 2, none⟩ = some (.int .i64 0) := by rw [cell_of_row wr w.heap.size 2 _ _ (0, 0) hR]; rfl
      clear hB hR hP hX fz
      subst hf1
      have HJ := Hid.mk hj0
      clear hj0
      go_wp2_with fail
      have hfr : Fr (fun k => k = w.heap.size) wr (((wr.setCell ⟨w.heap.size, 0, none⟩ (.slice (some ⟨po, 0, none⟩) m m)).setCell ⟨w.heap.size, 1, none⟩ (.int .i64 1)).setCell ⟨w.heap.size, 2, none⟩ (.int .i64 0)) :=
        (Fr.setCell wr ⟨w.heap.size, 0, none⟩ _).trans ((Fr.setCell _ ⟨w.heap.size, 1, none⟩ _).trans (Fr.setCell _ ⟨w.heap.size, 2, none⟩ _) (fun _ _ h => h)) (fun _ _ h => h)
      have hblk : (((wr.setCell ⟨w.heap.size, 0, none⟩ (.slice (some ⟨po, 0, none⟩) m m)).setCell ⟨w.heap.size, 1, none⟩ (.int .i64 1)).setCell ⟨w.heap.size, 2, none⟩ (.int .i64 0)).heap[w.heap.size]? = some (.cells #[.slice (some ⟨po, 0, none⟩) m m, .int .i64 1, .int .i64 0] 121) := by
        rw [heap_setCell_same _ w.heap.size 2 _ _ _ (heap_setCell_same _ w.heap.size 1 _ _ _ (heap_setCell_same wr w.heap.size 0 _ _ _ HH.out.2.1))]; rfl
      generalize (((wr.setCell ⟨w.heap.size, 0, none⟩ (.slice (some ⟨po, 0, none⟩) m m)).setCell ⟨w.heap.size, 1, none⟩ (.int .i64 1)).setCell ⟨w.heap.size, 2, none⟩ (.int .i64 0)) = w9 at hfr hblk ⊢
      have c0 : w9.cell? ⟨w.heap.size, 0, none⟩ = some (.slice (some ⟨po, 0, none⟩) m m) := by rw [cell_of_row w9 w.heap.size 0 _ _ (0, 0) hblk]; rfl
      have c1 : w9.cell? ⟨w.heap.size, 1, none⟩ = some (.int .i64 1) := by rw [cell_of_row w9 w.heap.size 1 _ _ (0, 0) hblk]; rfl
      have c2 : w9.cell? ⟨w.heap.size, 2, none⟩ = some (.int .i64 0) := by rw [cell_of_row w9 w.heap.size 2 _ _ (0, 0) hblk]; rfl
      obtain ⟨hB, hR, hP, hX⟩ := HH.out
      have hsz : w.heap.size ≤ wr.heap.size := hB.size
      have hp1 := HPO.out.1
      refine bodyPost_ret (v := .agg #[.slice (some ⟨po, 0, none⟩) m m, .int .i64 1, .int .i64 0]) (by simp [results, Try.results69, go_sem, c0, c1, c2]) rfl ⟨po, by omega, rfl, ?_, ?_⟩
      · have : aftN n (j + 1) = aftN n 1 := by rw [HJ.out]
        rw [← this]
        exact hP.keep (hfr.block po hP.lt (Ne.symm nr1))
      · exact hB.trans (hfr.below hsz (fun k e => by have e : k = w.heap.size := e; omega))

end Go.Proofs.Ytphkchjejbffeaa

/- New books. -/
namespace Go.Proofs.Ytphkchjejbffeaa
open Go.RowKit
attribute [local go_sem ↓] Go.wp_at_zero Go.wp_at_succ

theorem Try.infoLine : (Try.prog.info? 166).map (fun i => (i.zero, i.size, i.bytes)) = some (some (.agg #[.int .i64 0, .int .i64 0]), 2, 16) := by kernel_rfl
theorem Try.infoTwo : (Try.prog.info? 138).map (fun i => (i.zero, i.size, i.bytes)) = some (some (.agg #[.slice none 0 0, .slice none 0 0]), 2, 48) := by kernel_rfl
theorem und_lines : Try.prog.underlying 137 = some (.slice 166) := by kernel_rfl
theorem und_twos : Try.prog.underlying 122 = some (.slice 138) := by kernel_rfl

theorem made_two (a : Value) (n : Nat) (f : Nat → Nat → Value) (hf : ∀ x j, f x j = a) : madeCells #[a, a] (n * 2) = rowOf n 2 f := by
  apply Array.ext
  · simp [madeCells, rowOf]
  · intro i h1 h2
    have hi : i % 2 = 0 ∨ i % 2 = 1 := by omega
    simp only [madeCells, rowOf, Array.getElem_ofFn, hf]
    rcases hi with hi | hi <;> simp [hi]

theorem newPool_m (n m : Nat) (w : World) (h1 : 1 ≤ n) (h2 : n ≤ 64) (hm : n + 1 = m) :
    Calls Try.prog 69 #[.int .i64 n] w fun e w' => ∃ po, w.heap.size ≤ po ∧ e = .returned (.agg #[.slice (some ⟨po, 0, none⟩) m m, .int .i64 1, .int .i64 0]) ∧
      IsP w' po m (fun _ => 0) (aftN n 1) (fun _ => noOrd) ∧ Below w.heap.size w w' := by
  subst hm
  exact newPool_any n w h1 h2

def tabF (ln : Nat → Nat) (L m : Nat) (s i : Nat) : Value := if s < m then .slice (some ⟨ln (s * 2 + i), 0, none⟩) L L else .slice none 0 0

/-- New books, of which the lines of i stocks are made. -/
structure NewL (w wr : World) (bk po pl l s m n i : Nat) (ln : Nat → Nat) : Prop where
  below : Below w.heap.size w wr
  K : IsK wr bk { po := po, n := m, free := 1, taken := 0, levels := l, pl := pl, stocks := s }
  P : IsP wr po m (fun _ => 0) (aftN n 1) (fun _ => noOrd)
  T : wr.heap[pl]? = some (.cells (rowOf s 2 (tabF ln l i)) 138)
  L : ∀ j, j < i * 2 → IsL wr (ln j) l (fun _ => 0) (fun _ => 0) ∧ w.heap.size ≤ ln j ∧ ln j ≠ bk ∧ ln j ≠ po ∧ ln j ≠ pl
  inj : ∀ j j', j < i * 2 → j' < i * 2 → ln j = ln j' → j = j'

theorem NewL.step {w wr W : World} {bk po pl l s m n i : Nat} {ln : Nat → Nat} (h : NewL w wr bk po pl l s m n i ln) (hi : i < s) (n1 : po ≠ pl) (n2 : bk ≠ pl) (hpl : w.heap.size ≤ pl) (a b : Nat) (ha : wr.heap.size ≤ a) (hb : wr.heap.size ≤ b) (hab : a ≠ b) (hf : Fr (fun k => k = pl) wr W)
    (hA : IsL W a l (fun _ => 0) (fun _ => 0)) (hB : IsL W b l (fun _ => 0) (fun _ => 0))
    (hT : W.heap[pl]? = some (.cells (((rowOf s 2 (tabF ln l i)).setIfInBounds (i * 2) (.slice (some ⟨a, 0, none⟩) l l)).setIfInBounds (i * 2 + 1) (.slice (some ⟨b, 0, none⟩) l l)) 138)) :
    NewL w W bk po pl l s m n (i + 1) (updN (updN ln (i * 2) a) (i * 2 + 1) b) := by
  have hsz := h.below.size
  have hkl := h.K.lt
  have hpl2 := h.P.lt
  have htl : pl < wr.heap.size := (Array.getElem?_eq_some_iff.1 h.T).1
  have old : ∀ j, j < i * 2 → updN (updN ln (i * 2) a) (i * 2 + 1) b j = ln j := fun j hj => by rw [updN_ne _ _ _ _ (by omega), updN_ne _ _ _ _ (by omega)]
  have ea : updN (updN ln (i * 2) a) (i * 2 + 1) b (i * 2) = a := by rw [updN_ne _ _ _ _ (by omega), updN_same]
  have eb : updN (updN ln (i * 2) a) (i * 2 + 1) b (i * 2 + 1) = b := updN_same _ _ _
  have lt : ∀ j, j < i * 2 → ln j < wr.heap.size := fun j hj => (h.L j hj).1.lt
  have split : ∀ j, j < (i + 1) * 2 → j < i * 2 ∨ j = i * 2 ∨ j = i * 2 + 1 := fun j hj => by omega
  refine ⟨h.below.trans (hf.below hsz (fun k e => by have e : k = pl := e; omega)), ⟨(hf.block bk hkl n2).trans h.K.blk⟩, ⟨(hf.block po hpl2 n1).trans h.P.blk⟩, ?_, ?_, ?_⟩
  · rw [hT]
    have e1 := rowOf_set s 2 (tabF ln l i) i 0 (by omega) (.slice (some ⟨a, 0, none⟩) l l)
    rw [Nat.add_zero] at e1
    rw [e1, rowOf_set s 2 _ i 1 (by omega)]
    congr 2
    unfold rowOf
    congr 1
    funext x
    have hx : x.val % 2 = 0 ∨ x.val % 2 = 1 := by omega
    generalize x.val / 2 = y
    unfold tabF
    dsimp only
    by_cases e : y = i
    · subst e
      rcases hx with hx | hx
      · rw [hx, show y * 2 + 0 = y * 2 from rfl, ea]; simp
      · rw [hx, eb]; simp
    · by_cases e2 : y < i
      · rw [if_pos (show y < i + 1 by omega), old _ (by omega)]
        simp [e, e2]
      · rw [if_neg (show ¬ y < i + 1 by omega)]
        simp [e, e2]
  · intro j hj
    rcases split j hj with hj | rfl | rfl
    · rw [old j hj]
      obtain ⟨l1, l2, l3, l4, l5⟩ := h.L j hj
      exact ⟨⟨(hf.block _ l1.lt l5).trans l1.blk⟩, l2, l3, l4, l5⟩
    · rw [ea]
      exact ⟨hA, by omega, by omega, by omega, by omega⟩
    · rw [eb]
      exact ⟨hB, by omega, by omega, by omega, by omega⟩
  · intro j j' hj hj' e
    rcases split j hj with hj | rfl | rfl <;> rcases split j' hj' with hj' | rfl | rfl
    · rw [old j hj, old j' hj'] at e
      exact h.inj j j' hj hj' e
    · rw [old j hj, ea] at e; have := lt j hj; omega
    · rw [old j hj, eb] at e; have := lt j hj; omega
    · rw [old j' hj', ea] at e; have := lt j' hj'; omega
    · rfl
    · rw [ea, eb] at e; exact absurd e hab
    · rw [old j' hj', eb] at e; have := lt j' hj'; omega
    · rw [ea, eb] at e; exact absurd e.symm hab
    · rfl

/-- Two rows of lines are made, in whichever order, and laid into the table. -/
theorem NewL.made {w wr : World} {bk po pl l s m n i : Nat} {ln : Nat → Nat} (h : NewL w wr bk po pl l s m n i ln) (hi : i < s) (n1 : po ≠ pl) (n2 : bk ≠ pl) (hpl : w.heap.size ≤ pl) (a b : Nat) (hab : (a = wr.heap.size ∧ b = wr.heap.size + 1) ∨ (a = wr.heap.size + 1 ∧ b = wr.heap.size)) :
    NewL w ((((wr.setCell ⟨pl, i * 2, none⟩ (.slice (some ⟨a, 0, none⟩) l l)).setCell ⟨pl, i * 2 + 1, none⟩ (.slice (some ⟨b, 0, none⟩) l l)).alloc (.cells (rowOf l 2 (lCell (fun _ => 0) (fun _ => 0))) 166)).alloc (.cells (rowOf l 2 (lCell (fun _ => 0) (fun _ => 0))) 166)) bk po pl l s m n (i + 1) (updN (updN ln (i * 2) a) (i * 2 + 1) b) := by
  have htl : pl < wr.heap.size := (Array.getElem?_eq_some_iff.1 h.T).1
  generalize hO : Obj.cells (rowOf l 2 (lCell (fun _ => 0) (fun _ => 0))) 166 = O
  have fr1 : Fr (fun k => k = pl) wr ((wr.setCell ⟨pl, i * 2, none⟩ (.slice (some ⟨a, 0, none⟩) l l)).setCell ⟨pl, i * 2 + 1, none⟩ (.slice (some ⟨b, 0, none⟩) l l)) := (Fr.setCell _ ⟨pl, i * 2, none⟩ _).trans (Fr.setCell _ ⟨pl, i * 2 + 1, none⟩ _) (fun _ _ h => h)
  have bT : ((wr.setCell ⟨pl, i * 2, none⟩ (.slice (some ⟨a, 0, none⟩) l l)).setCell ⟨pl, i * 2 + 1, none⟩ (.slice (some ⟨b, 0, none⟩) l l)).heap[pl]? = _ := heap_setCell_same _ pl (i * 2 + 1) _ _ _ (heap_setCell_same wr pl (i * 2) _ _ _ h.T)
  have ss : ((wr.setCell ⟨pl, i * 2, none⟩ (.slice (some ⟨a, 0, none⟩) l l)).setCell ⟨pl, i * 2 + 1, none⟩ (.slice (some ⟨b, 0, none⟩) l l)).heap.size = wr.heap.size := by simp [World.setCell]
  generalize (wr.setCell ⟨pl, i * 2, none⟩ (.slice (some ⟨a, 0, none⟩) l l)).setCell ⟨pl, i * 2 + 1, none⟩ (.slice (some ⟨b, 0, none⟩) l l) = V at fr1 bT ss ⊢
  have fr2 : Fr (fun k => k = pl) V ((V.alloc O).alloc O) := (Fr.alloc _ V O).trans (Fr.alloc _ _ O) (fun _ _ h => h)
  have b1 : ((V.alloc O).alloc O).heap[wr.heap.size]? = some O := by rw [← ss, heap_alloc, if_neg (by rw [size_alloc]; omega), heap_alloc, if_pos rfl]
  have b2 : ((V.alloc O).alloc O).heap[wr.heap.size + 1]? = some O := by rw [← ss, heap_alloc, if_pos (by rw [size_alloc])]
  refine h.step hi n1 n2 hpl a b (by omega) (by omega) (by omega) (fr1.trans fr2 (fun _ _ h => h)) ⟨?_⟩ ⟨?_⟩ ?_
  · rw [hO]
    rcases hab with ⟨rfl, -⟩ | ⟨rfl, -⟩
    · exact b1
    · exact b2
  · rw [hO]
    rcases hab with ⟨-, rfl⟩ | ⟨-, rfl⟩
    · exact b2
    · exact b1
  · rw [heap_alloc, if_neg (by rw [size_alloc]; omega), heap_alloc, if_neg (by omega)]
    exact bT

theorem NewL.drew {w wr : World} {bk po pl l s m n i : Nat} {ln : Nat → Nat} (h : NewL w wr bk po pl l s m n i ln) : NewL w wr.drew bk po pl l s m n i ln :=
  ⟨h.below.drew, ⟨h.K.blk⟩, ⟨h.P.blk⟩, h.T, fun j hj => ⟨⟨(h.L j hj).1.blk⟩, (h.L j hj).2⟩, h.inj⟩

theorem NewL.done {w wr : World} {bk po pl l s m n : Nat} {ln : Nat → Nat} (h : NewL w wr bk po pl l s m n s ln) (hm : n + 1 = m) (hn : n ≤ 64) (hs : s ≤ 8) (hl : l ≤ 64) (h1 : w.heap.size ≤ po) (h2 : w.heap.size ≤ pl) (h3 : w.heap.size ≤ bk) (h4 : po ≠ pl) (h5 : bk ≠ pl) (h6 : bk ≠ po) :
    (⟨bk, po, pl, m, s, l, ln⟩ : SK).ok ∧ (∀ j, (⟨bk, po, pl, m, s, l, ln⟩ : SK).F j → w.heap.size ≤ j) ∧ IsBk wr ⟨bk, po, pl, m, s, l, ln⟩ 1 0 (fun _ _ => 0) (fun _ _ => 0) (fun _ => 0) (aftN n 1) (fun _ => noOrd) := by
  refine ⟨⟨h6, h5, h4, fun j hj => (h.L j hj).2.2.1, fun j hj => (h.L j hj).2.2.2.1, fun j hj => (h.L j hj).2.2.2.2, fun i j hi hj e => h.inj i j hi hj e, ⟨by show 1 ≤ m; omega, by show m ≤ 65; omega⟩, hs, hl⟩, ?_, ⟨h.K, h.P, ?_, fun j hj => (h.L j hj).1⟩⟩
  · rintro j (rfl | rfl | rfl | ⟨i, hi, rfl⟩)
    · exact h3
    · exact h1
    · exact h2
    · exact (h.L i hi).2.1
  · have e : rowOf s 2 (tabF ln l s) = rowOf s 2 (fun s i => .slice (some ⟨ln (s * 2 + i), 0, none⟩) l l) := by
      unfold rowOf
      congr 1
      funext x
      unfold tabF
      rw [if_pos]
      have := x.isLt
      omega
    show wr.heap[pl]? = some (.cells (rowOf s 2 (fun s i => .slice (some ⟨ln (s * 2 + i), 0, none⟩) l l)) 138)
    rw [h.T, e]

set_option maxRecDepth 100000 in
set_option maxHeartbeats 1000000 in
theorem booksNew_any (s l n : Nat) (w : World) (hs : 1 ≤ s ∧ s ≤ 8) (hl : 1 ≤ l ∧ l ≤ 64) (hn : 1 ≤ n ∧ n ≤ 64) :
    Calls Try.prog 47 #[.int .i64 s, .int .i64 l, .int .i64 n] w fun e w' => ∃ k : SK, e = .returned (.pointer (some ⟨k.bk, 0, none⟩)) ∧ k.n = n + 1 ∧ k.S = s ∧ k.L = l ∧ k.ok ∧ (∀ j, k.F j → w.heap.size ≤ j) ∧
      IsBk w' k 1 0 (fun _ _ => 0) (fun _ _ => 0) (fun _ => 0) (aftN n 1) (fun _ => noOrd) ∧ Below w.heap.size w w' := by
  obtain ⟨i0, hi, hz0, hz1, hz2⟩ := info_parts Try.infoLine
  obtain ⟨i1, hi1, hy0, hy1, hy2⟩ := info_parts Try.infoTwo
  have hmk1 : ∀ w : World, (Instr.makeSlice 137 (.int .i64 l) (.int .i64 l)).run Try.prog w = .ok (.slice (some ⟨w.heap.size, 0, none⟩) l l) (w.alloc (.cells (rowOf l 2 (lCell (fun _ => 0) (fun _ => 0))) 166)) := by
    intro w
    have := run_make (P := Try.prog) w 137 166 i0 _ und_lines hi hz0 .i64 .i64 l l (by omega) (by omega) (by rw [hz2]; omega) (by omega)
    rw [hz1, Int.toNat_natCast, show (Value.agg #[.int .i64 0, .int .i64 0]).cells = #[.int .i64 0, .int .i64 0] from rfl, made_two (.int .i64 0) l (lCell (fun _ => 0) (fun _ => 0)) (fun x j => by cases j <;> rfl)] at this
    exact this
  have hmk2 : ∀ w : World, (Instr.makeSlice 122 (.int .i64 s) (.int .i64 s)).run Try.prog w = .ok (.slice (some ⟨w.heap.size, 0, none⟩) s s) (w.alloc (.cells (rowOf s 2 (fun _ _ => .slice none 0 0)) 138)) := by
    intro w
    have := run_make (P := Try.prog) w 122 138 i1 _ und_twos hi1 hy0 .i64 .i64 s s (by omega) (by omega) (by rw [hy2]; omega) (by omega)
    rw [hy1, Int.toNat_natCast, show (Value.agg #[.slice none 0 0, .slice none 0 0]).cells = #[.slice none 0 0, .slice none 0 0] from rfl, made_two (.slice none 0 0) s (fun _ _ => .slice none 0 0) (fun x j => rfl)] at this
    exact this
  obtain ⟨m, hm⟩ : ∃ m, n + 1 = m := ⟨_, rfl⟩
  have HM := Hid.mk hm
  rw [hm]
  clear hm
  go_enter Try.func47, Try.ntmps47
  go_wp2_with fail
  go_region_held3 (fun _ => True) (trivial) ((go_at_call 69; refine (newPool_m n m _ hn.1 hn.2 HM.out).mono ?_; rintro e w1 ⟨po, hpo, rfl, hp1, hb1⟩))
  · have hpl1 := hp1.lt
    have hbs := hb1.size
    have hpo' : w.heap.size ≤ po := hpo
    have hbs' : w.heap.size ≤ w1.heap.size := hbs
    obtain ⟨pl, hpl⟩ : ∃ pl, w1.heap.size = pl := ⟨_, rfl⟩
    obtain ⟨bk, hbk⟩ : ∃ bk, w1.heap.size + 1 = bk := ⟨_, rfl⟩
    rw [hbk, hpl]
    generalize hW : (World.alloc _ (Obj.cells #[Value.slice (some ⟨po, 0, none⟩) m m, Value.int .i64 1, Value.int .i64 0, Value.int .i64 l, Value.slice (some ⟨pl, 0, none⟩) s s] 124)) = W
    have H1 : Hid (Below w.heap.size w W) := by
      rw [← hW]
      exact (((show Below w.heap.size w w1 from ⟨hb1.os, hb1.tape, hb1.output, hbs', hb1.block⟩).alloc hbs' _).alloc (by rw [size_alloc]; omega) _)
    have H2 : Hid (IsK W bk { po := po, n := m, free := 1, taken := 0, levels := l, pl := pl, stocks := s }) := ⟨by rw [← hW, heap_alloc, if_pos (by rw [size_alloc]; omega)]; rfl⟩
    have H3 : Hid (IsP W po m (fun _ => 0) (aftN n 1) (fun _ => noOrd)) := hp1.keep (by rw [← hW, heap_alloc, if_neg (by rw [size_alloc]; omega), heap_alloc, if_neg (by omega)])
    have H4 : Hid (W.heap[pl]? = some (.cells (rowOf s 2 (fun _ _ => .slice none 0 0)) 138)) := by
      show _ = _
      rw [← hW, heap_alloc, if_neg (by rw [size_alloc]; omega), heap_alloc, if_pos (by omega)]
    have H5 : Hid (w.heap.size ≤ po ∧ w.heap.size ≤ pl ∧ w.heap.size ≤ bk ∧ po ≠ pl ∧ bk ≠ pl ∧ bk ≠ po) := ⟨hpo', by omega, by omega, by omega, by omega, by omega⟩
    clear hW hpo hpo' hp1 hb1 hbs hbs' hpl hbk hpl1
    obtain ⟨h51, h52, h53, h54, h55, h56⟩ := H5.out
    have g4 : W.cell? ⟨bk, 4, none⟩ = some (.slice (some ⟨pl, 0, none⟩) s s) := H2.out.cell 4
    have H0 : Hid (NewL w W bk po pl l s m n 0 (fun _ => 0)) := ⟨H1.out, H2.out, H3.out, by
      rw [H4.out]
      congr 2, fun j hj => absurd hj (by omega), fun j _ hj => absurd hj (by omega)⟩
    clear H1 H2 H3 H4
    go_wp2_with fail
    clear g4
    go_loopw [21] (fun i wr => ∃ (j : Nat) (ln : Nat → Nat), j ≤ s ∧ i = .int .i64 j ∧ Hid (NewL w wr bk po pl l s m n j ln)) (fun i _ => s - (intOf i).toNat)
    case atStart => exact ⟨0, _, Nat.zero_le _, rfl, H0⟩
    case round =>
      clear H0
      obtain ⟨j, ln, hj, rfl, HR⟩ := hrel
      have g4 : wr.cell? ⟨bk, 4, none⟩ = some (.slice (some ⟨pl, 0, none⟩) s s) := HR.out.K.cell 4
      by_cases hjs : j < s
      · have hjs2 : (j : Int) < (s : Int) := by omega
        have t0 : wr.cell? ⟨pl, j * 2, none⟩ = some (tabF ln l j j 0) := by rw [cell_of_row wr pl _ _ _ (0, 0) HR.out.T]; exact rowOf_get s 2 _ j 0 hjs (by omega)
        have t1 : wr.cell? ⟨pl, j * 2 + 1, none⟩ = some (tabF ln l j j 1) := by rw [cell_of_row wr pl _ _ _ (0, 0) HR.out.T]; exact rowOf_get s 2 _ j 1 hjs (by omega)
        have fz : ∀ i, wr.frozen? ⟨pl, i, none⟩ = false := fun i => by simp [World.frozen?, HR.out.T]
        have f0 := fz (j * 2)
        have f1 := fz (j * 2 + 1)
        have hplw : pl < wr.heap.size := World.block_lt_of_cell? wr _ t0
        have hbkw : bk < wr.heap.size := HR.out.K.lt
        clear fz
        have hkeep : ∀ x y A B, ((((wr.setCell ⟨pl, j * 2, none⟩ x).setCell ⟨pl, j * 2 + 1, none⟩ y).alloc A).alloc B).cell? ⟨bk, 4, none⟩ = some (.slice (some ⟨pl, 0, none⟩) s s) := by
          intro x y A B
          have f1 : Fr (fun k => k = pl) wr ((wr.setCell ⟨pl, j * 2, none⟩ x).setCell ⟨pl, j * 2 + 1, none⟩ y) := (Fr.setCell _ ⟨pl, j * 2, none⟩ _).trans (Fr.setCell _ ⟨pl, j * 2 + 1, none⟩ _) (fun _ _ h => h)
          exact ((f1.trans (Fr.alloc _ _ A) (fun _ _ h => h)).trans (Fr.alloc _ _ B) (fun _ _ h => h)).cell g4 h55
        go_wp2_with fail
        go_region_held3 (fun w' => w'.cell? ⟨bk, 4, none⟩ = some (.slice (some ⟨pl, 0, none⟩) s s)) (go_keep) (fail)
        · have HN := Hid.mk (HR.out.made hjs h54 h55 h52 wr.heap.size (wr.heap.size + 1) (Or.inl ⟨rfl, rfl⟩)).drew
          go_wp2_with fail
          exact ⟨⟨j + 1, _, by omega, by go_num, HN⟩, by simp [intOf]; omega⟩
        · have HN := Hid.mk (HR.out.made hjs h54 h55 h52 (wr.heap.size + 1) wr.heap.size (Or.inr ⟨rfl, rfl⟩)).drew
          go_wp2_with fail
          exact ⟨⟨j + 1, _, by omega, by go_num, HN⟩, by simp [intOf]; omega⟩
      · have hjs2 : ¬ ((j : Int) < (s : Int)) := by omega
        have hje : j = s := by omega
        have HN : Hid (NewL w wr bk po pl l s m n s ln) := by have := HR.out; rw [hje] at this; exact this
        clear hje
        go_wp2_with fail
        go_ret
        obtain ⟨d1, d2, d3⟩ := HN.out.done HM.out hn.2 hs.2 hl.2 h51 h52 h53 h54 h55 h56
        exact ⟨⟨bk, po, pl, m, s, l, ln⟩, rfl, rfl, rfl, rfl, d1, d2, d3, HN.out.below⟩
  · have hpl1 := hp1.lt
    have hbs := hb1.size
    have hs2 : (w.alloc (Obj.cells (rowOf s 2 fun _ _ => Value.slice none 0 0) 138)).drew.heap.size = w.heap.size + 1 := size_alloc _ _
    have hT0 : (w.alloc (Obj.cells (rowOf s 2 fun _ _ => Value.slice none 0 0) 138)).drew.heap[w.heap.size]? = some (Obj.cells (rowOf s 2 fun _ _ => Value.slice none 0 0) 138) := by
      show (w.alloc _).heap[w.heap.size]? = _
      rw [heap_alloc, if_pos rfl]
    have hB0 : Below w.heap.size w (w.alloc (Obj.cells (rowOf s 2 fun _ _ => Value.slice none 0 0) 138)).drew := ((Below.refl _ _).alloc (Nat.le_refl _) _).drew
    generalize (w.alloc (Obj.cells (rowOf s 2 fun _ _ => Value.slice none 0 0) 138)).drew = V at *
    have hTl : w.heap.size < V.heap.size := by omega
    have hpo' : w.heap.size ≤ po := by omega
    have hbs' : w.heap.size ≤ w1.heap.size := by omega
    obtain ⟨pl, hpl⟩ : ∃ pl, w.heap.size = pl := ⟨_, rfl⟩
    obtain ⟨bk, hbk⟩ : ∃ bk, w1.heap.size = bk := ⟨_, rfl⟩
    have hT1 : w1.heap[pl]? = some (Obj.cells (rowOf s 2 fun _ _ => Value.slice none 0 0) 138) := by rw [← hpl, hb1.block _ hTl]; exact hT0
    have hB1 : Below w.heap.size w w1 := hB0.trans (hb1.mono (by omega))
    rw [hbk]
    rw [hpl]
    generalize hW : (World.alloc _ (Obj.cells #[Value.slice (some ⟨po, 0, none⟩) m m, Value.int .i64 1, Value.int .i64 0, Value.int .i64 l, Value.slice (some ⟨pl, 0, none⟩) s s] 124)) = W
    have H1 : Hid (Below w.heap.size w W) := by
      rw [← hW]
      exact hB1.alloc hbs' _
    have H2 : Hid (IsK W bk { po := po, n := m, free := 1, taken := 0, levels := l, pl := pl, stocks := s }) := ⟨by rw [← hW, heap_alloc, if_pos (by omega)]; rfl⟩
    have H3 : Hid (IsP W po m (fun _ => 0) (aftN n 1) (fun _ => noOrd)) := hp1.keep (by rw [← hW, heap_alloc, if_neg (by omega)])
    have H4 : Hid (W.heap[pl]? = some (.cells (rowOf s 2 (fun _ _ => .slice none 0 0)) 138)) := by
      show _ = _
      rw [← hW, heap_alloc, if_neg (by omega)]
      exact hT1
    have H5 : Hid (w.heap.size ≤ po ∧ w.heap.size ≤ pl ∧ w.heap.size ≤ bk ∧ po ≠ pl ∧ bk ≠ pl ∧ bk ≠ po) := ⟨hpo', by omega, by omega, by omega, by omega, by omega⟩
    clear hW hpo hpo' hp1 hb1 hbs hbs' hbk hpl1 hT1 hB1 hT0 hB0 hTl hs2
    clear hpl
    obtain ⟨h51, h52, h53, h54, h55, h56⟩ := H5.out
    have g4 : W.cell? ⟨bk, 4, none⟩ = some (.slice (some ⟨pl, 0, none⟩) s s) := H2.out.cell 4
    have H0 : Hid (NewL w W bk po pl l s m n 0 (fun _ => 0)) := ⟨H1.out, H2.out, H3.out, by
      rw [H4.out]
      congr 2, fun j hj => absurd hj (by omega), fun j _ hj => absurd hj (by omega)⟩
    clear H1 H2 H3 H4
    go_wp2_with fail
    clear g4
    go_loopw [21] (fun i wr => ∃ (j : Nat) (ln : Nat → Nat), j ≤ s ∧ i = .int .i64 j ∧ Hid (NewL w wr bk po pl l s m n j ln)) (fun i _ => s - (intOf i).toNat)
    case atStart => exact ⟨0, _, Nat.zero_le _, rfl, H0⟩
    case round =>
      clear H0
      obtain ⟨j, ln, hj, rfl, HR⟩ := hrel
      have g4 : wr.cell? ⟨bk, 4, none⟩ = some (.slice (some ⟨pl, 0, none⟩) s s) := HR.out.K.cell 4
      by_cases hjs : j < s
      · have hjs2 : (j : Int) < (s : Int) := by omega
        have t0 : wr.cell? ⟨pl, j * 2, none⟩ = some (tabF ln l j j 0) := by rw [cell_of_row wr pl _ _ _ (0, 0) HR.out.T]; exact rowOf_get s 2 _ j 0 hjs (by omega)
        have t1 : wr.cell? ⟨pl, j * 2 + 1, none⟩ = some (tabF ln l j j 1) := by rw [cell_of_row wr pl _ _ _ (0, 0) HR.out.T]; exact rowOf_get s 2 _ j 1 hjs (by omega)
        have fz : ∀ i, wr.frozen? ⟨pl, i, none⟩ = false := fun i => by simp [World.frozen?, HR.out.T]
        have f0 := fz (j * 2)
        have f1 := fz (j * 2 + 1)
        have hplw : pl < wr.heap.size := World.block_lt_of_cell? wr _ t0
        have hbkw : bk < wr.heap.size := HR.out.K.lt
        clear fz
        have hkeep : ∀ x y A B, ((((wr.setCell ⟨pl, j * 2, none⟩ x).setCell ⟨pl, j * 2 + 1, none⟩ y).alloc A).alloc B).cell? ⟨bk, 4, none⟩ = some (.slice (some ⟨pl, 0, none⟩) s s) := by
          intro x y A B
          have f1 : Fr (fun k => k = pl) wr ((wr.setCell ⟨pl, j * 2, none⟩ x).setCell ⟨pl, j * 2 + 1, none⟩ y) := (Fr.setCell _ ⟨pl, j * 2, none⟩ _).trans (Fr.setCell _ ⟨pl, j * 2 + 1, none⟩ _) (fun _ _ h => h)
          exact ((f1.trans (Fr.alloc _ _ A) (fun _ _ h => h)).trans (Fr.alloc _ _ B) (fun _ _ h => h)).cell g4 h55
        go_wp2_with fail
        go_region_held3 (fun w' => w'.cell? ⟨bk, 4, none⟩ = some (.slice (some ⟨pl, 0, none⟩) s s)) (go_keep) (fail)
        · have HN := Hid.mk (HR.out.made hjs h54 h55 h52 wr.heap.size (wr.heap.size + 1) (Or.inl ⟨rfl, rfl⟩)).drew
          go_wp2_with fail
          exact ⟨⟨j + 1, _, by omega, by go_num, HN⟩, by simp [intOf]; omega⟩
        · have HN := Hid.mk (HR.out.made hjs h54 h55 h52 (wr.heap.size + 1) wr.heap.size (Or.inr ⟨rfl, rfl⟩)).drew
          go_wp2_with fail
          exact ⟨⟨j + 1, _, by omega, by go_num, HN⟩, by simp [intOf]; omega⟩
      · have hjs2 : ¬ ((j : Int) < (s : Int)) := by omega
        have hje : j = s := by omega
        have HN : Hid (NewL w wr bk po pl l s m n s ln) := by have := HR.out; rw [hje] at this; exact this
        clear hje
        go_wp2_with fail
        go_ret
        obtain ⟨d1, d2, d3⟩ := HN.out.done HM.out hn.2 hs.2 hl.2 h51 h52 h53 h54 h55 h56
        exact ⟨⟨bk, po, pl, m, s, l, ln⟩, rfl, rfl, rfl, rfl, d1, d2, d3, HN.out.below⟩

end Go.Proofs.Ytphkchjejbffeaa
