/- An order goes to the end of another line. -/
import Derived.Test.YtphkchjejbffeaaG11
namespace Go.Proofs.Ytphkchjejbffeaa
open Go.RowKit
attribute [local go_sem ↓] Go.wp_at_zero Go.wp_at_succ

theorem keepsPlace_no (v0 v1 v2 v3 v4 v5 u0 u1 u2 u3 u4 u5 : Value) (p s p' s' : Nat) (w : World) (hc : p' ≠ p ∨ (p' = p ∧ s < s')) :
    Calls Try.prog 96 #[.agg #[v0, v1, v2, v3, v4, v5, .int .u16 p, .int .u16 s], .agg #[u0, u1, u2, u3, u4, u5, .int .u16 p', .int .u16 s']] w fun e w' => e = .returned (.bool false) ∧ Below w.heap.size w w' := by
  have hc' : (((p' : Int) == (p : Int)) = false) ∨ (p' = p ∧ ¬ ((s' : Int) ≤ (s : Int)) ∧ ¬ s' ≤ s) := by
    rcases hc with h | ⟨h1, h2⟩
    · left; simp; omega
    · right; exact ⟨h1, by omega, by omega⟩
  clear hc
  rcases hc' with h | ⟨rfl, h, h'⟩
  all_goals
    go_enter Try.func96, Try.ntmps96
    go_wp2_with fail
    go_ret
    exact ⟨rfl, ((Below.refl _ _).alloc (Nat.le_refl _) _).alloc (by rw [size_alloc]; omega) _⟩

set_option maxRecDepth 100000 in
set_option maxHeartbeats 2000000 in
theorem replace_move (k : SK) (ok : k.ok) (x a z free taken j j' : Nat) (o r : Ord) (fs ls fs1 ls1 : Nat → Nat → Nat) (bef aft : Nat → Nat) (od : Nat → Ord) (w : World) (h : IsBk w k free taken fs ls bef aft od) (hx : x < k.n) (hr : od x = r)
    (hc : o.price ≠ r.price ∨ (o.price = r.price ∧ r.shares < o.shares))
    (hv : VV k.S k.L r.stock r.side r.price) (hj : jx r.stock r.side = j) (hv' : VV k.S k.L o.stock o.side o.price) (hj' : jx o.stock o.side = j')
    (ha : bef x = a) (hz : aft x = z) (ha1 : a < k.n) (hz1 : z < k.n) (hax : a ≠ x) (hzx : z ≠ x)
    (hfs1 : upd2 fs j (r.price - 1) (if fs j (r.price - 1) = x then z else fs j (r.price - 1)) = fs1) (hls1 : upd2 ls j (r.price - 1) (if ls j (r.price - 1) = x then a else ls j (r.price - 1)) = ls1)
    (hl1 : ls1 j' (o.price - 1) < k.n) (ff : Nat) (hff : (if fs1 j' (o.price - 1) = 0 then x else fs1 j' (o.price - 1)) = ff) :
    Calls Try.prog 128 #[.pointer (some ⟨k.bk, 0, none⟩), .int .i64 x, ordV 0 0 o] w fun e w' => e = .returned (.tuple #[]) ∧
      IsBk w' k free taken (upd2 fs1 j' (o.price - 1) ff) (upd2 ls1 j' (o.price - 1) x)
        (updN (updN (updN bef z a) x 0) x (ls1 j' (o.price - 1))) (updN (updN (updN (updN aft a z) x 0) x 0) (ls1 j' (o.price - 1)) x) (updN od x o) ∧ Fr k.F w w' := by
  have gK : w.cell? ⟨k.bk, 0, none⟩ = some (.slice (some ⟨k.po, 0, none⟩) k.n k.n) := h.K.cell 0
  have i1 : (x : Int) < (k.n : Int) := by omega
  have hsz : ∀ j, k.F j → j < w.heap.size := h.lt
  have hbl := hsz k.bk (Or.inl rfl)
  have hpl := hsz k.po (Or.inr (Or.inl rfl))
  have H := Hid.mk h
  have HAZ := Hid.mk (And.intro ha hz)
  have HR := Hid.mk hr
  have HV := Hid.mk hv
  have HV' := Hid.mk hv'
  have HJ := Hid.mk hj
  have HJ' := Hid.mk hj'
  have HFS := Hid.mk (And.intro hfs1 hls1)
  have HFF := Hid.mk hff
  have okn := ok.n
  have hj2 : j < k.S * 2 := by rw [← hj]; exact jx_lt _ hv.1
  have hq : r.price - 1 < k.L := by have := hv.2.2; omega
  have hj2' : j' < k.S * 2 := by rw [← hj']; exact jx_lt _ hv'.1
  have hq' : o.price - 1 < k.L := by have := hv'.2.2; omega
  have hg1 : w.heap.size ≠ k.ln j := by
    have := hsz _ (Or.inr (Or.inr (Or.inr ⟨_, hj2, rfl⟩))); omega
  have hg2 : w.heap.size ≠ k.ln j' := by
    have := hsz _ (Or.inr (Or.inr (Or.inr ⟨_, hj2', rfl⟩))); omega
  have hgp : w.heap.size ≠ k.po := by omega
  have HC := Hid.mk hc
  clear h ha hz hr hv hv' hj hj' hfs1 hls1 hff hc
  unfold ordV ordL
  go_enter Try.func128, Try.ntmps128
  go_wp2_with fail
  generalize hOb : Obj.cells _ 129 = Ob
  have hbx : Box (w.alloc Ob) w.heap.size 0 0 o := Box.of (t := 129) (by rw [heap_alloc, if_pos rfl, ← hOb]; rfl)
  have hB0 : IsBk (w.alloc Ob) k free taken fs ls bef aft od := H.out.keep (fun j hj => by rw [heap_alloc, if_neg (by have := hsz j hj; omega)])
  have hF0 := Fr.alloc (fun _ => False) w Ob
  clear gK hOb
  generalize w.alloc Ob = W at hB0 hbx hF0 ⊢
  obtain ⟨q0, q1, q2, q3, q4, q5, q6, q7⟩ := hB0.P.row x hx
  rw [HR.out] at q2 q3 q4 q5 q6 q7
  rw [HAZ.out.1] at q0
  rw [HAZ.out.2] at q1
  obtain ⟨c0, c1, c2, c3, c4, c5, c6, c7⟩ := hbx
  have HB0 := Hid.mk hB0
  have HF0 := Hid.mk hF0
  clear hB0 hF0
  have hplW : k.po < W.heap.size := HB0.out.lt k.po (Or.inr (Or.inl rfl))
  have hszW : w.heap.size < W.heap.size := World.block_lt_of_cell? W _ c0
  go_region_held3 (fun w' => w'.cell? ⟨k.po, x * 8, none⟩ = some (.int .i64 a) ∧ w'.cell? ⟨k.po, x * 8 + 1, none⟩ = some (.int .i64 z) ∧ w'.cell? ⟨k.po, x * 8 + 2, none⟩ = some (.int .u32 r.ref) ∧ w'.cell? ⟨k.po, x * 8 + 3, none⟩ = some (.int .u32 r.token) ∧ w'.cell? ⟨k.po, x * 8 + 4, none⟩ = some (.int .u8 r.side.toNat) ∧ w'.cell? ⟨k.po, x * 8 + 5, none⟩ = some (.int .u8 r.stock) ∧ w'.cell? ⟨k.po, x * 8 + 6, none⟩ = some (.int .u16 r.price) ∧ w'.cell? ⟨k.po, x * 8 + 7, none⟩ = some (.int .u16 r.shares) ∧ w'.cell? ⟨w.heap.size, 0, none⟩ = some (.int .i64 0) ∧ w'.cell? ⟨w.heap.size, 1, none⟩ = some (.int .i64 0) ∧ w'.cell? ⟨w.heap.size, 2, none⟩ = some (.int .u32 o.ref) ∧ w'.cell? ⟨w.heap.size, 3, none⟩ = some (.int .u32 o.token) ∧ w'.cell? ⟨w.heap.size, 4, none⟩ = some (.int .u8 o.side.toNat) ∧ w'.cell? ⟨w.heap.size, 5, none⟩ = some (.int .u8 o.stock) ∧ w'.cell? ⟨w.heap.size, 6, none⟩ = some (.int .u16 o.price) ∧ w'.cell? ⟨w.heap.size, 7, none⟩ = some (.int .u16 o.shares))
    (first | (with_reducible exact m1) | go_keep)
    ((go_at_call 96; refine (keepsPlace_no _ _ _ _ _ _ _ _ _ _ _ _ r.price r.shares o.price o.shares W.drew HC.out).mono ?_; rintro e w1 ⟨rfl, hb1⟩; have m1 : w1.cell? ⟨k.po, x * 8, none⟩ = some (.int .i64 a) ∧ w1.cell? ⟨k.po, x * 8 + 1, none⟩ = some (.int .i64 z) ∧ w1.cell? ⟨k.po, x * 8 + 2, none⟩ = some (.int .u32 r.ref) ∧ w1.cell? ⟨k.po, x * 8 + 3, none⟩ = some (.int .u32 r.token) ∧ w1.cell? ⟨k.po, x * 8 + 4, none⟩ = some (.int .u8 r.side.toNat) ∧ w1.cell? ⟨k.po, x * 8 + 5, none⟩ = some (.int .u8 r.stock) ∧ w1.cell? ⟨k.po, x * 8 + 6, none⟩ = some (.int .u16 r.price) ∧ w1.cell? ⟨k.po, x * 8 + 7, none⟩ = some (.int .u16 r.shares) ∧ w1.cell? ⟨w.heap.size, 0, none⟩ = some (.int .i64 0) ∧ w1.cell? ⟨w.heap.size, 1, none⟩ = some (.int .i64 0) ∧ w1.cell? ⟨w.heap.size, 2, none⟩ = some (.int .u32 o.ref) ∧ w1.cell? ⟨w.heap.size, 3, none⟩ = some (.int .u32 o.token) ∧ w1.cell? ⟨w.heap.size, 4, none⟩ = some (.int .u8 o.side.toNat) ∧ w1.cell? ⟨w.heap.size, 5, none⟩ = some (.int .u8 o.stock) ∧ w1.cell? ⟨w.heap.size, 6, none⟩ = some (.int .u16 o.price) ∧ w1.cell? ⟨w.heap.size, 7, none⟩ = some (.int .u16 o.shares) := ⟨(hb1.cell (p := ⟨k.po, x * 8, none⟩) hplW).trans q0, (hb1.cell (p := ⟨k.po, x * 8 + 1, none⟩) hplW).trans q1, (hb1.cell (p := ⟨k.po, x * 8 + 2, none⟩) hplW).trans q2, (hb1.cell (p := ⟨k.po, x * 8 + 3, none⟩) hplW).trans q3, (hb1.cell (p := ⟨k.po, x * 8 + 4, none⟩) hplW).trans q4, (hb1.cell (p := ⟨k.po, x * 8 + 5, none⟩) hplW).trans q5, (hb1.cell (p := ⟨k.po, x * 8 + 6, none⟩) hplW).trans q6, (hb1.cell (p := ⟨k.po, x * 8 + 7, none⟩) hplW).trans q7, (hb1.cell (p := ⟨w.heap.size, 0, none⟩) hszW).trans c0, (hb1.cell (p := ⟨w.heap.size, 1, none⟩) hszW).trans c1, (hb1.cell (p := ⟨w.heap.size, 2, none⟩) hszW).trans c2, (hb1.cell (p := ⟨w.heap.size, 3, none⟩) hszW).trans c3, (hb1.cell (p := ⟨w.heap.size, 4, none⟩) hszW).trans c4, (hb1.cell (p := ⟨w.heap.size, 5, none⟩) hszW).trans c5, (hb1.cell (p := ⟨w.heap.size, 6, none⟩) hszW).trans c6, (hb1.cell (p := ⟨w.heap.size, 7, none⟩) hszW).trans c7⟩))
  have hFV : Fr (fun _ => False) W w1 := (Fr.drew _ W).trans (Fr.of_below hb1 _) (fun _ _ h => h)
  have hBV : IsBk w1 k free taken fs ls bef aft od := HB0.out.keep (fun j hj => hb1.block j (HB0.out.lt j hj))
  clear q0 q1 q2 q3 q4 q5 q6 q7 c0 c1 c2 c3 c4 c5 c6 c7
  obtain ⟨-, -, -, -, -, -, -, -, c0, c1, c2, c3, c4, c5, c6, c7⟩ := m1
  have hXV : Box w1 w.heap.size 0 0 o := ⟨c0, c1, c2, c3, c4, c5, c6, c7⟩
  clear c0 c1 c2 c3 c4 c5 c6 c7 hb1
  obtain ⟨q0, q1, q2, q3, q4, q5, q6, q7⟩ := hBV.P.row x hx
  rw [HR.out] at q2 q3 q4 q5 q6 q7
  rw [HAZ.out.1] at q0
  rw [HAZ.out.2] at q1
  have HB1 := Hid.mk hBV
  have HX1 := Hid.mk hXV
  have HF1 := Hid.mk hFV
  clear hBV hXV hFV
  go_wp2_with fail
  have hsz1 : ∀ j, k.F j → j < w1.heap.size := HB1.out.lt
  go_region_held3 (fun w' => w'.cell? ⟨k.po, x * 8, none⟩ = some (.int .i64 a) ∧ w'.cell? ⟨k.po, x * 8 + 1, none⟩ = some (.int .i64 z) ∧ w'.cell? ⟨k.po, x * 8 + 2, none⟩ = some (.int .u32 r.ref) ∧ w'.cell? ⟨k.po, x * 8 + 3, none⟩ = some (.int .u32 r.token) ∧ w'.cell? ⟨k.po, x * 8 + 4, none⟩ = some (.int .u8 r.side.toNat) ∧ w'.cell? ⟨k.po, x * 8 + 5, none⟩ = some (.int .u8 r.stock) ∧ w'.cell? ⟨k.po, x * 8 + 6, none⟩ = some (.int .u16 r.price) ∧ w'.cell? ⟨k.po, x * 8 + 7, none⟩ = some (.int .u16 r.shares)) (first | exact m3 | exact m2 | go_keep)
    (first
      | (go_at_call 143; refine (lineOf_any k ok a z free taken r fs ls _ _ _ w1.drew (HB1.out.keep (fun _ _ => rfl)) HV.out).mono ?_; rintro e w2 ⟨rfl, hf2⟩; have hB2 : Hid (IsBk w2 k free taken fs ls bef aft od) := HB1.out.keep (fun j hj => hf2.out.block j (hsz1 j hj) (fun e => e)); have m2 := hB2.out.P.row x hx; rw [HR.out, HAZ.out.1, HAZ.out.2] at m2)
      | (go_at_call 146; rw [HJ.out]; refine (leave_any k.bk (k.ln j) k.L (r.price - 1) x (fs j (r.price - 1)) (ls j (r.price - 1)) a z (k.kc free taken) _ _ (fs j) (ls j) _ w2 hB2.out.K hB2.out.P (hB2.out.Ls _ hj2) hq hx rfl rfl (show k.n ≤ 1000 by omega) HAZ.out.1 HAZ.out.2 ha1 hz1 hax hzx ok.bp (ok.lp _ hj2) (Ne.symm (ok.lb _ hj2))).mono ?_; rintro e w3 ⟨rfl, hp3, hl3, hf3⟩; have m3 := IsP.row hp3 x hx; rw [HR.out, updN_ne _ _ _ _ (Ne.symm hzx), updN_ne _ _ _ _ (Ne.symm hax), HAZ.out.1, HAZ.out.2] at m3))
  have HB3 : Hid (IsBk w3 k free taken fs1 ls1 (updN bef z a) (updN aft a z) od) := by
    rw [← HFS.out.1, ← HFS.out.2]
    exact hB2.out.turnL ok hp3 _ hj2 hl3 hf3
  have HX3 : Hid (Box w3 w.heap.size 0 0 o) := ((HX1.out.fr (Fr.drew (fun _ => False) w1) (fun e => e)).fr hf2.out (fun e => e)).fr hf3 (fun e => e.elim hgp hg1)
  have HF3 : Hid (Fr (fun i => k.F i ∨ w.heap.size ≤ i) w w3) := (HF0.out.mono (fun _ _ h => h.elim)).trans ((HF1.out.mono (fun _ _ h => h.elim)).trans (((Fr.drew (fun _ => False) w1).mono (fun _ _ h => h.elim)).trans ((hf2.out.mono (fun _ _ h => h.elim)).trans (hf3.mono (G := k.F) (fun _ _ h => h.elim (fun h => Or.inr (Or.inl h)) (fun h => Or.inr (Or.inr (Or.inr ⟨_, hj2, h⟩))))) (fun _ _ h => h)) (fun _ _ h => h)) (fun _ _ h => h)) (fun _ _ h => Or.inl h)
  clear hp3 hl3 hf3 hf2 hB2 q0 q1 q2 q3 q4 q5 q6 q7 m2
  obtain ⟨c0, c1, c2, c3, c4, c5, c6, c7⟩ := HX3.out
  obtain ⟨q0, q1, q2, q3, q4, q5, q6, q7⟩ := m3
  have fp := HB3.out.P.frozen
  have fp0 := fp (x * 8)
  have fp1 := fp (x * 8 + 1)
  have fp2 := fp (x * 8 + 2)
  have fp3 := fp (x * 8 + 3)
  have fp4 := fp (x * 8 + 4)
  have fp5 := fp (x * 8 + 5)
  have fp6 := fp (x * 8 + 6)
  have fp7 := fp (x * 8 + 7)
  clear fp
  go_wp2_with fail
  have hp4 : IsP ((((((((w3.setCell ⟨k.po, x * 8, none⟩ (.int .i64 0)).setCell ⟨k.po, x * 8 + 1, none⟩ (.int .i64 0)).setCell ⟨k.po, x * 8 + 2, none⟩ (.int .u32 o.ref)).setCell ⟨k.po, x * 8 + 3, none⟩ (.int .u32 o.token)).setCell ⟨k.po, x * 8 + 4, none⟩ (.int .u8 o.side.toNat)).setCell ⟨k.po, x * 8 + 5, none⟩ (.int .u8 o.stock)).setCell ⟨k.po, x * 8 + 6, none⟩ (.int .u16 o.price)).setCell ⟨k.po, x * 8 + 7, none⟩ (.int .u16 o.shares)) k.po k.n (updN (updN bef z a) x 0) (updN (updN aft a z) x 0) (updN od x o) := by
    have := HB3.out.P.setOrd x 0 0 o
    rw [set8] at this
    exact this
  have hf4 : Fr (fun j => j = k.po) w3 ((((((((w3.setCell ⟨k.po, x * 8, none⟩ (.int .i64 0)).setCell ⟨k.po, x * 8 + 1, none⟩ (.int .i64 0)).setCell ⟨k.po, x * 8 + 2, none⟩ (.int .u32 o.ref)).setCell ⟨k.po, x * 8 + 3, none⟩ (.int .u32 o.token)).setCell ⟨k.po, x * 8 + 4, none⟩ (.int .u8 o.side.toNat)).setCell ⟨k.po, x * 8 + 5, none⟩ (.int .u8 o.stock)).setCell ⟨k.po, x * 8 + 6, none⟩ (.int .u16 o.price)).setCell ⟨k.po, x * 8 + 7, none⟩ (.int .u16 o.shares)) := by
    have := fr_setCells k.po (ordL 0 0 o) (x * 8) w3
    rw [set8] at this
    exact this
  clear fp0 fp1 fp2 fp3 fp4 fp5 fp6 fp7 q0 q1 q2 q3 q4 q5 q6 q7 c0 c1 c2 c3 c4 c5 c6 c7
  generalize ((((((((w3.setCell ⟨k.po, x * 8, none⟩ (.int .i64 0)).setCell ⟨k.po, x * 8 + 1, none⟩ (.int .i64 0)).setCell ⟨k.po, x * 8 + 2, none⟩ (.int .u32 o.ref)).setCell ⟨k.po, x * 8 + 3, none⟩ (.int .u32 o.token)).setCell ⟨k.po, x * 8 + 4, none⟩ (.int .u8 o.side.toNat)).setCell ⟨k.po, x * 8 + 5, none⟩ (.int .u8 o.stock)).setCell ⟨k.po, x * 8 + 6, none⟩ (.int .u16 o.price)).setCell ⟨k.po, x * 8 + 7, none⟩ (.int .u16 o.shares)) = w4 at hp4 hf4 ⊢
  have HB4 : Hid (IsBk w4 k free taken fs1 ls1 (updN (updN bef z a) x 0) (updN (updN aft a z) x 0) (updN od x o)) := HB3.out.turnP ok hp4 hf4
  have HX4 : Hid (Box w4 w.heap.size 0 0 o) := HX3.out.fr hf4 hgp
  have HF4 : Hid (Fr (fun i => k.F i ∨ w.heap.size ≤ i) w w4) := HF3.out.trans hf4 (fun _ _ h => Or.inl (Or.inr (Or.inl h)))
  clear hp4 hf4
  have hsz4 : ∀ j, k.F j → j < w4.heap.size := HB4.out.lt
  obtain ⟨c0, c1, c2, c3, c4, c5, c6, c7⟩ := HX4.out
  go_region_held3 (fun w' => w'.cell? ⟨w.heap.size, 0, none⟩ = some (.int .i64 0) ∧ w'.cell? ⟨w.heap.size, 1, none⟩ = some (.int .i64 0) ∧ w'.cell? ⟨w.heap.size, 2, none⟩ = some (.int .u32 o.ref) ∧ w'.cell? ⟨w.heap.size, 3, none⟩ = some (.int .u32 o.token) ∧ w'.cell? ⟨w.heap.size, 4, none⟩ = some (.int .u8 o.side.toNat) ∧ w'.cell? ⟨w.heap.size, 5, none⟩ = some (.int .u8 o.stock) ∧ w'.cell? ⟨w.heap.size, 6, none⟩ = some (.int .u16 o.price) ∧ w'.cell? ⟨w.heap.size, 7, none⟩ = some (.int .u16 o.shares)) (first | exact m6 | exact m5 | go_keep)
    (first
      | (go_at_call 143; refine (lineOf_any k ok 0 0 free taken o fs1 ls1 _ _ _ w4.drew (HB4.out.keep (fun _ _ => rfl)) HV'.out).mono ?_; rintro e w5 ⟨rfl, hf5⟩; have m5 := (Box.fr (w := w4.drew) ⟨c0, c1, c2, c3, c4, c5, c6, c7⟩ hf5.out (fun e => e)).all; have hB5 : Hid (IsBk w5 k free taken fs1 ls1 (updN (updN bef z a) x 0) (updN (updN aft a z) x 0) (updN od x o)) := HB4.out.keep (fun j hj => hf5.out.block j (hsz4 j hj) (fun e => e)))
      | (go_at_call 142; rw [HJ'.out]; refine (join_any k.bk (k.ln j') k.L (o.price - 1) x (fs1 j' (o.price - 1)) (ls1 j' (o.price - 1)) (k.kc free taken) _ _ (fs1 j') (ls1 j') _ w5 hB5.out.K hB5.out.P (hB5.out.Ls _ hj2') hq' hx hl1 rfl rfl (show k.n ≤ 1000 by omega) ok.bp (ok.lp _ hj2') (Ne.symm (ok.lb _ hj2'))).mono ?_; rintro e w6 ⟨rfl, hp6, hl6, hf6⟩; have m6 := ((Box.fr (w := w4.drew) ⟨c0, c1, c2, c3, c4, c5, c6, c7⟩ hf5.out (fun e => e)).fr hf6 (fun e => e.elim hgp hg2)).all))
  have HB6 : Hid (IsBk w6 k free taken (upd2 fs1 j' (o.price - 1) ff) (upd2 ls1 j' (o.price - 1) x) (updN (updN (updN bef z a) x 0) x (ls1 j' (o.price - 1))) (updN (updN (updN (updN aft a z) x 0) x 0) (ls1 j' (o.price - 1)) x) (updN od x o)) := by
    rw [HFF.out] at hl6
    exact hB5.out.turnL ok hp6 _ hj2' hl6 hf6
  have HF6 : Hid (Fr k.F w w6) := (HF4.out.trans (((Fr.drew (fun _ => False) w4).mono (fun _ _ h => h.elim)).trans ((hf5.out.mono (fun _ _ h => h.elim)).trans (hf6.mono (G := k.F) (fun _ _ h => h.elim (fun h => Or.inr (Or.inl h)) (fun h => Or.inr (Or.inr (Or.inr ⟨_, hj2', h⟩))))) (fun _ _ h => h)) (fun _ _ h => h)) (fun _ _ h => Or.inl h)).mono (fun i hi h => h.elim (fun h => h) (fun h => by omega))
  clear hp6 hl6 hf6 hf5 hB5 m5 m6 c0 c1 c2 c3 c4 c5 c6 c7
  go_wp2_with fail
  go_end0
  exact ⟨rfl, HB6.out, HF6.out⟩

theorem replace_stay (k : SK) (w : World) (taken x : Nat) (o : Ord) (od : Nat → Ord) (ps : Nat → UInt8 → Nat → List Nat) (fl : List Nat) (h : Bks w k taken od ps fl) (hx : x < k.n) (hp : o.price = (od x).price) (hs : o.shares ≤ (od x).shares) :
    Calls Try.prog 128 #[.pointer (some ⟨k.bk, 0, none⟩), .int .i64 x, ordV 0 0 o] w fun e w' => e = .returned (.tuple #[]) ∧ Bks w' k taken (updN od x o) ps fl ∧ Fr k.F w w' := by
  obtain ⟨free, fs, ls, bef, aft, h1, h2⟩ := h.ex
  refine (replace_in k h.ok x free taken o (od x) fs ls bef aft od w h1 hx rfl hp hs).mono ?_
  rintro e w' ⟨rfl, hb, hf⟩
  exact ⟨rfl, ⟨h.ok, _, _, _, _, _, hb, h2⟩, hf⟩

theorem replace_go (k : SK) (w : World) (taken x : Nat) (o : Ord) (od : Nat → Ord) (ps : Nat → UInt8 → Nat → List Nat) (fl a b : List Nat) (h : Bks w k taken od ps fl) (hc : o.price ≠ (od x).price ∨ (o.price = (od x).price ∧ (od x).shares < o.shares))
    (hv : VV k.S k.L (od x).stock (od x).side (od x).price) (hv' : VV k.S k.L o.stock o.side o.price) (hab : ps (od x).stock (od x).side (od x).price = a ++ x :: b) (ps1 : Nat → UInt8 → Nat → List Nat) (hps1 : updQ ps (od x).stock (od x).side (od x).price (a ++ b) = ps1) :
    Calls Try.prog 128 #[.pointer (some ⟨k.bk, 0, none⟩), .int .i64 x, ordV 0 0 o] w fun e w' => e = .returned (.tuple #[]) ∧ Bks w' k taken (updN od x o) (updQ ps1 o.stock o.side o.price (ps1 o.stock o.side o.price ++ [x])) fl ∧ Fr k.F w w' := by
  obtain ⟨free, fs, ls, bef, aft, h1, h2⟩ := h.ex
  obtain ⟨l1, l2, l3, l4, l5, l6⟩ := h2.leave hv hab
  rw [hps1] at l1 l2
  have hx : x < k.n := h2.lt _ _ _ hv x (by rw [hab]; simp)
  have hx0 : x ≠ 0 := h2.ne0 hv (by rw [hab]; simp)
  have okn := h.ok.n
  have ha1 : bef x < k.n := by
    rcases l3 with e | e
    · omega
    · exact h2.lt _ _ _ hv _ (by rw [hab]; simp [e])
  have hz1 : aft x < k.n := by
    rcases l4 with e | e
    · omega
    · exact h2.lt _ _ _ hv _ (by rw [hab]; simp [e])
  generalize hfs : upd2 fs (jx (od x).stock (od x).side) ((od x).price - 1) (if fs (jx (od x).stock (od x).side) ((od x).price - 1) = x then aft x else fs (jx (od x).stock (od x).side) ((od x).price - 1)) = fs1 at l1
  generalize hls : upd2 ls (jx (od x).stock (od x).side) ((od x).price - 1) (if ls (jx (od x).stock (od x).side) ((od x).price - 1) = x then bef x else ls (jx (od x).stock (od x).side) ((od x).price - 1)) = ls1 at l1
  have hl : ls1 (jx o.stock o.side) (o.price - 1) < k.n := by
    rw [(l1.line _ _ _ hv').last]
    rcases getLastD_mem (ps1 o.stock o.side o.price) 0 with e | e
    · rw [e]; omega
    · exact l1.lt _ _ _ hv' _ e
  refine (replace_move k h.ok x (bef x) (aft x) free taken _ _ o (od x) fs ls fs1 ls1 bef aft od w h1 hx rfl hc hv rfl hv' rfl rfl rfl ha1 hz1 l5 l6 hfs hls hl _ rfl).mono ?_
  rintro e w' ⟨rfl, hb, hf⟩
  exact ⟨rfl, ⟨h.ok, _, _, _, _, _, hb, (l1.setx l2 0 0).join hv' hx0 hx l2⟩, hf⟩

end Go.Proofs.Ytphkchjejbffeaa

/- Books by places against books by the document: plain facts. -/
namespace Go.Proofs.Ytphkchjejbffeaa

theorem redO_app (t n : Nat) (a : List Ord) (o : Ord) (b : List Ord) (ha : ∀ z ∈ a, z.token ≠ t) (ho : o.token = t) : redO t n (a ++ o :: b) = a ++ (if o.shares ≤ n then b else { o with shares := o.shares - n } :: b) := by
  induction a with
  | nil => simp [redO, ho]
  | cons z a ih =>
    have h1 : z.token ≠ t := ha z (by simp)
    show redO t n (z :: (a ++ o :: b)) = _
    rw [redO, if_neg h1, ih (fun y hy => ha y (by simp [hy]))]
    rfl
theorem delO_app (t : Nat) (a : List Ord) (o : Ord) (b : List Ord) (ha : ∀ z ∈ a, z.token ≠ t) (ho : o.token = t) : delO t (a ++ o :: b) = a ++ b := by
  induction a with
  | nil => simp [delO, ho]
  | cons z a ih =>
    have h1 : z.token ≠ t := ha z (by simp)
    show delO t (z :: (a ++ o :: b)) = _
    rw [delO, if_neg h1, ih (fun y hy => ha y (by simp [hy]))]
    rfl
theorem subO_app (t : Nat) (y : Ord) (a : List Ord) (o : Ord) (b : List Ord) (ha : ∀ z ∈ a, z.token ≠ t) (ho : o.token = t) : subO t y (a ++ o :: b) = a ++ y :: b := by
  induction a with
  | nil => simp [subO, ho]
  | cons z a ih =>
    have h1 : z.token ≠ t := ha z (by simp)
    show subO t y (z :: (a ++ o :: b)) = _
    rw [subO, if_neg h1, ih (fun y hy => ha y (by simp [hy]))]
    rfl

theorem find_nodup (l : List Ord) (hn : (l.map (·.token)).Nodup) (o : Ord) (ho : o ∈ l) : l.find? (·.token == o.token) = some o := by
  induction l with
  | nil => cases ho
  | cons z l ih =>
    rw [List.map_cons, List.nodup_cons] at hn
    rcases List.mem_cons.1 ho with rfl | ho
    · simp
    · have : z.token ≠ o.token := by
        intro e
        exact hn.1 (by rw [e]; exact List.mem_map.2 ⟨o, ho, rfl⟩)
      rw [List.find?_cons_of_neg (by simpa using this)]
      exact ih hn.2 ho

theorem map_updN (od : Nat → Ord) (x : Nat) (o : Ord) (l : List Nat) (h : x ∉ l) : l.map (updN od x o) = l.map od := by
  apply List.map_congr_left
  intro y hy
  exact updN_ne _ _ _ _ (fun e => h (e ▸ hy))

def updM (M : Nat → Option Nat) (t : Nat) (v : Option Nat) : Nat → Option Nat := fun i => if i = t then v else M i
theorem updM_same (M : Nat → Option Nat) (t : Nat) (v : Option Nat) : updM M t v t = v := if_pos rfl
theorem updM_ne (M : Nat → Option Nat) (t : Nat) (v : Option Nat) (i : Nat) (h : i ≠ t) : updM M t v i = M i := if_neg h

/-- The places, what lies there, and the places of tokens, are those of a state. -/
structure Fi (S L n : Nat) (od : Nat → Ord) (ps : Nat → UInt8 → Nat → List Nat) (fl : List Nat) (M : Nat → Option Nat) (st : St) : Prop where
  hS : S = st.stocks
  hL : L = st.levels
  hn : n = st.pool + 1
  q : ∀ s d p, VV S L s d p → st.q s d p = (ps s d p).map od
  cnt : fl.length + st.resting = st.pool
  used : ∀ t, (M t).isSome = true ↔ t ∈ st.used
  mat : ∀ s d p, VV S L s d p → ∀ x ∈ ps s d p, M (od x).token = some x
  mto : ∀ t x, M t = some x → x ≠ 0 → ∃ s d p, VV S L s d p ∧ x ∈ ps s d p ∧ (od x).token = t
  inv : Inv st
  unod : st.used.Nodup
  ult : ∀ t ∈ st.used, t < 4294967296

section
variable {S L n : Nat} {od : Nat → Ord} {ps : Nat → UInt8 → Nat → List Nat} {fl : List Nat} {M : Nat → Option Nat} {st : St}

theorem Fi.valid (h : Fi S L n od ps fl M st) {s : Nat} {d : UInt8} {p : Nat} (hv : VV S L s d p) : Valid st s d p := by
  unfold VV at hv; rw [h.hS, h.hL] at hv; exact hv
theorem Fi.vv (h : Fi S L n od ps fl M st) {s : Nat} {d : UInt8} {p : Nat} (hv : Valid st s d p) : VV S L s d p := by
  unfold VV; rw [h.hS, h.hL]; exact hv

theorem Fi.fits (h : Fi S L n od ps fl M st) {s : Nat} {d : UInt8} {p : Nat} (hv : VV S L s d p) {x : Nat} (hx : x ∈ ps s d p) : Fits s d p (od x) :=
  h.inv.ord s d p (od x) (by rw [h.q s d p hv]; exact List.mem_map.2 ⟨x, hx, rfl⟩)

theorem Fi.mem_all (h : Fi S L n od ps fl M st) {o : Ord} (ho : o ∈ st.all) : ∃ s d p x, VV S L s d p ∧ x ∈ ps s d p ∧ od x = o := by
  obtain ⟨s, d, p, h1, h2, h3, h4, h5⟩ := (Go.Proofs.Ytphkchjejbffeaa.mem_all st o).1 ho
  have hv : VV S L s d p := h.vv ⟨h1, h2, h3, h4⟩
  rw [h.q s d p hv] at h5
  obtain ⟨x, hx, e⟩ := List.mem_map.1 h5
  exact ⟨s, d, p, x, hv, hx, e⟩

theorem Fi.in_all (h : Fi S L n od ps fl M st) {s : Nat} {d : UInt8} {p : Nat} (hv : VV S L s d p) {x : Nat} (hx : x ∈ ps s d p) : od x ∈ st.all := by
  obtain ⟨h1, h2, h3, h4⟩ := h.valid hv
  exact (Go.Proofs.Ytphkchjejbffeaa.mem_all st _).2 ⟨s, d, p, h1, h2, h3, h4, by rw [h.q s d p hv]; exact List.mem_map.2 ⟨x, hx, rfl⟩⟩

theorem Fi.find (h : Fi S L n od ps fl M st) {t x : Nat} (hm : M t = some x) (hx : x ≠ 0) : st.find t = some (od x) := by
  obtain ⟨s, d, p, hv, hp, ht⟩ := h.mto t x hm hx
  have := find_nodup st.all h.inv.nodup (od x) (h.in_all hv hp)
  rw [ht] at this
  exact this

theorem Fi.find_none (h : Fi S L n od ps fl M st) {t : Nat} (hne : ∀ s d p, VV S L s d p → ∀ x ∈ ps s d p, x ≠ 0) (hm : M t = none ∨ M t = some 0) : st.find t = none := by
  by_cases e : st.find t = none
  · exact e
  · obtain ⟨o, ho⟩ := Option.ne_none_iff_exists'.1 e
    obtain ⟨h1, h2, -⟩ := find_at h.inv ho
    obtain ⟨s, d, p, x, hv, hx, rfl⟩ := h.mem_all h1
    have := h.mat s d p hv x hx
    rw [h2] at this
    rcases hm with hm | hm
    · rw [hm] at this; cases this
    · rw [hm] at this
      cases this
      exact absurd rfl (hne s d p hv 0 hx)

/-- Of two places in lines the tokens differ. -/
theorem Fi.apart (h : Fi S L n od ps fl M st) {s s' : Nat} {d d' : UInt8} {p p' : Nat} (hv : VV S L s d p) (hv' : VV S L s' d' p') {x y : Nat} (hx : x ∈ ps s d p) (hy : y ∈ ps s' d' p') (hne : y ≠ x) : (od y).token ≠ (od x).token := by
  intro e
  have h1 := h.mat s d p hv x hx
  have h2 := h.mat s' d' p' hv' y hy
  rw [e, h1] at h2
  cases h2
  exact hne rfl

theorem Fi.cut (h : Fi S L n od ps fl M st) {s : Nat} {d : UInt8} {p : Nat} (hv : VV S L s d p) {x : Nat} {a b : List Nat} (hab : ps s d p = a ++ x :: b) (hnd : (ps s d p).Nodup) : (∀ z ∈ a.map od, z.token ≠ (od x).token) ∧ x ∉ a ∧ x ∉ b := by
  rw [hab, List.nodup_append] at hnd
  have hxa : x ∉ a := fun e => hnd.2.2 x e x (by simp) rfl
  have hxb : x ∉ b := (List.nodup_cons.1 hnd.2.1).1
  refine ⟨?_, hxa, hxb⟩
  intro z hz
  obtain ⟨y, hy, rfl⟩ := List.mem_map.1 hz
  exact h.apart hv hv (by rw [hab]; simp) (by rw [hab]; simp [hy]) (fun e => hxa (e ▸ hy))

theorem rest_upd (st : St) (s : Nat) (d : UInt8) (p : Nat) (hv : Valid st s d p) (f : List Ord → List Ord) : (st.upd s d p f).resting + (st.q s d p).length = st.resting + (f (st.q s d p)).length := by
  obtain ⟨A, B, e1, e2⟩ := all_upd st s d p hv
  unfold St.resting
  rw [e1, e2 f]
  simp only [List.length_append]
  omega

theorem upd_q (st : St) (s : Nat) (d : UInt8) (p : Nat) (f : List Ord → List Ord) (s' : Nat) (d' : UInt8) (p' : Nat) : (st.upd s d p f).q s' d' p' = if s' = s ∧ d' = d ∧ p' = p then f (st.q s d p) else st.q s' d' p' := rfl

/-- What a line holds after a change that touches one place alone. -/
theorem Fi.q_upd (h : Fi S L n od ps fl M st) {s : Nat} {d : UInt8} {p : Nat} (f : List Ord → List Ord) (l : List Nat) (od' : Nat → Ord)
    (h1 : f (st.q s d p) = l.map od') (h2 : ∀ s' d' p', VV S L s' d' p' → ¬ (s' = s ∧ d' = d ∧ p' = p) → (ps s' d' p').map od' = (ps s' d' p').map od) :
    ∀ s' d' p', VV S L s' d' p' → (st.upd s d p f).q s' d' p' = (updQ ps s d p l s' d' p').map od' := by
  intro s' d' p' hv'
  rw [upd_q]
  by_cases e : s' = s ∧ d' = d ∧ p' = p
  · rw [if_pos e]
    obtain ⟨rfl, rfl, rfl⟩ := e
    rw [updQ_same, h1]
  · rw [if_neg e, updQ_ne _ _ _ _ _ e, h2 _ _ _ hv' e, h.q _ _ _ hv']
end

end Go.Proofs.Ytphkchjejbffeaa

/- Books by places against books by the document: each change. -/
namespace Go.Proofs.Ytphkchjejbffeaa

section
variable {S L n : Nat} {od : Nat → Ord} {ps : Nat → UInt8 → Nat → List Nat} {fl : List Nat} {M : Nat → Option Nat} {st : St}

/-- What of a state the places speak of not. -/
theorem Fi.of_st {st' : St} (h : Fi S L n od ps fl M st) (hi : Inv st') (h1 : st'.stocks = st.stocks) (h2 : st'.levels = st.levels) (h3 : st'.pool = st.pool) (h4 : st'.q = st.q) (h5 : st'.used = st.used) : Fi S L n od ps fl M st' := by
  have hr : st'.resting = st.resting := by
    unfold St.resting
    rw [all_eq, all_eq, h1, h2]
    congr 1
    apply flatMap_congr_mem
    intro c _
    unfold St.get
    rw [h4]
  exact ⟨h.hS.trans h1.symm, h.hL.trans h2.symm, by rw [h3]; exact h.hn, fun s d p hv => by rw [h4]; exact h.q s d p hv, by rw [hr, h3]; exact h.cnt, fun t => by rw [h5]; exact h.used t, h.mat, h.mto, hi, by rw [h5]; exact h.unod, by rw [h5]; exact h.ult⟩

/-- One token more is known; its order rests nowhere. -/
theorem Fi.register {st' : St} {t : Nat} (h : Fi S L n od ps fl M st) (hi : Inv st') (h1 : st'.stocks = st.stocks) (h2 : st'.levels = st.levels) (h3 : st'.pool = st.pool) (h4 : st'.q = st.q) (h5 : st'.used = t :: st.used) (ht : t ∉ st.used) (ht2 : t < 4294967296) : Fi S L n od ps fl (updM M t (some 0)) st' := by
  have hr : st'.resting = st.resting := by
    unfold St.resting
    rw [all_eq, all_eq, h1, h2]
    congr 1
    apply flatMap_congr_mem
    intro c _
    unfold St.get
    rw [h4]
  have hM : ∀ u, M u ≠ none → u ≠ t := by
    intro u hu e
    subst e
    exact ht ((h.used u).1 (Option.isSome_iff_ne_none.2 hu))
  refine ⟨h.hS.trans h1.symm, h.hL.trans h2.symm, by rw [h3]; exact h.hn, fun s d p hv => by rw [h4]; exact h.q s d p hv, by rw [hr, h3]; exact h.cnt, ?_, ?_, ?_, hi, by rw [h5]; exact List.nodup_cons.2 ⟨ht, h.unod⟩, ?_⟩
  · intro u
    rw [h5]
    by_cases e : u = t
    · subst e; simp [updM_same]
    · rw [updM_ne _ _ _ _ e, h.used u]; simp [e]
  · intro s d p hv x hx
    have := h.mat s d p hv x hx
    rw [updM_ne _ _ _ _ (hM _ (by rw [this]; simp))]
    exact this
  · intro u x hu hx
    by_cases e : u = t
    · subst e
      rw [updM_same] at hu
      cases hu
      exact absurd rfl hx
    · rw [updM_ne _ _ _ _ e] at hu
      exact h.mto u x hu hx
  · rw [h5]
    intro u hu
    rcases List.mem_cons.1 hu with rfl | hu
    · exact ht2
    · exact h.ult u hu

/-- An order more rests. -/
theorem Fi.push {x : Nat} (h : Fi S L n od ps (x :: fl) M st) (hx0 : x ≠ 0) (hf : ∀ s d p, VV S L s d p → x ∉ ps s d p) (hne : ∀ s d p, VV S L s d p → ∀ y ∈ ps s d p, y ≠ 0) (o : Ord) (hv : VV S L o.stock o.side o.price) (ho : M o.token = some 0)
    (hinv : Inv (st.upd o.stock o.side o.price (· ++ [o]))) :
    Fi S L n (updN od x o) (updQ ps o.stock o.side o.price (ps o.stock o.side o.price ++ [x])) fl (updM M o.token (some x)) (st.upd o.stock o.side o.price (· ++ [o])) := by
  have hmem : ∀ s d p, VV S L s d p → ∀ y, y ∈ updQ ps o.stock o.side o.price (ps o.stock o.side o.price ++ [x]) s d p → y ∈ ps s d p ∨ (y = x ∧ s = o.stock ∧ d = o.side ∧ p = o.price) := by
    intro s d p hv y hy
    by_cases e : s = o.stock ∧ d = o.side ∧ p = o.price
    · obtain ⟨rfl, rfl, rfl⟩ := e
      rw [updQ_same] at hy
      rcases List.mem_append.1 hy with hy | hy
      · exact Or.inl hy
      · exact Or.inr ⟨by simpa using hy, rfl, rfl, rfl⟩
    · rw [updQ_ne _ _ _ _ _ e] at hy
      exact Or.inl hy
  have hmem2 : ∀ s d p, VV S L s d p → ∀ y, y ∈ ps s d p → y ∈ updQ ps o.stock o.side o.price (ps o.stock o.side o.price ++ [x]) s d p := by
    intro s d p hv y hy
    by_cases e : s = o.stock ∧ d = o.side ∧ p = o.price
    · obtain ⟨rfl, rfl, rfl⟩ := e
      rw [updQ_same]; simp [hy]
    · rw [updQ_ne _ _ _ _ _ e]; exact hy
  refine ⟨h.hS, h.hL, h.hn, ?_, ?_, ?_, ?_, ?_, hinv, h.unod, h.ult⟩
  · refine h.q_upd _ _ _ ?_ ?_
    · rw [h.q _ _ _ hv, List.map_append, map_updN _ _ _ _ (hf _ _ _ hv)]
      simp [updN_same]
    · intro s d p hv _
      exact map_updN _ _ _ _ (hf _ _ _ hv)
  · have := rest_upd st o.stock o.side o.price (h.valid hv) (· ++ [o])
    have hc := h.cnt
    have e : (st.upd o.stock o.side o.price (· ++ [o])).pool = st.pool := rfl
    rw [e]
    simp only [List.length_append, List.length_cons, List.length_nil] at this hc
    omega
  · intro t
    show _ ↔ t ∈ st.used
    by_cases e : t = o.token
    · subst e
      rw [updM_same]
      have := (h.used o.token).1 (by rw [ho]; rfl)
      simp [this]
    · rw [updM_ne _ _ _ _ e]; exact h.used t
  · intro s d p hv y hy
    rcases hmem s d p hv y hy with hy | ⟨rfl, -⟩
    · have hyx : y ≠ x := fun e => hf _ _ _ hv (e ▸ hy)
      rw [updN_ne _ _ _ _ hyx]
      have hm := h.mat s d p hv y hy
      rw [updM_ne]
      · exact hm
      · intro e
        rw [e, ho] at hm
        cases hm
        exact hne s d p hv 0 hy rfl
    · rw [updN_same, updM_same]
  · intro t y hy hy0
    by_cases e : t = o.token
    · subst e
      rw [updM_same] at hy
      cases hy
      exact ⟨_, _, _, hv, by rw [updQ_same]; simp, by rw [updN_same]⟩
    · rw [updM_ne _ _ _ _ e] at hy
      obtain ⟨s, d, p, hv', hp, ht⟩ := h.mto t y hy hy0
      refine ⟨s, d, p, hv', hmem2 _ _ _ hv' y hp, ?_⟩
      rw [updN_ne]
      · exact ht
      · exact fun e => hf _ _ _ hv' (e ▸ hp)

/-- An order rests no more. -/
theorem Fi.gone {x : Nat} {a b : List Nat} {s : Nat} {d : UInt8} {p : Nat} (h : Fi S L n od ps fl M st) (hv : VV S L s d p) (hab : ps s d p = a ++ x :: b) (hnd : (ps s d p).Nodup)
    (hdis : ∀ s' d' p', VV S L s' d' p' → x ∈ ps s' d' p' → s' = s ∧ d' = d ∧ p' = p) (o0 : Ord) (f : List Ord → List Ord) (hq : f (st.q s d p) = (a ++ b).map od) (hinv : Inv (st.upd s d p f)) :
    Fi S L n (updN od x o0) (updQ ps s d p (a ++ b)) (x :: fl) (updM M (od x).token (some 0)) (st.upd s d p f) := by
  obtain ⟨-, hxa, hxb⟩ := h.cut hv hab hnd
  have hxm : x ∈ ps s d p := by rw [hab]; simp
  have hmem : ∀ s' d' p', VV S L s' d' p' → ∀ y, y ∈ updQ ps s d p (a ++ b) s' d' p' → y ∈ ps s' d' p' ∧ y ≠ x := by
    intro s' d' p' hv' y hy
    by_cases e : s' = s ∧ d' = d ∧ p' = p
    · obtain ⟨rfl, rfl, rfl⟩ := e
      rw [updQ_same] at hy
      rcases List.mem_append.1 hy with hy | hy
      · exact ⟨by rw [hab]; simp [hy], fun e => hxa (e ▸ hy)⟩
      · exact ⟨by rw [hab]; simp [hy], fun e => hxb (e ▸ hy)⟩
    · rw [updQ_ne _ _ _ _ _ e] at hy
      refine ⟨hy, fun e2 => ?_⟩
      subst e2
      exact e (hdis _ _ _ hv' hy)
  have hmem2 : ∀ s' d' p', VV S L s' d' p' → ∀ y, y ∈ ps s' d' p' → y ≠ x → y ∈ updQ ps s d p (a ++ b) s' d' p' := by
    intro s' d' p' hv' y hy hne
    by_cases e : s' = s ∧ d' = d ∧ p' = p
    · obtain ⟨rfl, rfl, rfl⟩ := e
      rw [updQ_same]
      rw [hab] at hy
      simp at hy ⊢
      rcases hy with hy | hy | hy
      · exact Or.inl hy
      · exact absurd hy hne
      · exact Or.inr hy
    · rw [updQ_ne _ _ _ _ _ e]; exact hy
  refine ⟨h.hS, h.hL, h.hn, ?_, ?_, ?_, ?_, ?_, hinv, h.unod, h.ult⟩
  · refine h.q_upd _ _ _ ?_ ?_
    · rw [hq, map_updN]
      simp [hxa, hxb]
    · intro s' d' p' hv' e
      exact map_updN _ _ _ _ (fun hx => e (hdis _ _ _ hv' hx))
  · have := rest_upd st s d p (h.valid hv) f
    have hc := h.cnt
    have e : (st.upd s d p f).pool = st.pool := rfl
    rw [e]
    rw [hq, h.q _ _ _ hv, hab] at this
    simp only [List.length_map, List.length_append, List.length_cons] at this ⊢
    omega
  · intro t
    show _ ↔ t ∈ st.used
    by_cases e : t = (od x).token
    · rw [e, updM_same]
      have := (h.used (od x).token).1 (by rw [h.mat s d p hv x hxm]; rfl)
      simp [this]
    · rw [updM_ne _ _ _ _ e]; exact h.used t
  · intro s' d' p' hv' y hy
    obtain ⟨h1, h2⟩ := hmem s' d' p' hv' y hy
    rw [updN_ne _ _ _ _ h2, updM_ne _ _ _ _ (h.apart hv hv' hxm h1 h2)]
    exact h.mat _ _ _ hv' y h1
  · intro t y hy hy0
    by_cases e : t = (od x).token
    · rw [e, updM_same] at hy
      cases hy
      exact absurd rfl hy0
    · rw [updM_ne _ _ _ _ e] at hy
      obtain ⟨s', d', p', hv', hp, ht⟩ := h.mto t y hy hy0
      have hyx : y ≠ x := by
        intro e2; subst e2
        exact e ht.symm
      exact ⟨s', d', p', hv', hmem2 _ _ _ hv' y hp hyx, by rw [updN_ne _ _ _ _ hyx]; exact ht⟩

/-- An order has fewer shares. -/
theorem Fi.less {x : Nat} {a b : List Nat} {s : Nat} {d : UInt8} {p : Nat} (h : Fi S L n od ps fl M st) (hv : VV S L s d p) (hab : ps s d p = a ++ x :: b) (hnd : (ps s d p).Nodup)
    (hdis : ∀ s' d' p', VV S L s' d' p' → x ∈ ps s' d' p' → s' = s ∧ d' = d ∧ p' = p) (o : Ord) (ht : o.token = (od x).token) (f : List Ord → List Ord) (hq : f (st.q s d p) = a.map od ++ o :: b.map od) (hinv : Inv (st.upd s d p f)) :
    Fi S L n (updN od x o) ps fl M (st.upd s d p f) := by
  obtain ⟨-, hxa, hxb⟩ := h.cut hv hab hnd
  have hps : updQ ps s d p (a ++ x :: b) = ps := by
    funext s' d' p'
    by_cases e : s' = s ∧ d' = d ∧ p' = p
    · obtain ⟨rfl, rfl, rfl⟩ := e
      rw [updQ_same, hab]
    · rw [updQ_ne _ _ _ _ _ e]
  have htok : ∀ y, (updN od x o y).token = (od y).token := by
    intro y
    by_cases e : y = x
    · subst e; rw [updN_same]; exact ht
    · rw [updN_ne _ _ _ _ e]
  refine ⟨h.hS, h.hL, h.hn, ?_, ?_, h.used, ?_, ?_, hinv, h.unod, h.ult⟩
  · rw [← hps]
    rw [hps]
    have := h.q_upd (s := s) (d := d) (p := p) f (a ++ x :: b) (updN od x o) ?_ ?_
    · rw [hps] at this; exact this
    · rw [hq, List.map_append, List.map_cons, updN_same, map_updN _ _ _ _ hxa, map_updN _ _ _ _ hxb]
    · intro s' d' p' hv' e
      exact map_updN _ _ _ _ (fun hx => e (hdis _ _ _ hv' hx))
  · have := rest_upd st s d p (h.valid hv) f
    have hc := h.cnt
    have e : (st.upd s d p f).pool = st.pool := rfl
    rw [e]
    rw [hq, h.q _ _ _ hv, hab] at this
    simp only [List.length_map, List.length_append, List.length_cons] at this ⊢
    omega
  · intro s' d' p' hv' y hy
    rw [htok]; exact h.mat _ _ _ hv' y hy
  · intro t y hy hy0
    obtain ⟨s', d', p', hv', hp, ht'⟩ := h.mto t y hy hy0
    exact ⟨s', d', p', hv', hp, by rw [htok]; exact ht'⟩

/-- An order stands in another one's place. -/
theorem Fi.sub {x : Nat} {a b : List Nat} {s : Nat} {d : UInt8} {p : Nat} (h : Fi S L n od ps fl M st) (hv : VV S L s d p) (hab : ps s d p = a ++ x :: b) (hnd : (ps s d p).Nodup)
    (hdis : ∀ s' d' p', VV S L s' d' p' → x ∈ ps s' d' p' → s' = s ∧ d' = d ∧ p' = p) (hne : ∀ s d p, VV S L s d p → ∀ y ∈ ps s d p, y ≠ 0) (o : Ord) (ho : M o.token = some 0) (f : List Ord → List Ord) (hq : f (st.q s d p) = a.map od ++ o :: b.map od) (hinv : Inv (st.upd s d p f)) :
    Fi S L n (updN od x o) ps fl (updM (updM M (od x).token (some 0)) o.token (some x)) (st.upd s d p f) := by
  obtain ⟨-, hxa, hxb⟩ := h.cut hv hab hnd
  have hxm : x ∈ ps s d p := by rw [hab]; simp
  have hps : updQ ps s d p (a ++ x :: b) = ps := by
    funext s' d' p'
    by_cases e : s' = s ∧ d' = d ∧ p' = p
    · obtain ⟨rfl, rfl, rfl⟩ := e
      rw [updQ_same, hab]
    · rw [updQ_ne _ _ _ _ _ e]
  have hno : ∀ s' d' p', VV S L s' d' p' → ∀ y ∈ ps s' d' p', (od y).token ≠ o.token := by
    intro s' d' p' hv' y hy e
    have := h.mat _ _ _ hv' y hy
    rw [e, ho] at this
    cases this
    exact hne _ _ _ hv' 0 hy rfl
  have hto : (od x).token ≠ o.token := hno s d p hv x hxm
  refine ⟨h.hS, h.hL, h.hn, ?_, ?_, ?_, ?_, ?_, hinv, h.unod, h.ult⟩
  · have := h.q_upd (s := s) (d := d) (p := p) f (a ++ x :: b) (updN od x o) ?_ ?_
    · rw [hps] at this; exact this
    · rw [hq, List.map_append, List.map_cons, updN_same, map_updN _ _ _ _ hxa, map_updN _ _ _ _ hxb]
    · intro s' d' p' hv' e
      exact map_updN _ _ _ _ (fun hx => e (hdis _ _ _ hv' hx))
  · have := rest_upd st s d p (h.valid hv) f
    have hc := h.cnt
    have e : (st.upd s d p f).pool = st.pool := rfl
    rw [e]
    rw [hq, h.q _ _ _ hv, hab] at this
    simp only [List.length_map, List.length_append, List.length_cons] at this ⊢
    omega
  · intro t
    show _ ↔ t ∈ st.used
    by_cases e : t = o.token
    · subst e
      rw [updM_same]
      have := (h.used o.token).1 (by rw [ho]; rfl)
      simp [this]
    · rw [updM_ne _ _ _ _ e]
      by_cases e2 : t = (od x).token
      · rw [e2, updM_same]
        have := (h.used (od x).token).1 (by rw [h.mat s d p hv x hxm]; rfl)
        simp [this]
      · rw [updM_ne _ _ _ _ e2]; exact h.used t
  · intro s' d' p' hv' y hy
    by_cases e : y = x
    · subst e
      rw [updN_same, updM_same]
    · rw [updN_ne _ _ _ _ e, updM_ne _ _ _ _ (hno _ _ _ hv' y hy), updM_ne _ _ _ _ (h.apart hv hv' hxm hy e)]
      exact h.mat _ _ _ hv' y hy
  · intro t y hy hy0
    by_cases e : t = o.token
    · subst e
      rw [updM_same] at hy
      cases hy
      exact ⟨s, d, p, hv, hxm, by rw [updN_same]⟩
    · rw [updM_ne _ _ _ _ e] at hy
      by_cases e2 : t = (od x).token
      · rw [e2, updM_same] at hy
        cases hy
        exact absurd rfl hy0
      · rw [updM_ne _ _ _ _ e2] at hy
        obtain ⟨s', d', p', hv', hp, ht⟩ := h.mto t y hy hy0
        have hyx : y ≠ x := by
          intro e3; subst e3
          exact e2 ht.symm
        exact ⟨s', d', p', hv', hp, by rw [updN_ne _ _ _ _ hyx]; exact ht⟩

/-- The place of the order that this one meets first. -/
def meetsP (L : Nat) (ps : Nat → UInt8 → Nat → List Nat) (o : Ord) : Option Nat :=
  (List.range L).findSome? fun r => if reaches o (if other o.side = 66 then L - r else r + 1) then (ps o.stock (other o.side) (if other o.side = 66 then L - r else r + 1)).head? else none

theorem findSome_congr {α β : Type} (l : List α) (f g : α → Option β) (h : ∀ a ∈ l, f a = g a) : l.findSome? f = l.findSome? g := by
  induction l with
  | nil => rfl
  | cons a l ih =>
    rw [List.findSome?_cons, List.findSome?_cons, h a (by simp), ih (fun b hb => h b (by simp [hb]))]
theorem findSome_map {α β γ : Type} (l : List α) (f : α → Option β) (g : β → γ) : l.findSome? (fun a => (f a).map g) = (l.findSome? f).map g := by
  induction l with
  | nil => rfl
  | cons a l ih =>
    rw [List.findSome?_cons, List.findSome?_cons]
    cases f a with
    | none => exact ih
    | some b => rfl

theorem Fi.meets (h : Fi S L n od ps fl M st) (o : Ord) (hs : o.stock < S) : st.meets o = (meetsP L ps o).map od := by
  unfold St.meets meetsP
  rw [← findSome_map, ← h.hL]
  apply findSome_congr
  intro r hr
  have hr : r < L := by simpa using hr
  unfold St.ranked
  rw [← h.hL]
  generalize hz : (if other o.side = 66 then L - r else r + 1) = z
  have hz1 : 1 ≤ z ∧ z ≤ L := by
    rw [← hz]; split <;> omega
  split
  · rw [h.q _ _ _ ⟨hs, other_ok o.side, hz1.1, hz1.2⟩, List.head?_map]
  · rfl
end

end Go.Proofs.Ytphkchjejbffeaa

/- The order that another one meets first. -/
namespace Go.Proofs.Ytphkchjejbffeaa
open Go.RowKit
attribute [local go_sem ↓] Go.wp_at_zero Go.wp_at_succ

set_option maxRecDepth 100000 in
set_option maxHeartbeats 1000000 in
theorem reaches_any (a z p : Nat) (o : Ord) (w : World) (_hp : p ≤ 1000) (ho : o.price ≤ 1000) (hs : o.side = 66 ∨ o.side = 83) :
    Calls Try.prog 127 #[ordV a z o, .int .i64 p] w fun e w' => e = .returned (.bool (reaches o p)) ∧ Hid (Fr (fun _ => False) w w') := by
  obtain ⟨ref, token, side, stock, price, shares⟩ := o
  simp only at ho hs
  have w1 : IntKind.i64.wrap (price : Int) = (price : Int) := by rw [IntKind.wrap_i64]; omega
  unfold ordV ordL
  simp only
  rcases hs with rfl | rfl
  · have HE : Hid (reaches { ref, token, side := 66, stock, price, shares } p = decide (p ≤ price)) := by
      show _ = _
      simp [reaches]
    go_enter Try.func127, Try.ntmps127
    go_wp2_with fail
    go_ret
    exact ⟨by rw [HE.out]; rfl, Fr.alloc _ _ _⟩
  · have HE : Hid (reaches { ref, token, side := 83, stock, price, shares } p = decide (price ≤ p)) := by
      show _ = _
      simp [reaches]
    go_enter Try.func127, Try.ntmps127
    go_wp2_with fail
    go_ret
    exact ⟨by rw [HE.out]; rfl, Fr.alloc _ _ _⟩


/-- A price at which an order meets nobody any more. -/
theorem reaches_mono (o : Ord) (L r r' : Nat) (hd : o.side = 66 ∨ o.side = 83) (hr : r ≤ r') (hL : r' < L) (h : reaches o (if other o.side = 66 then L - r else r + 1) = false) : reaches o (if other o.side = 66 then L - r' else r' + 1) = false := by
  obtain ⟨ref, token, side, stock, price, shares⟩ := o
  simp only at hd
  rcases hd with rfl | rfl
  · simp [reaches, other] at h ⊢
    omega
  · simp [reaches, other] at h ⊢
    omega

theorem findSome_none {α β : Type} (l : List α) (f : α → Option β) (h : ∀ a ∈ l, f a = none) : l.findSome? f = none := by
  induction l with
  | nil => rfl
  | cons a l ih => rw [List.findSome?_cons, h a (by simp)]; exact ih (fun b hb => h b (by simp [hb]))

/-- So far nobody was met. -/
def NoneYet (L : Nat) (ps : Nat → UInt8 → Nat → List Nat) (o : Ord) (r : Nat) : Prop := ∀ i, i < r → ps o.stock (other o.side) (if other o.side = 66 then L - i else i + 1) = []

theorem meetsP_none (L : Nat) (ps : Nat → UInt8 → Nat → List Nat) (o : Ord) (r : Nat) (hd : o.side = 66 ∨ o.side = 83) (h : NoneYet L ps o r) (hr : r = L ∨ (r < L ∧ reaches o (if other o.side = 66 then L - r else r + 1) = false)) : (meetsP L ps o).getD 0 = 0 := by
  have : meetsP L ps o = none := by
    apply findSome_none
    intro i hi
    have hi : i < L := by simpa using hi
    by_cases e : i < r
    · rw [h i e]; simp
    · rcases hr with hr | ⟨hr, hr2⟩
      · omega
      · rw [reaches_mono o L r i hd (by omega) hi hr2]; simp
  rw [this]; rfl

theorem findSome_at {β : Type} (n r : Nat) (f : Nat → Option β) (b : β) (hr : r < n) (h1 : ∀ i, i < r → f i = none) (h2 : f r = some b) : (List.range n).findSome? f = some b := by
  have e : List.range n = List.range r ++ (r :: (List.range (n - r - 1)).map (fun i => r + 1 + i)) := by
    have e1 : n = r + (1 + (n - r - 1)) := by omega
    rw [e1, List.range_add, List.range_add]
    simp [List.range_succ, Function.comp_def, Nat.add_assoc]
  rw [e, List.findSome?_append, findSome_none _ _ (fun a ha => h1 a (by simpa using ha)), List.findSome?_cons, h2]
  rfl

theorem meetsP_some (L : Nat) (ps : Nat → UInt8 → Nat → List Nat) (o : Ord) (r x : Nat) (h : NoneYet L ps o r) (hr : r < L) (hc : reaches o (if other o.side = 66 then L - r else r + 1) = true) (hx : (ps o.stock (other o.side) (if other o.side = 66 then L - r else r + 1)).headD 0 = x) (h0 : x ≠ 0) : (meetsP L ps o).getD 0 = x := by
  have : meetsP L ps o = some x := by
    refine findSome_at L r _ x hr ?_ ?_
    · intro i hi
      rw [h i hi]; simp
    · rw [if_pos hc]
      generalize ps o.stock (other o.side) (if other o.side = 66 then L - r else r + 1) = l at hx
      rcases l with _ | ⟨y, l⟩
      · exact absurd hx.symm h0
      · simpa using hx
  rw [this]; rfl

set_option maxRecDepth 100000 in
set_option maxHeartbeats 1000000 in
theorem meets_mem (k : SK) (ok : k.ok) (a z free taken : Nat) (o : Ord) (fs ls : Nat → Nat → Nat) (bef aft : Nat → Nat) (od : Nat → Ord) (ps : Nat → UInt8 → Nat → List Nat) (fl : List Nat) (w : World) (h : IsBk w k free taken fs ls bef aft od) (hl : Lk k.S k.L k.n free fs ls bef aft ps fl) (hs : o.stock < k.S) (hd : o.side = 66 ∨ o.side = 83) (hp : o.price ≤ 1000) :
    Calls Try.prog 83 #[.pointer (some ⟨k.bk, 0, none⟩), ordV a z o] w fun e w' => e = .returned (.int .i64 (((meetsP k.L ps o).getD 0 : Nat) : Int)) ∧ Hid (Fr (fun _ => False) w w') := by
  have hsz : ∀ j, k.F j → j < w.heap.size := h.lt
  have hbl := hsz k.bk (Or.inl rfl)
  have g3 : w.cell? ⟨k.bk, 3, none⟩ = some (.int .i64 k.L) := h.K.cell 3
  have H := Hid.mk h
  have HL := Hid.mk hl
  have okL := ok.L
  clear h hl
  unfold ordV ordL
  go_enter Try.func83, Try.ntmps83
  go_wp2_with ((go_at_call 126; refine (otherSide_any o.side _ hd).mono ?_; rintro e w' ⟨rfl, hw⟩; replace hw := hw.symm; subst hw))
  generalize hOb : Obj.cells _ 129 = Ob
  have hbx : Box (w.alloc Ob) w.heap.size a z o := Box.of (t := 129) (by rw [heap_alloc, if_pos rfl, ← hOb]; rfl)
  have hF0 : Fr (fun _ => False) w (w.alloc Ob) := Fr.alloc _ w Ob
  clear hOb g3
  generalize w.alloc Ob = W at hbx hF0 ⊢
  have HX := Hid.mk hbx
  have HF := Hid.mk hF0
  clear hbx hF0
  go_loopw [16] (fun i wr => ∃ r : Nat, r ≤ k.L ∧ i = .int .i64 r ∧ NoneYet k.L ps o r ∧ Hid (Fr (fun _ => False) W wr)) (fun i _ => k.L - (intOf i).toNat)
  case atStart => exact ⟨0, Nat.zero_le _, rfl, fun i hi => absurd hi (by omega), Fr.refl _ _⟩
  case round =>
    obtain ⟨r, hr, rfl, hny, hfr⟩ := hrel
    have HN := Hid.mk hny
    clear hny
    by_cases hlt : r < k.L
    · have hB : Hid (IsBk wr k free taken fs ls bef aft od) := H.out.keep (fun j hj => (hfr.out.block j (Nat.lt_of_lt_of_le (hsz j hj) HF.out.size) (fun e => e)).trans (HF.out.block j (hsz j hj) (fun e => e)))
      obtain ⟨c0, c1, c2, c3, c4, c5, c6, c7⟩ := HX.out.fr hfr.out (fun e => e)
      have hlt2 : (r : Int) < (k.L : Int) := by omega
      have hrk := ranked_any k.bk (k.kc free taken) (other o.side) r wr hB.out.K (other_ok o.side) hlt (show k.L ≤ 1000 by omega)
      obtain ⟨p, hpe⟩ : ∃ p, (if other o.side = 66 then k.L - r else r + 1) = p := ⟨_, rfl⟩
      have hp1 : 1 ≤ p ∧ p ≤ k.L := by rw [← hpe]; split <;> omega
      rw [show (if other o.side = 66 then (k.kc free taken).levels - r else r + 1) = p from hpe] at hrk
      have HRK := Hid.mk hrk
      have HPE := Hid.mk hpe
      clear hrk hpe
      have hVV : Hid (VV k.S k.L o.stock (other o.side) p) := ⟨hs, other_ok _, hp1.1, hp1.2⟩
      go_wp2_with ((go_at_call 90; refine HRK.out.mono ?_; rintro e w' ⟨rfl, hw⟩; replace hw := hw.symm; subst hw))
      refine (reaches_any a z p o wr (by omega) hp hd).mono ?_
      rintro e w2 ⟨rfl, hf2⟩
      have hfr2 : Hid (Fr (fun _ => False) W w2) := hfr.out.trans hf2.out (fun _ _ h => h)
      have hB2 : Hid (IsBk w2 k free taken fs ls bef aft od) := hB.out.keep (fun j hj => hf2.out.block j (hB.out.lt j hj) (fun e => e))
      obtain ⟨d0, d1, d2, d3, d4, d5, d6, d7⟩ := HX.out.fr hfr2.out (fun e => e)
      clear c0 c1 c2 c3 c4 c5 c6 c7
      have gL : w2.cell? ⟨k.ln (jx o.stock (other o.side)), (p - 1) * 2, none⟩ = some (.int .i64 ((fs (jx o.stock (other o.side)) (p - 1) : Nat) : Int)) := (hB2.out.Ls _ (jx_lt _ hs)).cell (p - 1) 0 (by omega) (by omega)
      have hfe := (HL.out.line _ _ _ hVV.out).first
      generalize fs (jx o.stock (other o.side)) (p - 1) = x at gL hfe
      have HFE := Hid.mk hfe
      clear hfe
      have ws : IntKind.i64.wrap (o.stock : Int) = (o.stock : Int) := by rw [IntKind.wrap_i64]; have := ok.S; omega
      cases hc : reaches o p with
      | false =>
        have HC := Hid.mk hc
        clear hc
        go_wp2_with fail
        go_ret
        refine ⟨?_, HF.out.trans hfr2.out (fun _ _ h => h)⟩
        rw [meetsP_none k.L ps o r hd HN.out (Or.inr ⟨hlt, by rw [HPE.out]; exact HC.out⟩)]; rfl
      | true =>
        have HC := Hid.mk hc
        clear hc
        by_cases hx0 : x = 0
        · have hb0 : ((x : Int) == 0) = true := by simp [hx0]
          have HX0 := Hid.mk hx0
          clear hx0
          go_wp2_with ((go_at_call 89; refine (line_any k ok o.stock p free taken (other o.side) fs ls bef aft od w2 hB2.out hVV.out).mono ?_; rintro e w' ⟨rfl, hw⟩; replace hw := hw.symm; subst hw))
          refine ⟨⟨r + 1, by omega, by go_num, ?_, hfr2⟩, by simp [intOf]; omega⟩
          intro i hi
          by_cases e : i < r
          · exact HN.out i e
          · have : i = r := by omega
            subst this
            rw [HPE.out]
            have h1 := HFE.out
            rw [HX0.out] at h1
            generalize hll : ps o.stock (other o.side) p = l at h1
            rcases l with _ | ⟨y, l⟩
            · rfl
            · exact absurd h1.symm (HL.out.ne0 hVV.out (by rw [hll]; simp))
        · have hb0 : ((x : Int) == 0) = false := by simp; omega
          have HX0 := Hid.mk hx0
          clear hx0
          go_wp2_with ((go_at_call 89; refine (line_any k ok o.stock p free taken (other o.side) fs ls bef aft od w2 hB2.out hVV.out).mono ?_; rintro e w' ⟨rfl, hw⟩; replace hw := hw.symm; subst hw))
          go_ret
          refine ⟨?_, HF.out.trans hfr2.out (fun _ _ h => h)⟩
          rw [meetsP_some k.L ps o r x HN.out hlt (by rw [HPE.out]; exact HC.out) (by rw [HPE.out]; exact HFE.out.symm) HX0.out]; rfl
    · have hlt2 : ¬ ((r : Int) < (k.L : Int)) := by omega
      go_wp2_with fail
      go_ret
      refine ⟨?_, HF.out.trans hfr.out (fun _ _ h => h)⟩
      rw [meetsP_none k.L ps o r hd HN.out (Or.inl (by omega))]; rfl

theorem meets_any (k : SK) (w : World) (taken a z : Nat) (o : Ord) (od : Nat → Ord) (ps : Nat → UInt8 → Nat → List Nat) (fl : List Nat) (h : Bks w k taken od ps fl) (hs : o.stock < k.S) (hd : o.side = 66 ∨ o.side = 83) (hp : o.price ≤ 1000) :
    Calls Try.prog 83 #[.pointer (some ⟨k.bk, 0, none⟩), ordV a z o] w fun e w' => e = .returned (.int .i64 (((meetsP k.L ps o).getD 0 : Nat) : Int)) ∧ Hid (Fr (fun _ => False) w w') := by
  obtain ⟨free, fs, ls, bef, aft, h1, h2⟩ := h.ex
  exact meets_mem k h.ok a z free taken o fs ls bef aft od ps fl w h1 h2 hs hd hp

end Go.Proofs.Ytphkchjejbffeaa
