/- Giving a place back. -/
import Derived.Test.YtphkchjejbffeaaG04
namespace Go.Proofs.Ytphkchjejbffeaa
open Go.RowKit
attribute [local go_sem ↓] Go.wp_at_zero Go.wp_at_succ

def noOrd : Ord := { ref := 0, token := 0, side := 0, stock := 0, price := 0, shares := 0 }

set_option maxRecDepth 100000 in
set_option maxHeartbeats 1000000 in
theorem giveBack_any (bk x f tk : Nat) (k : KC) (bef aft : Nat → Nat) (od : Nat → Ord) (w : World) (hK : IsK w bk k) (hP : IsP w k.po k.n bef aft od) (hx : x < k.n) (_hn : k.n ≤ 1000) (ht : k.taken ≤ 1000) (ht1 : tk + 1 = k.taken) (hf : k.free = f) (n1 : bk ≠ k.po) :
    Calls Try.prog 147 #[.pointer (some ⟨bk, 0, none⟩), .int .i64 x] w fun e w' => e = .returned (.tuple #[]) ∧
      IsP w' k.po k.n (updN bef x 0) (updN (updN aft x 0) x f) (updN od x noOrd) ∧ IsK w' bk { k with free := x, taken := tk } ∧ Fr (fun j => j = k.po ∨ j = bk) w w' := by
  have gK : w.cell? ⟨bk, 0, none⟩ = some (.slice (some ⟨k.po, 0, none⟩) k.n k.n) := hK.cell 0
  have gF : w.cell? ⟨bk, 1, none⟩ = some (.int .i64 f) := by rw [← hf]; exact hK.cell 1
  have i1 : (x : Int) < (k.n : Int) := by omega
  have hbl := hK.lt
  have hpl := hP.lt
  have tc : ∀ i, i < 8 → w.cell? ⟨k.po, x * 8 + i, none⟩ = some (oCell bef aft od x i) := fun i hi => hP.cell x i hx hi
  have t0 : w.cell? ⟨k.po, x * 8, none⟩ = some _ := tc 0 (by omega)
  have t1 := tc 1 (by omega)
  have t2 := tc 2 (by omega)
  have t3 := tc 3 (by omega)
  have t4 := tc 4 (by omega)
  have t5 := tc 5 (by omega)
  have t6 := tc 6 (by omega)
  have t7 := tc 7 (by omega)
  have fp : ∀ i, w.frozen? ⟨k.po, i, none⟩ = false := hP.frozen
  have fp0 := fp (x * 8)
  have fp1 := fp (x * 8 + 1)
  have fp2 := fp (x * 8 + 2)
  have fp3 := fp (x * 8 + 3)
  have fp4 := fp (x * 8 + 4)
  have fp5 := fp (x * 8 + 5)
  have fp6 := fp (x * 8 + 6)
  have fp7 := fp (x * 8 + 7)
  clear fp tc
  have HP := Hid.mk hP
  have HK := Hid.mk hK
  clear hP hK
  go_enter Try.func147, Try.ntmps147
  go_wp2_with fail
  have hp2 : Hid (IsP ((((((((w.setCell ⟨k.po, x * 8, none⟩ (.int .i64 0)).setCell ⟨k.po, x * 8 + 1, none⟩ (.int .i64 0)).setCell ⟨k.po, x * 8 + 2, none⟩ (.int .u32 0)).setCell ⟨k.po, x * 8 + 3, none⟩ (.int .u32 0)).setCell ⟨k.po, x * 8 + 4, none⟩ (.int .u8 0)).setCell ⟨k.po, x * 8 + 5, none⟩ (.int .u8 0)).setCell ⟨k.po, x * 8 + 6, none⟩ (.int .u16 0)).setCell ⟨k.po, x * 8 + 7, none⟩ (.int .u16 0)) k.po k.n (updN bef x 0) (updN aft x 0) (updN od x noOrd)) := by
    have := HP.out.setOrd x 0 0 noOrd
    rw [set8] at this
    exact this
  have hf2 : Hid (Fr (fun j => j = k.po) w ((((((((w.setCell ⟨k.po, x * 8, none⟩ (.int .i64 0)).setCell ⟨k.po, x * 8 + 1, none⟩ (.int .i64 0)).setCell ⟨k.po, x * 8 + 2, none⟩ (.int .u32 0)).setCell ⟨k.po, x * 8 + 3, none⟩ (.int .u32 0)).setCell ⟨k.po, x * 8 + 4, none⟩ (.int .u8 0)).setCell ⟨k.po, x * 8 + 5, none⟩ (.int .u8 0)).setCell ⟨k.po, x * 8 + 6, none⟩ (.int .u16 0)).setCell ⟨k.po, x * 8 + 7, none⟩ (.int .u16 0))) := by
    have := fr_setCells k.po (ordL 0 0 noOrd) (x * 8) w
    rw [set8] at this
    exact this
  have hk2 : Hid (IsK ((((((((w.setCell ⟨k.po, x * 8, none⟩ (.int .i64 0)).setCell ⟨k.po, x * 8 + 1, none⟩ (.int .i64 0)).setCell ⟨k.po, x * 8 + 2, none⟩ (.int .u32 0)).setCell ⟨k.po, x * 8 + 3, none⟩ (.int .u32 0)).setCell ⟨k.po, x * 8 + 4, none⟩ (.int .u8 0)).setCell ⟨k.po, x * 8 + 5, none⟩ (.int .u8 0)).setCell ⟨k.po, x * 8 + 6, none⟩ (.int .u16 0)).setCell ⟨k.po, x * 8 + 7, none⟩ (.int .u16 0)) bk k) := ⟨(hf2.out.block bk HK.out.lt n1).trans HK.out.blk⟩
  generalize ((((((((w.setCell ⟨k.po, x * 8, none⟩ (.int .i64 0)).setCell ⟨k.po, x * 8 + 1, none⟩ (.int .i64 0)).setCell ⟨k.po, x * 8 + 2, none⟩ (.int .u32 0)).setCell ⟨k.po, x * 8 + 3, none⟩ (.int .u32 0)).setCell ⟨k.po, x * 8 + 4, none⟩ (.int .u8 0)).setCell ⟨k.po, x * 8 + 5, none⟩ (.int .u8 0)).setCell ⟨k.po, x * 8 + 6, none⟩ (.int .u16 0)).setCell ⟨k.po, x * 8 + 7, none⟩ (.int .u16 0)) = w2 at hp2 hf2 hk2 ⊢
  clear gK gF t0 t1 t2 t3 t4 t5 t6 t7 fp0 fp1 fp2 fp3 fp4 fp5 fp6 fp7
  have gK : w2.cell? ⟨bk, 0, none⟩ = some (.slice (some ⟨k.po, 0, none⟩) k.n k.n) := hk2.out.cell 0
  have gF : w2.cell? ⟨bk, 1, none⟩ = some (.int .i64 f) := by rw [← hf]; exact hk2.out.cell 1
  go_region_held3 (fun w' => w'.cell? ⟨bk, 0, none⟩ = some (.slice (some ⟨k.po, 0, none⟩) k.n k.n) ∧ w'.cell? ⟨bk, 1, none⟩ = some (.int .i64 f)) (first | exact ⟨m1, m2⟩ | go_keep)
    ((go_at_call 108; refine (setBehind_pool k.po k.n x f _ _ _ w2.drew ⟨hp2.out.blk⟩ hx).mono ?_; rintro e w3 ⟨rfl, hp3, hf3⟩; have m1 := hf3.out.cell (w := w2.drew) gK n1; have m2 := hf3.out.cell (w := w2.drew) gF n1))
  have hK3 : IsK w3 bk k := ⟨(hf3.out.block bk hk2.out.lt n1).trans hk2.out.blk⟩
  clear gK gF m1 m2
  have gF : w3.cell? ⟨bk, 1, none⟩ = some (.int .i64 f) := by rw [← hf]; exact hK3.cell 1
  have gT : w3.cell? ⟨bk, 2, none⟩ = some (.int .i64 k.taken) := hK3.cell 2
  have f1 := hK3.frozen 1
  have f2 := hK3.frozen 2
  have w1 : IntKind.i64.wrap ((k.taken : Int) - 1) = (k.taken : Int) - 1 := by rw [IntKind.wrap_i64]; omega
  have HK3 := Hid.mk hK3
  have gT' : (w3.setCell ⟨bk, 1, none⟩ (.int .i64 x)).cell? ⟨bk, 2, none⟩ = some (.int .i64 k.taken) := by rw [World.cell?_setCell_other _ _ _ _ (by simp)]; exact gT
  clear hK3
  go_wp2_with fail
  go_end0
  have e1 : (k.taken : Int) - 1 = (tk : Int) := by omega
  rw [e1]
  have hfr : Fr (fun j => j = bk) w3 ((w3.setCell ⟨bk, 1, none⟩ (.int .i64 x)).setCell ⟨bk, 2, none⟩ (.int .i64 tk)) := (Fr.setCell w3 ⟨bk, 1, none⟩ _).trans (Fr.setCell _ ⟨bk, 2, none⟩ _) (fun _ _ h => h)
  refine ⟨rfl, hp3.out.keep (hfr.block k.po hp3.out.lt (Ne.symm n1)), ⟨?_⟩, ?_⟩
  · rw [heap_setCell_same _ bk 2 _ _ _ (heap_setCell_same w3 bk 1 _ _ _ HK3.out.blk)]; rfl
  · exact (hf2.out.mono (fun _ _ h => Or.inl h)).trans (((Fr.drew (fun _ => False) w2).mono (fun _ _ h => h.elim)).trans ((hf3.out.mono (fun _ _ h => Or.inl h)).trans hfr (fun _ _ h => Or.inr h)) (fun _ _ h => h)) (fun _ _ h => h)

end Go.Proofs.Ytphkchjejbffeaa

/- An order comes to rest. -/
namespace Go.Proofs.Ytphkchjejbffeaa
open Go.RowKit
attribute [local go_sem ↓] Go.wp_at_zero Go.wp_at_succ

/-- The cells of an order's own copy. -/
structure Box (w : World) (g a z : Nat) (o : Ord) : Prop where
  c0 : w.cell? ⟨g, 0, none⟩ = some (.int .i64 a)
  c1 : w.cell? ⟨g, 1, none⟩ = some (.int .i64 z)
  c2 : w.cell? ⟨g, 2, none⟩ = some (.int .u32 o.ref)
  c3 : w.cell? ⟨g, 3, none⟩ = some (.int .u32 o.token)
  c4 : w.cell? ⟨g, 4, none⟩ = some (.int .u8 o.side.toNat)
  c5 : w.cell? ⟨g, 5, none⟩ = some (.int .u8 o.stock)
  c6 : w.cell? ⟨g, 6, none⟩ = some (.int .u16 o.price)
  c7 : w.cell? ⟨g, 7, none⟩ = some (.int .u16 o.shares)
theorem Box.fr {w w' : World} {g a z : Nat} {o : Ord} {F : Nat → Prop} (h : Box w g a z o) (hf : Fr F w w') (hn : ¬ F g) : Box w' g a z o :=
  ⟨hf.cell h.c0 hn, hf.cell h.c1 hn, hf.cell h.c2 hn, hf.cell h.c3 hn, hf.cell h.c4 hn, hf.cell h.c5 hn, hf.cell h.c6 hn, hf.cell h.c7 hn⟩
theorem Box.all {w : World} {g a z : Nat} {o : Ord} (h : Box w g a z o) : w.cell? ⟨g, 0, none⟩ = some (.int .i64 a) ∧ w.cell? ⟨g, 1, none⟩ = some (.int .i64 z) ∧ w.cell? ⟨g, 2, none⟩ = some (.int .u32 o.ref) ∧ w.cell? ⟨g, 3, none⟩ = some (.int .u32 o.token) ∧ w.cell? ⟨g, 4, none⟩ = some (.int .u8 o.side.toNat) ∧ w.cell? ⟨g, 5, none⟩ = some (.int .u8 o.stock) ∧ w.cell? ⟨g, 6, none⟩ = some (.int .u16 o.price) ∧ w.cell? ⟨g, 7, none⟩ = some (.int .u16 o.shares) := ⟨h.c0, h.c1, h.c2, h.c3, h.c4, h.c5, h.c6, h.c7⟩
theorem Box.of {W : World} {g a z t : Nat} {o : Ord} (h : W.heap[g]? = some (.cells (ordL a z o).toArray t)) : Box W g a z o :=
  ⟨by rw [cell_of_row W g 0 _ t (0, 0) h]; rfl, by rw [cell_of_row W g 1 _ t (0, 0) h]; rfl, by rw [cell_of_row W g 2 _ t (0, 0) h]; rfl, by rw [cell_of_row W g 3 _ t (0, 0) h]; rfl, by rw [cell_of_row W g 4 _ t (0, 0) h]; rfl, by rw [cell_of_row W g 5 _ t (0, 0) h]; rfl, by rw [cell_of_row W g 6 _ t (0, 0) h]; rfl, by rw [cell_of_row W g 7 _ t (0, 0) h]; rfl⟩

set_option maxRecDepth 100000 in
set_option maxHeartbeats 1000000 in
theorem rest_mem (k : SK) (ok : k.ok) (x z free taken : Nat) (o : Ord) (fs ls : Nat → Nat → Nat) (bef aft : Nat → Nat) (od : Nat → Ord) (w : World) (h : IsBk w k free taken fs ls bef aft od) (hv : VV k.S k.L o.stock o.side o.price) (hfx : free = x) (hx0 : x ≠ 0) (hx : x < k.n) (ht : taken ≤ 100) (hz : aft x = z) (hl : ls (jx o.stock o.side) (o.price - 1) < k.n) (ff : Nat) (hff : (if fs (jx o.stock o.side) (o.price - 1) = 0 then x else fs (jx o.stock o.side) (o.price - 1)) = ff) :
    Calls Try.prog 119 #[.pointer (some ⟨k.bk, 0, none⟩), ordV 0 0 o] w fun e w' => e = .returned (.int .i64 x) ∧
      IsBk w' k z (taken + 1) (upd2 fs (jx o.stock o.side) (o.price - 1) ff) (upd2 ls (jx o.stock o.side) (o.price - 1) x)
        (updN (updN bef x 0) x (ls (jx o.stock o.side) (o.price - 1))) (updN (updN (updN aft x 0) x 0) (ls (jx o.stock o.side) (o.price - 1)) x) (updN od x o) ∧ Fr k.F w w' := by
  have hsz : ∀ j, k.F j → j < w.heap.size := h.lt
  have hbl := hsz k.bk (Or.inl rfl)
  have hpl := hsz k.po (Or.inr (Or.inl rfl))
  have H := Hid.mk h
  have HFF := Hid.mk hff
  clear hff
  have HV := Hid.mk hv
  have b0 : ((x : Int) == 0) = false := by simp; omega
  have hj := jx_lt o.side hv.1
  have hq : o.price - 1 < k.L := by have := hv.2.2; omega
  have okn := ok.n
  clear h hv
  unfold ordV ordL
  go_enter Try.func119, Try.ntmps119
  go_wp2_with fail
  generalize hOb : Obj.cells _ 129 = Ob
  have hB0 : IsBk (w.alloc Ob) k free taken fs ls bef aft od := H.out.keep (fun j hj => by rw [heap_alloc, if_neg (by have := hsz j hj; omega)])
  have hbx : Box (w.alloc Ob) w.heap.size 0 0 o := Box.of (t := 129) (by rw [heap_alloc, if_pos rfl, ← hOb]; rfl)
  have hF0 := Fr.alloc (fun _ => False) w Ob
  clear hOb
  generalize w.alloc Ob = W at hB0 hbx hF0 ⊢
  have HB0 := Hid.mk hB0
  have HBX := Hid.mk hbx
  have HF0 := Hid.mk hF0
  clear hB0 hbx hF0
  refine (full_any k.bk (k.kc free taken) W HB0.out.K).mono ?_
  rintro e w' ⟨rfl, hw⟩
  replace hw := hw.symm
  subst hw
  rw [show ((k.kc free taken).free : Int) = (x : Int) by rw [← hfx]; rfl]
  have q0 := HBX.out.c0
  have q1 := HBX.out.c1
  have q2 := HBX.out.c2
  have q3 := HBX.out.c3
  have q4 := HBX.out.c4
  have q5 := HBX.out.c5
  have q6 := HBX.out.c6
  have q7 := HBX.out.c7
  go_wp2_with fail
  go_region_held3 (fun w' => w'.cell? ⟨w.heap.size, 0, none⟩ = some (.int .i64 0) ∧ w'.cell? ⟨w.heap.size, 1, none⟩ = some (.int .i64 0) ∧ w'.cell? ⟨w.heap.size, 2, none⟩ = some (.int .u32 o.ref) ∧ w'.cell? ⟨w.heap.size, 3, none⟩ = some (.int .u32 o.token) ∧ w'.cell? ⟨w.heap.size, 4, none⟩ = some (.int .u8 o.side.toNat) ∧ w'.cell? ⟨w.heap.size, 5, none⟩ = some (.int .u8 o.stock) ∧ w'.cell? ⟨w.heap.size, 6, none⟩ = some (.int .u16 o.price) ∧ w'.cell? ⟨w.heap.size, 7, none⟩ = some (.int .u16 o.shares)) (first | exact m1 | go_keep)
    ((go_at_call 141; refine (take_any k.bk x z (k.kc free taken) o bef aft od W.drew ⟨HB0.out.K.blk⟩ ⟨HB0.out.P.blk⟩ hx hfx (show k.n ≤ 1000 by omega) (show taken ≤ 1000 by omega) hz ok.bp).mono ?_; rintro e w1 ⟨rfl, hp1, hk1, hf1⟩; have m1 := (Box.fr (w := W.drew) ⟨q0, q1, q2, q3, q4, q5, q6, q7⟩ hf1 (fun e => e.elim (fun e => by have e : w.heap.size = k.po := e; omega) (fun e => by omega))).all))
  have HF1 : Hid (Fr (fun j => j = k.po ∨ j = k.bk) W w1) := (Fr.drew _ W).trans hf1 (fun _ _ h => h)
  have HB1 : Hid (IsBk w1 k z (taken + 1) fs ls (updN bef x 0) (updN aft x 0) (updN od x o)) := HB0.out.turnPK ok hp1 hk1 HF1.out
  have hszW : w.heap.size < W.heap.size := World.block_lt_of_cell? W _ q0
  clear hp1 hk1 hf1 q0 q1 q2 q3 q4 q5 q6 q7
  have hsz1 : ∀ j, k.F j → j < w1.heap.size := HB1.out.lt
  obtain ⟨q0, q1, q2, q3, q4, q5, q6, q7⟩ := m1
  have HX1 : Hid (Box w1 w.heap.size 0 0 o) := ⟨q0, q1, q2, q3, q4, q5, q6, q7⟩
  have hgl : w.heap.size ≠ k.ln (jx o.stock o.side) := by
    have := hsz _ (Or.inr (Or.inr (Or.inr ⟨_, hj, rfl⟩)))
    omega
  go_wp2_with fail
  go_region_held3 (fun w' => w'.cell? ⟨w.heap.size, 0, none⟩ = some (.int .i64 0) ∧ w'.cell? ⟨w.heap.size, 1, none⟩ = some (.int .i64 0) ∧ w'.cell? ⟨w.heap.size, 2, none⟩ = some (.int .u32 o.ref) ∧ w'.cell? ⟨w.heap.size, 3, none⟩ = some (.int .u32 o.token) ∧ w'.cell? ⟨w.heap.size, 4, none⟩ = some (.int .u8 o.side.toNat) ∧ w'.cell? ⟨w.heap.size, 5, none⟩ = some (.int .u8 o.stock) ∧ w'.cell? ⟨w.heap.size, 6, none⟩ = some (.int .u16 o.price) ∧ w'.cell? ⟨w.heap.size, 7, none⟩ = some (.int .u16 o.shares)) (first | exact m3 | exact m2 | go_keep)
    (first
      | (go_at_call 143; refine (lineOf_any k ok 0 0 z (taken + 1) o fs ls _ _ _ w1.drew (HB1.out.keep (fun _ _ => rfl)) HV.out).mono ?_; rintro e w2 ⟨rfl, hf2⟩; have m2 := (Box.fr (w := w1.drew) ⟨q0, q1, q2, q3, q4, q5, q6, q7⟩ hf2.out (fun e => e)).all; have hB2 : Hid (IsBk w2 k z (taken + 1) fs ls (updN bef x 0) (updN aft x 0) (updN od x o)) := HB1.out.keep (fun j hj => hf2.out.block j (hsz1 j hj) (fun e => e)))
      | (go_at_call 142; refine (join_any k.bk (k.ln (jx o.stock o.side)) k.L (o.price - 1) x (fs (jx o.stock o.side) (o.price - 1)) (ls (jx o.stock o.side) (o.price - 1)) (k.kc z (taken + 1)) _ _ (fs (jx o.stock o.side)) (ls (jx o.stock o.side)) _ w2 hB2.out.K hB2.out.P (hB2.out.Ls _ hj) hq hx hl rfl rfl (show k.n ≤ 1000 by omega) ok.bp (ok.lp _ hj) (Ne.symm (ok.lb _ hj))).mono ?_; rintro e w3 ⟨rfl, hp3, hl3, hf3⟩; have m3 := ((Box.fr (w := w1.drew) ⟨q0, q1, q2, q3, q4, q5, q6, q7⟩ hf2.out (fun e => e)).fr hf3 (fun e => e.elim (fun e => by have e : w.heap.size = k.po := e; omega) hgl)).all))
  have HB3 : Hid (IsBk w3 k z (taken + 1) (upd2 fs (jx o.stock o.side) (o.price - 1) ff) (upd2 ls (jx o.stock o.side) (o.price - 1) x) (updN (updN bef x 0) x (ls (jx o.stock o.side) (o.price - 1))) (updN (updN (updN aft x 0) x 0) (ls (jx o.stock o.side) (o.price - 1)) x) (updN od x o)) := by
    rw [HFF.out] at hl3
    exact hB2.out.turnL ok hp3 _ hj hl3 hf3
  have HF3 : Hid (Fr k.F w w3) := (HF0.out.mono (fun _ _ h => h.elim)).trans ((HF1.out.mono (fun _ _ h => h.elim (fun h => Or.inr (Or.inl h)) (fun h => Or.inl h))).trans (((Fr.drew (fun _ => False) w1).mono (fun _ _ h => h.elim)).trans ((hf2.out.mono (fun _ _ h => h.elim)).trans (hf3.mono (G := k.F) (fun _ _ h => h.elim (fun h => Or.inr (Or.inl h)) (fun h => Or.inr (Or.inr (Or.inr ⟨_, hj, h⟩))))) (fun _ _ h => h)) (fun _ _ h => h)) (fun _ _ h => h)) (fun _ _ h => h)
  clear hp3 hl3 hf3
  go_wp2_with fail
  go_ret
  exact ⟨rfl, HB3.out, HF3.out⟩

theorem rest_any (k : SK) (w : World) (taken x : Nat) (o : Ord) (od : Nat → Ord) (ps : Nat → UInt8 → Nat → List Nat) (fl : List Nat) (h : Bks w k taken od ps (x :: fl)) (hv : VV k.S k.L o.stock o.side o.price) (ht : taken ≤ 100) :
    Calls Try.prog 119 #[.pointer (some ⟨k.bk, 0, none⟩), ordV 0 0 o] w fun e w' => e = .returned (.int .i64 x) ∧
      Bks w' k (taken + 1) (updN od x o) (updQ ps o.stock o.side o.price (ps o.stock o.side o.price ++ [x])) fl ∧ Fr k.F w w' := by
  obtain ⟨free, fs, ls, bef, aft, h1, h2⟩ := h.ex
  obtain ⟨t1, t2, t3, t4, t5⟩ := h2.take
  have hl : ls (jx o.stock o.side) (o.price - 1) < k.n := by
    rw [(h2.line _ _ _ hv).last]
    rcases getLastD_mem (ps o.stock o.side o.price) 0 with e | e
    · rw [e]; have := h.ok.n; omega
    · exact h2.lt _ _ _ hv _ e
  refine (rest_mem k h.ok x (aft x) free taken o fs ls bef aft od w h1 hv t3 t4 t5 ht rfl hl _ rfl).mono ?_
  rintro e w' ⟨rfl, hb, hf⟩
  refine ⟨rfl, ⟨h.ok, _, _, _, _, _, hb, ?_⟩, hf⟩
  exact (t1.setx t2 0 0).join hv t4 t5 t2

end Go.Proofs.Ytphkchjejbffeaa

/- Shares go away from an order that rests. -/
namespace Go.Proofs.Ytphkchjejbffeaa
open Go.RowKit
attribute [local go_sem ↓] Go.wp_at_zero Go.wp_at_succ

theorem updN_twice {α : Type} (g : Nat → α) (i : Nat) (a b : α) : updN (updN g i a) i b = updN g i b := by
  funext j
  unfold updN
  by_cases e : j = i <;> simp [e]

theorem IsP.setShares {w : World} {po n : Nat} {bef aft : Nat → Nat} {od : Nat → Ord} (h : IsP w po n bef aft od) (i v : Nat) : IsP (w.setCell ⟨po, i * 8 + 7, none⟩ (.int .u16 v)) po n bef aft (updN od i { od i with shares := v }) := by
  have e : rowOf n 8 (fun a b => if a = i ∧ b = 7 then .int .u16 v else oCell bef aft od a b) = rowOf n 8 (oCell bef aft (updN od i { od i with shares := v })) := by
    unfold rowOf
    congr 1
    funext x
    have hx : x.val % 8 < 8 := by omega
    generalize x.val % 8 = j at hx
    generalize x.val / 8 = y
    by_cases e : y = i
    · subst e
      match j, hx with
      | 0, _ => simp [oCell]
      | 1, _ => simp [oCell]
      | 2, _ => simp [oCell, updN]
      | 3, _ => simp [oCell, updN]
      | 4, _ => simp [oCell, updN]
      | 5, _ => simp [oCell, updN]
      | 6, _ => simp [oCell, updN]
      | 7, _ => simp [oCell, updN]
    · simp only [e, false_and, if_false]
      unfold oCell
      rw [updN_ne _ _ _ _ e]
  refine ⟨?_⟩
  rw [heap_setCell_same w po (i * 8 + 7) _ _ _ h.blk, rowOf_set n 8 _ i 7 (by omega), e]

set_option maxRecDepth 100000 in
set_option maxHeartbeats 1000000 in
theorem reduce_less (k : SK) (ok : k.ok) (x m v free taken : Nat) (fs ls : Nat → Nat → Nat) (bef aft : Nat → Nat) (od : Nat → Ord) (w : World) (h : IsBk w k free taken fs ls bef aft od) (hx : x < k.n) (hm : (od x).shares = m + v) (hv : v ≠ 0) (hlt : m + v < 65536) :
    Calls Try.prog 130 #[.pointer (some ⟨k.bk, 0, none⟩), .int .i64 x, .int .u16 m] w fun e w' => e = .returned (.int .u16 v) ∧
      IsBk w' k free taken fs ls bef aft (updN od x { od x with shares := v }) ∧ Fr k.F w w' := by
  have gK : w.cell? ⟨k.bk, 0, none⟩ = some (.slice (some ⟨k.po, 0, none⟩) k.n k.n) := h.K.cell 0
  have g7 : w.cell? ⟨k.po, x * 8 + 7, none⟩ = some (.int .u16 ((m + v : Nat) : Int)) := by rw [← hm]; exact h.P.cell x 7 hx (by omega)
  have f7 := h.P.frozen (x * 8 + 7)
  have i1 : (x : Int) < (k.n : Int) := by omega
  have HP : Hid (IsP (w.setCell ⟨k.po, x * 8 + 7, none⟩ (.int .u16 v)) k.po k.n bef aft (updN od x { od x with shares := v })) := h.P.setShares x v
  have HF : Hid (Fr (fun j => j = k.po) w (w.setCell ⟨k.po, x * 8 + 7, none⟩ (.int .u16 v))) := Fr.setCell w ⟨k.po, x * 8 + 7, none⟩ _
  have H := Hid.mk h
  have b0 : ((v : Int) == 0) = false := by simp; omega
  obtain ⟨y, hy⟩ : ∃ y : Int, y = ((m + v : Nat) : Int) := ⟨_, rfl⟩
  rw [← hy] at g7
  have hym : y - (m : Int) = (v : Int) := by omega
  have w1 : IntKind.u16.wrap (v : Int) = (v : Int) := by rw [IntKind.wrap_u16]; omega
  have okn := ok.n
  clear h hy hm
  go_enter Try.func130, Try.ntmps130
  go_wp2_with fail
  go_ret
  exact ⟨rfl, H.out.turnP ok HP.out HF.out, HF.out.mono (fun _ _ h => Or.inr (Or.inl h))⟩

end Go.Proofs.Ytphkchjejbffeaa

/- An order that rests is gone. -/
namespace Go.Proofs.Ytphkchjejbffeaa
open Go.RowKit
attribute [local go_sem ↓] Go.wp_at_zero Go.wp_at_succ

theorem IsP.row {w : World} {po n : Nat} {bef aft : Nat → Nat} {od : Nat → Ord} (h : IsP w po n bef aft od) (x : Nat) (hx : x < n) : w.cell? ⟨po, x * 8, none⟩ = some (.int .i64 (bef x)) ∧ w.cell? ⟨po, x * 8 + 1, none⟩ = some (.int .i64 (aft x)) ∧ w.cell? ⟨po, x * 8 + 2, none⟩ = some (.int .u32 (od x).ref) ∧ w.cell? ⟨po, x * 8 + 3, none⟩ = some (.int .u32 (od x).token) ∧ w.cell? ⟨po, x * 8 + 4, none⟩ = some (.int .u8 (od x).side.toNat) ∧ w.cell? ⟨po, x * 8 + 5, none⟩ = some (.int .u8 (od x).stock) ∧ w.cell? ⟨po, x * 8 + 6, none⟩ = some (.int .u16 (od x).price) ∧ w.cell? ⟨po, x * 8 + 7, none⟩ = some (.int .u16 (od x).shares) :=
  ⟨h.cell x 0 hx (by omega), h.cell x 1 hx (by omega), h.cell x 2 hx (by omega), h.cell x 3 hx (by omega), h.cell x 4 hx (by omega), h.cell x 5 hx (by omega), h.cell x 6 hx (by omega), h.cell x 7 hx (by omega)⟩

set_option maxRecDepth 100000 in
set_option maxHeartbeats 1000000 in
theorem reduce_gone (k : SK) (ok : k.ok) (x m a z free taken tk j : Nat) (r : Ord) (fs ls : Nat → Nat → Nat) (bef aft : Nat → Nat) (od : Nat → Ord) (w : World) (h : IsBk w k free taken fs ls bef aft od) (hx : x < k.n) (hm : (od x).shares = m) (_hlt : m < 65536) (hr : { od x with shares := 0 } = r)
    (hv : VV k.S k.L r.stock r.side r.price) (hj : jx r.stock r.side = j) (ha : bef x = a) (hz : aft x = z) (ha1 : a < k.n) (hz1 : z < k.n) (hax : a ≠ x) (hzx : z ≠ x) (ht : taken ≤ 100) (ht1 : tk + 1 = taken)
    (ff ll : Nat) (hff : (if fs j (r.price - 1) = x then z else fs j (r.price - 1)) = ff) (hll : (if ls j (r.price - 1) = x then a else ls j (r.price - 1)) = ll) :
    Calls Try.prog 130 #[.pointer (some ⟨k.bk, 0, none⟩), .int .i64 x, .int .u16 m] w fun e w' => e = .returned (.int .u16 0) ∧
      IsBk w' k x tk (upd2 fs j (r.price - 1) ff) (upd2 ls j (r.price - 1) ll) (updN (updN bef z a) x 0) (updN (updN (updN aft a z) x 0) x free) (updN od x noOrd) ∧ Fr k.F w w' := by
  have gK : w.cell? ⟨k.bk, 0, none⟩ = some (.slice (some ⟨k.po, 0, none⟩) k.n k.n) := h.K.cell 0
  have g7 : w.cell? ⟨k.po, x * 8 + 7, none⟩ = some (.int .u16 m) := by rw [← hm]; exact h.P.cell x 7 hx (by omega)
  have f7 := h.P.frozen (x * 8 + 7)
  have i1 : (x : Int) < (k.n : Int) := by omega
  have HP : Hid (IsP (w.setCell ⟨k.po, x * 8 + 7, none⟩ (.int .u16 0)) k.po k.n bef aft (updN od x r)) := by rw [← hr]; exact h.P.setShares x 0
  have HF : Hid (Fr (fun j => j = k.po) w (w.setCell ⟨k.po, x * 8 + 7, none⟩ (.int .u16 0))) := Fr.setCell w ⟨k.po, x * 8 + 7, none⟩ _
  have HB1 : Hid (IsBk (w.setCell ⟨k.po, x * 8 + 7, none⟩ (.int .u16 0)) k free taken fs ls bef aft (updN od x r)) := h.turnP ok HP.out HF.out
  have H := Hid.mk h
  have okn := ok.n
  have HV := Hid.mk hv
  have hj2 : j < k.S * 2 := by rw [← hj]; exact jx_lt _ hv.1
  have hq : r.price - 1 < k.L := by have := hv.2.2; omega
  have HFL := Hid.mk (And.intro hff hll)
  have HAZ := Hid.mk (And.intro ha hz)
  have HJ := Hid.mk hj
  have w0 : IntKind.u16.wrap ((m : Int) - (m : Int)) = 0 := by rw [IntKind.wrap_u16]; omega
  clear h hm hr hv hff hll ha hz hj
  go_enter Try.func130, Try.ntmps130
  go_wp2_with fail
  clear gK g7 f7
  generalize w.setCell ⟨k.po, x * 8 + 7, none⟩ (.int .u16 0) = w1 at HP HF HB1 ⊢
  obtain ⟨q0, q1, q2, q3, q4, q5, q6, q7⟩ := HP.out.row x hx
  rw [updN_same] at q2 q3 q4 q5 q6 q7
  rw [HAZ.out.1] at q0
  rw [HAZ.out.2] at q1
  have hsz1 : ∀ j, k.F j → j < w1.heap.size := HB1.out.lt
  go_region_held3 (fun w' => w'.cell? ⟨k.po, x * 8, none⟩ = some (.int .i64 a) ∧ w'.cell? ⟨k.po, x * 8 + 1, none⟩ = some (.int .i64 z) ∧ w'.cell? ⟨k.po, x * 8 + 2, none⟩ = some (.int .u32 r.ref) ∧ w'.cell? ⟨k.po, x * 8 + 3, none⟩ = some (.int .u32 r.token) ∧ w'.cell? ⟨k.po, x * 8 + 4, none⟩ = some (.int .u8 r.side.toNat) ∧ w'.cell? ⟨k.po, x * 8 + 5, none⟩ = some (.int .u8 r.stock) ∧ w'.cell? ⟨k.po, x * 8 + 6, none⟩ = some (.int .u16 r.price) ∧ w'.cell? ⟨k.po, x * 8 + 7, none⟩ = some (.int .u16 r.shares)) (first | exact m3 | exact m2 | go_keep)
    (first
      | (go_at_call 143; refine (lineOf_any k ok a z free taken r fs ls _ _ _ w1.drew (HB1.out.keep (fun _ _ => rfl)) HV.out).mono ?_; rintro e w2 ⟨rfl, hf2⟩; have hB2 : Hid (IsBk w2 k free taken fs ls bef aft (updN od x r)) := HB1.out.keep (fun j hj => hf2.out.block j (hsz1 j hj) (fun e => e)); have m2 := hB2.out.P.row x hx; rw [updN_same, HAZ.out.1, HAZ.out.2] at m2)
      | (go_at_call 146; rw [HJ.out]; refine (leave_any k.bk (k.ln j) k.L (r.price - 1) x (fs j (r.price - 1)) (ls j (r.price - 1)) a z (k.kc free taken) _ _ (fs j) (ls j) _ w2 hB2.out.K hB2.out.P (hB2.out.Ls _ hj2) hq hx rfl rfl (show k.n ≤ 1000 by omega) HAZ.out.1 HAZ.out.2 ha1 hz1 hax hzx ok.bp (ok.lp _ hj2) (Ne.symm (ok.lb _ hj2))).mono ?_; rintro e w3 ⟨rfl, hp3, hl3, hf3⟩; have m3 := IsP.row hp3 x hx; rw [updN_same, updN_ne _ _ _ _ (Ne.symm hzx), updN_ne _ _ _ _ (Ne.symm hax), HAZ.out.1, HAZ.out.2] at m3))
  have HB3 : Hid (IsBk w3 k free taken (upd2 fs j (r.price - 1) ff) (upd2 ls j (r.price - 1) ll) (updN bef z a) (updN aft a z) (updN od x r)) := by
    rw [HFL.out.1, HFL.out.2] at hl3
    exact hB2.out.turnL ok hp3 _ hj2 hl3 hf3
  have HF3 : Hid (Fr k.F w w3) := (HF.out.mono (G := k.F) (fun _ _ h => Or.inr (Or.inl h))).trans (((Fr.drew (fun _ => False) w1).mono (fun _ _ h => h.elim)).trans ((hf2.out.mono (fun _ _ h => h.elim)).trans (hf3.mono (G := k.F) (fun _ _ h => h.elim (fun h => Or.inr (Or.inl h)) (fun h => Or.inr (Or.inr (Or.inr ⟨_, hj2, h⟩))))) (fun _ _ h => h)) (fun _ _ h => h)) (fun _ _ h => h)
  clear hp3 hl3 hf3 q0 q1 q2 q3 q4 q5 q6 q7 m2 m3
  go_wp2_with ((go_at_call 147; refine (giveBack_any k.bk x free tk (k.kc free taken) _ _ _ w3 HB3.out.K HB3.out.P hx (show k.n ≤ 1000 by omega) (show taken ≤ 1000 by omega) ht1 rfl ok.bp).mono ?_; rintro e w4 ⟨rfl, hp4, hk4, hf4⟩))
  go_ret
  rw [updN_twice od] at hp4
  exact ⟨rfl, HB3.out.turnPK ok hp4 hk4 hf4, HF3.out.trans hf4 (fun _ _ h => h.elim (fun h => Or.inr (Or.inl h)) (fun h => Or.inl h))⟩

theorem reduce_red (k : SK) (w : World) (taken x m v : Nat) (od : Nat → Ord) (ps : Nat → UInt8 → Nat → List Nat) (fl : List Nat) (h : Bks w k taken od ps fl) (hx : x < k.n) (hm : (od x).shares = m + v) (hv : v ≠ 0) (hlt : m + v < 65536) :
    Calls Try.prog 130 #[.pointer (some ⟨k.bk, 0, none⟩), .int .i64 x, .int .u16 m] w fun e w' => e = .returned (.int .u16 v) ∧ Bks w' k taken (updN od x { od x with shares := v }) ps fl ∧ Fr k.F w w' := by
  obtain ⟨free, fs, ls, bef, aft, h1, h2⟩ := h.ex
  refine (reduce_less k h.ok x m v free taken fs ls bef aft od w h1 hx hm hv hlt).mono ?_
  rintro e w' ⟨rfl, hb, hf⟩
  exact ⟨rfl, ⟨h.ok, _, _, _, _, _, hb, h2⟩, hf⟩

theorem reduce_out (k : SK) (w : World) (taken tk x m : Nat) (od : Nat → Ord) (ps : Nat → UInt8 → Nat → List Nat) (fl a b : List Nat) (h : Bks w k taken od ps fl) (hm : (od x).shares = m) (hlt : m < 65536) (hv : VV k.S k.L (od x).stock (od x).side (od x).price) (hab : ps (od x).stock (od x).side (od x).price = a ++ x :: b) (ht : taken ≤ 100) (ht1 : tk + 1 = taken) :
    Calls Try.prog 130 #[.pointer (some ⟨k.bk, 0, none⟩), .int .i64 x, .int .u16 m] w fun e w' => e = .returned (.int .u16 0) ∧ Bks w' k tk (updN od x noOrd) (updQ ps (od x).stock (od x).side (od x).price (a ++ b)) (x :: fl) ∧ Fr k.F w w' := by
  obtain ⟨free, fs, ls, bef, aft, h1, h2⟩ := h.ex
  obtain ⟨l1, l2, l3, l4, l5, l6⟩ := h2.leave hv hab
  have hx : x < k.n := h2.lt _ _ _ hv x (by rw [hab]; simp)
  have hx0 : x ≠ 0 := h2.ne0 hv (by rw [hab]; simp)
  have okn := h.ok.n
  have ha1 : bef x < k.n := by
    rcases l3 with e | e
    · omega
    · exact h2.lt _ _ _ hv _ (by rw [hab]; simp [e])
  have hz1 : aft x < k.n := by
    rcases l4 with e | e
    · omega
    · exact h2.lt _ _ _ hv _ (by rw [hab]; simp [e])
  refine (reduce_gone k h.ok x m (bef x) (aft x) free taken tk _ _ fs ls bef aft od w h1 hx hm hlt rfl hv rfl rfl rfl ha1 hz1 l5 l6 ht ht1 _ _ rfl rfl).mono ?_
  rintro e w' ⟨rfl, hb, hf⟩
  rw [updN_twice] at hb
  exact ⟨rfl, ⟨h.ok, _, _, _, _, _, hb, (l1.setx l2 0 free).give l2 hx0 hx (updN_same _ _ _)⟩, hf⟩

end Go.Proofs.Ytphkchjejbffeaa

/- An order stands in another one's place. -/
namespace Go.Proofs.Ytphkchjejbffeaa
open Go.RowKit
attribute [local go_sem ↓] Go.wp_at_zero Go.wp_at_succ

theorem updN_self {α : Type} (g : Nat → α) (i : Nat) : updN g i (g i) = g := by
  funext j
  unfold updN
  by_cases e : j = i <;> simp [e]

theorem keepsPlace_yes (v0 v1 v2 v3 v4 v5 u0 u1 u2 u3 u4 u5 : Value) (p s p' s' : Nat) (w : World) (hp : p' = p) (hs : s' ≤ s) :
    Calls Try.prog 96 #[.agg #[v0, v1, v2, v3, v4, v5, .int .u16 p, .int .u16 s], .agg #[u0, u1, u2, u3, u4, u5, .int .u16 p', .int .u16 s']] w fun e w' => e = .returned (.bool true) ∧ Below w.heap.size w w' := by
  subst hp
  have i2 : (s' : Int) ≤ (s : Int) := by omega
  go_enter Try.func96, Try.ntmps96
  go_wp2_with fail
  go_ret
  exact ⟨rfl, ((Below.refl _ _).alloc (Nat.le_refl _) _).alloc (by rw [size_alloc]; omega) _⟩

set_option maxRecDepth 100000 in
set_option maxHeartbeats 1000000 in
theorem replace_in (k : SK) (ok : k.ok) (x free taken : Nat) (o r : Ord) (fs ls : Nat → Nat → Nat) (bef aft : Nat → Nat) (od : Nat → Ord) (w : World) (h : IsBk w k free taken fs ls bef aft od) (hx : x < k.n) (hr : od x = r) (hp : o.price = r.price) (hs : o.shares ≤ r.shares) :
    Calls Try.prog 128 #[.pointer (some ⟨k.bk, 0, none⟩), .int .i64 x, ordV 0 0 o] w fun e w' => e = .returned (.tuple #[]) ∧
      IsBk w' k free taken fs ls bef aft (updN od x o) ∧ Fr k.F w w' := by
  have gK : w.cell? ⟨k.bk, 0, none⟩ = some (.slice (some ⟨k.po, 0, none⟩) k.n k.n) := h.K.cell 0
  obtain ⟨q0, q1, q2, q3, q4, q5, q6, q7⟩ := h.P.row x hx
  rw [hr] at q2 q3 q4 q5 q6 q7
  generalize hba : bef x = a at *
  generalize hza : aft x = z at *
  have fp : ∀ i, w.frozen? ⟨k.po, i, none⟩ = false := h.P.frozen
  have fp0 := fp (x * 8)
  have fp1 := fp (x * 8 + 1)
  have fp2 := fp (x * 8 + 2)
  have fp3 := fp (x * 8 + 3)
  have fp4 := fp (x * 8 + 4)
  have fp5 := fp (x * 8 + 5)
  have fp6 := fp (x * 8 + 6)
  have fp7 := fp (x * 8 + 7)
  clear fp
  have i1 : (x : Int) < (k.n : Int) := by omega
  have i2 : (o.shares : Int) ≤ (r.shares : Int) := by omega
  have hsz : ∀ j, k.F j → j < w.heap.size := h.lt
  have hbl := hsz k.bk (Or.inl rfl)
  have hpl := hsz k.po (Or.inr (Or.inl rfl))
  have H := Hid.mk h
  have HBA := Hid.mk (And.intro hba hza)
  have HR := Hid.mk hr
  have HP := Hid.mk hp
  have HSH := Hid.mk hs
  have okn := ok.n
  clear h hba hza hr hp hs
  unfold ordV ordL
  go_enter Try.func128, Try.ntmps128
  go_wp2_with fail
  generalize hOb : Obj.cells _ 129 = Ob
  have hbx : Box (w.alloc Ob) w.heap.size 0 0 o := Box.of (t := 129) (by rw [heap_alloc, if_pos rfl, ← hOb]; rfl)
  have hfb : ∀ i, (w.alloc Ob).frozen? ⟨w.heap.size, i, none⟩ = false := fun i => by unfold World.frozen?; rw [heap_alloc, if_pos rfl, ← hOb]; simp
  have hB0 : IsBk (w.alloc Ob) k free taken fs ls bef aft od := H.out.keep (fun j hj => by rw [heap_alloc, if_neg (by have := hsz j hj; omega)])
  have hF0 := Fr.alloc (fun _ => False) w Ob
  clear gK q0 q1 q2 q3 q4 q5 q6 q7 fp0 fp1 fp2 fp3 fp4 fp5 fp6 fp7 hOb
  generalize w.alloc Ob = W at hB0 hbx hF0 hfb ⊢
  obtain ⟨q0, q1, q2, q3, q4, q5, q6, q7⟩ := hB0.P.row x hx
  rw [HR.out] at q2 q3 q4 q5 q6 q7
  rw [HBA.out.1] at q0
  rw [HBA.out.2] at q1
  obtain ⟨c0, c1, c2, c3, c4, c5, c6, c7⟩ := hbx
  have HB0 := Hid.mk hB0
  have HF0 := Hid.mk hF0
  have HFB := Hid.mk hfb
  clear hB0 hF0 hfb
  have hplW : k.po < W.heap.size := HB0.out.lt k.po (Or.inr (Or.inl rfl))
  have hszW : w.heap.size < W.heap.size := World.block_lt_of_cell? W _ c0
  go_region_held3 (fun w' => w'.cell? ⟨k.po, x * 8, none⟩ = some (.int .i64 a) ∧ w'.cell? ⟨k.po, x * 8 + 1, none⟩ = some (.int .i64 z) ∧ w'.cell? ⟨k.po, x * 8 + 2, none⟩ = some (.int .u32 r.ref) ∧ w'.cell? ⟨k.po, x * 8 + 3, none⟩ = some (.int .u32 r.token) ∧ w'.cell? ⟨k.po, x * 8 + 4, none⟩ = some (.int .u8 r.side.toNat) ∧ w'.cell? ⟨k.po, x * 8 + 5, none⟩ = some (.int .u8 r.stock) ∧ w'.cell? ⟨k.po, x * 8 + 6, none⟩ = some (.int .u16 r.price) ∧ w'.cell? ⟨k.po, x * 8 + 7, none⟩ = some (.int .u16 r.shares) ∧ w'.cell? ⟨w.heap.size, 0, none⟩ = some (.int .i64 0) ∧ w'.cell? ⟨w.heap.size, 1, none⟩ = some (.int .i64 0) ∧ w'.cell? ⟨w.heap.size, 2, none⟩ = some (.int .u32 o.ref) ∧ w'.cell? ⟨w.heap.size, 3, none⟩ = some (.int .u32 o.token) ∧ w'.cell? ⟨w.heap.size, 4, none⟩ = some (.int .u8 o.side.toNat) ∧ w'.cell? ⟨w.heap.size, 5, none⟩ = some (.int .u8 o.stock) ∧ w'.cell? ⟨w.heap.size, 6, none⟩ = some (.int .u16 o.price) ∧ w'.cell? ⟨w.heap.size, 7, none⟩ = some (.int .u16 o.shares))
    (first | (with_reducible exact m1) | go_keep)
    ((go_at_call 96; refine (keepsPlace_yes _ _ _ _ _ _ _ _ _ _ _ _ r.price r.shares o.price o.shares W.drew HP.out HSH.out).mono ?_; rintro e w1 ⟨rfl, hb1⟩; have m1 : w1.cell? ⟨k.po, x * 8, none⟩ = some (.int .i64 a) ∧ w1.cell? ⟨k.po, x * 8 + 1, none⟩ = some (.int .i64 z) ∧ w1.cell? ⟨k.po, x * 8 + 2, none⟩ = some (.int .u32 r.ref) ∧ w1.cell? ⟨k.po, x * 8 + 3, none⟩ = some (.int .u32 r.token) ∧ w1.cell? ⟨k.po, x * 8 + 4, none⟩ = some (.int .u8 r.side.toNat) ∧ w1.cell? ⟨k.po, x * 8 + 5, none⟩ = some (.int .u8 r.stock) ∧ w1.cell? ⟨k.po, x * 8 + 6, none⟩ = some (.int .u16 r.price) ∧ w1.cell? ⟨k.po, x * 8 + 7, none⟩ = some (.int .u16 r.shares) ∧ w1.cell? ⟨w.heap.size, 0, none⟩ = some (.int .i64 0) ∧ w1.cell? ⟨w.heap.size, 1, none⟩ = some (.int .i64 0) ∧ w1.cell? ⟨w.heap.size, 2, none⟩ = some (.int .u32 o.ref) ∧ w1.cell? ⟨w.heap.size, 3, none⟩ = some (.int .u32 o.token) ∧ w1.cell? ⟨w.heap.size, 4, none⟩ = some (.int .u8 o.side.toNat) ∧ w1.cell? ⟨w.heap.size, 5, none⟩ = some (.int .u8 o.stock) ∧ w1.cell? ⟨w.heap.size, 6, none⟩ = some (.int .u16 o.price) ∧ w1.cell? ⟨w.heap.size, 7, none⟩ = some (.int .u16 o.shares) := ⟨(hb1.cell (p := ⟨k.po, x * 8, none⟩) hplW).trans q0, (hb1.cell (p := ⟨k.po, x * 8 + 1, none⟩) hplW).trans q1, (hb1.cell (p := ⟨k.po, x * 8 + 2, none⟩) hplW).trans q2, (hb1.cell (p := ⟨k.po, x * 8 + 3, none⟩) hplW).trans q3, (hb1.cell (p := ⟨k.po, x * 8 + 4, none⟩) hplW).trans q4, (hb1.cell (p := ⟨k.po, x * 8 + 5, none⟩) hplW).trans q5, (hb1.cell (p := ⟨k.po, x * 8 + 6, none⟩) hplW).trans q6, (hb1.cell (p := ⟨k.po, x * 8 + 7, none⟩) hplW).trans q7, (hb1.cell (p := ⟨w.heap.size, 0, none⟩) hszW).trans c0, (hb1.cell (p := ⟨w.heap.size, 1, none⟩) hszW).trans c1, (hb1.cell (p := ⟨w.heap.size, 2, none⟩) hszW).trans c2, (hb1.cell (p := ⟨w.heap.size, 3, none⟩) hszW).trans c3, (hb1.cell (p := ⟨w.heap.size, 4, none⟩) hszW).trans c4, (hb1.cell (p := ⟨w.heap.size, 5, none⟩) hszW).trans c5, (hb1.cell (p := ⟨w.heap.size, 6, none⟩) hszW).trans c6, (hb1.cell (p := ⟨w.heap.size, 7, none⟩) hszW).trans c7⟩))
  have hF1 : Fr (fun j => j = w.heap.size) W w1 := (Fr.drew _ W).trans (Fr.of_below hb1 _) (fun _ _ h => h)
  have hBw1 : IsBk w1 k free taken fs ls bef aft od := HB0.out.keep (fun j hj => hb1.block j (HB0.out.lt j hj))
  have fbw : ∀ i, w1.frozen? ⟨w.heap.size, i, none⟩ = false := fun i => by
    have h := HFB.out i
    unfold World.frozen? at h ⊢
    rw [hb1.block w.heap.size hszW]
    exact h
  have fb0 := fbw 0
  have fb1 := fbw 1
  have fp := hBw1.P.frozen
  have fp0 := fp (x * 8)
  have fp1 := fp (x * 8 + 1)
  have fp2 := fp (x * 8 + 2)
  have fp3 := fp (x * 8 + 3)
  have fp4 := fp (x * 8 + 4)
  have fp5 := fp (x * 8 + 5)
  have fp6 := fp (x * 8 + 6)
  have fp7 := fp (x * 8 + 7)
  have hbw := hb1.size
  have hplw : k.po < w1.heap.size := Nat.lt_of_lt_of_le hplW hbw
  have hszw : w.heap.size < w1.heap.size := Nat.lt_of_lt_of_le hszW hbw
  clear fp q0 q1 q2 q3 q4 q5 q6 q7 c0 c1 c2 c3 c4 c5 c6 c7 fbw
  obtain ⟨q0, q1, q2, q3, q4, q5, q6, q7, c0, c1, c2, c3, c4, c5, c6, c7⟩ := m1
  have HF1 := Hid.mk hF1
  have HBW1 := Hid.mk hBw1
  clear hF1 hBw1 hb1
  go_wp2_with fail
  refine bodyPost_ret (results_none rfl _ _ _) rfl ?_
  have hFa : Fr (fun j => j = w.heap.size) W ((w1.setCell ⟨w.heap.size, 0, none⟩ (.int .i64 a)).setCell ⟨w.heap.size, 1, none⟩ (.int .i64 z)) :=
    HF1.out.trans ((Fr.setCell _ ⟨w.heap.size, 0, none⟩ _).trans (Fr.setCell _ ⟨w.heap.size, 1, none⟩ _) (fun _ _ h => h)) (fun _ _ h => h)
  generalize (w1.setCell ⟨w.heap.size, 0, none⟩ (.int .i64 a)).setCell ⟨w.heap.size, 1, none⟩ (.int .i64 z) = Wa at hFa ⊢
  have hBa : IsBk Wa k free taken fs ls bef aft od := HB0.out.keep (fun j hj => hFa.block j (HB0.out.lt j hj) (fun e => by have := hsz j hj; omega))
  have hp2 : IsP ((((((((Wa.setCell ⟨k.po, x * 8, none⟩ (.int .i64 a)).setCell ⟨k.po, x * 8 + 1, none⟩ (.int .i64 z)).setCell ⟨k.po, x * 8 + 2, none⟩ (.int .u32 o.ref)).setCell ⟨k.po, x * 8 + 3, none⟩ (.int .u32 o.token)).setCell ⟨k.po, x * 8 + 4, none⟩ (.int .u8 o.side.toNat)).setCell ⟨k.po, x * 8 + 5, none⟩ (.int .u8 o.stock)).setCell ⟨k.po, x * 8 + 6, none⟩ (.int .u16 o.price)).setCell ⟨k.po, x * 8 + 7, none⟩ (.int .u16 o.shares)) k.po k.n bef aft (updN od x o) := by
    have := hBa.P.setOrd x a z o
    rw [set8, ← HBA.out.1, ← HBA.out.2, updN_self, updN_self, HBA.out.1, HBA.out.2] at this
    exact this
  have hf2 : Fr (fun j => j = k.po) Wa ((((((((Wa.setCell ⟨k.po, x * 8, none⟩ (.int .i64 a)).setCell ⟨k.po, x * 8 + 1, none⟩ (.int .i64 z)).setCell ⟨k.po, x * 8 + 2, none⟩ (.int .u32 o.ref)).setCell ⟨k.po, x * 8 + 3, none⟩ (.int .u32 o.token)).setCell ⟨k.po, x * 8 + 4, none⟩ (.int .u8 o.side.toNat)).setCell ⟨k.po, x * 8 + 5, none⟩ (.int .u8 o.stock)).setCell ⟨k.po, x * 8 + 6, none⟩ (.int .u16 o.price)).setCell ⟨k.po, x * 8 + 7, none⟩ (.int .u16 o.shares)) := by
    have := fr_setCells k.po (ordL a z o) (x * 8) Wa
    rw [set8] at this
    exact this
  refine ⟨rfl, hBa.turnP ok hp2 hf2, ?_⟩
  exact (HF0.out.mono (fun _ _ h => h.elim)).trans ((hFa.mono (G := fun j => j = w.heap.size ∨ k.F j) (fun _ _ h => Or.inl h)).trans hf2 (fun _ _ h => Or.inr (Or.inr (Or.inl h)))) (fun i hi h => h.elim (fun h => by omega) (fun h => h))

end Go.Proofs.Ytphkchjejbffeaa

/- An order goes to the end of another line. -/
namespace Go.Proofs.Ytphkchjejbffeaa
open Go.RowKit
attribute [local go_sem ↓] Go.wp_at_zero Go.wp_at_succ

theorem keepsPlace_no (v0 v1 v2 v3 v4 v5 u0 u1 u2 u3 u4 u5 : Value) (p s p' s' : Nat) (w : World) (hc : p' ≠ p ∨ (p' = p ∧ s < s')) :
    Calls Try.prog 96 #[.agg #[v0, v1, v2, v3, v4, v5, .int .u16 p, .int .u16 s], .agg #[u0, u1, u2, u3, u4, u5, .int .u16 p', .int .u16 s']] w fun e w' => e = .returned (.bool false) ∧ Below w.heap.size w w' := by
  have hc' : (((p' : Int) == (p : Int)) = false) ∨ (p' = p ∧ ¬ ((s' : Int) ≤ (s : Int)) ∧ ¬ s' ≤ s) := by
    rcases hc with h | ⟨h1, h2⟩
    · left; simp; omega
    · right; exact ⟨h1, by omega, by omega⟩
  clear hc
  rcases hc' with h | ⟨rfl, h, h'⟩
  all_goals
    go_enter Try.func96, Try.ntmps96
    go_wp2_with fail
    go_ret
    exact ⟨rfl, ((Below.refl _ _).alloc (Nat.le_refl _) _).alloc (by rw [size_alloc]; omega) _⟩

set_option maxRecDepth 100000 in
set_option maxHeartbeats 2000000 in
theorem replace_move (k : SK) (ok : k.ok) (x a z free taken j j' : Nat) (o r : Ord) (fs ls fs1 ls1 : Nat → Nat → Nat) (bef aft : Nat → Nat) (od : Nat → Ord) (w : World) (h : IsBk w k free taken fs ls bef aft od) (hx : x < k.n) (hr : od x = r)
    (hc : o.price ≠ r.price ∨ (o.price = r.price ∧ r.shares < o.shares))
    (hv : VV k.S k.L r.stock r.side r.price) (hj : jx r.stock r.side = j) (hv' : VV k.S k.L o.stock o.side o.price) (hj' : jx o.stock o.side = j')
    (ha : bef x = a) (hz : aft x = z) (ha1 : a < k.n) (hz1 : z < k.n) (hax : a ≠ x) (hzx : z ≠ x)
    (hfs1 : upd2 fs j (r.price - 1) (if fs j (r.price - 1) = x then z else fs j (r.price - 1)) = fs1) (hls1 : upd2 ls j (r.price - 1) (if ls j (r.price - 1) = x then a else ls j (r.price - 1)) = ls1)
    (hl1 : ls1 j' (o.price - 1) < k.n) (ff : Nat) (hff : (if fs1 j' (o.price - 1) = 0 then x else fs1 j' (o.price - 1)) = ff) :
    Calls Try.prog 128 #[.pointer (some ⟨k.bk, 0, none⟩), .int .i64 x, ordV 0 0 o] w fun e w' => e = .returned (.tuple #[]) ∧
      IsBk w' k free taken (upd2 fs1 j' (o.price - 1) ff) (upd2 ls1 j' (o.price - 1) x)
        (updN (updN (updN bef z a) x 0) x (ls1 j' (o.price - 1))) (updN (updN (updN (updN aft a z) x 0) x 0) (ls1 j' (o.price - 1)) x) (updN od x o) ∧ Fr k.F w w' := by
  have gK : w.cell? ⟨k.bk, 0, none⟩ = some (.slice (some ⟨k.po, 0, none⟩) k.n k.n) := h.K.cell 0
  have i1 : (x : Int) < (k.n : Int) := by omega
  have hsz : ∀ j, k.F j → j < w.heap.size := h.lt
  have hbl := hsz k.bk (Or.inl rfl)
  have hpl := hsz k.po (Or.inr (Or.inl rfl))
  have H := Hid.mk h
  have HAZ := Hid.mk (And.intro ha hz)
  have HR := Hid.mk hr
  have HV := Hid.mk hv
  have HV' := Hid.mk hv'
  have HJ := Hid.mk hj
  have HJ' := Hid.mk hj'
  have HFS := Hid.mk (And.intro hfs1 hls1)
  have HFF := Hid.mk hff
  have okn := ok.n
  have hj2 : j < k.S * 2 := by rw [← hj]; exact jx_lt _ hv.1
  have hq : r.price - 1 < k.L := by have := hv.2.2; omega
  have hj2' : j' < k.S * 2 := by rw [← hj']; exact jx_lt _ hv'.1
  have hq' : o.price - 1 < k.L := by have := hv'.2.2; omega
  have hg1 : w.heap.size ≠ k.ln j := by
    have := hsz _ (Or.inr (Or.inr (Or.inr ⟨_, hj2, rfl⟩))); omega
  have hg2 : w.heap.size ≠ k.ln j' := by
    have := hsz _ (Or.inr (Or.inr (Or.inr ⟨_, hj2', rfl⟩))); omega
  have hgp : w.heap.size ≠ k.po := by omega
  have HC := Hid.mk hc
  clear h ha hz hr hv hv' hj hj' hfs1 hls1 hff hc
  unfold ordV ordL
  go_enter Try.func128, Try.ntmps128
  go_wp2_with fail
  generalize hOb : Obj.cells _ 129 = Ob
  have hbx : Box (w.alloc Ob) w.heap.size 0 0 o := Box.of (t := 129) (by rw [heap_alloc, if_pos rfl, ← hOb]; rfl)
  have hB0 : IsBk (w.alloc Ob) k free taken fs ls bef aft od := H.out.keep (fun j hj => by rw [heap_alloc, if_neg (by have := hsz j hj; omega)])
  have hF0 := Fr.alloc (fun _ => False) w Ob
  clear gK hOb
  generalize w.alloc Ob = W at hB0 hbx hF0 ⊢
  obtain ⟨q0, q1, q2, q3, q4, q5, q6, q7⟩ := hB0.P.row x hx
  rw [HR.out] at q2 q3 q4 q5 q6 q7
  rw [HAZ.out.1] at q0
  rw [HAZ.out.2] at q1
  obtain ⟨c0, c1, c2, c3, c4, c5, c6, c7⟩ := hbx
  have HB0 := Hid.mk hB0
  have HF0 := Hid.mk hF0
  clear hB0 hF0
  have hplW : k.po < W.heap.size := HB0.out.lt k.po (Or.inr (Or.inl rfl))
  have hszW : w.heap.size < W.heap.size := World.block_lt_of_cell? W _ c0
  go_region_held3 (fun w' => w'.cell? ⟨k.po, x * 8, none⟩ = some (.int .i64 a) ∧ w'.cell? ⟨k.po, x * 8 + 1, none⟩ = some (.int .i64 z) ∧ w'.cell? ⟨k.po, x * 8 + 2, none⟩ = some (.int .u32 r.ref) ∧ w'.cell? ⟨k.po, x * 8 + 3, none⟩ = some (.int .u32 r.token) ∧ w'.cell? ⟨k.po, x * 8 + 4, none⟩ = some (.int .u8 r.side.toNat) ∧ w'.cell? ⟨k.po, x * 8 + 5, none⟩ = some (.int .u8 r.stock) ∧ w'.cell? ⟨k.po, x * 8 + 6, none⟩ = some (.int .u16 r.price) ∧ w'.cell? ⟨k.po, x * 8 + 7, none⟩ = some (.int .u16 r.shares) ∧ w'.cell? ⟨w.heap.size, 0, none⟩ = some (.int .i64 0) ∧ w'.cell? ⟨w.heap.size, 1, none⟩ = some (.int .i64 0) ∧ w'.cell? ⟨w.heap.size, 2, none⟩ = some (.int .u32 o.ref) ∧ w'.cell? ⟨w.heap.size, 3, none⟩ = some (.int .u32 o.token) ∧ w'.cell? ⟨w.heap.size, 4, none⟩ = some (.int .u8 o.side.toNat) ∧ w'.cell? ⟨w.heap.size, 5, none⟩ = some (.int .u8 o.stock) ∧ w'.cell? ⟨w.heap.size, 6, none⟩ = some (.int .u16 o.price) ∧ w'.cell? ⟨w.heap.size, 7, none⟩ = some (.int .u16 o.shares))
    (first | (with_reducible exact m1) | go_keep)
    ((go_at_call 96; refine (keepsPlace_no _ _ _ _ _ _ _ _ _ _ _ _ r.price r.shares o.price o.shares W.drew HC.out).mono ?_; rintro e w1 ⟨rfl, hb1⟩; have m1 : w1.cell? ⟨k.po, x * 8, none⟩ = some (.int .i64 a) ∧ w1.cell? ⟨k.po, x * 8 + 1, none⟩ = some (.int .i64 z) ∧ w1.cell? ⟨k.po, x * 8 + 2, none⟩ = some (.int .u32 r.ref) ∧ w1.cell? ⟨k.po, x * 8 + 3, none⟩ = some (.int .u32 r.token) ∧ w1.cell? ⟨k.po, x * 8 + 4, none⟩ = some (.int .u8 r.side.toNat) ∧ w1.cell? ⟨k.po, x * 8 + 5, none⟩ = some (.int .u8 r.stock) ∧ w1.cell? ⟨k.po, x * 8 + 6, none⟩ = some (.int .u16 r.price) ∧ w1.cell? ⟨k.po, x * 8 + 7, none⟩ = some (.int .u16 r.shares) ∧ w1.cell? ⟨w.heap.size, 0, none⟩ = some (.int .i64 0) ∧ w1.cell? ⟨w.heap.size, 1, none⟩ = some (.int .i64 0) ∧ w1.cell? ⟨w.heap.size, 2, none⟩ = some (.int .u32 o.ref) ∧ w1.cell? ⟨w.heap.size, 3, none⟩ = some (.int .u32 o.token) ∧ w1.cell? ⟨w.heap.size, 4, none⟩ = some (.int .u8 o.side.toNat) ∧ w1.cell? ⟨w.heap.size, 5, none⟩ = some (.int .u8 o.stock) ∧ w1.cell? ⟨w.heap.size, 6, none⟩ = some (.int .u16 o.price) ∧ w1.cell? ⟨w.heap.size, 7, none⟩ = some (.int .u16 o.shares) := ⟨(hb1.cell (p := ⟨k.po, x * 8, none⟩) hplW).trans q0, (hb1.cell (p := ⟨k.po, x * 8 + 1, none⟩) hplW).trans q1, (hb1.cell (p := ⟨k.po, x * 8 + 2, none⟩) hplW).trans q2, (hb1.cell (p := ⟨k.po, x * 8 + 3, none⟩) hplW).trans q3, (hb1.cell (p := ⟨k.po, x * 8 + 4, none⟩) hplW).trans q4, (hb1.cell (p := ⟨k.po, x * 8 + 5, none⟩) hplW).trans q5, (hb1.cell (p := ⟨k.po, x * 8 + 6, none⟩) hplW).trans q6, (hb1.cell (p := ⟨k.po, x * 8 + 7, none⟩) hplW).trans q7, (hb1.cell (p := ⟨w.heap.size, 0, none⟩) hszW).trans c0, (hb1.cell (p := ⟨w.heap.size, 1, none⟩) hszW).trans c1, (hb1.cell (p := ⟨w.heap.size, 2, none⟩) hszW).trans c2, (hb1.cell (p := ⟨w.heap.size, 3, none⟩) hszW).trans c3, (hb1.cell (p := ⟨w.heap.size, 4, none⟩) hszW).trans c4, (hb1.cell (p := ⟨w.heap.size, 5, none⟩) hszW).trans c5, (hb1.cell (p := ⟨w.heap.size, 6, none⟩) hszW).trans c6, (hb1.cell (p := ⟨w.heap.size, 7, none⟩) hszW).trans c7⟩))
  have hFV : Fr (fun _ => False) W w1 := (Fr.drew _ W).trans (Fr.of_below hb1 _) (fun _ _ h => h)
  have hBV : IsBk w1 k free taken fs ls bef aft od := HB0.out.keep (fun j hj => hb1.block j (HB0.out.lt j hj))
  clear q0 q1 q2 q3 q4 q5 q6 q7 c0 c1 c2 c3 c4 c5 c6 c7
  obtain ⟨-, -, -, -, -, -, -, -, c0, c1, c2, c3, c4, c5, c6, c7⟩ := m1
  have hXV : Box w1 w.heap.size 0 0 o := ⟨c0, c1, c2, c3, c4, c5, c6, c7⟩
  clear c0 c1 c2 c3 c4 c5 c6 c7 hb1
  obtain ⟨q0, q1, q2, q3, q4, q5, q6, q7⟩ := hBV.P.row x hx
  rw [HR.out] at q2 q3 q4 q5 q6 q7
  rw [HAZ.out.1] at q0
  rw [HAZ.out.2] at q1
  have HB1 := Hid.mk hBV
  have HX1 := Hid.mk hXV
  have HF1 := Hid.mk hFV
  clear hBV hXV hFV
  go_wp2_with fail
  have hsz1 : ∀ j, k.F j → j < w1.heap.size := HB1.out.lt
  go_region_held3 (fun w' => w'.cell? ⟨k.po, x * 8, none⟩ = some (.int .i64 a) ∧ w'.cell? ⟨k.po, x * 8 + 1, none⟩ = some (.int .i64 z) ∧ w'.cell? ⟨k.po, x * 8 + 2, none⟩ = some (.int .u32 r.ref) ∧ w'.cell? ⟨k.po, x * 8 + 3, none⟩ = some (.int .u32 r.token) ∧ w'.cell? ⟨k.po, x * 8 + 4, none⟩ = some (.int .u8 r.side.toNat) ∧ w'.cell? ⟨k.po, x * 8 + 5, none⟩ = some (.int .u8 r.stock) ∧ w'.cell? ⟨k.po, x * 8 + 6, none⟩ = some (.int .u16 r.price) ∧ w'.cell? ⟨k.po, x * 8 + 7, none⟩ = some (.int .u16 r.shares)) (first | exact m3 | exact m2 | go_keep)
    (first
      | (go_at_call 143; refine (lineOf_any k ok a z free taken r fs ls _ _ _ w1.drew (HB1.out.keep (fun _ _ => rfl)) HV.out).mono ?_; rintro e w2 ⟨rfl, hf2⟩; have hB2 : Hid (IsBk w2 k free taken fs ls bef aft od) := HB1.out.keep (fun j hj => hf2.out.block j (hsz1 j hj) (fun e => e)); have m2 := hB2.out.P.row x hx; rw [HR.out, HAZ.out.1, HAZ.out.2] at m2)
      | (go_at_call 146; rw [HJ.out]; refine (leave_any k.bk (k.ln j) k.L (r.price - 1) x (fs j (r.price - 1)) (ls j (r.price - 1)) a z (k.kc free taken) _ _ (fs j) (ls j) _ w2 hB2.out.K hB2.out.P (hB2.out.Ls _ hj2) hq hx rfl rfl (show k.n ≤ 1000 by omega) HAZ.out.1 HAZ.out.2 ha1 hz1 hax hzx ok.bp (ok.lp _ hj2) (Ne.symm (ok.lb _ hj2))).mono ?_; rintro e w3 ⟨rfl, hp3, hl3, hf3⟩; have m3 := IsP.row hp3 x hx; rw [HR.out, updN_ne _ _ _ _ (Ne.symm hzx), updN_ne _ _ _ _ (Ne.symm hax), HAZ.out.1, HAZ.out.2] at m3))
  have HB3 : Hid (IsBk w3 k free taken fs1 ls1 (updN bef z a) (updN aft a z) od) := by
    rw [← HFS.out.1, ← HFS.out.2]
    exact hB2.out.turnL ok hp3 _ hj2 hl3 hf3
  have HX3 : Hid (Box w3 w.heap.size 0 0 o) := ((HX1.out.fr (Fr.drew (fun _ => False) w1) (fun e => e)).fr hf2.out (fun e => e)).fr hf3 (fun e => e.elim hgp hg1)
  have HF3 : Hid (Fr (fun i => k.F i ∨ w.heap.size ≤ i) w w3) := (HF0.out.mono (fun _ _ h => h.elim)).trans ((HF1.out.mono (fun _ _ h => h.elim)).trans (((Fr.drew (fun _ => False) w1).mono (fun _ _ h => h.elim)).trans ((hf2.out.mono (fun _ _ h => h.elim)).trans (hf3.mono (G := k.F) (fun _ _ h => h.elim (fun h => Or.inr (Or.inl h)) (fun h => Or.inr (Or.inr (Or.inr ⟨_, hj2, h⟩))))) (fun _ _ h => h)) (fun _ _ h => h)) (fun _ _ h => h)) (fun _ _ h => Or.inl h)
  clear hp3 hl3 hf3 hf2 hB2 q0 q1 q2 q3 q4 q5 q6 q7 m2
  obtain ⟨c0, c1, c2, c3, c4, c5, c6, c7⟩ := HX3.out
  obtain ⟨q0, q1, q2, q3, q4, q5, q6, q7⟩ := m3
  have fp := HB3.out.P.frozen
  have fp0 := fp (x * 8)
  have fp1 := fp (x * 8 + 1)
  have fp2 := fp (x * 8 + 2)
  have fp3 := fp (x * 8 + 3)
  have fp4 := fp (x * 8 + 4)
  have fp5 := fp (x * 8 + 5)
  have fp6 := fp (x * 8 + 6)
  have fp7 := fp (x * 8 + 7)
  clear fp
  go_wp2_with fail
  have hp4 : IsP ((((((((w3.setCell ⟨k.po, x * 8, none⟩ (.int .i64 0)).setCell ⟨k.po, x * 8 + 1, none⟩ (.int .i64 0)).setCell ⟨k.po, x * 8 + 2, none⟩ (.int .u32 o.ref)).setCell ⟨k.po, x * 8 + 3, none⟩ (.int .u32 o.token)).setCell ⟨k.po, x * 8 + 4, none⟩ (.int .u8 o.side.toNat)).setCell ⟨k.po, x * 8 + 5, none⟩ (.int .u8 o.stock)).setCell ⟨k.po, x * 8 + 6, none⟩ (.int .u16 o.price)).setCell ⟨k.po, x * 8 + 7, none⟩ (.int .u16 o.shares)) k.po k.n (updN (updN bef z a) x 0) (updN (updN aft a z) x 0) (updN od x o) := by
    have := HB3.out.P.setOrd x 0 0 o
    rw [set8] at this
    exact this
  have hf4 : Fr (fun j => j = k.po) w3 ((((((((w3.setCell ⟨k.po, x * 8, none⟩ (.int .i64 0)).setCell ⟨k.po, x * 8 + 1, none⟩ (.int .i64 0)).setCell ⟨k.po, x * 8 + 2, none⟩ (.int .u32 o.ref)).setCell ⟨k.po, x * 8 + 3, none⟩ (.int .u32 o.token)).setCell ⟨k.po, x * 8 + 4, none⟩ (.int .u8 o.side.toNat)).setCell ⟨k.po, x * 8 + 5, none⟩ (.int .u8 o.stock)).setCell ⟨k.po, x * 8 + 6, none⟩ (.int .u16 o.price)).setCell ⟨k.po, x * 8 + 7, none⟩ (.int .u16 o.shares)) := by
    have := fr_setCells k.po (ordL 0 0 o) (x * 8) w3
    rw [set8] at this
    exact this
  clear fp0 fp1 fp2 fp3 fp4 fp5 fp6 fp7 q0 q1 q2 q3 q4 q5 q6 q7 c0 c1 c2 c3 c4 c5 c6 c7
  generalize ((((((((w3.setCell ⟨k.po, x * 8, none⟩ (.int .i64 0)).setCell ⟨k.po, x * 8 + 1, none⟩ (.int .i64 0)).setCell ⟨k.po, x * 8 + 2, none⟩ (.int .u32 o.ref)).setCell ⟨k.po, x * 8 + 3, none⟩ (.int .u32 o.token)).setCell ⟨k.po, x * 8 + 4, none⟩ (.int .u8 o.side.toNat)).setCell ⟨k.po, x * 8 + 5, none⟩ (.int .u8 o.stock)).setCell ⟨k.po, x * 8 + 6, none⟩ (.int .u16 o.price)).setCell ⟨k.po, x * 8 + 7, none⟩ (.int .u16 o.shares)) = w4 at hp4 hf4 ⊢
  have HB4 : Hid (IsBk w4 k free taken fs1 ls1 (updN (updN bef z a) x 0) (updN (updN aft a z) x 0) (updN od x o)) := HB3.out.turnP ok hp4 hf4
  have HX4 : Hid (Box w4 w.heap.size 0 0 o) := HX3.out.fr hf4 hgp
  have HF4 : Hid (Fr (fun i => k.F i ∨ w.heap.size ≤ i) w w4) := HF3.out.trans hf4 (fun _ _ h => Or.inl (Or.inr (Or.inl h)))
  clear hp4 hf4
  have hsz4 : ∀ j, k.F j → j < w4.heap.size := HB4.out.lt
  obtain ⟨c0, c1, c2, c3, c4, c5, c6, c7⟩ := HX4.out
  go_region_held3 (fun w' => w'.cell? ⟨w.heap.size, 0, none⟩ = some (.int .i64 0) ∧ w'.cell? ⟨w.heap.size, 1, none⟩ = some (.int .i64 0) ∧ w'.cell? ⟨w.heap.size, 2, none⟩ = some (.int .u32 o.ref) ∧ w'.cell? ⟨w.heap.size, 3, none⟩ = some (.int .u32 o.token) ∧ w'.cell? ⟨w.heap.size, 4, none⟩ = some (.int .u8 o.side.toNat) ∧ w'.cell? ⟨w.heap.size, 5, none⟩ = some (.int .u8 o.stock) ∧ w'.cell? ⟨w.heap.size, 6, none⟩ = some (.int .u16 o.price) ∧ w'.cell? ⟨w.heap.size, 7, none⟩ = some (.int .u16 o.shares)) (first | exact m6 | exact m5 | go_keep)
    (first
      | (go_at_call 143; refine (lineOf_any k ok 0 0 free taken o fs1 ls1 _ _ _ w4.drew (HB4.out.keep (fun _ _ => rfl)) HV'.out).mono ?_; rintro e w5 ⟨rfl, hf5⟩; have m5 := (Box.fr (w := w4.drew) ⟨c0, c1, c2, c3, c4, c5, c6, c7⟩ hf5.out (fun e => e)).all; have hB5 : Hid (IsBk w5 k free taken fs1 ls1 (updN (updN bef z a) x 0) (updN (updN aft a z) x 0) (updN od x o)) := HB4.out.keep (fun j hj => hf5.out.block j (hsz4 j hj) (fun e => e)))
      | (go_at_call 142; rw [HJ'.out]; refine (join_any k.bk (k.ln j') k.L (o.price - 1) x (fs1 j' (o.price - 1)) (ls1 j' (o.price - 1)) (k.kc free taken) _ _ (fs1 j') (ls1 j') _ w5 hB5.out.K hB5.out.P (hB5.out.Ls _ hj2') hq' hx hl1 rfl rfl (show k.n ≤ 1000 by omega) ok.bp (ok.lp _ hj2') (Ne.symm (ok.lb _ hj2'))).mono ?_; rintro e w6 ⟨rfl, hp6, hl6, hf6⟩; have m6 := ((Box.fr (w := w4.drew) ⟨c0, c1, c2, c3, c4, c5, c6, c7⟩ hf5.out (fun e => e)).fr hf6 (fun e => e.elim hgp hg2)).all))
  have HB6 : Hid (IsBk w6 k free taken (upd2 fs1 j' (o.price - 1) ff) (upd2 ls1 j' (o.price - 1) x) (updN (updN (updN bef z a) x 0) x (ls1 j' (o.price - 1))) (updN (updN (updN (updN aft a z) x 0) x 0) (ls1 j' (o.price - 1)) x) (updN od x o)) := by
    rw [HFF.out] at hl6
    exact hB5.out.turnL ok hp6 _ hj2' hl6 hf6
  have HF6 : Hid (Fr k.F w w6) := (HF4.out.trans (((Fr.drew (fun _ => False) w4).mono (fun _ _ h => h.elim)).trans ((hf5.out.mono (fun _ _ h => h.elim)).trans (hf6.mono (G := k.F) (fun _ _ h => h.elim (fun h => Or.inr (Or.inl h)) (fun h => Or.inr (Or.inr (Or.inr ⟨_, hj2', h⟩))))) (fun _ _ h => h)) (fun _ _ h => h)) (fun _ _ h => Or.inl h)).mono (fun i hi h => h.elim (fun h => h) (fun h => by omega))
  clear hp6 hl6 hf6 hf5 hB5 m5 m6 c0 c1 c2 c3 c4 c5 c6 c7
  go_wp2_with fail
  go_end0
  exact ⟨rfl, HB6.out, HF6.out⟩

theorem replace_stay (k : SK) (w : World) (taken x : Nat) (o : Ord) (od : Nat → Ord) (ps : Nat → UInt8 → Nat → List Nat) (fl : List Nat) (h : Bks w k taken od ps fl) (hx : x < k.n) (hp : o.price = (od x).price) (hs : o.shares ≤ (od x).shares) :
    Calls Try.prog 128 #[.pointer (some ⟨k.bk, 0, none⟩), .int .i64 x, ordV 0 0 o] w fun e w' => e = .returned (.tuple #[]) ∧ Bks w' k taken (updN od x o) ps fl ∧ Fr k.F w w' := by
  obtain ⟨free, fs, ls, bef, aft, h1, h2⟩ := h.ex
  refine (replace_in k h.ok x free taken o (od x) fs ls bef aft od w h1 hx rfl hp hs).mono ?_
  rintro e w' ⟨rfl, hb, hf⟩
  exact ⟨rfl, ⟨h.ok, _, _, _, _, _, hb, h2⟩, hf⟩

theorem replace_go (k : SK) (w : World) (taken x : Nat) (o : Ord) (od : Nat → Ord) (ps : Nat → UInt8 → Nat → List Nat) (fl a b : List Nat) (h : Bks w k taken od ps fl) (hc : o.price ≠ (od x).price ∨ (o.price = (od x).price ∧ (od x).shares < o.shares))
    (hv : VV k.S k.L (od x).stock (od x).side (od x).price) (hv' : VV k.S k.L o.stock o.side o.price) (hab : ps (od x).stock (od x).side (od x).price = a ++ x :: b) (ps1 : Nat → UInt8 → Nat → List Nat) (hps1 : updQ ps (od x).stock (od x).side (od x).price (a ++ b) = ps1) :
    Calls Try.prog 128 #[.pointer (some ⟨k.bk, 0, none⟩), .int .i64 x, ordV 0 0 o] w fun e w' => e = .returned (.tuple #[]) ∧ Bks w' k taken (updN od x o) (updQ ps1 o.stock o.side o.price (ps1 o.stock o.side o.price ++ [x])) fl ∧ Fr k.F w w' := by
  obtain ⟨free, fs, ls, bef, aft, h1, h2⟩ := h.ex
  obtain ⟨l1, l2, l3, l4, l5, l6⟩ := h2.leave hv hab
  rw [hps1] at l1 l2
  have hx : x < k.n := h2.lt _ _ _ hv x (by rw [hab]; simp)
  have hx0 : x ≠ 0 := h2.ne0 hv (by rw [hab]; simp)
  have okn := h.ok.n
  have ha1 : bef x < k.n := by
    rcases l3 with e | e
    · omega
    · exact h2.lt _ _ _ hv _ (by rw [hab]; simp [e])
  have hz1 : aft x < k.n := by
    rcases l4 with e | e
    · omega
    · exact h2.lt _ _ _ hv _ (by rw [hab]; simp [e])
  generalize hfs : upd2 fs (jx (od x).stock (od x).side) ((od x).price - 1) (if fs (jx (od x).stock (od x).side) ((od x).price - 1) = x then aft x else fs (jx (od x).stock (od x).side) ((od x).price - 1)) = fs1 at l1
  generalize hls : upd2 ls (jx (od x).stock (od x).side) ((od x).price - 1) (if ls (jx (od x).stock (od x).side) ((od x).price - 1) = x then bef x else ls (jx (od x).stock (od x).side) ((od x).price - 1)) = ls1 at l1
  have hl : ls1 (jx o.stock o.side) (o.price - 1) < k.n := by
    rw [(l1.line _ _ _ hv').last]
    rcases getLastD_mem (ps1 o.stock o.side o.price) 0 with e | e
    · rw [e]; omega
    · exact l1.lt _ _ _ hv' _ e
  refine (replace_move k h.ok x (bef x) (aft x) free taken _ _ o (od x) fs ls fs1 ls1 bef aft od w h1 hx rfl hc hv rfl hv' rfl rfl rfl ha1 hz1 l5 l6 hfs hls hl _ rfl).mono ?_
  rintro e w' ⟨rfl, hb, hf⟩
  exact ⟨rfl, ⟨h.ok, _, _, _, _, _, hb, (l1.setx l2 0 0).join hv' hx0 hx l2⟩, hf⟩

end Go.Proofs.Ytphkchjejbffeaa
