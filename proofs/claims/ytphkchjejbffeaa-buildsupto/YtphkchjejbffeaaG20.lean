/- Blocks of a list, each sorted: what slices.stableCmpFunc keeps. Plain. -/
import Derived.Test.YtphkchjejbffeaaG19
namespace Go.Proofs.Ytphkchjejbffeaa

/-- Sorted blocks of one size. -/
def Blk (lt : Ord → Ord → Bool) (K : Nat) (bs : List (List Ord)) : Prop := ∀ c ∈ bs, c.length = K ∧ Srt lt c
theorem Blk.nil (lt : Ord → Ord → Bool) (K : Nat) : Blk lt K [] := fun c h => by cases h
theorem Blk.len {lt : Ord → Ord → Bool} {K : Nat} : ∀ {bs : List (List Ord)}, Blk lt K bs → bs.flatten.length = bs.length * K := by
  intro bs
  induction bs with
  | nil => intro _; simp
  | cons c bs ih =>
    intro h
    rw [List.flatten_cons, List.length_append, ih (fun d hd => h d (List.mem_cons_of_mem _ hd)), (h c (by simp)).1, List.length_cons, Nat.succ_mul, Nat.add_comm]
theorem Blk.snoc {lt : Ord → Ord → Bool} {K : Nat} {bs : List (List Ord)} (h : Blk lt K bs) {c : List Ord} (h1 : c.length = K) (h2 : Srt lt c) : Blk lt K (bs ++ [c]) := by
  intro d hd
  rcases List.mem_append.1 hd with hd | hd
  · exact h d hd
  · simp at hd; rw [hd]; exact ⟨h1, h2⟩
theorem flat_snoc (bs : List (List Ord)) (c : List Ord) : (bs ++ [c]).flatten = bs.flatten ++ c := by simp

/-- The first pass, so far. -/
def PA (lt : Ord → Ord → Bool) (L : List Ord) (len : Nat) (Sw : List Ord → Prop) (a : Nat) : Prop :=
  ∃ bs Y, Blk lt 20 bs ∧ bs.flatten.length = a ∧ (bs.flatten ++ Y).length = len ∧ Cls lt L (bs.flatten ++ Y) ∧ Sw (bs.flatten ++ Y)
/-- Between passes. -/
def PB (lt : Ord → Ord → Bool) (L : List Ord) (len : Nat) (Sw : List Ord → Prop) (K : Nat) : Prop :=
  ∃ bs t, Blk lt K bs ∧ Srt lt t ∧ t.length < K ∧ (bs.flatten ++ t).length = len ∧ Cls lt L (bs.flatten ++ t) ∧ Sw (bs.flatten ++ t)
/-- A later pass, so far. -/
def PC (lt : Ord → Ord → Bool) (L : List Ord) (len : Nat) (Sw : List Ord → Prop) (K a : Nat) : Prop :=
  ∃ bs rs t, Blk lt (2 * K) bs ∧ Blk lt K rs ∧ Srt lt t ∧ t.length < K ∧ bs.flatten.length = a ∧ (bs.flatten ++ (rs.flatten ++ t)).length = len ∧ Cls lt L (bs.flatten ++ (rs.flatten ++ t)) ∧ Sw (bs.flatten ++ (rs.flatten ++ t))

theorem PA.start {lt : Ord → Ord → Bool} {L : List Ord} {len : Nat} {Sw : List Ord → Prop} (h : L.length = len) (hs : Sw L) : PA lt L len Sw 0 :=
  ⟨[], L, Blk.nil _ _, rfl, by simpa using h, Cls.refl _ _, hs⟩
theorem PA.step {lt : Ord → Ord → Bool} {L : List Ord} {len a : Nat} {Sw : List Ord → Prop} (h : PA lt L len Sw a) (ha : a + 20 ≤ len) :
    ∃ X A Y, X.length = a ∧ A.length = 20 ∧ (X ++ A ++ Y).length = len ∧ Sw (X ++ A ++ Y) ∧ ∀ (Sw' : List Ord → Prop) (A' : List Ord), Srt lt A' → Cls lt A A' → A'.length = A.length → Sw' (X ++ A' ++ Y) → PA lt L len Sw' (a + 20) := by
  obtain ⟨bs, Y, h1, h2, h3, h4, h5⟩ := h
  have hY : 20 ≤ Y.length := by rw [List.length_append] at h3; omega
  have e : Y = Y.take 20 ++ Y.drop 20 := (List.take_append_drop 20 Y).symm
  have hl : (Y.take 20).length = 20 := by rw [List.length_take]; omega
  generalize Y.take 20 = A at e hl
  generalize Y.drop 20 = Y' at e
  subst e
  refine ⟨bs.flatten, A, Y', h2, hl, by rw [List.append_assoc]; exact h3, by rw [List.append_assoc]; exact h5, ?_⟩
  intro Sw' A' k1 k2 k3 k4
  refine ⟨bs ++ [A'], Y', h1.snoc (by omega) k1, by rw [flat_snoc, List.length_append]; omega, ?_, ?_, ?_⟩
  · rw [flat_snoc]; simp only [List.length_append] at h3 ⊢; omega
  · rw [flat_snoc, List.append_assoc]; exact h4.trans ((Cls.refl _ _).app (k2.app (Cls.refl _ _)))
  · rw [flat_snoc]; exact k4
theorem PA.last {lt : Ord → Ord → Bool} {L : List Ord} {len a : Nat} {Sw : List Ord → Prop} (h : PA lt L len Sw a) (ha : ¬ a + 20 ≤ len) :
    ∃ X A, X.length = a ∧ X.length + A.length = len ∧ (X ++ A ++ []).length = len ∧ Sw (X ++ A ++ []) ∧ ∀ (Sw' : List Ord → Prop) (A' : List Ord), Srt lt A' → Cls lt A A' → A'.length = A.length → Sw' (X ++ A' ++ []) → PB lt L len Sw' 20 := by
  obtain ⟨bs, Y, h1, h2, h3, h4, h5⟩ := h
  rw [List.length_append] at h3
  refine ⟨bs.flatten, Y, h2, h3, by simp only [List.append_nil, List.length_append]; exact h3, by rw [List.append_nil]; exact h5, ?_⟩
  intro Sw' A' k1 k2 k3 k4
  rw [List.append_nil] at k4
  exact ⟨bs, A', h1, k1, by omega, by rw [List.length_append]; omega, h4.trans ((Cls.refl _ _).app k2), k4⟩
theorem PB.open {lt : Ord → Ord → Bool} {L : List Ord} {len K : Nat} {Sw : List Ord → Prop} (h : PB lt L len Sw K) : PC lt L len Sw K 0 := by
  obtain ⟨bs, t, h1, h2, h3, h4, h5, h6⟩ := h
  exact ⟨[], bs, t, Blk.nil _ _, h1, h2, h3, rfl, by simpa using h4, by simpa using h5, by simpa using h6⟩
theorem PB.done {lt : Ord → Ord → Bool} {L : List Ord} {len K : Nat} {Sw : List Ord → Prop} (h : PB lt L len Sw K) (hK : len ≤ K) : ∃ C, Srt lt C ∧ Cls lt L C ∧ C.length = len ∧ Sw C := by
  obtain ⟨bs, t, h1, h2, h3, h4, h5, h6⟩ := h
  refine ⟨bs.flatten ++ t, ?_, h5, h4, h6⟩
  have hl := h1.len
  rw [List.length_append, hl] at h4
  match bs, h1, h4 with
  | [], _, _ => simpa using h2
  | [c], h1, h4 =>
    have : t = [] := List.length_eq_zero_iff.1 (by simp at h4; omega)
    rw [this]; simpa using (h1 c (by simp)).2
  | c :: d :: bs, h1, h4 =>
    simp only [List.length_cons, Nat.succ_mul] at h4
    omega
theorem PC.step {lt : Ord → Ord → Bool} {L : List Ord} {len K a : Nat} {Sw : List Ord → Prop} (h : PC lt L len Sw K a) (ha : a + 2 * K ≤ len) :
    ∃ X A B Y, X.length = a ∧ A.length = K ∧ B.length = K ∧ (X ++ A ++ B ++ Y).length = len ∧ Srt lt A ∧ Srt lt B ∧ Sw (X ++ A ++ B ++ Y) ∧ ∀ (Sw' : List Ord → Prop) (C : List Ord), Srt lt C → Cls lt (A ++ B) C → C.length = A.length + B.length → Sw' (X ++ C ++ Y) → PC lt L len Sw' K (a + 2 * K) := by
  obtain ⟨bs, rs, t, h1, h2, h3, h4, h5, h6, h7, h8⟩ := h
  have hl := h2.len
  have h6' : a + (rs.length * K + t.length) = len := by rw [← h6, List.length_append, List.length_append, h5, hl]
  match rs, h2, h6, h6', h7, h8 with
  | [], _, _, h6', _, _ => simp at h6'; omega
  | [c], _, _, h6', _, _ => simp at h6'; omega
  | A :: B :: rs, h2, h6, h6', h7, h8 =>
    obtain ⟨a1, a2⟩ := h2 A (by simp)
    obtain ⟨b1, b2⟩ := h2 B (by simp)
    have e : ∀ C : List Ord, bs.flatten ++ C ++ (rs.flatten ++ t) = bs.flatten ++ (C ++ (rs.flatten ++ t)) := fun C => List.append_assoc _ _ _
    have e1 : bs.flatten ++ A ++ B ++ (rs.flatten ++ t) = bs.flatten ++ ((A :: B :: rs).flatten ++ t) := by simp
    refine ⟨bs.flatten, A, B, rs.flatten ++ t, h5, a1, b1, by rw [e1]; exact h6, a2, b2, by rw [e1]; exact h8, ?_⟩
    intro Sw' C k1 k2 k3 k4
    refine ⟨bs ++ [C], rs, t, h1.snoc (by omega) k1, fun d hd => h2 d (by simp [hd]), h3, h4, by rw [flat_snoc, List.length_append]; omega, ?_, ?_, ?_⟩
    · rw [flat_snoc]; rw [← e1] at h6; simp only [List.length_append] at h6 ⊢; omega
    · rw [flat_snoc, e]; rw [← e1, List.append_assoc, List.append_assoc, ← List.append_assoc A] at h7
      exact h7.trans ((Cls.refl _ _).app (k2.app (Cls.refl _ _)))
    · rw [flat_snoc]; exact k4
theorem PC.tail {lt : Ord → Ord → Bool} {L : List Ord} {len K a : Nat} {Sw : List Ord → Prop} (h : PC lt L len Sw K a) (ha : ¬ a + 2 * K ≤ len) (hb : a + K < len) :
    ∃ X A B, X.length = a ∧ A.length = K ∧ a + K + B.length = len ∧ (X ++ A ++ B ++ []).length = len ∧ Srt lt A ∧ Srt lt B ∧ Sw (X ++ A ++ B ++ []) ∧ ∀ (Sw' : List Ord → Prop) (C : List Ord), Srt lt C → Cls lt (A ++ B) C → C.length = A.length + B.length → Sw' (X ++ C ++ []) → PB lt L len Sw' (2 * K) := by
  obtain ⟨bs, rs, t, h1, h2, h3, h4, h5, h6, h7, h8⟩ := h
  have hl := h2.len
  have h6' : a + (rs.length * K + t.length) = len := by rw [← h6, List.length_append, List.length_append, h5, hl]
  match rs, h2, h6, h6', h7, h8 with
  | [], _, _, h6', _, _ => simp at h6'; omega
  | [A], h2, h6, h6', h7, h8 =>
    obtain ⟨a1, a2⟩ := h2 A (by simp)
    have e1 : bs.flatten ++ A ++ t ++ [] = bs.flatten ++ (([A] : List (List Ord)).flatten ++ t) := by simp
    refine ⟨bs.flatten, A, t, h5, a1, by simp at h6'; omega, by rw [e1]; exact h6, a2, h3, by rw [e1]; exact h8, ?_⟩
    intro Sw' C k1 k2 k3 k4
    rw [List.append_nil] at k4
    refine ⟨bs, C, h1, k1, by omega, ?_, ?_, k4⟩
    · rw [← e1] at h6; simp only [List.length_append, List.length_nil] at h6 ⊢; omega
    · rw [← e1, List.append_nil, List.append_assoc] at h7
      exact h7.trans ((Cls.refl _ _).app k2)
  | A :: B :: rs, _, _, h6', _, _ => simp only [List.length_cons, Nat.succ_mul] at h6'; omega
theorem PC.none {lt : Ord → Ord → Bool} {L : List Ord} {len K a : Nat} {Sw : List Ord → Prop} (h : PC lt L len Sw K a) (hb : ¬ a + K < len) : PB lt L len Sw (2 * K) := by
  obtain ⟨bs, rs, t, h1, h2, h3, h4, h5, h6, h7, h8⟩ := h
  have hl := h2.len
  have h6' : a + (rs.length * K + t.length) = len := by rw [← h6, List.length_append, List.length_append, h5, hl]
  match rs, h2, h6, h6', h7, h8 with
  | [], _, h6, h6', h7, h8 => exact ⟨bs, t, h1, h3, by omega, by simpa using h6, by simpa using h7, by simpa using h8⟩
  | [A], h2, h6, h6', h7, h8 =>
    obtain ⟨a1, a2⟩ := h2 A (by simp)
    have ht : t = [] := List.length_eq_zero_iff.1 (by simp at h6'; omega)
    subst ht
    exact ⟨bs, A, h1, a2, by simp at h4; omega, by simpa using h6, by simpa using h7, by simpa using h8⟩
  | A :: B :: rs, _, _, h6', _, _ => simp only [List.length_cons, Nat.succ_mul] at h6'; omega

end Go.Proofs.Ytphkchjejbffeaa

/- cmp.Compare over ints and bytes. -/
namespace Go.Proofs.Ytphkchjejbffeaa
open Go.Shelf Go.RowKit Go.Lib Go.Sort
attribute [local go_sem ↓] Go.wp_at_zero Go.wp_at_succ

/-- How two numbers stand. -/
def cmpI (x y : Int) : Int := if x < y then -1 else if y < x then 1 else 0

set_option maxHeartbeats 400000 in
theorem isNaN_int (x : Int) (w : World) : Calls Try.prog 133 #[.int .i64 x] w fun e w' => e = .returned (.bool false) ∧ w' = w := by
  have hx : (x != x) = false := by simp
  go_enter Try.func133, Try.ntmps133
  go_wp2_with fail
  go_ret
  exact ⟨by simp, rfl⟩
set_option maxHeartbeats 400000 in
theorem isNaN_byte (x : Int) (w : World) : Calls Try.prog 134 #[.int .u8 x] w fun e w' => e = .returned (.bool false) ∧ w' = w := by
  have hx : (x != x) = false := by simp
  go_enter Try.func134, Try.ntmps134
  go_wp2_with fail
  go_ret
  exact ⟨by simp, rfl⟩

set_option maxHeartbeats 1000000 in
theorem compare_int (x y : Int) (w : World) : Calls Try.prog 99 #[.int .i64 x, .int .i64 y] w fun e w' => e = .returned (.int .i64 (cmpI x y)) ∧ w' = w := by
  by_cases h1 : x < y
  · have e1 : cmpI x y = -1 := by simp [cmpI, h1]
    rw [e1]
    clear e1
    go_enter Try.func99, Try.ntmps99
    go_wp2_with fail
    refine (isNaN_int _ _).mono ?_
    rintro e' w2 ⟨rfl, rfl⟩
    go_wp2_with fail
    refine (isNaN_int _ _).mono ?_
    rintro e' w2 ⟨rfl, rfl⟩
    go_wp2_with fail
    go_ret
    exact ⟨rfl, rfl⟩
  · by_cases h2 : y < x
    · have e1 : cmpI x y = 1 := by simp [cmpI, h1, h2]
      rw [e1]
      clear e1
      have h3 : x > y := h2
      go_enter Try.func99, Try.ntmps99
      go_wp2_with fail
      refine (isNaN_int _ _).mono ?_
      rintro e' w2 ⟨rfl, rfl⟩
      go_wp2_with fail
      refine (isNaN_int _ _).mono ?_
      rintro e' w2 ⟨rfl, rfl⟩
      go_wp2_with fail
      go_ret
      exact ⟨rfl, rfl⟩
    · have e1 : cmpI x y = 0 := by simp [cmpI, h1, h2]
      rw [e1]
      clear e1
      have h3 : ¬ x > y := h2
      go_enter Try.func99, Try.ntmps99
      go_wp2_with fail
      refine (isNaN_int _ _).mono ?_
      rintro e' w2 ⟨rfl, rfl⟩
      go_wp2_with fail
      refine (isNaN_int _ _).mono ?_
      rintro e' w2 ⟨rfl, rfl⟩
      go_wp2_with fail
      go_ret
      exact ⟨rfl, rfl⟩

set_option maxHeartbeats 1000000 in
theorem compare_byte (x y : Int) (w : World) : Calls Try.prog 101 #[.int .u8 x, .int .u8 y] w fun e w' => e = .returned (.int .i64 (cmpI x y)) ∧ w' = w := by
  by_cases h1 : x < y
  · have e1 : cmpI x y = -1 := by simp [cmpI, h1]
    rw [e1]
    clear e1
    go_enter Try.func101, Try.ntmps101
    go_wp2_with fail
    refine (isNaN_byte _ _).mono ?_
    rintro e' w2 ⟨rfl, rfl⟩
    go_wp2_with fail
    refine (isNaN_byte _ _).mono ?_
    rintro e' w2 ⟨rfl, rfl⟩
    go_wp2_with fail
    go_ret
    exact ⟨rfl, rfl⟩
  · by_cases h2 : y < x
    · have e1 : cmpI x y = 1 := by simp [cmpI, h1, h2]
      rw [e1]
      clear e1
      have h3 : x > y := h2
      go_enter Try.func101, Try.ntmps101
      go_wp2_with fail
      refine (isNaN_byte _ _).mono ?_
      rintro e' w2 ⟨rfl, rfl⟩
      go_wp2_with fail
      refine (isNaN_byte _ _).mono ?_
      rintro e' w2 ⟨rfl, rfl⟩
      go_wp2_with fail
      go_ret
      exact ⟨rfl, rfl⟩
    · have e1 : cmpI x y = 0 := by simp [cmpI, h1, h2]
      rw [e1]
      clear e1
      have h3 : ¬ x > y := h2
      go_enter Try.func101, Try.ntmps101
      go_wp2_with fail
      refine (isNaN_byte _ _).mono ?_
      rintro e' w2 ⟨rfl, rfl⟩
      go_wp2_with fail
      refine (isNaN_byte _ _).mono ?_
      rintro e' w2 ⟨rfl, rfl⟩
      go_wp2_with fail
      go_ret
      exact ⟨rfl, rfl⟩

end Go.Proofs.Ytphkchjejbffeaa

/- cmp.Or over three ints. -/
namespace Go.Proofs.Ytphkchjejbffeaa
open Go.Shelf Go.RowKit Go.Lib Go.Sort
attribute [local go_sem ↓] Go.wp_at_zero Go.wp_at_succ

/-- The first that is not 0. -/
def or3 (x y z : Int) : Int := if x = 0 then (if y = 0 then z else y) else x

set_option maxHeartbeats 2000000 in
theorem or_int (b : Nat) (x y z : Int) (w : World) (h0 : w.cell? ⟨b, 0, none⟩ = some (.int .i64 x)) (h1 : w.cell? ⟨b, 1, none⟩ = some (.int .i64 y)) (h2 : w.cell? ⟨b, 2, none⟩ = some (.int .i64 z)) :
    Calls Try.prog 100 #[.slice (some ⟨b, 0, none⟩) 3 3] w fun e w' => e = .returned (.int .i64 (or3 x y z)) ∧ w' = w := by
  go_enter Try.func100, Try.ntmps100
  go_wp2_with fail
  go_loopw [8] (fun vi wr => ∃ i : Nat, vi = .int .i64 i ∧ i ≤ 3 ∧ Hid ((0 < i → x = 0) ∧ (1 < i → y = 0) ∧ (2 < i → z = 0)) ∧ wr = w) (fun vi _ => 3 - (intOf vi).toNat)
  case atStart => exact ⟨0, rfl, by omega, ⟨by omega, by omega, by omega⟩, rfl⟩
  case round =>
    obtain ⟨i, rfl, hi, HZ, rfl⟩ := hrel
    match i, hi, HZ with
    | 0, _, HZ =>
      by_cases hx : x = 0
      · have hxb : (x != 0) = false := by simp [hx]
        have HX := Hid.mk hx
        clear hx
        go_wp2
        exact ⟨⟨1, by first | rfl | go_num, by omega, ⟨fun _ => HX.out, by omega, by omega⟩, by first | trivial | rfl⟩, by simp [intOf]⟩
      · have hxb : (x != 0) = true := by simp [hx]
        go_wp2
        go_ret
        exact ⟨by simp [or3, hx], rfl⟩
    | 1, _, HZ =>
      by_cases hy : y = 0
      · have hyb : (y != 0) = false := by simp [hy]
        have HY := Hid.mk hy
        clear hy
        go_wp2
        exact ⟨⟨2, by first | rfl | go_num, by omega, ⟨fun _ => HZ.out.1 (by omega), fun _ => HY.out, by omega⟩, by first | trivial | rfl⟩, by simp [intOf]⟩
      · have hyb : (y != 0) = true := by simp [hy]
        go_wp2
        go_ret
        exact ⟨by simp [or3, hy, HZ.out.1 (by omega)], rfl⟩
    | 2, _, HZ =>
      by_cases hz : z = 0
      · have hzb : (z != 0) = false := by simp [hz]
        have HY := Hid.mk hz
        clear hz
        go_wp2
        exact ⟨⟨3, by first | rfl | go_num, by omega, ⟨fun _ => HZ.out.1 (by omega), fun _ => HZ.out.2.1 (by omega), fun _ => HY.out⟩, by first | trivial | rfl⟩, by simp [intOf]⟩
      · have hzb : (z != 0) = true := by simp [hz]
        go_wp2
        go_ret
        exact ⟨by simp [or3, HZ.out.1 (by omega), HZ.out.2.1 (by omega)], rfl⟩
    | 3, _, HZ =>
      go_wp2
      go_ret
      exact ⟨by simp [or3, HZ.out.1 (by omega), HZ.out.2.1 (by omega), HZ.out.2.2 (by omega)], rfl⟩
    | i + 4, hi, _ => omega

end Go.Proofs.Ytphkchjejbffeaa

/- byBook. -/
namespace Go.Proofs.Ytphkchjejbffeaa
open Go.Shelf Go.RowKit Go.Lib Go.Sort
attribute [local go_sem ↓] Go.wp_at_zero Go.wp_at_succ

/-- By stocks, to buy ahead of to sell, the better prices first. -/
def byB (x y : Ord) : Int := or3 (cmpI x.stock y.stock) (cmpI x.side.toNat y.side.toNat) (if x.side = 66 then - cmpI x.price y.price else cmpI x.price y.price)

theorem new_cell (w : World) (cs : Array Value) (t : TypeId) (i : Nat) (v : Value) (h : cs[i]? = some v) : (w.alloc (.cells cs t)).cell? ⟨w.heap.size, i, none⟩ = some v := by
  have hb : (w.alloc (.cells cs t)).heap[w.heap.size]? = some (.cells cs t) := by
    show (w.heap.push (.cells cs t))[w.heap.size]? = _
    exact Array.getElem?_push_size
  exact (cell_of_row _ _ i _ _ (0, 0) hb).trans h
theorem new_two (w : World) (c1 c2 : Array Value) (t1 t2 : TypeId) (i : Nat) (v : Value) :
    (c1[i]? = some v → ((w.alloc (.cells c1 t1)).alloc (.cells c2 t2)).cell? ⟨w.heap.size, i, none⟩ = some v) ∧ (c2[i]? = some v → ((w.alloc (.cells c1 t1)).alloc (.cells c2 t2)).cell? ⟨w.heap.size + 1, i, none⟩ = some v) := by
  refine ⟨fun h => ?_, fun h => ?_⟩
  · have := new_cell w c1 t1 i v h
    rw [World.cell?_alloc_some _ _ _ (by rw [this]; rfl)]
    exact this
  · have := new_cell (w.alloc (.cells c1 t1)) c2 t2 i v h
    rwa [show (w.alloc (.cells c1 t1)).heap.size = w.heap.size + 1 from Array.size_push _] at this
theorem grown3 {w W : World} (h : ∃ os, W = grow w os) (o : Obj) : ∃ q os', (W.alloc o).drew = grow (w.drewN q) os' := by
  obtain ⟨os, rfl⟩ := h
  exact ⟨1, os ++ #[o], by rw [alloc_eq_grow, grow_grow]; rfl⟩
theorem cmpI_range (x y : Int) : -1 ≤ cmpI x y ∧ cmpI x y ≤ 1 := by unfold cmpI; split <;> (try split) <;> omega

set_option maxRecDepth 100000 in
set_option maxHeartbeats 4000000 in
theorem byBook_any (x y : Ord) (w : World) : Calls Try.prog 66 #[.agg x.cells.toArray, .agg y.cells.toArray] w fun e w' => e = .returned (.int .i64 (byB x y)) ∧ ∃ q os', w' = grow (w.drewN q) os' := by
  have hn : wrap64 (- cmpI x.price y.price) = - cmpI x.price y.price := by
    have := cmpI_range x.price y.price
    first | (show IntKind.i64.wrap _ = _; rw [IntKind.wrap_i64]; omega) | (unfold wrap64; omega)
  unfold Ord.cells
  go_enter Try.func66, Try.ntmps66
  go_wp2_with fail
  refine (compare_int _ _ _).mono ?_
  rintro e' w2 ⟨rfl, rfl⟩
  by_cases hs : x.side = 66
  · have hsb : ((x.side.toNat : Int) == 66) = true := by simp [hs]
    have HS := Hid.mk hs
    clear hs
    go_wp2_with fail
    generalize hW : (w.alloc _).alloc _ = W
    have c2 : W.cell? ⟨w.heap.size, 2, none⟩ = some (.int .u8 x.side.toNat) := by rw [← hW]; exact (new_two _ _ _ _ _ _ _).1 rfl
    have c3 : W.cell? ⟨w.heap.size, 3, none⟩ = some (.int .i64 x.stock) := by rw [← hW]; exact (new_two _ _ _ _ _ _ _).1 rfl
    have d2 : W.cell? ⟨w.heap.size + 1, 2, none⟩ = some (.int .u8 y.side.toNat) := by rw [← hW]; exact (new_two _ _ _ _ _ _ _).2 rfl
    have d3 : W.cell? ⟨w.heap.size + 1, 3, none⟩ = some (.int .i64 y.stock) := by rw [← hW]; exact (new_two _ _ _ _ _ _ _).2 rfl
    have HG : Hid (∃ os, W = grow w os) := Hid.mk ⟨_, by rw [← hW, alloc_eq_grow, alloc_eq_grow, grow_grow]⟩
    clear hW
    go_region_held3 (fun w' => w'.cell? ⟨w.heap.size, 2, none⟩ = some (.int .u8 x.side.toNat) ∧ w'.cell? ⟨w.heap.size, 3, none⟩ = some (.int .i64 x.stock) ∧ w'.cell? ⟨w.heap.size + 1, 2, none⟩ = some (.int .u8 y.side.toNat) ∧ w'.cell? ⟨w.heap.size + 1, 3, none⟩ = some (.int .i64 y.stock)) (first | go_keep)
      (first
        | (go_at_call 99; refine (compare_int _ _ _).mono ?_; rintro e1 w3 ⟨rfl, rfl⟩)
        | (go_at_call 101; refine (compare_byte _ _ _).mono ?_; rintro e2 w4 ⟨rfl, rfl⟩)
        | (go_at_call 100; refine (or_int W.heap.size _ _ _ _ (by exact new_cell W _ _ 0 _ rfl) (by exact new_cell W _ _ 1 _ rfl) (by exact new_cell W _ _ 2 _ rfl)).mono ?_; rintro e3 w5 ⟨rfl, rfl⟩))
    go_wp2
    go_ret
    refine ⟨?_, grown3 HG.out _⟩
    have hv : byB x y = or3 (cmpI x.stock y.stock) (cmpI x.side.toNat y.side.toNat) (- cmpI x.price y.price) := by
      unfold byB
      rw [if_pos HS.out]
    rw [hv]
    first | rfl | (rw [← hn]; rfl)
  · have hsb : ((x.side.toNat : Int) == 66) = false := by rw [beq_eq_false_iff_ne]; intro h; exact hs (UInt8.toNat_inj.1 (show x.side.toNat = 66 by omega))
    have HS := Hid.mk hs
    clear hs
    go_wp2_with fail
    generalize hW : (w.alloc _).alloc _ = W
    have c2 : W.cell? ⟨w.heap.size, 2, none⟩ = some (.int .u8 x.side.toNat) := by rw [← hW]; exact (new_two _ _ _ _ _ _ _).1 rfl
    have c3 : W.cell? ⟨w.heap.size, 3, none⟩ = some (.int .i64 x.stock) := by rw [← hW]; exact (new_two _ _ _ _ _ _ _).1 rfl
    have d2 : W.cell? ⟨w.heap.size + 1, 2, none⟩ = some (.int .u8 y.side.toNat) := by rw [← hW]; exact (new_two _ _ _ _ _ _ _).2 rfl
    have d3 : W.cell? ⟨w.heap.size + 1, 3, none⟩ = some (.int .i64 y.stock) := by rw [← hW]; exact (new_two _ _ _ _ _ _ _).2 rfl
    have HG : Hid (∃ os, W = grow w os) := Hid.mk ⟨_, by rw [← hW, alloc_eq_grow, alloc_eq_grow, grow_grow]⟩
    clear hW
    go_region_held3 (fun w' => w'.cell? ⟨w.heap.size, 2, none⟩ = some (.int .u8 x.side.toNat) ∧ w'.cell? ⟨w.heap.size, 3, none⟩ = some (.int .i64 x.stock) ∧ w'.cell? ⟨w.heap.size + 1, 2, none⟩ = some (.int .u8 y.side.toNat) ∧ w'.cell? ⟨w.heap.size + 1, 3, none⟩ = some (.int .i64 y.stock)) (first | go_keep)
      (first
        | (go_at_call 99; refine (compare_int _ _ _).mono ?_; rintro e1 w3 ⟨rfl, rfl⟩)
        | (go_at_call 101; refine (compare_byte _ _ _).mono ?_; rintro e2 w4 ⟨rfl, rfl⟩)
        | (go_at_call 100; refine (or_int W.heap.size _ _ _ _ (by exact new_cell W _ _ 0 _ rfl) (by exact new_cell W _ _ 1 _ rfl) (by exact new_cell W _ _ 2 _ rfl)).mono ?_; rintro e3 w5 ⟨rfl, rfl⟩))
    go_wp2
    go_ret
    refine ⟨?_, grown3 HG.out _⟩
    have hv : byB x y = or3 (cmpI x.stock y.stock) (cmpI x.side.toNat y.side.toNat) (cmpI x.price y.price) := by
      unfold byB
      rw [if_neg HS.out]
    rw [hv]
    first | rfl | (rw [← hn]; rfl)

theorem byBook_lays (g len : Nat) (w0 : World) : CmpLays Try.prog 66 #[] Ord.cells 6 byB g 0 len w0 := fun _ _ _ _ x y => byBook_any x y _

end Go.Proofs.Ytphkchjejbffeaa

/- The order of byBook is one. -/
namespace Go.Proofs.Ytphkchjejbffeaa
open Go.Shelf Go.RowKit Go.Lib Go.Sort

theorem byB_lt (x y : Ord) : ltc byB x y = true ↔ x.stock < y.stock ∨ (x.stock = y.stock ∧ (x.side.toNat < y.side.toNat ∨ (x.side.toNat = y.side.toNat ∧ ((x.side.toNat = 66 ∧ y.price < x.price) ∨ (x.side.toNat ≠ 66 ∧ x.price < y.price))))) := by
  have h66 : x.side = 66 ↔ x.side.toNat = 66 := ⟨fun h => by rw [h]; rfl, fun h => UInt8.toNat_inj.1 h⟩
  unfold ltc byB or3 cmpI
  simp only [decide_eq_true_eq]
  by_cases hs : x.side = 66
  · have h := h66.1 hs
    rw [if_pos hs]
    repeat' split
    all_goals omega
  · have h : ¬ x.side.toNat = 66 := fun h => hs (h66.2 h)
    rw [if_neg hs]
    repeat' split
    all_goals omega
theorem byB_swo : Swo (ltc byB) := by
  have e : ∀ x y, ltc byB x y = false ↔ ¬ ltc byB x y = true := fun x y => by cases ltc byB x y <;> simp
  refine ⟨fun x => ?_, fun x y z => ?_, fun x y z => ?_⟩
  · rw [e, byB_lt]; omega
  · rw [byB_lt, byB_lt, byB_lt]; omega
  · rw [byB_lt, byB_lt, byB_lt]; omega

end Go.Proofs.Ytphkchjejbffeaa

/- The books that are built, sorted, are the books that there are: plain. -/
namespace Go.Proofs.Ytphkchjejbffeaa
open Go.Shelf Go.RowKit Go.Lib Go.Sort

theorem eqv_byB (c x : Ord) : eqv (ltc byB) c x = true ↔ x.stock = c.stock ∧ x.side = c.side ∧ x.price = c.price := by
  have e : ∀ x y, ltc byB x y = false ↔ ¬ ltc byB x y = true := fun x y => by cases ltc byB x y <;> simp
  have hs : x.side = c.side ↔ x.side.toNat = c.side.toNat := ⟨fun h => by rw [h], fun h => UInt8.toNat_inj.1 h⟩
  unfold eqv
  rw [Bool.and_eq_true, Bool.not_eq_true', Bool.not_eq_true', e, e, byB_lt, byB_lt, hs]
  omega

theorem map_all (st : St) : st.all.map tok0 = (allCo st.stocks st.levels).flatMap fun c => (st.get c).map tok0 := by
  rw [all_eq, List.map_flatMap]

theorem cls_all {st : St} (hi : Inv st) {L : List Ord} {R : Nat} (h : Tq st.q R L) : Cls (ltc byB) (L.filter alive) (st.all.map tok0) := by
  intro c
  have e1 : (L.filter alive).filter (eqv (ltc byB) c) = L.filter (inK c.stock c.side c.price) := by
    rw [List.filter_filter]
    congr 1
    funext x
    have := eqv_byB c x
    cases hx : eqv (ltc byB) c x with
    | true =>
      have h2 := this.1 hx
      unfold inK alive
      simp [h2.1, h2.2.1, h2.2.2]
    | false =>
      cases hk : inK c.stock c.side c.price x with
      | false => simp
      | true =>
        have h2 := (inK_iff _ _ _ _).1 hk
        rw [this.2 h2.2] at hx
        cases hx
  rw [e1, h.cls, map_all]
  have hz : ∀ co : Co, co ≠ (c.stock, c.side, c.price) → ((st.get co).map tok0).filter (eqv (ltc byB) c) = [] := by
    intro co hne
    rw [List.filter_eq_nil_iff]
    intro x hx he
    obtain ⟨y, hy, rfl⟩ := List.mem_map.1 hx
    have hf := hi.ord _ _ _ y hy
    have h2 := (eqv_byB c (tok0 y)).1 he
    refine hne ?_
    obtain ⟨a, b, d⟩ := co
    have q1 : y.stock = c.stock := h2.1
    have q2 : y.side = c.side := h2.2.1
    have q3 : y.price = c.price := h2.2.2
    rw [← q1, ← q2, ← q3]
    exact Prod.ext hf.stock.symm (Prod.ext hf.side.symm hf.price.symm)
  have hsame : ((st.q c.stock c.side c.price).map tok0).filter (eqv (ltc byB) c) = (st.q c.stock c.side c.price).map tok0 := by
    rw [List.filter_eq_self]
    intro x hx
    obtain ⟨y, hy, rfl⟩ := List.mem_map.1 hx
    have hf := hi.ord _ _ _ y hy
    exact (eqv_byB c (tok0 y)).2 ⟨hf.stock, hf.side, hf.price⟩
  have hfl : ∀ l : List Co, (c.stock, c.side, c.price) ∉ l → (l.flatMap fun c => (st.get c).map tok0).filter (eqv (ltc byB) c) = [] := by
    intro l
    induction l with
    | nil => intro _; rfl
    | cons x l ih =>
      intro hn
      rw [List.flatMap_cons, List.filter_append, hz x (fun e => hn (by rw [e]; simp)), ih (fun e => hn (by simp [e]))]
      rfl
  by_cases hm : (c.stock, c.side, c.price) ∈ allCo st.stocks st.levels
  · obtain ⟨l1, l2, e, n1, n2⟩ := split_mem _ _ (nodup_allCo _ _) hm
    rw [e, List.flatMap_append, List.flatMap_cons, List.filter_append, List.filter_append, hfl l1 n1, hfl l2 n2]
    show _ = [] ++ (((st.q c.stock c.side c.price).map tok0).filter (eqv (ltc byB) c) ++ [])
    rw [hsame]
    simp
  · rw [hfl _ hm]
    cases hq : st.q c.stock c.side c.price with
    | nil => rfl
    | cons x l =>
      have hv := hi.ok c.stock c.side c.price (by rw [hq]; simp)
      exact absurd ((mem_allCo st.stocks st.levels (c.stock, c.side, c.price)).2 hv) hm

/-- No place stands ahead of one that is better. -/
def coLe (a b : Co) : Prop := a.1 < b.1 ∨ (a.1 = b.1 ∧ (a.2.1.toNat < b.2.1.toNat ∨ (a.2.1.toNat = b.2.1.toNat ∧ ((a.2.1.toNat = 66 ∧ b.2.2 ≤ a.2.2) ∨ (a.2.1.toNat ≠ 66 ∧ a.2.2 ≤ b.2.2)))))

theorem range_pw (n : Nat) {β : Type} (f : Nat → β) (P : β → β → Prop) (h : ∀ i j, i < j → j < n → P (f i) (f j)) : ((List.range n).map f).Pairwise P := by
  rw [List.pairwise_map, List.pairwise_iff_getElem]
  intro i j hi hj hij
  simp at hi hj
  simp
  exact h i j hij hj
theorem co_book (n s : Nat) : (bookCo n s).Pairwise coLe := by
  unfold bookCo
  rw [List.pairwise_append]
  refine ⟨range_pw n _ _ fun i j h1 h2 => ?_, range_pw n _ _ fun i j h1 h2 => ?_, ?_⟩
  · exact .inr ⟨rfl, .inr ⟨rfl, .inl ⟨rfl, by show n - j ≤ n - i; omega⟩⟩⟩
  · exact .inr ⟨rfl, .inr ⟨rfl, .inr ⟨by show (83 : UInt8).toNat ≠ 66; decide, by show i + 1 ≤ j + 1; omega⟩⟩⟩
  · intro a ha b hb
    simp only [bidCo, askCo, List.mem_map] at ha hb
    obtain ⟨r, _, rfl⟩ := ha
    obtain ⟨t, _, rfl⟩ := hb
    exact .inr ⟨rfl, .inl (by show (66 : UInt8).toNat < (83 : UInt8).toNat; decide)⟩
theorem co_all (m n : Nat) : (allCo m n).Pairwise coLe := by
  induction m with
  | zero => simp [allCo]
  | succ m ih =>
    have : allCo (m + 1) n = allCo m n ++ bookCo n m := by simp [allCo, List.range_succ]
    rw [this, List.pairwise_append]
    refine ⟨ih, co_book n m, ?_⟩
    intro a ha b hb
    have h1 := (mem_allCo m n a).1 ha
    have h2 := (mem_bookCo n m b).1 hb
    exact .inl (by omega)

theorem srt_all {st : St} (hi : Inv st) : Srt (ltc byB) (st.all.map tok0) := by
  rw [map_all]
  unfold Srt
  have e : ∀ x y, ltc byB x y = false ↔ ¬ ltc byB x y = true := fun x y => by cases ltc byB x y <;> simp
  rw [List.pairwise_flatMap]
  refine ⟨?_, (co_all _ _).imp ?_⟩
  · intro c hc
    rw [List.pairwise_map]
    refine List.pairwise_iff_forall_sublist.2 ?_
    intro a b hab
    have ha : a ∈ st.get c := hab.subset (by simp)
    have hb : b ∈ st.get c := hab.subset (by simp)
    have fa := hi.ord _ _ _ a ha
    have fb := hi.ord _ _ _ b hb
    rw [e, byB_lt]
    have q1 : (tok0 a).stock = (tok0 b).stock := fa.stock.trans fb.stock.symm
    have q2 : (tok0 a).side = (tok0 b).side := fa.side.trans fb.side.symm
    have q3 : (tok0 a).price = (tok0 b).price := fa.price.trans fb.price.symm
    rw [q1, q2, q3]
    omega
  · intro c c' hcc x hx y hy
    obtain ⟨a, ha, rfl⟩ := List.mem_map.1 hx
    obtain ⟨b, hb, rfl⟩ := List.mem_map.1 hy
    have fa := hi.ord _ _ _ a ha
    have fb := hi.ord _ _ _ b hb
    have q1 : (tok0 a).stock = c.1 := fa.stock
    have q2 : (tok0 a).side = c.2.1 := fa.side
    have q3 : (tok0 a).price = c.2.2 := fa.price
    have r1 : (tok0 b).stock = c'.1 := fb.stock
    have r2 : (tok0 b).side = c'.2.1 := fb.side
    have r3 : (tok0 b).price = c'.2.2 := fb.price
    rw [e, byB_lt, q1, q2, q3, r1, r2, r3]
    unfold coLe at hcc
    omega

/-- The list that is built out of the tape, sorted as Build does it, is what rests. -/
theorem built_all {st : St} (hi : Inv st) {L C : List Ord} {R : Nat} (h : Tq st.q R L) (hs : Srt (ltc byB) C) (hc : Cls (ltc byB) (L.filter alive) C) : C = st.all.map tok0 :=
  cls_unique byB_swo _ _ hs (srt_all hi) (hc.symm.trans (cls_all hi h))

end Go.Proofs.Ytphkchjejbffeaa

/- The document's own Build, as plain functions of a sorted list; and that it does what Build does. -/
namespace Go.Proofs.Ytphkchjejbffeaa
open Go.Shelf Go.RowKit Go.Lib Go.Sort

/-- Does x stand ahead of an order that came later? -/
def aheadO (x o : Ord) : Bool := !ltc byB o x
def insO (o : Ord) : List Ord → List Ord
  | [] => [o]
  | x :: l => if aheadO x o then x :: insO o l else o :: x :: l
def rfind (S : List Ord) (t : Nat) : Option Nat := S.findIdx? (fun o => o.ref == t)
def rGone (S : List Ord) (i : Option Nat) (n : Nat) (all : Bool) : Option (List Ord) :=
  match i with
  | none => none
  | some i => match S[i]? with
    | none => none
    | some o => if n = 0 ∨ o.shares < n ∨ (n = o.shares ∧ all = false) then none else if n = o.shares then some (S.eraseIdx i) else some (S.set i { o with shares := o.shares - n })
def rOther (S : List Ord) (i : Option Nat) (f : List UInt8) : Option (List Ord) :=
  match i with
  | none => none
  | some i => match S[i]? with
    | none => none
    | some o => if at_ f 8 2 = 0 ∨ ((rfind S (at_ f 4 4)).isSome ∧ rfind S (at_ f 4 4) ≠ some i) then none
      else if at_ f 10 2 = o.price ∧ at_ f 8 2 ≤ o.shares then some (S.set i (fNew o f)) else some (insO (fNew o f) (S.eraseIdx i))
def rTaped (S : List Ord) (c : UInt8) (f : List UInt8) : Option (List Ord) :=
  if c = 97 then (if (rfind S (at_ f 0 4)).isSome ∨ ¬ (byteAt f 4 = 66 ∨ byteAt f 4 = 83) ∨ at_ f 6 2 = 0 then none else some (insO (fOrd f) S))
  else if c = 101 then rGone S (rfind S (at_ f 0 4)) (at_ f 4 2) true
  else if c = 120 then rGone S (rfind S (at_ f 0 4)) (at_ f 4 2) false
  else if c = 117 then rOther S (rfind S (at_ f 0 4)) f
  else (rfind S (at_ f 0 4)).map fun i => S.eraseIdx i
def rb : Nat → List Ord → List UInt8 → Option (List Ord) × List UInt8
  | 0, S, b => (some S, b)
  | k + 1, S, b =>
    if b = [] then (some S, []) else
    if tSize (byteAt b 0) = 0 ∨ b.length < tSize (byteAt b 0) then (none, b) else
    match rTaped S (byteAt b 0) ((b.take (tSize (byteAt b 0))).drop 7) with
    | none => (none, b)
    | some S' => rb k S' (b.drop (tSize (byteAt b 0)))

instance : DecidableEq Ord := fun a b => decidable_of_iff (a.ref = b.ref ∧ a.token = b.token ∧ a.side = b.side ∧ a.stock = b.stock ∧ a.price = b.price ∧ a.shares = b.shares) (by cases a; cases b; simp)

theorem Cls.perm {lt : Ord → Ord → Bool} (hw : Swo lt) {L R : List Ord} (h : Cls lt L R) : L.Perm R := by
  rw [List.perm_iff_count]
  intro a
  have he : eqv lt a a = true := by simp [eqv, hw.irr]
  rw [← List.count_filter (p := eqv lt a) (l := L) he, ← List.count_filter (p := eqv lt a) (l := R) he, h a]

/-- The two lists stand for the same books. -/
structure Sm (L S : List Ord) : Prop where
  srt : Srt (ltc byB) S
  cls : Cls (ltc byB) (L.filter alive) S
  nd : (S.map (·.ref)).Nodup

theorem Sm.perm {L S : List Ord} (h : Sm L S) : (L.filter alive).Perm S := h.cls.perm byB_swo
theorem Sm.live {L S : List Ord} (h : Sm L S) {o : Ord} (ho : o ∈ S) : o ∈ L ∧ o.shares ≠ 0 := by
  have := h.perm.mem_iff.2 ho
  rw [List.mem_filter] at this
  exact ⟨this.1, by simpa [alive] using this.2⟩
theorem Sm.mem {L S : List Ord} (h : Sm L S) {o : Ord} (ho : o ∈ L) (h0 : o.shares ≠ 0) : o ∈ S := h.perm.mem_iff.1 (List.mem_filter.2 ⟨ho, by simp [alive, h0]⟩)
theorem Sm.uq {L S : List Ord} (h : Sm L S) : ((L.filter alive).map (·.ref)).Nodup := (h.perm.map (·.ref)).nodup_iff.2 h.nd

theorem rfind_none {S : List Ord} {t : Nat} (h : rfind S t = none) : ∀ o ∈ S, o.ref ≠ t := by
  intro o ho
  have := List.findIdx?_eq_none_iff.1 h o ho
  simpa using this
theorem rfind_some {S : List Ord} {t i : Nat} (h : rfind S t = some i) : ∃ o, S[i]? = some o ∧ o.ref = t ∧ ∃ S1 S2, S = S1 ++ o :: S2 ∧ S1.length = i := by
  obtain ⟨hi, hp, -⟩ := List.findIdx?_eq_some_iff_getElem.1 h
  refine ⟨S[i], List.getElem?_eq_getElem hi, by simpa using hp, S.take i, S.drop (i + 1), ?_, by rw [List.length_take]; omega⟩
  rw [← List.drop_eq_getElem_cons hi, List.take_append_drop]

/-- Where an order stands in both lists. -/
theorem Sm.find {L S : List Ord} (h : Sm L S) (t : Nat) : (rfind S t = none ∧ liv L t = none) ∨ ∃ i o S1 S2 A B, rfind S t = some i ∧ S[i]? = some o ∧ S = S1 ++ o :: S2 ∧ S1.length = i ∧ L = A ++ o :: B ∧ liv L t = some o ∧ o.ref = t ∧ o.shares ≠ 0 ∧ (∀ x ∈ A, isR t x = false) ∧ (∀ x ∈ B, isR t x = false) ∧ (∀ x ∈ S1, x.ref ≠ t) ∧ (∀ x ∈ S2, x.ref ≠ t) := by
  cases hf : rfind S t with
  | none =>
    left
    refine ⟨rfl, ?_⟩
    cases hl : liv L t with
    | none => rfl
    | some o =>
      have hr := (isR_iff _ _).1 (List.find?_some hl)
      exact absurd hr.1 (rfind_none hf o (h.mem (List.mem_of_find?_eq_some hl) hr.2))
  | some i =>
    right
    obtain ⟨o, h1, h2, S1, S2, h3, h4⟩ := rfind_some hf
    have hoS : o ∈ S := List.mem_of_getElem? h1
    obtain ⟨hoL, h0⟩ := h.live hoS
    obtain ⟨A, B, rfl⟩ := List.append_of_mem hoL
    have hal : alive o = true := by simp [alive, h0]
    have hu := h.uq
    rw [List.filter_append, List.filter_cons_of_pos hal, List.map_append, List.map_cons, List.nodup_append] at hu
    obtain ⟨u1, u2, u3⟩ := hu
    rw [List.nodup_cons] at u2
    have hA : ∀ x ∈ A, isR t x = false := by
      intro x hx
      cases hr : isR t x with
      | false => rfl
      | true =>
        rw [isR_iff] at hr
        have m1 : x.ref ∈ (A.filter alive).map (·.ref) := List.mem_map.2 ⟨x, List.mem_filter.2 ⟨hx, by simp [alive, hr.2]⟩, rfl⟩
        exact absurd (hr.1.trans h2.symm) (u3 _ m1 o.ref (by simp))
    have hB : ∀ x ∈ B, isR t x = false := by
      intro x hx
      cases hr : isR t x with
      | false => rfl
      | true =>
        rw [isR_iff] at hr
        have m1 : x.ref ∈ (B.filter alive).map (·.ref) := List.mem_map.2 ⟨x, List.mem_filter.2 ⟨hx, by simp [alive, hr.2]⟩, rfl⟩
        rw [hr.1, ← h2] at m1
        exact absurd m1 u2.1
    have hn := h.nd
    rw [h3, List.map_append, List.map_cons, List.nodup_append, List.nodup_cons] at hn
    refine ⟨i, o, S1, S2, A, B, rfl, h1, h3, h4, rfl, liv_at hA ((isR_iff _ _).2 ⟨h2, h0⟩), h2, h0, hA, hB, ?_, ?_⟩
    · intro x hx e
      exact hn.2.2 x.ref (List.mem_map.2 ⟨x, hx, rfl⟩) o.ref (by simp) (e.trans h2.symm)
    · intro x hx e
      exact hn.2.1.1 (List.mem_map.2 ⟨x, hx, e.trans h2.symm⟩)

/-- The same place in the order of books. -/
def sameP (x o : Ord) : Prop := x.stock = o.stock ∧ x.side = o.side ∧ x.price = o.price
theorem same_eqv {x o : Ord} (h : sameP x o) (c : Ord) : eqv (ltc byB) c x = eqv (ltc byB) c o := by
  have h1 := eqv_byB c x
  have h2 := eqv_byB c o
  rw [h.1, h.2.1, h.2.2] at h1
  cases ha : eqv (ltc byB) c x <;> cases hb : eqv (ltc byB) c o <;> simp_all
theorem same_lt {x o : Ord} (h : sameP x o) (c : Ord) : ltc byB c x = ltc byB c o ∧ ltc byB x c = ltc byB o c := by
  have e1 := byB_lt c x
  have e2 := byB_lt c o
  have e3 := byB_lt x c
  have e4 := byB_lt o c
  rw [h.1, h.2.1, h.2.2] at e1 e3
  exact ⟨Bool.eq_iff_iff.2 (e1.trans e2.symm), Bool.eq_iff_iff.2 (e3.trans e4.symm)⟩

/-- An order is others of the same place, or none. -/
theorem Sm.turn {A B S1 S2 : List Ord} {o : Ord} (h : Sm (A ++ o :: B) (S1 ++ o :: S2)) (h0 : o.shares ≠ 0) (hA : ∀ x ∈ A, isR o.ref x = false) (hS : ∀ x ∈ S1, x.ref ≠ o.ref) (y : Ord) (hy : sameP y o) (hr : y.shares = 0 ∨ ∀ x ∈ S1 ++ S2, x.ref ≠ y.ref) :
    Sm (A ++ y :: B) (S1 ++ (liveO y ++ S2)) := by
  have hal : alive o = true := by simp [alive, h0]
  have hfy : (A ++ y :: B).filter alive = A.filter alive ++ (liveO y ++ B.filter alive) := by
    rw [List.filter_append]
    congr 1
    by_cases e : y.shares = 0
    · rw [List.filter_cons_of_neg (by simp [alive, e]), liveO, if_pos e]; rfl
    · rw [List.filter_cons_of_pos (by simp [alive, e]), liveO, if_neg e]; rfl
  have hfo : (A ++ o :: B).filter alive = A.filter alive ++ o :: B.filter alive := by rw [List.filter_append, List.filter_cons_of_pos hal]
  have hlv : ∀ c, (liveO y).filter (eqv (ltc byB) c) = if eqv (ltc byB) c o then liveO y else [] := by
    intro c
    unfold liveO
    split
    · simp
    · rw [List.filter_cons, same_eqv hy c]
      simp
  have hnA : o ∉ A := fun hm => by
    have := hA o hm
    rw [(isR_iff _ _).2 ⟨rfl, h0⟩] at this
    cases this
  have hnS : o ∉ S1 := fun hm => hS o hm rfl
  refine ⟨?_, ?_, ?_⟩
  · have hs := h.srt
    unfold Srt at hs ⊢
    rw [List.pairwise_append, List.pairwise_cons] at hs
    obtain ⟨s1, ⟨s2, s3⟩, s4⟩ := hs
    by_cases e : y.shares = 0
    · rw [liveO, if_pos e, List.nil_append, List.pairwise_append]
      exact ⟨s1, s3, fun a ha b hb => s4 a ha b (by simp [hb])⟩
    · rw [liveO, if_neg e, List.singleton_append, List.pairwise_append, List.pairwise_cons]
      refine ⟨s1, ⟨fun b hb => ?_, s3⟩, fun a ha b hb => ?_⟩
      · rw [(same_lt hy b).1]; exact s2 b hb
      · rcases List.mem_cons.1 hb with rfl | hb
        · rw [(same_lt hy a).2]; exact s4 a ha o (by simp)
        · exact s4 a ha b (by simp [hb])
  · intro c
    have hc := h.cls c
    rw [hfo, List.filter_append, List.filter_append, List.filter_cons, List.filter_cons] at hc
    rw [hfy, List.filter_append, List.filter_append, List.filter_append, List.filter_append, hlv c]
    by_cases e : eqv (ltc byB) c o = true
    · rw [if_pos e, if_pos e] at hc
      obtain ⟨e1, e2⟩ := split_one o _ _ _ _ hc (fun hm => hnA (List.mem_filter.1 (List.mem_filter.1 hm).1).1) (fun hm => hnS (List.mem_filter.1 hm).1)
      rw [e1, e2]
    · rw [if_neg e, if_neg e] at hc
      rw [if_neg e, List.nil_append, List.nil_append, hc]
  · have hn := h.nd
    rw [List.map_append, List.map_cons, List.nodup_append, List.nodup_cons] at hn
    obtain ⟨n1, ⟨n2, n3⟩, n4⟩ := hn
    by_cases e : y.shares = 0
    · rw [liveO, if_pos e, List.nil_append, List.map_append, List.nodup_append]
      exact ⟨n1, n3, fun a ha b hb => n4 a ha b (by simp [hb])⟩
    · have hr' : ∀ x ∈ S1 ++ S2, x.ref ≠ y.ref := hr.resolve_left e
      rw [liveO, if_neg e, List.singleton_append, List.map_append, List.map_cons, List.nodup_append, List.nodup_cons]
      refine ⟨n1, ⟨fun hm => ?_, n3⟩, fun a ha b hb => ?_⟩
      · obtain ⟨x, hx, ex⟩ := List.mem_map.1 hm
        exact hr' x (by simp [hx]) ex
      · rcases List.mem_cons.1 hb with rfl | hb
        · obtain ⟨x, hx, ex⟩ := List.mem_map.1 ha
          rw [← ex]
          exact hr' x (by simp [hx])
        · exact n4 a ha b (by simp [hb])

theorem ins_split (o : Ord) (S : List Ord) (hs : Srt (ltc byB) S) : ∃ P Q, S = P ++ Q ∧ insO o S = P ++ o :: Q ∧ (∀ x ∈ P, ltc byB o x = false) ∧ (∀ x ∈ Q, ltc byB o x = true) := by
  induction S with
  | nil => exact ⟨[], [], rfl, rfl, fun x hx => (by cases hx), fun x hx => (by cases hx)⟩
  | cons x S ih =>
    unfold Srt at hs
    rw [List.pairwise_cons] at hs
    unfold insO
    by_cases hx : ltc byB o x = true
    · rw [if_neg (by simp [aheadO, hx])]
      refine ⟨[], x :: S, rfl, rfl, fun y hy => (by cases hy), ?_⟩
      intro y hy
      rcases List.mem_cons.1 hy with rfl | hy
      · exact hx
      · exact byB_swo.lt_le hx (hs.1 y hy)
    · have hx' : ltc byB o x = false := by simpa using hx
      rw [if_pos (by simp [aheadO, hx'])]
      obtain ⟨P, Q, e1, e2, e3, e4⟩ := ih hs.2
      refine ⟨x :: P, Q, by rw [e1]; rfl, by rw [e2]; rfl, ?_, e4⟩
      intro y hy
      rcases List.mem_cons.1 hy with rfl | hy
      · exact hx'
      · exact e3 y hy

theorem Sm.ins {L S : List Ord} (h : Sm L S) {o : Ord} (h0 : o.shares ≠ 0) (hr : ∀ x ∈ S, x.ref ≠ o.ref) : Sm (L ++ [o]) (insO o S) := by
  obtain ⟨P, Q, e1, e2, e3, e4⟩ := ins_split o S h.srt
  have hs := h.srt
  have hn := h.nd
  have hc := h.cls
  rw [e1] at hs hn hc hr
  rw [e2]
  unfold Srt at hs
  rw [List.pairwise_append] at hs
  rw [List.map_append, List.nodup_append] at hn
  refine ⟨?_, ?_, ?_⟩
  · unfold Srt
    rw [List.pairwise_append, List.pairwise_cons]
    refine ⟨hs.1, ⟨fun y hy => byB_swo.asym (e4 y hy), hs.2.1⟩, fun a ha b hb => ?_⟩
    rcases List.mem_cons.1 hb with rfl | hb
    · exact e3 a ha
    · exact hs.2.2 a ha b hb
  · intro c
    have hfo : (L ++ [o]).filter alive = L.filter alive ++ [o] := by rw [List.filter_append, List.filter_cons_of_pos (by simp [alive, h0])]; rfl
    rw [hfo, List.filter_append, hc c, List.filter_append, List.filter_append, List.filter_cons]
    by_cases e : eqv (ltc byB) c o = true
    · have hq : Q.filter (eqv (ltc byB) c) = [] := by
        rw [List.filter_eq_nil_iff]
        intro x hx he
        have h1 := (eqv_byB c x).1 he
        have h2 := (eqv_byB c o).1 e
        have h3 := e4 x hx
        rw [byB_lt, h1.1, h1.2.1, h1.2.2, h2.1, h2.2.1, h2.2.2] at h3
        omega
      rw [if_pos e, hq, List.append_nil, List.filter_cons_of_pos e, hq]
      rfl
    · rw [if_neg e]
      simp [e]
  · rw [List.map_append, List.map_cons, List.nodup_append, List.nodup_cons]
    refine ⟨hn.1, ⟨fun hm => ?_, hn.2.1⟩, fun a ha b hb => ?_⟩
    · obtain ⟨x, hx, ex⟩ := List.mem_map.1 hm
      exact hr x (by simp [hx]) ex
    · rcases List.mem_cons.1 hb with rfl | hb
      · obtain ⟨x, hx, ex⟩ := List.mem_map.1 ha
        rw [← ex]
        exact hr x (by simp [hx])
      · exact hn.2.2 a ha b hb

theorem set_mid {α : Type} (A B : List α) (o y : α) : (A ++ o :: B).set A.length y = A ++ y :: B := by simp
theorem erase_mid {α : Type} (A B : List α) (o : α) : (A ++ o :: B).eraseIdx A.length = A ++ B := by simp [List.eraseIdx_append_of_length_le]

/-- Shares go away from an order in both lists. -/
theorem Sm.gone {L S : List Ord} (h : Sm L S) {t i n : Nat} {o : Ord} {S1 S2 A B : List Ord} (h3 : S = S1 ++ o :: S2) (h4 : S1.length = i) (h5 : L = A ++ o :: B) (h7 : o.ref = t) (h0 : o.shares ≠ 0) (hA : ∀ x ∈ A, isR t x = false) (hB : ∀ x ∈ B, isR t x = false) (k1 : ∀ x ∈ S1, x.ref ≠ t) (k2 : ∀ x ∈ S2, x.ref ≠ t) :
    Sm (lessL t n L) (if o.shares ≤ n then S.eraseIdx i else S.set i { o with shares := o.shares - n }) := by
  subst h3 h4 h5 h7
  have ht := h.turn h0 hA k1 { o with shares := o.shares - n } ⟨rfl, rfl, rfl⟩ (.inr (by intro x hx; rcases List.mem_append.1 hx with hx | hx; exact k1 x hx; exact k2 x hx))
  have hc : lessL o.ref n (A ++ o :: B) = A ++ { o with shares := o.shares - n } :: B := ch_at _ hA hB ((isR_iff _ _).2 ⟨rfl, h0⟩)
  rw [hc]
  by_cases e : o.shares ≤ n
  · rw [if_pos e, erase_mid]
    rw [liveO, if_pos (by show o.shares - n = 0; omega), List.nil_append] at ht
    exact ht
  · rw [if_neg e, set_mid]
    rw [liveO, if_neg (by show ¬ o.shares - n = 0; omega)] at ht
    exact ht

theorem Sm.step {L S : List Ord} (h : Sm L S) (c : UInt8) (hc : tSize c ≠ 0) (f : List UInt8) : (fol L c f = none ∧ rTaped S c f = none) ∨ ∃ L' S', fol L c f = some L' ∧ rTaped S c f = some S' ∧ Sm L' S' := by
  have hl : ∀ t, liv L t = none → leftL L t = 0 := fun t e => by unfold leftL; rw [e]
  by_cases c1 : c = 97
  · subst c1
    show (fRests L f = none ∧ (if (rfind S (at_ f 0 4)).isSome ∨ ¬ (byteAt f 4 = 66 ∨ byteAt f 4 = 83) ∨ at_ f 6 2 = 0 then none else some (insO (fOrd f) S)) = none) ∨ ∃ L' S', fRests L f = some L' ∧ (if (rfind S (at_ f 0 4)).isSome ∨ ¬ (byteAt f 4 = 66 ∨ byteAt f 4 = 83) ∨ at_ f 6 2 = 0 then none else some (insO (fOrd f) S)) = some S' ∧ Sm L' S'
    unfold fRests
    rcases h.find (at_ f 0 4) with ⟨f1, f2⟩ | ⟨i, o, S1, S2, A, B, f1, f2, f3, f4, f5, f6, f7, f8, f9⟩
    · rw [hl _ f2, f1]
      by_cases hb : ¬ (byteAt f 4 = 66 ∨ byteAt f 4 = 83) ∨ at_ f 6 2 = 0
      · left
        rw [if_pos (Or.inr hb), if_pos (Or.inr hb)]
        exact ⟨rfl, rfl⟩
      · right
        rw [if_neg (by intro hh; rcases hh with hh | hh; exact hh rfl; exact hb hh), if_neg (by intro hh; rcases hh with hh | hh; cases hh; exact hb hh)]
        exact ⟨_, _, rfl, rfl, h.ins (o := fOrd f) (fun e => hb (Or.inr e)) (rfind_none f1)⟩
    · left
      rw [if_pos (Or.inl (by rw [liv_left f6]; exact f8)), if_pos (Or.inl (by rw [f1]; rfl))]
      exact ⟨rfl, rfl⟩
  · by_cases c2 : c = 101
    · subst c2
      show (fExec L f = none ∧ rGone S (rfind S (at_ f 0 4)) (at_ f 4 2) true = none) ∨ ∃ L' S', fExec L f = some L' ∧ rGone S (rfind S (at_ f 0 4)) (at_ f 4 2) true = some S' ∧ Sm L' S'
      unfold fExec
      rcases h.find (at_ f 0 4) with ⟨f1, f2⟩ | ⟨i, o, S1, S2, A, B, f1, f2, f3, f4, f5, f6, f7, f8, f9, f10, f11, f12⟩
      · left
        rw [hl _ f2, f1, if_pos (by omega)]
        exact ⟨rfl, rfl⟩
      · rw [liv_left f6, f1]
        simp only [rGone, f2]
        by_cases hb : at_ f 4 2 = 0 ∨ o.shares < at_ f 4 2
        · left
          rw [if_pos hb, if_pos (by rcases hb with hb | hb; exact Or.inl hb; exact Or.inr (Or.inl hb))]
          exact ⟨rfl, rfl⟩
        · right
          rw [if_neg hb, if_neg (by rintro (hh | hh | hh); exact hb (Or.inl hh); exact hb (Or.inr hh); cases hh.2)]
          have hg := h.gone (n := at_ f 4 2) f3 f4 f5 f7 f8 f9 f10 f11 f12
          by_cases e : at_ f 4 2 = o.shares
          · rw [if_pos e]
            rw [if_pos (by omega)] at hg
            exact ⟨_, _, rfl, rfl, hg⟩
          · rw [if_neg e]
            rw [if_neg (by omega)] at hg
            exact ⟨_, _, rfl, rfl, hg⟩
    · by_cases c3 : c = 120
      · subst c3
        show (fLess L f = none ∧ rGone S (rfind S (at_ f 0 4)) (at_ f 4 2) false = none) ∨ ∃ L' S', fLess L f = some L' ∧ rGone S (rfind S (at_ f 0 4)) (at_ f 4 2) false = some S' ∧ Sm L' S'
        unfold fLess
        rcases h.find (at_ f 0 4) with ⟨f1, f2⟩ | ⟨i, o, S1, S2, A, B, f1, f2, f3, f4, f5, f6, f7, f8, f9, f10, f11, f12⟩
        · left
          rw [hl _ f2, f1, if_pos (by omega)]
          exact ⟨rfl, rfl⟩
        · rw [liv_left f6, f1]
          simp only [rGone, f2]
          by_cases hb : at_ f 4 2 = 0 ∨ o.shares ≤ at_ f 4 2
          · left
            rw [if_pos hb, if_pos (by rcases hb with hb | hb; exact Or.inl hb; by_cases e : o.shares = at_ f 4 2; exact Or.inr (Or.inr ⟨e.symm, trivial⟩); exact Or.inr (Or.inl (by omega)))]
            exact ⟨rfl, rfl⟩
          · right
            rw [if_neg hb, if_neg (by rintro (hh | hh | hh); exact hb (Or.inl hh); exact hb (Or.inr (by omega)); exact hb (Or.inr (by omega)))]
            have hg := h.gone (n := at_ f 4 2) f3 f4 f5 f7 f8 f9 f10 f11 f12
            rw [if_neg (by omega)]
            rw [if_neg (by omega)] at hg
            exact ⟨_, _, rfl, rfl, hg⟩
      · by_cases c4 : c = 100
        · subst c4
          show (fGone L f = none ∧ (rfind S (at_ f 0 4)).map (fun i => S.eraseIdx i) = none) ∨ ∃ L' S', fGone L f = some L' ∧ (rfind S (at_ f 0 4)).map (fun i => S.eraseIdx i) = some S' ∧ Sm L' S'
          unfold fGone
          rcases h.find (at_ f 0 4) with ⟨f1, f2⟩ | ⟨i, o, S1, S2, A, B, f1, f2, f3, f4, f5, f6, f7, f8, f9, f10, f11, f12⟩
          · left
            rw [hl _ f2, f1]
            exact ⟨rfl, rfl⟩
          · right
            rw [liv_left f6, f1, if_neg f8]
            have hg := h.gone (n := o.shares) f3 f4 f5 f7 f8 f9 f10 f11 f12
            rw [if_pos (Nat.le_refl _)] at hg
            exact ⟨_, _, rfl, rfl, hg⟩
        · by_cases c5 : c = 117
          · subst c5
            show (fSwap L f = none ∧ rOther S (rfind S (at_ f 0 4)) f = none) ∨ ∃ L' S', fSwap L f = some L' ∧ rOther S (rfind S (at_ f 0 4)) f = some S' ∧ Sm L' S'
            unfold fSwap
            rcases h.find (at_ f 0 4) with ⟨f1, f2⟩ | ⟨i, o, S1, S2, A, B, f1, f2, f3, f4, f5, f6, f7, f8, f9, f10, f11, f12⟩
            · left
              rw [f1, f2]
              exact ⟨rfl, rfl⟩
            · rw [f1, f6]
              simp only [rOther, f2]
              have hcond : ((at_ f 4 4 ≠ at_ f 0 4 ∧ leftL L (at_ f 4 4) ≠ 0) ∨ at_ f 8 2 = 0) ↔ (at_ f 8 2 = 0 ∨ ((rfind S (at_ f 4 4)).isSome = true ∧ rfind S (at_ f 4 4) ≠ some i)) := by
                rcases h.find (at_ f 4 4) with ⟨g1, g2⟩ | ⟨j, p, -, -, -, -, g1, g2, -, -, -, g6, g7, g8, -⟩
                · rw [hl _ g2, g1]
                  simp
                · rw [liv_left g6, g1]
                  have : (at_ f 4 4 ≠ at_ f 0 4) ↔ some j ≠ some i := by
                    constructor
                    · intro hne e
                      cases e
                      rw [f2] at g2
                      cases g2
                      exact hne (g7.symm.trans f7)
                    · intro hne e
                      rw [e, f1] at g1
                      exact hne g1.symm
                  rw [this]
                  simp [g8]
                  exact Or.comm
              by_cases hb : at_ f 8 2 = 0 ∨ ((rfind S (at_ f 4 4)).isSome = true ∧ rfind S (at_ f 4 4) ≠ some i)
              · left
                rw [if_pos (hcond.2 hb), if_pos hb]
                exact ⟨rfl, rfl⟩
              · right
                rw [if_neg (fun hh => hb (hcond.1 hh)), if_neg hb]
                have hsh : (fNew o f).shares ≠ 0 := fun e => hb (Or.inl e)
                have hfr : ∀ x ∈ S1 ++ S2, x.ref ≠ (fNew o f).ref := by
                  intro x hx e
                  have e' : x.ref = at_ f 4 4 := e
                  have hxS : x ∈ S := by
                    rw [f3]
                    rcases List.mem_append.1 hx with hx | hx
                    · simp [hx]
                    · simp [hx]
                  have hxt : x.ref ≠ at_ f 0 4 := by
                    rcases List.mem_append.1 hx with hx | hx
                    · exact f11 x hx
                    · exact f12 x hx
                  refine hb (Or.inr ⟨?_, ?_⟩)
                  · cases hq : rfind S (at_ f 4 4) with
                    | none => exact absurd e' (rfind_none hq x hxS)
                    | some j => rfl
                  · intro hq
                    obtain ⟨p, p1, p2, -⟩ := rfind_some hq
                    rw [f2] at p1
                    cases p1
                    exact hxt (e'.trans (p2.symm.trans f7))
                by_cases hk : at_ f 10 2 = o.price ∧ at_ f 8 2 ≤ o.shares
                · rw [if_pos hk, if_pos hk]
                  refine ⟨_, _, rfl, rfl, ?_⟩
                  subst f3 f4 f5
                  have ht := Sm.turn h f8 (by rw [f7]; exact f9) (by rw [f7]; exact f11) (fNew o f) ⟨rfl, rfl, hk.1⟩ (.inr hfr)
                  rw [liveO, if_neg hsh] at ht
                  rw [set_mid]
                  have hch : chL (at_ f 0 4) (fun _ => fNew o f) (A ++ o :: B) = A ++ fNew o f :: B := ch_at _ f9 f10 ((isR_iff _ _).2 ⟨f7, f8⟩)
                  rw [hch]
                  exact ht
                · rw [if_neg hk, if_neg hk]
                  refine ⟨_, _, rfl, rfl, ?_⟩
                  have hg := h.gone (n := o.shares) f3 f4 f5 f7 f8 f9 f10 f11 f12
                  rw [if_pos (Nat.le_refl _)] at hg
                  refine hg.ins hsh ?_
                  intro x hx
                  refine hfr x ?_
                  rw [f3, ← f4, erase_mid] at hx
                  exact hx
          · exfalso
            apply hc
            unfold tSize
            rw [if_neg c1, if_neg c2, if_neg c3, if_neg c4, if_neg c5]

theorem Sm.nil : Sm [] [] := ⟨List.Pairwise.nil, Cls.refl _ _, List.nodup_nil⟩

theorem Sm.tb (k : Nat) : ∀ (L S : List Ord) (b : List UInt8), Sm L S → ((tb k L b).1 = none ∧ (rb k S b).1 = none ∧ (tb k L b).2 = (rb k S b).2) ∨ ∃ L' S', (Go.Proofs.Ytphkchjejbffeaa.tb k L b).1 = some L' ∧ (rb k S b).1 = some S' ∧ Sm L' S' := by
  induction k with
  | zero => intro L S b h; exact .inr ⟨L, S, rfl, rfl, h⟩
  | succ k ih =>
    intro L S b h
    by_cases hb : b = []
    · subst hb
      exact .inr ⟨L, S, rfl, rfl, h⟩
    · by_cases hs : tSize (byteAt b 0) = 0 ∨ b.length < tSize (byteAt b 0)
      · left
        have e1 : Go.Proofs.Ytphkchjejbffeaa.tb (k + 1) L b = (none, b) := by
          show (if _ then _ else _) = _
          rw [if_neg hb, if_pos hs]
        have e2 : rb (k + 1) S b = (none, b) := by
          show (if _ then _ else _) = _
          rw [if_neg hb, if_pos hs]
        rw [e1, e2]
        exact ⟨rfl, rfl, rfl⟩
      · have e1 : Go.Proofs.Ytphkchjejbffeaa.tb (k + 1) L b = match fol L (byteAt b 0) ((b.take (tSize (byteAt b 0))).drop 7) with
          | none => (none, b)
          | some L' => Go.Proofs.Ytphkchjejbffeaa.tb k L' (b.drop (tSize (byteAt b 0))) := by
          show (if _ then _ else _) = _
          rw [if_neg hb, if_neg hs]
          rfl
        have e2 : rb (k + 1) S b = match rTaped S (byteAt b 0) ((b.take (tSize (byteAt b 0))).drop 7) with
          | none => (none, b)
          | some L' => rb k L' (b.drop (tSize (byteAt b 0))) := by
          show (if _ then _ else _) = _
          rw [if_neg hb, if_neg hs]
        rcases h.step (byteAt b 0) (fun e => hs (Or.inl e)) ((b.take (tSize (byteAt b 0))).drop 7) with ⟨g1, g2⟩ | ⟨L', S', g1, g2, g3⟩
        · left
          rw [e1, e2, g1, g2]
          exact ⟨rfl, rfl, rfl⟩
        · rw [e1, e2, g1, g2]
          exact ih L' S' _ g3

end Go.Proofs.Ytphkchjejbffeaa
