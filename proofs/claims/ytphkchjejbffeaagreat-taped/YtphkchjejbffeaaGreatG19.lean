/- The walk of boursekeep's House.rests, where the books are as they must be. -/
import Derived.Test.YtphkchjejbffeaaGreatG18
import Derived.BigQuiet
import Derived.Deep.QuietTactic
import Derived.Shelf.SlSortCmp.KitK
import Derived.Sort.WalkB2
import Derived.Sort.WalkB12
import Derived.Deep.LoopGhost
namespace Go.Proofs.YtphkchjejbffeaaGreat
open Go.RowKit

def OrdOk (s : Nat) (x : Ord) : Prop := x.stock = s ∧ 1 ≤ x.price ∧ x.price ≤ 10 ∧ 1 ≤ x.shares ∧ x.shares ≤ 9999 ∧ (x.side = 66 ∨ x.side = 83) ∧ x.ref < 4294967296 ∧ x.token < 4294967296
/-- Two orders of a book, one right behind the other; f: the first one's price. -/
def PairOk (f : Nat) (p x : Ord) : Prop :=
  (p.side = 66 ∧ x.side = 66 ∧ x.price ≤ p.price) ∨ (p.side = 83 ∧ x.side = 83 ∧ p.price ≤ x.price) ∨ (p.side = 66 ∧ x.side = 83 ∧ f < x.price)
structure BookOk (s : Nat) (l : List Ord) : Prop where
  each : ∀ (i : Nat) (x : Ord), l[i]? = some x → OrdOk s x
  pair : ∀ (i : Nat) (f p x : Ord), l[0]? = some f → l[i]? = some p → l[i + 1]? = some x → PairOk f.price p x

theorem Tryz.info40 : (Tryz.prog.info? 40).map (fun i => (i.zero, i.size, i.bytes)) = some (some (.agg #[.int .i64 0, .int .i64 0, .int .u8 0, .int .i64 0, .int .i64 0, .int .i64 0]), 6, 48) := by kernel_rfl

theorem flat_get (l : List Ord) (i j : Nat) (x : Ord) (u : Value) (hi : l[i]? = some x) (hj : j < 6) (hu : x.cells[j]? = some u) : (l.flatMap Ord.cells)[i * 6 + j]? = some u := by
  induction l generalizing i with
  | nil => simp at hi
  | cons y l ih =>
    rw [List.flatMap_cons]
    cases i with
    | zero =>
      simp at hi
      subst hi
      rw [Nat.zero_mul, Nat.zero_add, List.getElem?_append_left (by simp [Ord.cells]; omega)]
      exact hu
    | succ i =>
      simp at hi
      have := ih i hi
      rw [List.getElem?_append_right (by simp [Ord.cells]; omega)]
      rw [← this]
      congr 1
      simp [Ord.cells]
      omega

theorem flat_one (l : List Ord) : ∀ u ∈ l.flatMap Ord.cells, u.oneCell' = true := by
  intro u hu
  simp only [List.mem_flatMap] at hu
  obtain ⟨x, _, hx⟩ := hu
  simp [Ord.cells] at hx
  rcases hx with rfl | rfl | rfl | rfl | rfl | rfl <;> rfl

theorem flat_len (l : List Ord) : (l.flatMap Ord.cells).length = l.length * 6 := by
  induction l with
  | nil => rfl
  | cons x l ih => rw [List.flatMap_cons, List.length_append, ih]; simp [Ord.cells]; omega

/-- The books of the stocks below k, one behind the other. -/
def upTo (st : St) (k : Nat) : List Ord := (List.range k).flatMap st.book
theorem upTo_succ (st : St) (k : Nat) : upTo st (k + 1) = upTo st k ++ st.book k := by simp [upTo, List.range_succ]

theorem upTo_le (st : St) (k : Nat) (h : ∀ s, s < k → (st.book s).length ≤ 1000) : (upTo st k).length ≤ 1000 * k := by
  induction k with
  | zero => simp [upTo]
  | succ k ih =>
    rw [upTo_succ, List.length_append]
    have := ih (fun s hs => h s (by omega))
    have := h k (by omega)
    omega

theorem row_orders {w : World} {b : Nat} {ra : Option Addr} {cap : Nat} {L : List Ord} (h : w.ownsRow b 40 6 (.slice ra L.length cap) L.length (L.flatMap Ord.cells)) (hL : 0 < L.length) :
    ∃ g, ra = some ⟨g, 0, none⟩ ∧ g < w.heap.size ∧ ∀ i x, L[i]? = some x → ∀ t u, t < 6 → x.cells[t]? = some u → w.cell? ⟨g, i * 6 + t, none⟩ = some u := by
  rcases h.2 with ⟨h1, h2⟩ | ⟨g, cap', cur, h1, h2, h3, h4⟩
  · omega
  · cases h1
    refine ⟨g, rfl, (Array.getElem?_eq_some_iff.1 h3).1, fun i x hi t u ht hu => ?_⟩
    have := h.cells (g := g) rfl (i * 6 + t) u (flat_get L i t x u hi ht hu)
    rwa [Addr.add_lit, Nat.zero_add] at this

theorem ord_cells (x : Ord) {w w' : World} {g o B : Nat} (hB : Below B w w') (hg : g < B) (h : ∀ (t : Nat) (u : Value), t < 6 → x.cells[t]? = some u → w.cell? ⟨g, o + t, none⟩ = some u) :
    w'.cell? ⟨g, o, none⟩ = some (.int .i64 x.ref) ∧ w'.cell? ⟨g, o + 1, none⟩ = some (.int .i64 x.token) ∧ w'.cell? ⟨g, o + 2, none⟩ = some (.int .u8 x.side.toNat) ∧ w'.cell? ⟨g, o + 3, none⟩ = some (.int .i64 x.stock) ∧
    w'.cell? ⟨g, o + 4, none⟩ = some (.int .i64 x.price) ∧ w'.cell? ⟨g, o + 5, none⟩ = some (.int .i64 x.shares) :=
  ⟨(hB.cell (p := ⟨g, o, none⟩) hg).trans (h 0 _ (by omega) rfl), (hB.cell (p := ⟨g, o + 1, none⟩) hg).trans (h 1 _ (by omega) rfl), (hB.cell (p := ⟨g, o + 2, none⟩) hg).trans (h 2 _ (by omega) rfl),
   (hB.cell (p := ⟨g, o + 3, none⟩) hg).trans (h 3 _ (by omega) rfl), (hB.cell (p := ⟨g, o + 4, none⟩) hg).trans (h 4 _ (by omega) rfl), (hB.cell (p := ⟨g, o + 5, none⟩) hg).trans (h 5 _ (by omega) rfl)⟩

set_option maxRecDepth 100000 in
set_option maxHeartbeats 4000000 in
theorem rests_any {At : World → Nat → (Nat → Prop) → St → Prop} (api : Api At) (hb b : Nat) (G : Nat → Prop) (vo vt : Value) (st : St) (w : World)
    (hc : w.heap[hb]? = some (.cells #[.pointer (some ⟨b, 0, none⟩), vo, vt] 38)) (hat : At w b G st) (hst : st.stocks = 3)
    (hok : ∀ s, s < 3 → BookOk s (st.book s)) (hlen : ∀ s, s < 3 → (st.book s).length ≤ 1000) :
    Calls Tryz.prog 9 #[.pointer (some ⟨hb, 0, none⟩)] w fun e w' => ∃ v, e = .returned (.tuple #[v, .bool true]) ∧
      w'.ownsRow w.heap.size 40 6 v st.all.length (st.all.flatMap Ord.cells) ∧ Below w.heap.size w w' := by
  obtain ⟨i0, hi, hz0, hz1, hz2⟩ := info_parts Tryz.info40
  have hall : st.all = upTo st 3 := by unfold St.all upTo; rw [hst]
  rw [hall]
  have hlt : hb < w.heap.size := (Array.getElem?_eq_some_iff.1 hc).1
  obtain ⟨c0, -⟩ := cells3 hc
  have HOk := Hid.mk (And.intro hok (And.intro hlen (And.intro hat (And.intro hst hc))))
  clear hok hlen hat hst hc hall
  go_enter Tryz.func9, Tryz.ntmps9
  go_wp2_with fail
  go_loopw [4, 5] (fun v i wr => ∃ k : Nat, k ≤ 3 ∧ i = .int .i64 k ∧ wr.ownsRow w.heap.size 40 6 v (upTo st k).length ((upTo st k).flatMap Ord.cells) ∧ Below w.heap.size w wr) (fun _ i _ => 3 - (intOf i).toNat)
  case atStart => exact ⟨0, by omega, rfl, World.ownsRow_nil _ _ _ _, Below.refl _ _⟩
  case round =>
    obtain ⟨k, hk, rfl, hown, hB⟩ := hrel
    obtain ⟨wo, hwo⟩ : ∃ wo, wo = wr := ⟨_, rfl⟩
    subst hwo
    by_cases hlt3 : k < 3
    · have hc0 : wo.cell? ⟨hb, 0, none⟩ = some (.pointer (some ⟨b, 0, none⟩)) := (hB.cell (p := ⟨hb, 0, none⟩) hlt).trans c0
      have HO := Hid.mk (And.intro hown hB)
      clear hown hB
      go_wp2_with fail
      obtain ⟨hown, hB⟩ := HO.out
      obtain ⟨hok, hlen, hat, hst, hc⟩ := HOk.out
      have hat1 : At wo b G st := api.below hat hB
      refine (api.book b G st k wo hat1 (by omega) (by rw [hst]; omega)).mono ?_
      rintro e w1 ⟨v, rfl, hbk, hB1⟩
      rw [Int.toNat_natCast] at hbk
      have hL := hlen k hlt3
      have HU := Hid.mk (upTo_le st k (fun s hs => hlen s (by omega)))
      have HK := Hid.mk (upTo_succ st k)
      have HL := Hid.mk (And.intro (hok k hlt3) (And.intro hbk hB1))
      obtain ⟨ra, cap, rfl, hcap, hcap2⟩ := ownsRow_len hbk
      clear hown hB hok hlen hat hst hc hat1 hbk hB1 hc0 c0
      generalize st.book k = L at *
      go_wp2_with fail
      go_loopw [8] (fun i w2 => ∃ j : Nat, j ≤ L.length ∧ i = .int .i64 j ∧ Below w1.heap.size w1 w2) (fun i _ => L.length - (intOf i).toNat)
      case atStart => exact ⟨0, Nat.zero_le _, rfl, Below.refl _ _⟩
      case round =>
        obtain ⟨j, hj, rfl, hB2⟩ := hrel
        by_cases hjl : j < L.length
        · obtain ⟨hbook, hbk, hB1⟩ := HL.out
          obtain ⟨g, rfl, hg, hcs⟩ := row_orders hbk (by omega)
          obtain ⟨x, hx⟩ : ∃ x, L[j]? = some x := ⟨_, List.getElem?_eq_getElem hjl⟩
          obtain ⟨d0, d1, d2, d3, d4, d5⟩ := ord_cells x hB2 hg (hcs j x hx)
          obtain ⟨o1, o2, o3, o4, o5, o6, o7, o8⟩ := hbook.each j x hx
          have i1 : (0 : Int) ≤ (j : Int) := by omega
          have i2 : (j : Int) < (L.length : Int) := by omega
          cases j with
          | zero =>
            clear hbk hB1 hbook hcs
            obtain ⟨ref, token, side, stock, price, shares⟩ := x
            simp only at o1 o2 o3 o4 o5 o6 o7 o8 d0 d1 d2 d3 d4 d5
            subst o1
            have HB2 := Hid.mk hB2
            clear hB2 hx HO HL HOk
            rcases o6 with rfl | rfl
            all_goals
              go_wp2_with fail
              exact ⟨⟨1, by omega, rfl, HB2.out.alloc HB2.out.size _⟩, by simp [intOf]; omega⟩
          | succ j =>
            obtain ⟨p, hp⟩ : ∃ p, L[j]? = some p := ⟨_, List.getElem?_eq_getElem (by omega)⟩
            obtain ⟨f, hf⟩ : ∃ f, L[0]? = some f := ⟨_, List.getElem?_eq_getElem (by omega)⟩
            obtain ⟨e0, e1, e2, e3, e4, e5⟩ := ord_cells p hB2 hg (hcs j p hp)
            obtain ⟨-, -, -, -, f4, -⟩ := ord_cells f hB2 hg (hcs 0 f hf)
            obtain ⟨q1, q2, q3, q4, q5, q6, q7, q8⟩ := hbook.each j p hp
            obtain ⟨-, r2, r3, -⟩ := hbook.each 0 f hf
            have hpair := hbook.pair j f p x hf hp hx
            have i3 : (j : Int) < (L.length : Int) := by omega
            have i4 : (0 : Int) < (L.length : Int) := by omega
            have hgr : g < wr.heap.size := Nat.lt_of_lt_of_le hg hB2.size
            clear hbk hB1 hbook hcs
            obtain ⟨ref, token, side, stock, price, shares⟩ := x
            obtain ⟨ref', token', side', stock', price', shares'⟩ := p
            obtain ⟨reff, tokenf, sidef, stockf, pricef, sharesf⟩ := f
            simp only [PairOk] at o1 o2 o3 o4 o5 o6 o7 o8 d0 d1 d2 d3 d4 d5 e0 e1 e2 e3 e4 e5 f4 q1 q2 q3 q4 q5 q6 q7 q8 r2 r3 hpair
            subst o1
            have HB2 := Hid.mk hB2
            clear hB2 hx hp hf HO HL HOk o6 q6
            rcases hpair with ⟨rfl, rfl, hle⟩ | ⟨rfl, rfl, hle⟩ | ⟨rfl, rfl, hle⟩
            all_goals
              go_wp2_with fail
              go_quiet (fail)
              go_wp2_with fail
              exact ⟨⟨j + 2, by omega, by go_num, below_drewN (Below.alloc (HB2.out.alloc HB2.out.size _) (by rw [size_alloc]; have := HB2.out.size; omega) _) _⟩, by simp [intOf]; omega⟩
        · obtain ⟨hbook, hbk, hB1⟩ := HL.out
          obtain ⟨hown, hB⟩ := HO.out
          have hB12 : Below wo.heap.size wo wr := hB1.trans (hB2.mono hB1.size)
          have hownr := ownsRow_keep hown (fun g hg => hB12.block g (hown.lt g hg).2)
          have hrdr := ownsRow_rd (ownsRow_keep hbk (fun g hg => hB2.block g (hbk.lt g hg).2))
          have hU : (upTo st k).length ≤ 1000 * k := HU.out
          have hsz : w.heap.size ≤ wr.heap.size := Nat.le_trans hB.size hB12.size
          have hBw : Below w.heap.size w wr := hB.trans (hB12.mono hB.size)
          clear hbook hbk hB1 hown hB hB12 HL HO hB2
          go_wp2_with (at_builtin; refine wpList_append_row rfl _ _ 29 rfl w.heap.size 40 i0 _ 6 48 Tryz.underlying29 hi hz0 hz1 hz2 rfl (by decide) _ (upTo st k).length ((upTo st k).flatMap Ord.cells) rfl hownr _ L.length (L.flatMap Ord.cells) rfl hrdr (flat_one L) (by unfold maxLen; omega) (by omega) hsz ?_; intro rb capb w3 hown3 hg3 hv3)
          exact ⟨⟨k + 1, by omega, by go_num, by rw [HK.out, List.length_append, List.flatMap_append]; exact hown3, hBw.grown hg3 hsz (fun g hg => (hownr.lt g hg).1)⟩, by simp [intOf]; omega⟩
    · have HO := Hid.mk (And.intro hown hB)
      clear hown hB
      go_wp2_with fail
      go_ret2
      have : k = 3 := by omega
      subst this
      exact ⟨_, rfl, HO.out.1, HO.out.2⟩

end Go.Proofs.YtphkchjejbffeaaGreat

/- The walks of Go's stable sort over orders: what is changed about. -/
namespace Go.Proofs.YtphkchjejbffeaaGreat
open Go.Shelf Go.RowKit Go.Lib Go.Sort
attribute [local go_sem ↓] Go.wp_at_zero Go.wp_at_succ

instance : Inhabited Ord := ⟨⟨0, 0, 0, 0, 0, 0⟩⟩

theorem ordK_len (x : Ord) : x.cells.length = 6 := rfl
theorem ordK_one (x : Ord) : ∀ v ∈ x.cells, v.oneCell' = true := by
  intro u hu
  simp [Ord.cells] at hu
  rcases hu with rfl | rfl | rfl | rfl | rfl | rfl <;> rfl

/-- What swapRange does. -/
def swapR (d : Array Ord) (a b : Nat) : Nat → Array Ord
  | 0 => d
  | n + 1 => swp (swapR d a b n) (a + n) (b + n)
theorem swapR_size (d : Array Ord) (a b n : Nat) : (swapR d a b n).size = d.size := by
  induction n with
  | zero => rfl
  | succ n ih => rw [swapR, size_swp, ih]

theorem aggOrd : ∀ w, (isAgg 40).run Tryz.prog w = .ok true w := fun w => by kernel_rfl

theorem holds6 {W : World} {g : Nat} {d : Array Ord} (H : HoldsK Ord.cells 6 W g 0 d) {i : Nat} (hi : i < d.size) :
    W.cell? ⟨g, i * 6, none⟩ = some (.int .i64 d[i]!.ref) ∧ W.cell? ⟨g, i * 6 + 1, none⟩ = some (.int .i64 d[i]!.token) ∧ W.cell? ⟨g, i * 6 + 2, none⟩ = some (.int .u8 d[i]!.side.toNat) ∧ W.cell? ⟨g, i * 6 + 3, none⟩ = some (.int .i64 d[i]!.stock) ∧
    W.cell? ⟨g, i * 6 + 4, none⟩ = some (.int .i64 d[i]!.price) ∧ W.cell? ⟨g, i * 6 + 5, none⟩ = some (.int .i64 d[i]!.shares) := by
  have h := HoldsK.cells H ordK_len hi
  have e : ∀ c v, (Ord.cells d[i]!)[c]? = some v → W.cell? ⟨g, i * 6 + c, none⟩ = some v := fun c v hv => by
    have := h c v hv
    rwa [Addr.add_lit, Nat.zero_add] at this
  exact ⟨e 0 _ rfl, e 1 _ rfl, e 2 _ rfl, e 3 _ rfl, e 4 _ rfl, e 5 _ rfl⟩
theorem frozen6 {W : World} {g : Nat} {d : Array Ord} (H : HoldsK Ord.cells 6 W g 0 d) {i : Nat} (hi : i < d.size) (c : Nat) (hc : c < 6) : W.frozen? ⟨g, i * 6 + c, none⟩ = false := by
  have := (H.cell hi hc).2
  rwa [Nat.zero_add] at this

theorem sizeOrd : ∀ w, (Go.sizeOf 40).run Tryz.prog w = .ok 6 w := fun w => by kernel_rfl

/-- What a program must say of the types of the sort's bodies; k: how many cells an order has. -/
structure SrtT (P : Program) (k : Nat) : Prop where
  mixed : P.follows .mixedOrders = true
  t0 : P.underlying 0 = some (TypeDesc.tuple #[])
  a0 : ∀ w, (isAgg 0).run P w = .ok false w
  z0 : ∀ w, (Go.sizeOf 0).run P w = .ok 1 w
  v0 : ∀ w, (zeroValue 0).run P w = .ok (Value.tuple #[]) w
  t3 : P.underlying 3 = some (TypeDesc.int IntKind.i64)
  a3 : ∀ w, (isAgg 3).run P w = .ok false w
  z3 : ∀ w, (Go.sizeOf 3).run P w = .ok 1 w
  v3 : ∀ w, (zeroValue 3).run P w = .ok (Value.int IntKind.i64 0) w
  t4 : P.underlying 4 = some (TypeDesc.bool)
  a4 : ∀ w, (isAgg 4).run P w = .ok false w
  z4 : ∀ w, (Go.sizeOf 4).run P w = .ok 1 w
  v4 : ∀ w, (zeroValue 4).run P w = .ok (Value.bool false) w
  t22 : P.underlying 29 = some (TypeDesc.slice 40)
  a22 : ∀ w, (isAgg 29).run P w = .ok false w
  z22 : ∀ w, (Go.sizeOf 29).run P w = .ok 1 w
  v22 : ∀ w, (zeroValue 29).run P w = .ok (Value.slice none 0 0) w
  t25 : P.underlying 113 = some (TypeDesc.func #[40, 40] #[3] false)
  a25 : ∀ w, (isAgg 113).run P w = .ok false w
  z25 : ∀ w, (Go.sizeOf 113).run P w = .ok 1 w
  v25 : ∀ w, (zeroValue 113).run P w = .ok (Value.nilFunc) w
  tu : P.underlying 169 = some (TypeDesc.int IntKind.u64)
  au : ∀ w, (isAgg 169).run P w = .ok false w
  zu : ∀ w, (Go.sizeOf 169).run P w = .ok 1 w
  vu : ∀ w, (zeroValue 169).run P w = .ok (Value.int IntKind.u64 0) w
  aE : ∀ w, (isAgg 40).run P w = .ok true w
  zE : ∀ w, (Go.sizeOf 40).run P w = .ok k w

theorem srtT : SrtT Tryz.prog 6 := ⟨by kernel_rfl, by kernel_rfl, fun w => by kernel_rfl, fun w => by kernel_rfl, fun w => by kernel_rfl, by kernel_rfl, fun w => by kernel_rfl, fun w => by kernel_rfl, fun w => by kernel_rfl, by kernel_rfl, fun w => by kernel_rfl, fun w => by kernel_rfl, fun w => by kernel_rfl,
  by kernel_rfl, fun w => by kernel_rfl, fun w => by kernel_rfl, fun w => by kernel_rfl, by kernel_rfl, fun w => by kernel_rfl, fun w => by kernel_rfl, fun w => by kernel_rfl, by kernel_rfl, fun w => by kernel_rfl, fun w => by kernel_rfl, fun w => by kernel_rfl, fun w => by kernel_rfl, fun w => by kernel_rfl⟩

set_option maxRecDepth 100000 in
set_option maxHeartbeats 4000000 in
theorem swapRange_gen {P : Program} {k : Nat} (T : SrtT P k) (FG : P.funcs[159]? = some Tryz.f159) (enc : Ord → List Value) (w0 w : World) (g cap a b n : Nat) (d0 d : Array Ord) (fv : Value) (R : RowK enc k w0 g 0 d0) (hs : d0.size = d.size) (S : SWK enc k w0 g 0 d w) (ha : a + n ≤ b) (hb : b + n ≤ d.size) (hsz : d.size < 4611686018427387904) :
    Calls P 159 #[.slice (some ⟨g, 0, none⟩) d.size cap, .int .i64 a, .int .i64 b, .int .i64 n, fv] w fun e w' => e = .returned (.tuple #[]) ∧ SWK enc k w0 g 0 (swapR d a b n) w' := by
  have mixed := T.mixed; have t0 := T.t0; have a0 := T.a0; have z0 := T.z0; have v0 := T.v0; have t3 := T.t3; have a3 := T.a3; have z3 := T.z3; have v3 := T.v3; have t4 := T.t4; have a4 := T.a4; have z4 := T.z4; have v4 := T.v4; have t22 := T.t22; have a22 := T.a22; have z22 := T.z22; have v22 := T.v22; have t25 := T.t25; have a25 := T.a25; have z25 := T.z25; have v25 := T.v25; have aE := T.aE; have zE := T.zE
  have u22 := run_underlying T.t22
  have S0 : Aside (SWK enc k w0 g 0 d w) := S
  clear S T
  go_enter FG, Tryz.ntmps159
  go_wp2
  go_loopg [10] n (fun kx s wr => ∃ i : Nat, s = .int .i64 i ∧ i ≤ n ∧ n - i ≤ kx ∧ Aside (SWK enc k w0 g 0 (swapR d a b i) wr))
  case atStart => exact ⟨0, rfl, Nat.zero_le _, Nat.le_refl _, S0⟩
  case round =>
    clear S0
    obtain ⟨i, rfl, hin, hkx, S1⟩ := hrel
    by_cases hlt : i < n
    · have p0 : (i : Int) < (n : Int) := by omega
      have p1 : (0 : Int) ≤ (a : Int) + (i : Int) := by omega
      have p2 : (a : Int) + (i : Int) < (d.size : Int) := by omega
      have p3 : (0 : Int) ≤ (b : Int) + (i : Int) := by omega
      have p4 : (b : Int) + (i : Int) < (d.size : Int) := by omega
      have e1 : ((a : Int) + (i : Int)).toNat = a + i := by omega
      have e2 : ((b : Int) + (i : Int)).toNat = b + i := by omega
      have r1 : IntKind.i64.wrap ((a : Int) + (i : Int)) = (a : Int) + (i : Int) := by rw [IntKind.wrap_i64]; omega
      have r2 : IntKind.i64.wrap ((b : Int) + (i : Int)) = (b : Int) + (i : Int) := by rw [IntKind.wrap_i64]; omega
      have hdz : (swapR d a b i).size = d.size := swapR_size d a b i
      have S2 : Aside (SWK enc k w0 g 0 (swapR d a b (i + 1)) ((wr.drew.setCells g (0 + (a + i) * k) (enc (swapR d a b i)[b + i]!)).setCells g (0 + (b + i) * k) (enc (swapR d a b i)[a + i]!))) := S1.out.swapped R (a + i) (b + i) (by omega) (by omega)
      have l1 := S1.out.ld1 R (by omega) P (a + i) (by omega)
      have l2 := S1.out.ld1 R (by omega) P (b + i) (by omega)
      have s1 := S1.out.st1 R (by omega) P (a + i) (by omega) (swapR d a b i)[b + i]!
      have s2 := S1.out.st2 R (by omega) P (a + i) (b + i) (by omega) (by omega) (swapR d a b i)[b + i]! (swapR d a b i)[a + i]!
      have n1 : (enc (swapR d a b i)[a + i]!).length = k := R.hk _
      have n2 : (enc (swapR d a b i)[b + i]!).length = k := R.hk _
      generalize enc (swapR d a b i)[a + i]! = cI at S2 l1 s2 n1
      generalize enc (swapR d a b i)[b + i]! = cJ at S2 l2 s1 s2 n2
      simp only [Nat.zero_add] at S2 l1 l2 s1 s2
      clear S1
      go_wp2_with fail
      go_big_region_o
      clear l1 l2 s1 s2
      generalize (wr.drew.setCells g ((a + i) * k) cJ).setCells g ((b + i) * k) cI = w2 at S2 ⊢
      go_wp2
      go_roundg (n - (i + 1))
      case measure => omega
      case rel => exact ⟨i + 1, by go_num, by omega, Nat.le_refl _, S2⟩
    · have hnot : ¬ (i : Int) < (n : Int) := by omega
      go_wp2
      go_end0
      have : i = n := by omega
      subst this
      exact ⟨rfl, S1.out⟩

end Go.Proofs.YtphkchjejbffeaaGreat

/- What is changed about in a row, as lists. -/
namespace Go.Proofs.YtphkchjejbffeaaGreat
open Go.Shelf Go.RowKit Go.Lib Go.Sort

theorem get_at (P R : List Ord) (x : Ord) (i : Nat) (h : i = P.length) : ((P ++ x :: R).toArray : Array Ord)[i]! = x := by
  subst h
  simp

theorem swp_at (P Q R : List Ord) (x y : Ord) (p q : Nat) (hp : p = P.length) (hq : q = P.length + 1 + Q.length) : swp (P ++ x :: (Q ++ y :: R)).toArray p q = (P ++ y :: (Q ++ x :: R)).toArray := by
  have g1 : ((P ++ x :: (Q ++ y :: R)).toArray : Array Ord)[p]! = x := get_at P _ x p hp
  have g2 : ((P ++ x :: (Q ++ y :: R)).toArray : Array Ord)[q]! = y := by
    have := get_at (P ++ x :: Q) R y q (by simp; omega)
    simpa using this
  unfold swp
  rw [g1, g2, List.setIfInBounds_toArray, List.setIfInBounds_toArray]
  congr 1
  subst hp
  rw [List.set_append_right _ _ (Nat.le_refl _), Nat.sub_self, List.set_cons_zero, List.set_append_right _ _ (by omega), show q - P.length = Q.length + 1 by omega, List.set_cons_succ, List.set_append_right _ _ (Nat.le_refl _), Nat.sub_self, List.set_cons_zero]

theorem swp_rev (P Q R : List Ord) (x y : Ord) (p q : Nat) (hp : p = P.length) (hq : q = P.length + 1 + Q.length) : swp (P ++ x :: (Q ++ y :: R)).toArray q p = (P ++ y :: (Q ++ x :: R)).toArray := by
  have g1 : ((P ++ x :: (Q ++ y :: R)).toArray : Array Ord)[p]! = x := get_at P _ x p hp
  have g2 : ((P ++ x :: (Q ++ y :: R)).toArray : Array Ord)[q]! = y := by
    have := get_at (P ++ x :: Q) R y q (by simp; omega)
    simpa using this
  unfold swp
  rw [g1, g2, List.setIfInBounds_toArray, List.setIfInBounds_toArray]
  congr 1
  subst hp
  rw [List.set_append_right _ _ (by omega), show q - P.length = Q.length + 1 by omega, List.set_cons_succ, List.set_append_right _ _ (Nat.le_refl _), Nat.sub_self, List.set_cons_zero, List.set_append_right _ _ (Nat.le_refl _), Nat.sub_self, List.set_cons_zero]

theorem swapR_list (X M Y : List Ord) : ∀ (i : Nat) (A1 A2 B1 B2 : List Ord), A1.length = i → B1.length = i → A2.length = B2.length →
    swapR (X ++ (A1 ++ A2) ++ M ++ (B1 ++ B2) ++ Y).toArray X.length (X.length + (A1.length + A2.length) + M.length) i = (X ++ (B1 ++ A2) ++ M ++ (A1 ++ B2) ++ Y).toArray := by
  intro i
  induction i with
  | zero =>
    intro A1 A2 B1 B2 h1 h2 _
    rw [List.length_eq_zero_iff] at h1 h2
    subst h1 h2
    rfl
  | succ i ih =>
    intro A1 A2 B1 B2 h1 h2 h3
    obtain ⟨A1', x, rfl⟩ : ∃ A1' x, A1 = A1' ++ [x] := ⟨A1.dropLast, A1.getLast (by intro e; rw [e] at h1; simp at h1), (List.dropLast_concat_getLast _).symm⟩
    obtain ⟨B1', y, rfl⟩ : ∃ B1' y, B1 = B1' ++ [y] := ⟨B1.dropLast, B1.getLast (by intro e; rw [e] at h2; simp at h2), (List.dropLast_concat_getLast _).symm⟩
    simp only [List.length_append, List.length_cons, List.length_nil] at h1 h2
    have h := ih A1' (x :: A2) B1' (y :: B2) (by omega) (by omega) (by simp [h3])
    have e1 : X ++ (A1' ++ [x] ++ A2) ++ M ++ (B1' ++ [y] ++ B2) ++ Y = X ++ (A1' ++ x :: A2) ++ M ++ (B1' ++ y :: B2) ++ Y := by simp
    have e2 : X.length + ((A1' ++ [x]).length + A2.length) + M.length = X.length + (A1'.length + (x :: A2).length) + M.length := by simp; omega
    rw [e1, e2, swapR, h]
    have e3 : X ++ (B1' ++ x :: A2) ++ M ++ (A1' ++ y :: B2) ++ Y = (X ++ B1') ++ x :: ((A2 ++ M ++ A1') ++ y :: (B2 ++ Y)) := by simp
    rw [e3, swp_at (X ++ B1') (A2 ++ M ++ A1') (B2 ++ Y) x y _ _ (by simp; omega) (by simp; omega)]
    congr 1
    simp

theorem swapR_whole (X A M B Y : List Ord) (n a b : Nat) (h1 : A.length = n) (h2 : B.length = n) (ha : a = X.length) (hb : b = X.length + n + M.length) :
    swapR (X ++ A ++ M ++ B ++ Y).toArray a b n = (X ++ B ++ M ++ A ++ Y).toArray := by
  have := swapR_list X M Y n A [] B [] h1 h2 rfl
  simp only [List.append_nil, List.length_nil, Nat.add_zero] at this
  rw [h1] at this
  rw [ha, hb, this]

/-- A world of the sort's, the row as a list. -/
def SWL (enc : Ord → List Value) (k : Nat) (w0 : World) (g : Nat) (L : List Ord) (w : World) : Prop := SWK enc k w0 g 0 L.toArray w

theorem swapRange_list {P : Program} {k : Nat} (T : SrtT P k) (FG : P.funcs[159]? = some Tryz.f159) (enc : Ord → List Value) (w0 w : World) (g cap len a b n : Nat) (d0 : Array Ord) (fv : Value) (X A M B Y : List Ord)
    (R : RowK enc k w0 g 0 d0) (hlen : (X ++ A ++ M ++ B ++ Y).length = len) (hs : d0.size = len) (S : SWL enc k w0 g (X ++ A ++ M ++ B ++ Y) w) (h1 : A.length = n) (h2 : B.length = n) (ha : a = X.length) (hb : b = X.length + n + M.length) (hsz : len < 4611686018427387904) :
    Calls P 159 #[.slice (some ⟨g, 0, none⟩) len cap, .int .i64 a, .int .i64 b, .int .i64 n, fv] w fun e w' => e = .returned (.tuple #[]) ∧ SWL enc k w0 g (X ++ B ++ M ++ A ++ Y) w' := by
  have hsize : (X ++ A ++ M ++ B ++ Y).toArray.size = len := by simpa using hlen
  have hl2 : X.length + n + M.length + n + Y.length = len := by
    simp only [List.length_append] at hlen
    omega
  have := swapRange_gen T FG enc w0 w g cap a b n d0 (X ++ A ++ M ++ B ++ Y).toArray fv R (by rw [hsize]; exact hs) S (by omega) (by rw [hsize]; omega) (by rw [hsize]; exact hsz)
  rw [hsize, swapR_whole X A M B Y n a b h1 h2 ha hb] at this
  exact this

end Go.Proofs.YtphkchjejbffeaaGreat

/- The walk of slices.rotateCmpFunc over orders. -/
namespace Go.Proofs.YtphkchjejbffeaaGreat
open Go.Shelf Go.RowKit Go.Lib Go.Sort
attribute [local go_sem ↓] Go.wp_at_zero Go.wp_at_succ

theorem cut_list {α : Type} (L : List α) (n : Nat) (h : n ≤ L.length) : ∃ A B, L = A ++ B ∧ A.length = n := ⟨L.take n, L.drop n, (List.take_append_drop n L).symm, by rw [List.length_take]; omega⟩

set_option maxRecDepth 100000 in
set_option maxHeartbeats 4000000 in
theorem rotate_gen {P : Program} {k : Nat} (T : SrtT P k) (FG : P.funcs[139]? = some Tryz.f139) (FS : P.funcs[159]? = some Tryz.f159) (ES : ∀ args w, (callFunc 159 args).run P w = .ok (.enter 159 args) w)
    (enc : Ord → List Value) (w0 w : World) (g cap len a m b : Nat) (d0 : Array Ord) (fv : Value) (X A B Y : List Ord) (R : RowK enc k w0 g 0 d0) (hlen : (X ++ A ++ B ++ Y).length = len) (hs : d0.size = len) (S : SWL enc k w0 g (X ++ A ++ B ++ Y) w)
    (ha : a = X.length) (hm : m = X.length + A.length) (hb : b = X.length + A.length + B.length) (hA : A ≠ []) (hB : B ≠ []) (hsz : len < 4611686018427387904) :
    Calls P 139 #[.slice (some ⟨g, 0, none⟩) len cap, .int .i64 a, .int .i64 m, .int .i64 b, fv] w fun e w' => e = .returned (.tuple #[]) ∧ SWL enc k w0 g (X ++ B ++ A ++ Y) w' := by
  have HSW := Hid.mk (fun (w : World) (a b n : Nat) (X A M B Y : List Ord) hlen S h1 h2 ha hb => swapRange_list T FS enc w0 w g cap len a b n d0 fv X A M B Y R hlen hs S h1 h2 ha hb hsz)
  have mixed := T.mixed; have t0 := T.t0; have a0 := T.a0; have z0 := T.z0; have v0 := T.v0; have t3 := T.t3; have a3 := T.a3; have z3 := T.z3; have v3 := T.v3; have t4 := T.t4; have a4 := T.a4; have z4 := T.z4; have v4 := T.v4; have t22 := T.t22; have a22 := T.a22; have z22 := T.z22; have v22 := T.v22; have t25 := T.t25; have a25 := T.a25; have z25 := T.z25; have v25 := T.v25; have aE := T.aE; have zE := T.zE
  have hAl : 0 < A.length := List.length_pos_iff.2 hA
  have hBl : 0 < B.length := List.length_pos_iff.2 hB
  have hl2 : X.length + A.length + B.length + Y.length = len := by simp only [List.length_append] at hlen; omega
  have r1 : IntKind.i64.wrap ((m : Int) - (a : Int)) = (m : Int) - (a : Int) := by rw [IntKind.wrap_i64]; omega
  have r2 : IntKind.i64.wrap ((b : Int) - (m : Int)) = (b : Int) - (m : Int) := by rw [IntKind.wrap_i64]; omega
  have e1 : (m : Int) - (a : Int) = (A.length : Int) := by omega
  have e2 : (b : Int) - (m : Int) = (B.length : Int) := by omega
  rw [e1] at r1
  rw [e2] at r2
  have HS0 := Hid.mk S
  have HM := Hid.mk hm
  have hAm : A.length ≤ m := by omega
  have hBm : m + B.length ≤ len := by omega
  clear S T R hs hm ha hb FS
  go_enter FG, Tryz.ntmps139
  go_wp2_with fail
  go_loopw [10, 11] (fun vi vj wr => ∃ i j : Nat, vi = .int .i64 i ∧ vj = .int .i64 j ∧ 1 ≤ i ∧ 1 ≤ j ∧ i ≤ m ∧ m + j ≤ len ∧ Hid (∃ Pf U V Sf : List Ord, SWL enc k w0 g (Pf ++ U ++ V ++ Sf) wr ∧ Pf.length + i = m ∧ U.length = i ∧ V.length = j ∧ Pf ++ V ++ U ++ Sf = X ++ B ++ A ++ Y))
    (fun vi vj _ => (intOf vi).toNat + (intOf vj).toNat)
  case atStart => exact ⟨A.length, B.length, rfl, rfl, hAl, hBl, hAm, hBm, X, A, B, Y, HS0.out, HM.out.symm, rfl, rfl, rfl⟩
  case round =>
    clear HS0
    obtain ⟨i, j, rfl, rfl, hi1, hj1, him, hjm, HR⟩ := hrel
    clear e1 e2 r1 r2 hA hB
    have hll : ∀ Pf U V Sf : List Ord, Pf ++ V ++ U ++ Sf = X ++ B ++ A ++ Y → Pf.length + V.length + U.length + Sf.length = len := fun Pf U V Sf h => by
      have := congrArg List.length h
      simp only [List.length_append] at this
      omega
    have HLL := Hid.mk hll
    clear hll hlen
    have r1 : IntKind.i64.wrap ((m : Int) - (i : Int)) = (m : Int) - (i : Int) := by rw [IntKind.wrap_i64]; omega
    by_cases hij : i = j
    · subst hij
      have e1 : (m : Int) - (i : Int) = ((m - i : Nat) : Int) := by omega
      have HC : Hid (Calls P 159 #[.slice (some ⟨g, 0, none⟩) len cap, .int .i64 ((m - i : Nat) : Int), .int .i64 m, .int .i64 i, fv] wr fun e w' => e = .returned (.tuple #[]) ∧ SWL enc k w0 g (X ++ B ++ A ++ Y) w') := by
        obtain ⟨Pf, U, V, Sf, h1, h2, h3, h4, h5⟩ := HR.out
        have hl := HLL.out Pf U V Sf h5
        have := HSW.out wr (m - i) m i Pf U [] V Sf (by simp only [List.length_append, List.length_nil]; omega) (by simpa using h1) h3 h4 (by omega) (by simp only [List.length_nil]; omega)
        simp only [List.append_nil] at this
        rw [← h5]
        exact this
      rw [e1] at r1
      go_wp2_with fail
      refine HC.out.mono ?_
      rintro e w2 ⟨rfl, h⟩
      have H2 := Hid.mk h
      clear h HC
      go_wp2_with fail
      go_end0
      exact ⟨rfl, H2.out⟩
    · by_cases hgt : j < i
      · have e1 : (m : Int) - (i : Int) = ((m - i : Nat) : Int) := by omega
        have b1 : ((i : Int) == (j : Int)) = false := by rw [beq_eq_false_iff_ne]; omega
        have b2 : (j : Int) < (i : Int) := by omega
        have r2 : IntKind.i64.wrap ((i : Int) - (j : Int)) = (i : Int) - (j : Int) := by rw [IntKind.wrap_i64]; omega
        have e2 : (i : Int) - (j : Int) = ((i - j : Nat) : Int) := by omega
        have HC : Hid (Calls P 159 #[.slice (some ⟨g, 0, none⟩) len cap, .int .i64 ((m - i : Nat) : Int), .int .i64 m, .int .i64 j, fv] wr fun e w' => e = .returned (.tuple #[]) ∧
            ∃ Pf U V Sf : List Ord, SWL enc k w0 g (Pf ++ U ++ V ++ Sf) w' ∧ Pf.length + (i - j) = m ∧ U.length = i - j ∧ V.length = j ∧ Pf ++ V ++ U ++ Sf = X ++ B ++ A ++ Y) := by
          obtain ⟨Pf, U, V, Sf, h1, h2, h3, h4, h5⟩ := HR.out
          have hl := HLL.out Pf U V Sf h5
          obtain ⟨U1, U2, rfl, hU⟩ := cut_list U j (by omega)
          rw [List.length_append] at h3
          have := HSW.out wr (m - i) m j Pf U1 U2 V Sf (by simp only [List.length_append] at hl ⊢; omega) (by simpa using h1) hU h4 (by omega) (by omega)
          refine this.mono ?_
          rintro e w' ⟨rfl, h⟩
          refine ⟨rfl, Pf ++ V, U2, U1, Sf, by simpa using h, by rw [List.length_append]; omega, by omega, hU, ?_⟩
          rw [← h5]; simp
        rw [e1] at r1
        rw [e2] at r2
        go_wp2_with fail
        refine HC.out.mono ?_
        rintro e w2 ⟨rfl, h⟩
        have H2 := Hid.mk h
        clear h HC
        go_wp2_with fail
        exact ⟨⟨i - j, j, by first | rfl | go_num, rfl, by omega, by omega, by omega, by omega, H2.out⟩, by simp [intOf]; omega⟩
      · have e1 : (m : Int) - (i : Int) = ((m - i : Nat) : Int) := by omega
        have b1 : ((i : Int) == (j : Int)) = false := by rw [beq_eq_false_iff_ne]; omega
        have b2 : ¬ (j : Int) < (i : Int) := by omega
        have r2 : IntKind.i64.wrap ((j : Int) - (i : Int)) = (j : Int) - (i : Int) := by rw [IntKind.wrap_i64]; omega
        have e2 : (j : Int) - (i : Int) = ((j - i : Nat) : Int) := by omega
        have r3 : IntKind.i64.wrap ((m : Int) + (j : Int)) = (m : Int) + (j : Int) := by rw [IntKind.wrap_i64]; omega
        have r4 : IntKind.i64.wrap ((m : Int) + (j : Int) - (i : Int)) = (m : Int) + (j : Int) - (i : Int) := by rw [IntKind.wrap_i64]; omega
        have e4 : (m : Int) + (j : Int) - (i : Int) = ((m + j - i : Nat) : Int) := by omega
        have HC : Hid (Calls P 159 #[.slice (some ⟨g, 0, none⟩) len cap, .int .i64 ((m - i : Nat) : Int), .int .i64 ((m + j - i : Nat) : Int), .int .i64 i, fv] wr fun e w' => e = .returned (.tuple #[]) ∧
            ∃ Pf U V Sf : List Ord, SWL enc k w0 g (Pf ++ U ++ V ++ Sf) w' ∧ Pf.length + i = m ∧ U.length = i ∧ V.length = j - i ∧ Pf ++ V ++ U ++ Sf = X ++ B ++ A ++ Y) := by
          obtain ⟨Pf, U, V, Sf, h1, h2, h3, h4, h5⟩ := HR.out
          have hl := HLL.out Pf U V Sf h5
          obtain ⟨V1, V2, rfl, hV⟩ := cut_list V (j - i) (by omega)
          rw [List.length_append] at h4
          have := HSW.out wr (m - i) (m + j - i) i Pf U V1 V2 Sf (by simp only [List.length_append] at hl ⊢; omega) (by simpa using h1) h3 (by omega) (by omega) (by omega)
          refine this.mono ?_
          rintro e w' ⟨rfl, h⟩
          refine ⟨rfl, Pf, V2, V1, U ++ Sf, by simpa using h, by omega, by omega, hV, ?_⟩
          rw [← h5]; simp
        rw [e1] at r1
        rw [e2] at r2
        rw [e4] at r4
        go_wp2_with fail
        refine HC.out.mono ?_
        rintro e w2 ⟨rfl, h⟩
        have H2 := Hid.mk h
        clear h HC
        go_wp2_with fail
        exact ⟨⟨i, j - i, rfl, by first | rfl | go_num, by omega, by omega, by omega, by omega, H2.out⟩, by simp [intOf]; omega⟩

end Go.Proofs.YtphkchjejbffeaaGreat

/- The walk of slices.insertionSortCmpFunc over orders. -/
namespace Go.Proofs.YtphkchjejbffeaaGreat
open Go.Shelf Go.RowKit Go.Lib Go.Sort
attribute [local go_sem ↓] Go.wp_at_zero Go.wp_at_succ

theorem egTest : (∀ args w, (callFunc 159 args).run Tryz.prog w = .ok (.enter 159 args) w) ∧ Tryz.prog.funcs[159]? = some Tryz.f159 := ⟨fun args w => by kernel_rfl, Tryz.func159⟩

/-- 'less' by a comparison. -/
abbrev ltc (cf : Ord → Ord → Int) : Ord → Ord → Bool := fun x y => decide (cf x y < 0)

/-- One on its way down. -/
structure Ins (lt : Ord → Ord → Bool) (A S1 : List Ord) (x : Ord) (S2 T : List Ord) : Prop where
  srt : Srt lt (S1 ++ S2)
  up : ∀ y ∈ S2, lt x y = true
  cls : Cls lt A (S1 ++ x :: S2 ++ T)
  len : (S1 ++ x :: S2 ++ T).length = A.length
theorem Ins.step {lt : Ord → Ord → Bool} (hw : Swo lt) {A S1 : List Ord} {x z : Ord} {S2 T : List Ord} (h : Ins lt A (S1 ++ [z]) x S2 T) (hz : lt x z = true) : Ins lt A S1 x (z :: S2) T := by
  refine ⟨?_, ?_, ?_, ?_⟩
  · have := h.srt; rwa [List.append_assoc] at this
  · intro y hy
    rcases List.mem_cons.1 hy with rfl | hy
    · exact hz
    · exact h.up y hy
  · have e1 : S1 ++ [z] ++ x :: S2 ++ T = S1 ++ (([z] ++ [x]) ++ (S2 ++ T)) := by simp
    have e2 : S1 ++ x :: (z :: S2) ++ T = S1 ++ (([x] ++ [z]) ++ (S2 ++ T)) := by simp
    rw [e2]
    have hc := h.cls
    rw [e1] at hc
    refine hc.trans ((Cls.refl lt S1).app ((Cls.swap hw ?_).app (Cls.refl lt _)))
    intro u hu v hv
    simp at hu hv
    rw [hu, hv]; exact hz
  · have := h.len; simp at this ⊢; omega
theorem Ins.done {lt : Ord → Ord → Bool} (hw : Swo lt) {A S1 : List Ord} {x : Ord} {S2 T : List Ord} (h : Ins lt A S1 x S2 T) (hz : S1 = [] ∨ ∃ S z, S1 = S ++ [z] ∧ lt x z = false) : Srt lt (S1 ++ x :: S2) := by
  obtain ⟨q1, q2, q3⟩ := srt_append.1 h.srt
  refine srt_append.2 ⟨q1, List.pairwise_cons.2 ⟨fun y hy => hw.asym (h.up y hy), q2⟩, ?_⟩
  intro u hu v hv
  have hux : lt x u = false := by
    rcases hz with rfl | ⟨S, z, rfl, hz⟩
    · cases hu
    · rcases List.mem_append.1 hu with hu | hu
      · exact hw.le_trans ((srt_append.1 q1).2.2 u hu z (by simp)) hz
      · simp at hu; rw [hu]; exact hz
  rcases List.mem_cons.1 hv with rfl | hv
  · exact hux
  · exact q3 u hu v hv

set_option maxRecDepth 100000 in
set_option maxHeartbeats 4000000 in
theorem insertion_gen {P : Program} {k : Nat} (T : SrtT P k) (FG : P.funcs[102]? = some Tryz.f102)
    (enc : Ord → List Value) (cf : Ord → Ord → Int) (hw : Swo (ltc cf)) (gc : Nat) (eg : ∀ args w, (callFunc gc args).run P w = .ok (.enter gc args) w) (w0 w : World) (g cap len a b : Nat) (d0 : Array Ord) (X A Y : List Ord) (hcmp : CmpLays P gc #[] enc k cf g 0 len w0) (R : RowK enc k w0 g 0 d0)
    (hlen : (X ++ A ++ Y).length = len) (hs : d0.size = len) (S : SWL enc k w0 g (X ++ A ++ Y) w) (ha : a = X.length) (hb : b = X.length + A.length) (hsz : len < 4611686018427387904) :
    Calls P 102 #[.slice (some ⟨g, 0, none⟩) len cap, .int .i64 a, .int .i64 b, .func (.func gc) #[] #[]] w fun e w' => e = .returned (.tuple #[]) ∧ ∃ A', Srt (ltc cf) A' ∧ Cls (ltc cf) A A' ∧ A'.length = A.length ∧ SWL enc k w0 g (X ++ A' ++ Y) w' := by
  have mixed := T.mixed; have t0 := T.t0; have a0 := T.a0; have z0 := T.z0; have v0 := T.v0; have t3 := T.t3; have a3 := T.a3; have z3 := T.z3; have v3 := T.v3; have t4 := T.t4; have a4 := T.a4; have z4 := T.z4; have v4 := T.v4; have t22 := T.t22; have a22 := T.a22; have z22 := T.z22; have v22 := T.v22; have t25 := T.t25; have a25 := T.a25; have z25 := T.z25; have v25 := T.v25; have aE := T.aE; have zE := T.zE
  have u22 := run_underlying T.t22
  have HC : Aside (CmpLays P gc #[] enc k cf g 0 len w0) := hcmp
  have hlX : X.length + A.length + Y.length = len := by simp only [List.length_append] at hlen; omega
  have HS0 := Hid.mk S
  have HXA := Hid.mk (And.intro ha hb)
  have hab : a ≤ b := by omega
  have hbl : b ≤ len := by omega
  clear S T hcmp ha hb
  go_enter FG, Tryz.ntmps102
  go_wp2_with fail
  go_loopg [8] (b - a) (fun g1 vi wr => ∃ i : Nat, vi = .int .i64 i ∧ a < i ∧ i ≤ b + 1 ∧ b + 1 - i ≤ g1 + 1 ∧ Hid (∃ S T, Srt (ltc cf) S ∧ Cls (ltc cf) A (S ++ T) ∧ (S ++ T).length = A.length ∧ (i ≤ b → X.length + S.length = i) ∧ (b < i → T = []) ∧ SWL enc k w0 g (X ++ (S ++ T) ++ Y) wr))
  case atStart =>
    refine ⟨a + 1, by go_num, by omega, by omega, by omega, ?_⟩
    obtain ⟨ha, hb⟩ := HXA.out
    cases A with
    | nil => exact ⟨[], [], List.Pairwise.nil, Cls.refl _ _, rfl, fun h => by simp at hb; omega, fun _ => rfl, HS0.out⟩
    | cons x A => exact ⟨[x], A, List.pairwise_singleton _ _, Cls.refl _ _, rfl, fun _ => by simp; omega, fun h => by simp at hb; omega, HS0.out⟩
  case round =>
    clear HS0
    obtain ⟨i, rfl, hai, hib, hg1, HR⟩ := hrel
    by_cases hlt : i < b
    · have hltz : (i : Int) < (b : Int) := by omega
      have HR2 : Hid (∃ S1 x S2 T, Ins (ltc cf) A S1 x S2 T ∧ X.length + S1.length = i ∧ (X.length + S1.length + S2.length = i) ∧ SWL enc k w0 g (X ++ (S1 ++ x :: S2 ++ T) ++ Y) wr) := by
        obtain ⟨S, T, h1, h2, h3, h4, -, h6⟩ := HR.out
        have h4 := h4 (by omega)
        cases T with
        | nil => simp at h3; have := HXA.out.2; omega
        | cons x T => exact ⟨S, x, [], T, ⟨by simpa using h1, fun y hy => (by cases hy), by simpa using h2, by simpa using h3⟩, h4, by simpa using h4, by simpa using h6⟩
      clear HR
      go_wp2_with fail
      go_loopg [9] i (fun g2 vj wr2 => ∃ j : Nat, vj = .int .i64 j ∧ a ≤ j ∧ j ≤ i ∧ j ≤ g2 ∧ Hid (∃ S1 x S2 T, Ins (ltc cf) A S1 x S2 T ∧ X.length + S1.length = j ∧ (X.length + S1.length + S2.length = i) ∧ SWL enc k w0 g (X ++ (S1 ++ x :: S2 ++ T) ++ Y) wr2))
      case atStart => exact ⟨i, rfl, by omega, Nat.le_refl _, Nat.le_refl _, HR2.out⟩
      case round =>
        clear HR2
        obtain ⟨j, rfl, haj, hji, hg2, HI⟩ := hrel
        obtain ⟨S1, x, S2, T, hIns, hj1, hj2, hSW⟩ := HI.out
        clear HI
        have OUT : Aside ((S1 = [] ∨ ∃ S z, S1 = S ++ [z] ∧ ltc cf x z = false) → ∀ wq, SWL enc k w0 g (X ++ (S1 ++ x :: S2 ++ T) ++ Y) wq → ∃ S T, Srt (ltc cf) S ∧ Cls (ltc cf) A (S ++ T) ∧ (S ++ T).length = A.length ∧ (i + 1 ≤ b → X.length + S.length = i + 1) ∧ (b < i + 1 → T = []) ∧ SWL enc k w0 g (X ++ (S ++ T) ++ Y) wq) := by
          intro hz wq hq
          refine ⟨S1 ++ x :: S2, T, hIns.done hw hz, hIns.cls, hIns.len, fun _ => by simp; omega, fun h => by omega, hq⟩
        have hlD : (X ++ (S1 ++ x :: S2 ++ T) ++ Y).length = len := by
          have := hIns.len
          simp only [List.length_append] at this ⊢
          omega
        have hzD : (X ++ (S1 ++ x :: S2 ++ T) ++ Y).toArray.size = len := by simpa using hlD
        by_cases hja : a < j
        · have hjaz : (a : Int) < (j : Int) := by omega
          obtain ⟨jp, rfl⟩ : ∃ jp, j = jp + 1 := ⟨j - 1, by omega⟩
          obtain ⟨S', z, rfl⟩ : ∃ S' z, S1 = S' ++ [z] := by
            have hne : S1 ≠ [] := by
              intro e
              have := HXA.out.1
              rw [e] at hj1
              simp at hj1
              omega
            exact ⟨S1.dropLast, S1.getLast hne, (List.dropLast_concat_getLast _).symm⟩
          rw [List.length_append, List.length_singleton] at hj1 hj2
          have hxj : (X ++ (S' ++ [z] ++ x :: S2 ++ T) ++ Y).toArray[jp + 1]! = x := by
            have := get_at (X ++ (S' ++ [z])) (S2 ++ T ++ Y) x (jp + 1) (by simp; omega)
            simpa using this
          have hxp : (X ++ (S' ++ [z] ++ x :: S2 ++ T) ++ Y).toArray[jp]! = z := by
            have := get_at (X ++ S') (x :: S2 ++ T ++ Y) z jp (by simp; omega)
            simpa using this
          have hwp : IntKind.i64.wrap (jp : Int) = (jp : Int) := by rw [IntKind.wrap_i64]; omega
          have jz : (jp : Int) + 1 < (len : Int) := by omega
          have jz1 : (jp : Int) < (len : Int) := by omega
          have p0 : (0 : Int) ≤ (jp : Int) + 1 := by omega
          have hjaz' : (a : Int) < (jp : Int) + 1 := by omega
          have e0 : ((jp : Int) + 1).toNat = jp + 1 := by omega
          have lj : ∀ n' os', Sem.run P (loadCellsFrom ⟨g, (jp + 1) * k, none⟩ 0 k #[]) (grow (wr.drewN n') os') = .ok (enc x).toArray (grow (wr.drewN n') os') := fun n' os' => by
            have := SWK.ld hSW R (by rw [hzD, hs]) P (jp + 1) (by rw [hzD]; omega) n' os'
            rwa [Nat.zero_add, hxj] at this
          have lp : ∀ n' os', Sem.run P (loadCellsFrom ⟨g, jp * k, none⟩ 0 k #[]) (grow (wr.drewN n') os') = .ok (enc z).toArray (grow (wr.drewN n') os') := fun n' os' => by
            have := SWK.ld hSW R (by rw [hzD, hs]) P jp (by rw [hzD]; omega) n' os'
            rwa [Nat.zero_add, hxp] at this
          have hcg : ∀ n' os', Calls P gc #[.agg (enc x).toArray, .agg (enc z).toArray] (grow (wr.drewN n') os') fun e w' => e = .returned (.int .i64 (cf x z)) ∧ ∃ q os'', w' = grow ((grow (wr.drewN n') os').drewN q) os'' := fun n' os' => SWK.cmp hSW HC.out hzD x z n' os'
          have CLS : Hid (∀ n' os', SWL enc k w0 g (X ++ (S' ++ [z] ++ x :: S2 ++ T) ++ Y) (grow (wr.drewN n') os')) := fun n' os' => SWK.grown hSW n' os'
          have HIN := Hid.mk (And.intro hIns (And.intro hj2 (And.intro hxj (And.intro hxp hzD))))
          clear hSW hIns hj2 hxj hxp hzD hlD
          by_cases hlv : cf x z < 0
          · go_wp2_with fail
            go_quiet_grown (first | (go_at_fn gc; refine Calls.grown_of (hcg _ _)))
            go_wp2_with fail
            have hq2 := CLS.out nq osq
            clear lj lp hcg CLS OUT
            generalize grow (wr.drewN nq) osq = wq2 at hq2 ⊢
            obtain ⟨hIns, hj2, hxj, hxp, hzD⟩ := HIN.out
            have SW2 : Aside (SWK enc k w0 g 0 (swp (X ++ (S' ++ [z] ++ x :: S2 ++ T) ++ Y).toArray (jp + 1) jp) ((wq2.drew.setCells g (0 + (jp + 1) * k) (enc (X ++ (S' ++ [z] ++ x :: S2 ++ T) ++ Y).toArray[jp]!)).setCells g (0 + jp * k) (enc (X ++ (S' ++ [z] ++ x :: S2 ++ T) ++ Y).toArray[jp + 1]!))) := SWK.swapped hq2 R (jp + 1) jp (by rw [hzD]; omega) (by rw [hzD]; omega)
            have l1 := SWK.ld1 hq2 R (by rw [hzD, hs]) P (jp + 1) (by rw [hzD]; omega)
            have l2 := SWK.ld1 hq2 R (by rw [hzD, hs]) P jp (by rw [hzD]; omega)
            have s1 := SWK.st1 hq2 R (by rw [hzD, hs]) P (jp + 1) (by rw [hzD]; omega) z
            have s2 := SWK.st2 hq2 R (by rw [hzD, hs]) P (jp + 1) jp (by rw [hzD]; omega) (by rw [hzD]; omega) z x
            rw [hxj, hxp] at SW2
            rw [hxj] at l1
            rw [hxp] at l2
            have hst := hIns.step hw (decide_eq_true hlv)
            have hls : swp (X ++ (S' ++ [z] ++ x :: S2 ++ T) ++ Y).toArray (jp + 1) jp = (X ++ (S' ++ x :: (z :: S2) ++ T) ++ Y).toArray := by
              have := swp_rev (X ++ S') [] (S2 ++ T ++ Y) z x jp (jp + 1) (by simp; omega) (by simp; omega)
              simpa using this
            rw [hls] at SW2
            have n1 : (enc x).length = k := R.hk _
            have n2 : (enc z).length = k := R.hk _
            have HST := Hid.mk (And.intro hst (show X.length + S'.length = jp ∧ X.length + S'.length + (z :: S2).length = i by simp; omega))
            generalize enc x = cI at SW2 l1 s2 n1
            generalize enc z = cJ at SW2 l2 s1 s2 n2
            simp only [Nat.zero_add] at SW2 l1 l2 s1 s2
            clear hq2 hIns hj2 hxj hxp hzD hls hst HIN
            go_big_region_o
            clear l1 l2 s1 s2
            generalize (wq2.drew.setCells g ((jp + 1) * k) cJ).setCells g (jp * k) cI = w5 at SW2 ⊢
            go_wp2
            go_roundg jp
            case measure => omega
            case rel => exact ⟨jp, by first | rfl | go_num, by omega, by omega, Nat.le_refl _, S', x, z :: S2, T, HST.out.1, HST.out.2.1, HST.out.2.2, SW2.out⟩
          · go_wp2_with fail
            go_quiet_grown (first | (go_at_fn gc; refine Calls.grown_of (hcg _ _)))
            go_wp2
            go_roundg (b - (i + 1))
            case measure => omega
            case rel => exact ⟨i + 1, by go_num, by omega, by omega, by omega, OUT.out (.inr ⟨S', z, rfl, decide_eq_false (by omega)⟩) _ (CLS.out nq osq)⟩
        · have hjaz : decide ((j : Int) > (a : Int)) = false := decide_eq_false (by omega)
          have hjaz' : ¬ (a : Int) < (j : Int) := by omega
          have hS1 : S1 = [] := List.length_eq_zero_iff.1 (by have := HXA.out.1; omega)
          have HD : Hid (SWL enc k w0 g (X ++ (S1 ++ x :: S2 ++ T) ++ Y) wr.drew) := SWK.drew hSW
          have HS1 := Hid.mk hS1
          clear hSW hIns hS1 hzD hlD hj1 hj2
          go_wp2_with fail
          go_big_region_o
          all_goals go_wp2
          go_roundg (b - (i + 1))
          case measure => omega
          case rel => exact ⟨i + 1, by go_num, by omega, by omega, by omega, OUT.out (.inl HS1.out) _ HD.out⟩
    · have hltz : ¬ (i : Int) < (b : Int) := by omega
      go_wp2
      go_end0
      obtain ⟨S, T, h1, h2, h3, h4, h5, h6⟩ := HR.out
      have hT : T = [] := by
        by_cases hbi : b < i
        · exact h5 hbi
        · have h4 := h4 (by omega)
          have := HXA.out.2
          rw [List.length_append] at h3
          exact List.length_eq_zero_iff.1 (by omega)
      subst hT
      rw [List.append_nil] at h2 h3 h6
      exact ⟨rfl, S, h1, h2, h3, by simpa using h6⟩

end Go.Proofs.YtphkchjejbffeaaGreat
