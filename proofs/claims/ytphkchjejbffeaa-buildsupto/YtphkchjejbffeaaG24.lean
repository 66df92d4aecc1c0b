/- slices.SortStableFunc over orders, whole. -/
import Derived.Test.YtphkchjejbffeaaG23
namespace Go.Proofs.Ytphkchjejbffeaa
open Go.Shelf Go.RowKit Go.Lib Go.Sort
attribute [local go_sem ↓] Go.wp_at_zero Go.wp_at_succ

/-- What the stable sort calls. -/
structure SrtG (P : Program) : Prop extends SrtF P where
  fi : P.funcs[131]? = some Try.f131
  ft : P.funcs[98]? = some Try.f98
  fo : P.funcs[65]? = some Try.f65
  ei : ∀ args w, (callFunc 131 args).run P w = .ok (.enter 131 args) w
  et : ∀ args w, (callFunc 98 args).run P w = .ok (.enter 98 args) w

theorem stable_gen {P : Program} {k : Nat} (T : SrtT P k) (F : SrtG P)
    (enc : Ord → List Value) (cf : Ord → Ord → Int) (hw : Swo (ltc cf)) (gc : Nat) (eg : ∀ args w, (callFunc gc args).run P w = .ok (.enter gc args) w) (w0 w : World) (g cap len : Nat) (d0 : Array Ord) (L : List Ord) (hcmp : CmpLays P gc #[] enc k cf g 0 len w0) (R : RowK enc k w0 g 0 d0) (hs : d0.size = len) (hL : L.length = len) (S : SWL enc k w0 g L w) (hsz : len < 1152921504606846976) :
    Calls P 98 #[.slice (some ⟨g, 0, none⟩) len cap, .int .i64 len, .func (.func gc) #[] #[]] w fun e w' => e = .returned (.tuple #[]) ∧ ∃ C, Srt (ltc cf) C ∧ Cls (ltc cf) L C ∧ C.length = len ∧ SWL enc k w0 g C w' :=
  stable_walk T F.ft F.ei F.em enc cf gc w0 w g cap len L
    (fun w X A Y a b hl hS ha hb => insertion_gen T F.fi enc cf hw gc eg w0 w g cap len a b d0 X A Y hcmp R hl hs hS ha hb (by omega))
    (fun w X A B Y a m b hl hS ha hm hb h1 h2 h3 h4 => symMerge_gen T F.toSrtF enc cf hw gc eg w0 g cap len d0 hcmp R hs (by omega) _ w X A B Y a m b (Nat.le_refl _) hl hS ha hm hb h1 h2 h3 h4)
    hL S hsz

set_option maxRecDepth 100000 in
set_option maxHeartbeats 4000000 in
theorem sortStable_gen {P : Program} {k : Nat} (T : SrtT P k) (F : SrtG P)
    (enc : Ord → List Value) (cf : Ord → Ord → Int) (hw : Swo (ltc cf)) (gc : Nat) (eg : ∀ args w, (callFunc gc args).run P w = .ok (.enter gc args) w) (w0 w : World) (g cap len : Nat) (d0 : Array Ord) (L : List Ord) (hcmp : CmpLays P gc #[] enc k cf g 0 len w0) (R : RowK enc k w0 g 0 d0) (hs : d0.size = len) (hL : L.length = len) (S : SWL enc k w0 g L w) (hsz : len < 1152921504606846976) :
    Calls P 65 #[.slice (some ⟨g, 0, none⟩) len cap, .func (.func gc) #[] #[]] w fun e w' => e = .returned (.tuple #[]) ∧ ∃ C, Srt (ltc cf) C ∧ Cls (ltc cf) L C ∧ C.length = len ∧ SWL enc k w0 g C w' := by
  have FG := F.fo
  have et := F.et
  have Q := Hid.mk (fun (w : World) (S : SWL enc k w0 g L w) => stable_gen T F enc cf hw gc eg w0 w g cap len d0 L hcmp R hs hL S hsz)
  have mixed := T.mixed; have t0 := T.t0; have a0 := T.a0; have z0 := T.z0; have v0 := T.v0; have t3 := T.t3; have a3 := T.a3; have z3 := T.z3; have v3 := T.v3; have t4 := T.t4; have a4 := T.a4; have z4 := T.z4; have v4 := T.v4; have t22 := T.t22; have a22 := T.a22; have z22 := T.z22; have v22 := T.v22; have t25 := T.t25; have a25 := T.a25; have z25 := T.z25; have v25 := T.v25; have tu := T.tu; have au := T.au; have zu := T.zu; have vu := T.vu; have aE := T.aE; have zE := T.zE
  have uu := run_underlying T.t22
  have HS0 := Hid.mk S
  clear T F S hcmp R hs hL
  go_enter FG, Try.ntmps65
  go_wp2_with fail
  refine (Q.out _ HS0.out).mono ?_
  rintro e' w2 ⟨rfl, h⟩
  have H2 := Hid.mk h
  clear h
  go_wp2
  go_end0
  exact ⟨rfl, H2.out⟩

end Go.Proofs.Ytphkchjejbffeaa

/- A list of orders, sorted as the book stands. -/
namespace Go.Proofs.Ytphkchjejbffeaa
open Go.Shelf Go.RowKit Go.Lib Go.Sort

theorem srtG : SrtG Try.prog where
  fm := Try.func132
  fr := Try.func148
  fs := Try.func151
  em := fun args w => by kernel_rfl
  er := fun args w => by kernel_rfl
  es := fun args w => by kernel_rfl
  fi := Try.func131
  ft := Try.func98
  fo := Try.func65
  ei := fun args w => by kernel_rfl
  et := fun args w => by kernel_rfl

/-- The list after the sort: sorted, and those that are alike in the same order. -/
theorem sortBook (w0 w : World) (g cap len : Nat) (d0 : Array Ord) (L : List Ord) (R : RowK Ord.cells 6 w0 g 0 d0) (hs : d0.size = len) (hL : L.length = len) (S : SWL Ord.cells 6 w0 g L w) (hsz : len < 1152921504606846976) :
    Calls Try.prog 65 #[.slice (some ⟨g, 0, none⟩) len cap, .func (.func 66) #[] #[]] w fun e w' => e = .returned (.tuple #[]) ∧ ∃ C, Srt (ltc byB) C ∧ Cls (ltc byB) L C ∧ C.length = len ∧ SWL Ord.cells 6 w0 g C w' :=
  sortStable_gen srtT srtG Ord.cells byB byB_swo 66 (fun args w => by kernel_rfl) w0 w g cap len d0 L (byBook_lays g len w0) R hs hL S hsz

end Go.Proofs.Ytphkchjejbffeaa

/- The sort of no orders. -/
namespace Go.Proofs.Ytphkchjejbffeaa
open Go.Shelf Go.RowKit Go.Lib Go.Sort
attribute [local go_sem ↓] Go.wp_at_zero Go.wp_at_succ

set_option maxRecDepth 100000 in
set_option maxHeartbeats 2000000 in
theorem insertion_none (f : Value) (w : World) : Calls Try.prog 131 #[.slice none 0 0, .int .i64 0, .int .i64 0, f] w fun e w' => e = .returned (.tuple #[]) ∧ w' = w := by
  go_enter Try.func131, Try.ntmps131
  go_wp2_with fail
  go_loopw [8] (fun vi wr => vi = .int .i64 1 ∧ wr = w) (fun _ _ => 0)
  case atStart => exact ⟨by first | rfl | go_num, rfl⟩
  case round =>
    obtain ⟨rfl, rfl⟩ := hrel
    go_wp2
    go_end0
    exact ⟨rfl, rfl⟩

set_option maxRecDepth 100000 in
set_option maxHeartbeats 2000000 in
theorem stable_none (f : Value) (w : World) : Calls Try.prog 98 #[.slice none 0 0, .int .i64 0, f] w fun e w' => e = .returned (.tuple #[]) ∧ w' = w := by
  go_enter Try.func98, Try.ntmps98
  go_wp2_with fail
  go_loopw [7, 8] (fun va vb wr => va = .int .i64 0 ∧ vb = .int .i64 20 ∧ wr = w) (fun _ _ _ => 0)
  case atStart => exact ⟨rfl, rfl, rfl⟩
  case round =>
    obtain ⟨rfl, rfl, rfl⟩ := hrel
    go_wp2_with fail
    refine (insertion_none _ _).mono ?_
    rintro e' w2 ⟨rfl, rfl⟩
    go_wp2_with fail
    go_loopw [6, 7, 8] (fun vk va vb wr => vk = .int .i64 20 ∧ va = .int .i64 0 ∧ vb = .int .i64 20 ∧ wr = w2) (fun _ _ _ _ => 0)
    case atStart => exact ⟨rfl, rfl, rfl, rfl⟩
    case round =>
      obtain ⟨rfl, rfl, rfl, rfl⟩ := hrel
      go_wp2
      go_end0
      exact ⟨rfl, rfl⟩

set_option maxRecDepth 100000 in
set_option maxHeartbeats 2000000 in
theorem sort_none (f : Value) (w : World) : Calls Try.prog 65 #[.slice none 0 0, f] w fun e w' => e = .returned (.tuple #[]) ∧ w' = w := by
  go_enter Try.func65, Try.ntmps65
  go_wp2_with fail
  refine (stable_none _ _).mono ?_
  rintro e' w2 ⟨rfl, rfl⟩
  go_wp2
  go_end0
  exact ⟨rfl, rfl⟩

end Go.Proofs.Ytphkchjejbffeaa

/- The walks of tapeBytes, follow, list. -/
namespace Go.Proofs.Ytphkchjejbffeaa
open Go.Shelf Go.RowKit Go.Lib Go.Sort
attribute [local go_sem ↓] Go.wp_at_zero Go.wp_at_succ

theorem cells_flat_len (l : List Ord) : (l.flatMap Ord.cells).length = l.length * 6 := by
  induction l with
  | nil => rfl
  | cons x l ih =>
    rw [List.flatMap_cons, List.length_append, ih, List.length_cons, Nat.add_mul]
    show 6 + _ = _
    omega
theorem flat_at (C : List Ord) (k : Nat) (h : k < C.length * 6) : (flatK Ord.cells 6 C.toArray)[k]! = (C[k / 6]'(by omega)).cells[k % 6]'(by show k % 6 < 6; omega) := by
  have hi : k / 6 < C.length := by omega
  have hr : k % 6 < (C[k / 6].cells).length := by show k % 6 < 6; omega
  rw [get_flatK _ _ _ _ h]
  have e1 : C.toArray[k / 6]! = C[k / 6] := by rw [getElem!_pos _ _ (by simpa using hi)]; simp
  rw [e1]
  exact getElem!_pos (C[k / 6].cells) (k % 6) hr

theorem holdsK_of_row {w : World} {base g cap n : Nat} {K : List Ord} (h : w.ownsRow base 46 6 (.slice (some ⟨g, 0, none⟩) n cap) n (K.flatMap Ord.cells)) (hK : K.length = n) : HoldsK Ord.cells 6 w g 0 K.toArray := by
  intro j hj
  rw [size_flatK] at hj
  have hj' : j < K.length * 6 := hj
  have hi : j / 6 < K.length := by omega
  have hlen : ∀ x : Ord, x.cells.length = 6 := fun _ => rfl
  have hx : K[j / 6]? = some K[j / 6] := List.getElem?_eq_getElem hi
  have hr : j % 6 < (K[j / 6].cells).length := by rw [hlen]; omega
  have hf := flat_getG Ord.cells 6 hlen K (j / 6) (j % 6) _ (K[j / 6].cells[j % 6]) hx (by omega) (List.getElem?_eq_getElem hr)
  rw [show j / 6 * 6 + j % 6 = j by omega] at hf
  have hc := h.cells (g := g) rfl j _ hf
  rw [Addr.add_lit] at hc
  have e : (flatK Ord.cells 6 K.toArray)[j]! = K[j / 6].cells[j % 6] := by
    rw [get_flatK _ _ _ _ hj]
    have e1 : K.toArray[j / 6]! = K[j / 6] := by rw [getElem!_pos _ _ (by simpa using hi)]; simp
    rw [e1]
    exact getElem!_pos (K[j / 6].cells) (j % 6) hr
  refine ⟨by rw [e]; exact hc, ?_⟩
  rcases h.2 with ⟨h1, -⟩ | ⟨g', cap', cur, h1, h2, h3, -⟩
  · simp at h1
  · simp only [Value.slice.injEq, Option.some.injEq, Addr.mk.injEq] at h1
    obtain ⟨⟨rfl, -, -⟩, -⟩ := h1
    simp [World.frozen?, h3]

theorem row_of_swl {w w' : World} {base g cap n : Nat} {K C : List Ord} (h : w.ownsRow base 46 6 (.slice (some ⟨g, 0, none⟩) n cap) n (K.flatMap Ord.cells)) (hC : C.length = n) (hb : base ≤ w.heap.size) (S : SWL Ord.cells 6 w g C w') :
    w'.ownsRow base 46 6 (.slice (some ⟨g, 0, none⟩) n cap) n (C.flatMap Ord.cells) ∧ Below base w w' := by
  obtain ⟨m, os, rfl⟩ := S
  have hlen : ∀ x : Ord, x.cells.length = 6 := fun _ => rfl
  rcases h.2 with ⟨h1, -⟩ | ⟨g', cap', cur, h1, h2, h3, h4, h5, h6, h7⟩
  · simp at h1
  · simp only [Value.slice.injEq, Option.some.injEq, Addr.mk.injEq] at h1
    obtain ⟨⟨rfl, -, -⟩, -, rfl⟩ := h1
    have hgl : g < w.heap.size := (Array.getElem?_eq_some_iff.1 h3).1
    have hheap : ∀ k, k < w.heap.size → (sortWorldK Ord.cells 6 w g 0 m C.toArray os).heap[k]? = (w.heap.modify g (onCells (putCells id 0 (flatK Ord.cells 6 C.toArray))))[k]? := by
      intro k hk
      show (grow (putRow id (Sort.ahead w m) g 0 (flatK Ord.cells 6 C.toArray)) os).heap[k]? = _
      rw [heap_grow_old _ _ (by rw [Sort.size_putRow]; exact hk)]
      rfl
    have hgg : (sortWorldK Ord.cells 6 w g 0 m C.toArray os).heap[g]? = some (.cells (putCells id 0 (flatK Ord.cells 6 C.toArray) cur) 46 (0, 0)) := by
      rw [hheap g hgl, Array.getElem?_modify, if_pos rfl, h3]
      rfl
    refine ⟨⟨?_, .inr ⟨g, cap, putCells id 0 (flatK Ord.cells 6 C.toArray) cur, rfl, h2, hgg, h4, h5, ?_, ?_⟩⟩, ⟨rfl, rfl, rfl, ?_, ?_⟩⟩
    · rw [cells_flat_len, hC]
    · unfold putCells
      rw [Array.size_mapIdx]
      exact h6
    · refine List.ext_getElem? fun k => ?_
      rw [List.getElem?_take]
      by_cases hk : k < n * 6
      · have hkc : k < cur.size := by rw [h6]; have := Nat.mul_le_mul_right 6 h4; omega
        have hkC : k < C.length * 6 := by rw [hC]; exact hk
        rw [if_pos hk, Array.getElem?_toList]
        unfold putCells
        rw [Array.getElem?_mapIdx, Array.getElem?_eq_getElem hkc, Option.map_some, if_pos ⟨Nat.zero_le _, by rw [Nat.zero_add, size_flatK]; exact hkC⟩, Nat.sub_zero, flat_at C k hkC]
        have hi : k / 6 < C.length := by omega
        have hr : k % 6 < (C[k / 6].cells).length := by rw [hlen]; omega
        have hf := flat_getG Ord.cells 6 hlen C (k / 6) (k % 6) _ (C[k / 6].cells[k % 6]) (List.getElem?_eq_getElem hi) (by omega) (List.getElem?_eq_getElem hr)
        rw [show k / 6 * 6 + k % 6 = k by omega] at hf
        rw [hf]
        rfl
      · rw [if_neg hk, List.getElem?_eq_none (by rw [cells_flat_len, hC]; omega)]
    · exact SWK.le ⟨m, os, rfl⟩
    · intro k hk
      rw [hheap k (by omega), Array.getElem?_modify, if_neg (by omega)]

theorem sort_row {w : World} {base g cap n : Nat} {K : List Ord} (h : w.ownsRow base 46 6 (.slice (some ⟨g, 0, none⟩) n cap) n (K.flatMap Ord.cells)) (hK : K.length = n) (hb : base ≤ w.heap.size) (hsz : n < 1152921504606846976) :
    Calls Try.prog 65 #[.slice (some ⟨g, 0, none⟩) n cap, .func (.func 66) #[] #[]] w fun e w' => e = .returned (.tuple #[]) ∧ ∃ C, Srt (ltc byB) C ∧ Cls (ltc byB) K C ∧ C.length = n ∧ w'.ownsRow base 46 6 (.slice (some ⟨g, 0, none⟩) n cap) n (C.flatMap Ord.cells) ∧ Below base w w' := by
  have hH := holdsK_of_row h hK
  have hgl : g < w.heap.size := (World.ownsRow.lt h g rfl).2
  have R : RowK Ord.cells 6 w g 0 K.toArray := ⟨fun _ => rfl, fun x => cells_ones x, hH, hgl⟩
  refine (sortBook w w g cap n K.toArray K R (by simpa using hK) hK (SWK.start hH) hsz).mono ?_
  rintro e w' ⟨rfl, C, h1, h2, h3, h4⟩
  obtain ⟨r1, r2⟩ := row_of_swl h h3 hb h4
  exact ⟨rfl, C, h1, h2, h3, r1, r2⟩

set_option maxRecDepth 100000 in
set_option maxHeartbeats 2000000 in
theorem list_any {w : World} {base r : Nat} {L : List Ord} (h : RbAt w base r L) (hL : L.length ≤ 2900000000000) :
    Calls Try.prog 39 #[.pointer (some ⟨r, 0, none⟩)] w fun e w' => ∃ v C, e = .returned v ∧ Srt (ltc byB) C ∧ Cls (ltc byB) (L.filter alive) C ∧ w'.ownsRow w.heap.size 46 6 v C.length (C.flatMap Ord.cells) ∧ Below w.heap.size w w' := by
  obtain ⟨v, pm, n, M, h1, -, -, h4⟩ := h
  obtain ⟨g0, -, -, -⟩ := h1.cells
  obtain ⟨ra, cap, rfl, hc1, hc2, hcs⟩ := h1.row.form
  obtain ⟨nl, hnl⟩ : ∃ nl, L.length = nl := ⟨_, rfl⟩
  rw [hnl] at g0 hL hc1
  have HC := Hid.mk hcs
  have HSM := Hid.mk h4
  have HNL := Hid.mk hnl
  clear hcs h4 h1 hnl
  obtain ⟨i0, hi, hz0, hz1, hz2⟩ := info_parts Try.infoApi
  have HI := Hid.mk (And.intro hi (And.intro hz0 (And.intro hz1 hz2)))
  clear hi hz0 hz1 hz2
  go_enter Try.func39, Try.ntmps39
  go_wp2_with fail
  go_loopw [3, 11] (fun v i wr => ∃ j : Nat, j ≤ nl ∧ i = .int .i64 j ∧ Hid (wr.ownsRow w.heap.size 46 6 v ((L.take j).filter alive).length (((L.take j).filter alive).flatMap Ord.cells)) ∧ Hid (Below w.heap.size w wr)) (fun _ i _ => nl - (intOf i).toNat)
  case atStart => exact ⟨0, Nat.zero_le _, rfl, World.ownsRow_nil _ _ _ _, Below.refl _ _⟩
  case round =>
    obtain ⟨j, hj, rfl, hown, hB⟩ := hrel
    by_cases hjl : j < nl
    · have i2 : (j : Int) < (nl : Int) := by omega
      have i3 : (0 : Int) ≤ (j : Int) := by omega
      obtain ⟨x, hx⟩ : ∃ x, L[j]? = some x := ⟨_, List.getElem?_eq_getElem (by rw [HNL.out]; exact hjl)⟩
      obtain ⟨g, rfl, -, hgl, -, hrg⟩ := HC.out j x hx
      have HTK : Hid ((L.take (j + 1)).filter alive = (L.take j).filter alive ++ (if x.shares = 0 then [] else [x])) := by
        show _ = _
        rw [List.take_add_one, hx, List.filter_append]
        congr 1
        by_cases e : x.shares = 0 <;> simp [alive, e]
      have HSX : Hid x.small := HSM.out x (List.mem_of_getElem? hx)
      have cx : ∀ t u, (ordL 0 0 x)[t]? = some u → wr.cell? ⟨g, j * 8 + t, none⟩ = some u := fun t u hu => (hB.out.cell (p := ⟨g, j * 8 + t, none⟩) hgl).trans (hrg t u hu)
      have d0 : wr.cell? ⟨g, j * 8, none⟩ = some (.int .i64 0) := cx 0 _ rfl
      have d1 : wr.cell? ⟨g, j * 8 + 1, none⟩ = some (.int .i64 0) := cx 1 _ rfl
      have d2 : wr.cell? ⟨g, j * 8 + 2, none⟩ = some (.int .u32 x.ref) := cx 2 _ rfl
      have d3 : wr.cell? ⟨g, j * 8 + 3, none⟩ = some (.int .u32 x.token) := cx 3 _ rfl
      have d4 : wr.cell? ⟨g, j * 8 + 4, none⟩ = some (.int .u8 x.side.toNat) := cx 4 _ rfl
      have d5 : wr.cell? ⟨g, j * 8 + 5, none⟩ = some (.int .u8 x.stock) := cx 5 _ rfl
      have d6 : wr.cell? ⟨g, j * 8 + 6, none⟩ = some (.int .u16 x.price) := cx 6 _ rfl
      have d7 : wr.cell? ⟨g, j * 8 + 7, none⟩ = some (.int .u16 x.shares) := cx 7 _ rfl
      clear cx hrg
      have hfl : ((L.take j).filter alive).length ≤ j := by
        have e1 := List.length_filter_le alive (L.take j)
        have e2 : (L.take j).length ≤ j := by rw [List.length_take]; omega
        omega
      generalize (L.take j).filter alive = F at *
      by_cases hs : x.shares = 0
      · have b0 : ¬ (0 : Int) < (x.shares : Int) := by omega
        rw [if_pos hs, List.append_nil] at HTK
        clear hs hx
        go_wp2_with fail
        refine ⟨⟨j + 1, by omega, by go_num, ?_, ?_⟩, by simp [intOf]; omega⟩
        · show World.ownsRow _ _ _ _ _ _ _
          rw [HTK.out]
          exact ownsRow_keep hown.out (fun g hg => by rw [heap_alloc, if_neg (by have := (hown.out.lt g hg).2; omega)])
        · exact hB.out.alloc hB.out.size _
      · have b0 : (0 : Int) < (x.shares : Int) := by omega
        rw [if_neg hs] at HTK
        clear hs hx
        have HPA : Hid (∀ W, Calls Try.prog 59 #[.agg #[.int .i64 0, .int .i64 0, .int .u32 x.ref, .int .u32 x.token, .int .u8 x.side.toNat, .int .u8 x.stock, .int .u16 x.price, .int .u16 x.shares]] W fun e w' => e = .returned (.agg #[.int .i64 x.ref, .int .i64 x.token, .int .u8 x.side.toNat, .int .i64 x.stock, .int .i64 x.price, .int .i64 x.shares]) ∧ Below W.heap.size W w') := fun W => plain_any 0 0 x W HSX.out
        go_wp2_with fail
        refine (HPA.out _).mono ?_
        rintro e w2 ⟨rfl, hb2⟩
        have hB2 : Hid (Below w.heap.size w w2) := (hB.out.alloc hB.out.size _).trans (hb2.mono (by rw [size_alloc]; have := hB.out.size; omega))
        have hown2 : w2.ownsRow w.heap.size 46 6 u3 F.length (F.flatMap Ord.cells) := ownsRow_keep hown.out (fun g hg => by
          have := (hown.out.lt g hg).2
          rw [hb2.block g (by rw [size_alloc]; omega), heap_alloc, if_neg (by omega)])
        have HOA : Hid (∀ Ob : Obj, (w2.alloc Ob).ownsRow w.heap.size 46 6 u3 F.length (F.flatMap Ord.cells)) := fun Ob => ownsRow_keep hown2 (fun g hg => by rw [heap_alloc, if_neg (by have := (hown2.lt g hg).2; omega)])
        have HOX := Hid.mk hown2
        clear hb2 hown2 hown hB d0 d1 d2 d3 d4 d5 d6 d7 HPA hgl
        go_wp2_with (at_builtin; go_must (refine wpList_append_row rfl _ _ 42 rfl w.heap.size 46 i0 _ 6 48 und_api HI.out.1 HI.out.2.1 HI.out.2.2.1 HI.out.2.2.2 rfl (by decide) u3 F.length (F.flatMap Ord.cells) rfl (HOA.out _) (.slice (some ⟨w2.heap.size, 0, none⟩) 1 1) 1 x.cells rfl (rdRow_api w2 x) (cells_ones x) (by unfold maxLen; omega) (by omega) (by rw [size_alloc]; have := hB2.out.size; omega) ?_); intro rb capb w3 hown3 hg3 hv3; have hB3 : Hid (Below w.heap.size w w3) := (hB2.out.alloc hB2.out.size _).grown hg3 (by rw [size_alloc]; have := hB2.out.size; omega) (fun g hg => (HOX.out.lt g hg).1); replace hown3 := Hid.mk hown3; clear hg3 hv3)
        refine ⟨⟨j + 1, by omega, by go_num, ?_, hB3⟩, by simp [intOf]; omega⟩
        show World.ownsRow _ _ _ _ _ _ _
        rw [HTK.out, List.length_append, List.flatMap_append]
        simpa using hown3.out
    · have i2 : ¬ ((j : Int) < (nl : Int)) := by omega
      have : j = nl := by omega
      subst this
      rw [List.take_of_length_le (by rw [HNL.out]; exact Nat.le_refl _)] at hown
      have hfl : (L.filter alive).length ≤ 2900000000000 := by
        have e1 := List.length_filter_le alive L
        have e2 := HNL.out
        omega
      obtain ⟨F, hFe⟩ : ∃ F, L.filter alive = F := ⟨_, rfl⟩
      rw [hFe] at hown hfl
      have HFE := Hid.mk hFe
      clear hFe
      obtain ⟨rb, cb, hu3, -, -⟩ := ownsRow_len hown.out
      rcases hown.out.2 with ⟨hv, h0⟩ | ⟨g, cap', cur, hv, -⟩
      · subst hv
        have hF : F = [] := List.length_eq_zero_iff.1 h0
        clear hu3 h0
        go_wp2_with fail
        refine (sort_none _ _).mono ?_
        rintro e w2 ⟨rfl, hw⟩
        replace hw := hw.symm
        subst hw
        go_wp2_with fail
        go_ret
        subst hF
        exact ⟨_, [], rfl, List.Pairwise.nil, by rw [HFE.out]; exact Cls.refl _ _, World.ownsRow_nil _ _ _ _, hB.out⟩
      · subst hv
        have HSR := Hid.mk (sort_row hown.out rfl hB.out.size (by omega))
        obtain ⟨nF, hnF⟩ : ∃ nF, F.length = nF := ⟨_, rfl⟩
        rw [hnF] at HSR
        have HNF := Hid.mk hnF
        have e0 : Value.slice (some ⟨g, 0, none⟩) F.length cap' = .slice (some ⟨g, 0, none⟩) nF cap' := by rw [hnF]
        rw [e0]
        clear hnF hu3 e0
        go_wp2_with fail
        refine HSR.out.mono ?_
        rintro e w2 ⟨rfl, C, c1, c2, c3, c4, c5⟩
        have H2 := Hid.mk (And.intro c1 (And.intro c2 (And.intro c3 (And.intro c4 c5))))
        clear c1 c2 c3 c4 c5
        go_wp2_with fail
        go_ret
        refine ⟨_, C, rfl, H2.out.1, by rw [HFE.out]; exact H2.out.2.1, ?_, hB.out.trans H2.out.2.2.2.2⟩
        rw [H2.out.2.2.1]
        exact H2.out.2.2.2.1

end Go.Proofs.Ytphkchjejbffeaa

/- The walks of the document's val, long, ahead, find, without, insert. -/
namespace Go.Proofs.Ytphkchjejbffeaa
open Go.RowKit
attribute [local go_sem ↓] Go.wp_at_zero Go.wp_at_succ

set_option maxHeartbeats 400000 in
theorem rval_any (b o cap : Nat) (l : List UInt8) (w : World) (hl : l.length ≤ 7) (h : Lies w b o l) :
    Calls Try.prog 102 #[.slice (some ⟨b, o, none⟩) l.length cap] w fun e w' => e = .returned (.int .i64 (num l 0 : Nat)) ∧ w' = w := by
  go_enter Try.func102, Try.ntmps102
  go_wp2
  go_loop [3, 4] (fun v i => ∃ k : Nat, k ≤ l.length ∧ i = .int .i64 k ∧ v = .int .i64 (num (l.take k) 0 : Nat)) (fun _ i => l.length - (intOf i).toNat)
  case atStart => exact ⟨0, Nat.zero_le _, rfl, rfl⟩
  case round =>
    obtain ⟨k, hk, rfl, rfl⟩ := hrel
    by_cases hlt : k < l.length
    · have hb : num (l.take k) 0 < 281474976710656 := by
        have hlt := num_lt (l.take k) 0
        rw [List.length_take, Nat.min_eq_left hk] at hlt
        have : 256 ^ k ≤ 256 ^ 6 := Nat.pow_le_pow_right (by omega) (by omega)
        omega
      have hcell := h.cell k hlt
      have hc := B_lt (l.getD k 0)
      have HS : Hid (num (l.take (k + 1)) 0 = 256 * num (l.take k) 0 + (l.getD k 0).toNat) := by
        show _ = _
        rw [getD_append_snoc l k hlt, num_append]; rfl
      generalize l.getD k 0 = c at *
      generalize num (l.take k) 0 = m at *
      have hn : (m : Int) < 281474976710656 := by omega
      go_wp2
      go_round
      case rel => exact ⟨k + 1, by omega, by go_num, by rw [HS.out]; simp⟩
      case measure => simp [intOf]; omega
    · go_wp2
      go_ret
      exact ⟨ret_int (by rw [List.take_of_length_le (by omega)]), rfl⟩

set_option maxHeartbeats 400000 in
theorem rlong_any (t : UInt8) (w : World) : Calls Try.prog 67 #[.int .u8 t.toNat] w fun e w' => e = .returned (.int .i64 (tSize t : Nat)) ∧ w' = w := by
  have ne : ∀ u : UInt8, t ≠ u → (((t.toNat : Int)) == (u.toNat : Int)) = false := by
    intro u hu
    rw [beq_eq_false_iff_ne]
    intro e
    exact hu (UInt8.toNat_inj.1 (by omega))
  have hall : t = 97 ∨ t = 101 ∨ t = 120 ∨ t = 100 ∨ t = 117 ∨ (t ≠ 97 ∧ t ≠ 101 ∧ t ≠ 120 ∧ t ≠ 100 ∧ t ≠ 117) := by
    by_cases h1 : t = 97
    · exact .inl h1
    · by_cases h2 : t = 101
      · exact .inr (.inl h2)
      · by_cases h3 : t = 120
        · exact .inr (.inr (.inl h3))
        · by_cases h4 : t = 100
          · exact .inr (.inr (.inr (.inl h4)))
          · by_cases h5 : t = 117
            · exact .inr (.inr (.inr (.inr (.inl h5))))
            · exact .inr (.inr (.inr (.inr (.inr ⟨h1, h2, h3, h4, h5⟩))))
  rcases hall with rfl | rfl | rfl | rfl | rfl | ⟨h1, h2, h3, h4, h5⟩
  · go_enter Try.func67, Try.ntmps67
    go_wp2
    go_ret
    exact ⟨rfl, rfl⟩
  · go_enter Try.func67, Try.ntmps67
    go_wp2
    go_ret
    exact ⟨rfl, rfl⟩
  · go_enter Try.func67, Try.ntmps67
    go_wp2
    go_ret
    exact ⟨rfl, rfl⟩
  · go_enter Try.func67, Try.ntmps67
    go_wp2
    go_ret
    exact ⟨rfl, rfl⟩
  · go_enter Try.func67, Try.ntmps67
    go_wp2
    go_ret
    exact ⟨rfl, rfl⟩
  · have e1 : (((t.toNat : Int)) == 97) = false := ne 97 h1
    have e2 : (((t.toNat : Int)) == 101) = false := ne 101 h2
    have e3 : (((t.toNat : Int)) == 120) = false := ne 120 h3
    have e4 : (((t.toNat : Int)) == 100) = false := ne 100 h4
    have e5 : (((t.toNat : Int)) == 117) = false := ne 117 h5
    have HS : Hid (tSize t = 0) := by
      show _ = _
      unfold tSize
      rw [if_neg h1, if_neg h2, if_neg h3, if_neg h4, if_neg h5]
    clear ne h1 h2 h3 h4 h5
    go_enter Try.func67, Try.ntmps67
    go_wp2
    go_ret
    exact ⟨by rw [HS.out]; rfl, rfl⟩

theorem ahead_val (x o : Ord) : (x.stock ≠ o.stock → aheadO x o = decide (x.stock < o.stock)) ∧ (x.stock = o.stock → x.side.toNat ≠ o.side.toNat → aheadO x o = decide (x.side.toNat < o.side.toNat)) ∧
    (x.stock = o.stock → x.side.toNat = o.side.toNat → x.side.toNat = 66 → aheadO x o = decide (o.price ≤ x.price)) ∧ (x.stock = o.stock → x.side.toNat = o.side.toNat → x.side.toNat ≠ 66 → aheadO x o = decide (x.price ≤ o.price)) := by
  have h := byB_lt o x
  have e : ∀ p : Prop, [Decidable p] → (p ↔ ¬ ltc byB o x = true) → aheadO x o = decide p := by
    intro p _ hp
    unfold aheadO
    cases hl : ltc byB o x <;> simp [hl] at hp ⊢ <;> exact hp
  rw [h] at e
  refine ⟨fun h1 => e _ (by omega), fun h1 h2 => e _ (by omega), fun h1 h2 h3 => e _ (by omega), fun h1 h2 h3 => e _ (by omega)⟩

set_option maxRecDepth 100000 in
set_option maxHeartbeats 1000000 in
theorem rahead_any (x o : Ord) (w : World) : Calls Try.prog 135 #[.agg x.cells.toArray, .agg o.cells.toArray] w fun e w' => e = .returned (.bool (aheadO x o)) ∧ Below w.heap.size w w' := by
  obtain ⟨v1, v2, v3, v4⟩ := ahead_val x o
  have HB : Hid (∀ A B : Obj, Below w.heap.size w ((w.alloc A).alloc B)) := fun A B => Below.alloc ((Below.refl _ w).alloc (Nat.le_refl _) _) (by rw [size_alloc]; omega) _
  unfold Ord.cells
  by_cases h1 : x.stock = o.stock
  · have b1 : ((x.stock : Int) == (o.stock : Int)) = true := by simp [h1]
    have b1' : ((x.stock : Int) != (o.stock : Int)) = false := by rw [bne, b1]; rfl
    by_cases h2 : x.side.toNat = o.side.toNat
    · have b2 : ((x.side.toNat : Int) == (o.side.toNat : Int)) = true := by simp [h2]
      have b2' : ((x.side.toNat : Int) != (o.side.toNat : Int)) = false := by rw [bne, b2]; rfl
      by_cases h3 : x.side.toNat = 66
      · have b3 : ((x.side.toNat : Int) == 66) = true := by simp [h3]
        have HV := Hid.mk (v3 h1 h2 h3)
        clear v1 v2 v3 v4 h1 h2 h3
        go_enter Try.func135, Try.ntmps135
        go_wp2_with fail
        go_ret
        exact ⟨by rw [HV.out]; simp, HB.out _ _⟩
      · have b3 : ((x.side.toNat : Int) == 66) = false := by rw [beq_eq_false_iff_ne]; omega
        have HV := Hid.mk (v4 h1 h2 h3)
        clear v1 v2 v3 v4 h1 h2 h3
        go_enter Try.func135, Try.ntmps135
        go_wp2_with fail
        go_ret
        exact ⟨by rw [HV.out]; simp, HB.out _ _⟩
    · have b2 : ((x.side.toNat : Int) == (o.side.toNat : Int)) = false := by rw [beq_eq_false_iff_ne]; omega
      have b2' : ((x.side.toNat : Int) != (o.side.toNat : Int)) = true := by rw [bne, b2]; rfl
      have HV := Hid.mk (v2 h1 h2)
      clear v1 v2 v3 v4 h1 h2
      go_enter Try.func135, Try.ntmps135
      go_wp2_with fail
      go_ret
      exact ⟨by rw [HV.out]; simp, HB.out _ _⟩
  · have b1 : ((x.stock : Int) == (o.stock : Int)) = false := by rw [beq_eq_false_iff_ne]; omega
    have b1' : ((x.stock : Int) != (o.stock : Int)) = true := by rw [bne, b1]; rfl
    have HV := Hid.mk (v1 h1)
    clear v1 v2 v3 v4 h1
    go_enter Try.func135, Try.ntmps135
    go_wp2_with fail
    go_ret
    exact ⟨by rw [HV.out]; simp, HB.out _ _⟩

/-- Sorted orders, in a row of one's own. -/
def RsAt (w : World) (base : Nat) (v : Value) (S : List Ord) : Prop := w.ownsRow base 46 6 v S.length (S.flatMap Ord.cells)

/-- Where a reference stands; -1. -/
def rfi (S : List Ord) (t : Nat) : Int := match rfind S t with | some i => (i : Int) | none => -1
theorem rfi_first {S : List Ord} {t i : Nat} (hi : i < S.length) (h1 : ∀ j, j < i → ∀ x, S[j]? = some x → x.ref ≠ t) (h2 : ∀ x, S[i]? = some x → x.ref = t) : rfi S t = (i : Int) := by
  unfold rfi
  have : rfind S t = some i := by
    unfold rfind
    rw [List.findIdx?_eq_some_iff_getElem]
    refine ⟨hi, by simpa using h2 _ (List.getElem?_eq_getElem hi), ?_⟩
    intro j hj
    simpa using h1 j hj _ (List.getElem?_eq_getElem (by omega))
  rw [this]
theorem rfi_none {S : List Ord} {t : Nat} (h : ∀ x ∈ S, x.ref ≠ t) : rfi S t = -1 := by
  unfold rfi rfind
  rw [List.findIdx?_eq_none_iff.2 (fun x hx => by simpa using h x hx)]

theorem RsAt.form {w : World} {base : Nat} {v : Value} {S : List Ord} (h : RsAt w base v S) : ∃ ra cap, v = .slice ra S.length cap ∧ S.length ≤ cap ∧ cap ≤ maxLen ∧
    ∀ (i : Nat) (x : Ord), S[i]? = some x → ∃ g, ra = some ⟨g, 0, none⟩ ∧ base ≤ g ∧ g < w.heap.size ∧ (∀ j, w.frozen? ⟨g, j, none⟩ = false) ∧ w.rangeAt g (i * 6) x.cells := by
  rcases h.2 with ⟨h1, h2⟩ | ⟨g, cap, cur, h1, h2, h3, h4, h5, h6, h7⟩
  · refine ⟨none, 0, by rw [h1, h2], by omega, by unfold maxLen; omega, ?_⟩
    intro i x hx
    rw [List.length_eq_zero_iff.1 h2] at hx
    simp at hx
  · refine ⟨_, cap, h1, h4, h5, ?_⟩
    intro i x hx
    refine ⟨g, rfl, h2, (Array.getElem?_eq_some_iff.1 h3).1, fun j => by simp [World.frozen?, h3], ?_⟩
    intro j u hu
    have hj : j < 6 := (List.getElem?_eq_some_iff.1 hu).1
    have := h.cells (g := g) (by rw [h1]; rfl) (i * 6 + j) u (flat_getG _ 6 (fun _ => rfl) S i j x u hx hj hu)
    rwa [Addr.add_lit, Nat.zero_add] at this

set_option maxHeartbeats 1000000 in
theorem rfnd_any (w : World) (base : Nat) (v : Value) (S : List Ord) (t : Nat) (h : RsAt w base v S) :
    Calls Try.prog 103 #[v, .int .i64 t] w fun e w' => e = .returned (.int .i64 (rfi S t)) ∧ w' = w := by
  obtain ⟨ra, cap, rfl, h1, h2, hc⟩ := h.form
  have HC := Hid.mk hc
  clear h hc
  have hl1 : (S.length : Int) ≤ 9223372036854775807 := by unfold maxLen at h2; omega
  go_enter Try.func103, Try.ntmps103
  go_wp2_with fail
  go_loopw [5] (fun i wr => ∃ k : Nat, k ≤ S.length ∧ i = .int .i64 k ∧ Hid (wr = w ∧ ∀ j, j < k → ∀ x, S[j]? = some x → x.ref ≠ t)) (fun i _ => S.length - (intOf i).toNat)
  case atStart => exact ⟨0, Nat.zero_le _, rfl, rfl, fun j hj => by omega⟩
  case round =>
    obtain ⟨k, hk, rfl, HR⟩ := hrel
    by_cases hlt : k < S.length
    · obtain ⟨x, hx⟩ : ∃ x, S[k]? = some x := ⟨_, List.getElem?_eq_getElem hlt⟩
      obtain ⟨g, rfl, -, -, -, hrg⟩ := HC.out k x hx
      have c0 : w.cell? ⟨g, k * 6, none⟩ = some (.int .i64 x.ref) := hrg 0 _ rfl
      rw [← HR.out.1] at c0
      have i1 : (0 : Int) ≤ (k : Int) := by omega
      have i2 : (k : Int) < (S.length : Int) := by omega
      by_cases ht : x.ref = t
      · have ht1 : ((x.ref : Int) == (t : Int)) = true := by simp [ht]
        have HE : Hid (rfi S t = (k : Int)) := rfi_first hlt HR.out.2 (fun y hy => by rw [hx] at hy; cases hy; exact ht)
        clear ht hx hrg
        go_wp2_with fail
        go_ret
        exact ⟨by rw [HE.out]; rfl, HR.out.1⟩
      · have ht1 : ((x.ref : Int) == (t : Int)) = false := by rw [beq_eq_false_iff_ne]; omega
        have HE : Hid (∀ j, j < k + 1 → ∀ x, S[j]? = some x → x.ref ≠ t) := by
          intro j hj y hy
          by_cases hjk : j = k
          · subst hjk; rw [hx] at hy; cases hy; exact ht
          · exact HR.out.2 j (by omega) y hy
        clear ht hx hrg
        go_wp2_with fail
        exact ⟨⟨k + 1, by omega, by go_num, HR.out.1, HE.out⟩, by simp [intOf]; omega⟩
    · have HE : Hid (rfi S t = -1) := rfi_none (fun x hx => by
        obtain ⟨j, hj, e⟩ := List.getElem_of_mem hx
        exact HR.out.2 j (by omega) x (by rw [List.getElem?_eq_getElem hj, e]))
      go_wp2_with fail
      go_ret
      exact ⟨by rw [HE.out]; rfl, HR.out.1⟩

theorem Try.infoRo : (Try.prog.info? 46).map (fun i => (i.zero, i.size, i.bytes)) = some (some (.agg #[.int .i64 0, .int .i64 0, .int .u8 0, .int .i64 0, .int .i64 0, .int .i64 0]), 6, 48) := by kernel_rfl

theorem rd_take {w : World} {base g n cap : Nat} {S : List Ord} (h : RsAt w base (.slice (some ⟨g, 0, none⟩) n cap) S) (i c : Nat) (hi : i ≤ S.length) : RdRow w 6 (.slice (some ⟨g, 0, none⟩) i c) i ((S.take i).flatMap Ord.cells) := by
  refine .inr ⟨g, 0, c, rfl, by rw [cells_flat_len, List.length_take, Nat.min_eq_left hi], ?_⟩
  intro j u hu
  have e : S.flatMap Ord.cells = (S.take i).flatMap Ord.cells ++ (S.drop i).flatMap Ord.cells := by rw [← List.flatMap_append, List.take_append_drop]
  have := h.cells (g := g) rfl j u (by rw [e, List.getElem?_append_left (List.getElem?_eq_some_iff.1 hu).1]; exact hu)
  rwa [Addr.add_lit] at this
theorem rd_drop {w : World} {base g n cap : Nat} {S : List Ord} (h : RsAt w base (.slice (some ⟨g, 0, none⟩) n cap) S) (i m o c : Nat) (hi : i ≤ S.length) (hm : m = S.length - i) (ho : m = 0 ∨ o = i * 6) : RdRow w 6 (.slice (some ⟨g, o, none⟩) m c) m ((S.drop i).flatMap Ord.cells) := by
  refine .inr ⟨g, o, c, rfl, by rw [cells_flat_len, List.length_drop, hm], ?_⟩
  intro j u hu
  have hj : j < ((S.drop i).flatMap Ord.cells).length := (List.getElem?_eq_some_iff.1 hu).1
  rw [cells_flat_len, List.length_drop] at hj
  have ho' : o = i * 6 := by
    rcases ho with e | e
    · omega
    · exact e
  subst ho'
  have e : S.flatMap Ord.cells = (S.take i).flatMap Ord.cells ++ (S.drop i).flatMap Ord.cells := by rw [← List.flatMap_append, List.take_append_drop]
  have e2 : ((S.take i).flatMap Ord.cells).length = i * 6 := by rw [cells_flat_len, List.length_take, Nat.min_eq_left hi]
  have := h.cells (g := g) rfl (i * 6 + j) u (by rw [e, List.getElem?_append_right (by omega), e2, Nat.add_sub_cancel_left]; exact hu)
  rwa [Addr.add_lit, Nat.zero_add] at this
theorem rd_below {w w' : World} {v : Value} {m B : Nat} {xs : List Value} (h : RdRow w 6 v m xs) (hB : Below B w w') (hg : ∀ g, v.ownBlock = some g → g < B) : RdRow w' 6 v m xs := by
  rcases h with h | ⟨g, o, c, rfl, h1, h2⟩
  · exact .inl h
  · exact .inr ⟨g, o, c, rfl, h1, fun j u hu => (hB.cell (p := ⟨g, o + j, none⟩) (hg g rfl)).trans (h2 j u hu)⟩
theorem flat_ones (l : List Ord) : ∀ u ∈ l.flatMap Ord.cells, u.oneCell' = true := by
  intro u hu
  obtain ⟨x, -, hx⟩ := List.mem_flatMap.1 hu
  exact cells_ones x u hx

set_option maxRecDepth 100000 in
set_option maxHeartbeats 1000000 in
theorem without_any (w : World) (base : Nat) (v : Value) (S : List Ord) (i : Nat) (h : RsAt w base v S) (hi : i < S.length) (hn : S.length ≤ 1000000000) :
    Calls Try.prog 107 #[v, .int .i64 i] w fun e w' => ∃ v', e = .returned v' ∧ RsAt w' w.heap.size v' (S.eraseIdx i) ∧ Below w.heap.size w w' := by
  obtain ⟨ra, cap, rfl, hc1, hc2, hcs⟩ := h.form
  obtain ⟨g, rfl, -, hgl, -, -⟩ := hcs i _ (List.getElem?_eq_getElem hi)
  have HE : Hid (S.eraseIdx i = S.take i ++ S.drop (i + 1)) := List.eraseIdx_eq_take_drop_succ _ _
  have HR1 := Hid.mk (rd_take h i cap (Nat.le_of_lt hi))
  have HR2 : Hid (∀ m o c, m = S.length - (i + 1) → (m = 0 ∨ o = (i + 1) * 6) → RdRow w 6 (.slice (some ⟨g, o, none⟩) m c) m ((S.drop (i + 1)).flatMap Ord.cells)) := fun m o c h1 h2 => rd_drop h (i + 1) m o c (by omega) h1 h2
  obtain ⟨i0, hi0, hz0, hz1, hz2⟩ := info_parts Try.infoRo
  have HI := Hid.mk (And.intro hi0 (And.intro hz0 (And.intro hz1 hz2)))
  have HTL : Hid ((S.take i).length = i ∧ (S.drop (i + 1)).length = S.length - (i + 1)) := ⟨by rw [List.length_take]; omega, by rw [List.length_drop]⟩
  obtain ⟨n, hnn⟩ : ∃ n, S.length = n := ⟨_, rfl⟩
  obtain ⟨i1, hi1⟩ : ∃ i1, i + 1 = i1 := ⟨_, rfl⟩
  rw [hnn] at hi hn hc1
  rw [hi1] at HR2 HTL HE
  rw [hnn] at HR2 HTL
  generalize (S.take i) = P at *
  generalize (S.drop i1) = D at *
  clear h hcs hi0 hz0 hz1 hz2
  rw [hnn]
  have j1 : (i : Int) ≤ (cap : Int) := by omega
  have j2 : (0 : Int) ≤ (i : Int) := by omega
  have j3 : (i1 : Int) ≤ (n : Int) := by omega
  have j4 : (n : Int) ≤ (cap : Int) := by omega
  have j5 : (cap : Int) ≤ 9223372036854775807 := by unfold maxLen at hc2; omega
  have j6 : IntKind.i64.wrap ((i : Int) + 1) = (i1 : Int) := by rw [IntKind.wrap_i64]; omega
  have j7 : (i : Int) + 1 = (i1 : Int) := by omega
  have HI1 := Hid.mk (And.intro hi1 (And.intro hi hn))
  clear hi1 hi hn hnn
  by_cases hcap : cap = i1
  · subst hcap
    have hnc : n = cap := by have := HI1.out; omega
    subst hnc
    go_enter Try.func107, Try.ntmps107
    go_wp2_with (first
      | (at_builtin; refine wpList_append_row rfl _ _ 42 rfl w.heap.size 46 i0 _ 6 48 und_api HI.out.1 HI.out.2.1 HI.out.2.2.1 HI.out.2.2.2 rfl (by decide) (.slice none 0 0) 0 [] rfl (World.ownsRow_nil _ _ _ _) (.slice (some ⟨g, 0, none⟩) i _) i (P.flatMap Ord.cells) rfl HR1.out (flat_ones P) (by have := HI1.out; unfold maxLen; omega) (by have := HI1.out; omega) (Nat.le_refl _) ?_; intro rb capb w3 hown3 hg3 hv3; have hB3 : Hid (Below w.heap.size w w3) := Hid.mk ((Below.refl _ w).grown hg3 (Nat.le_refl _) (fun g hg => (by cases hg))); rw [Nat.zero_add, List.nil_append] at hown3; replace hown3 := Hid.mk hown3; clear hg3 hv3)
      | (at_builtin; refine wpList_append_row rfl _ _ 42 rfl w.heap.size 46 i0 _ 6 48 und_api HI.out.1 HI.out.2.1 HI.out.2.2.1 HI.out.2.2.2 rfl (by decide) (.slice rb i capb) i (P.flatMap Ord.cells) rfl hown3.out (.slice (some ⟨g, 0, none⟩) 0 0) 0 (D.flatMap Ord.cells) rfl (rd_below (HR2.out _ _ _ (by omega) (Or.inl rfl)) hB3.out (fun g' hg' => (by cases hg'; exact hgl))) (flat_ones D) (by have := HI1.out; unfold maxLen; omega) (by have := HI1.out; omega) hB3.out.size ?_; intro rc capc w4 hown4 hg4 hv4; have hB4 : Hid (Below w.heap.size w w4) := Hid.mk (hB3.out.grown hg4 hB3.out.size (fun g hg => (hown3.out.lt g hg).1)); replace hown4 := Hid.mk hown4; clear hg4 hv4))
    go_ret
    refine ⟨_, rfl, ?_, hB4.out⟩
    show World.ownsRow _ _ _ _ _ _ _
    rw [HE.out, List.length_append, List.flatMap_append, HTL.out.1, HTL.out.2]
    have := hown4.out
    rw [Nat.sub_self]
    exact this
  · go_enter Try.func107, Try.ntmps107
    go_wp2_with (first
      | (at_builtin; refine wpList_append_row rfl _ _ 42 rfl w.heap.size 46 i0 _ 6 48 und_api HI.out.1 HI.out.2.1 HI.out.2.2.1 HI.out.2.2.2 rfl (by decide) (.slice none 0 0) 0 [] rfl (World.ownsRow_nil _ _ _ _) (.slice (some ⟨g, 0, none⟩) i _) i (P.flatMap Ord.cells) rfl HR1.out (flat_ones P) (by have := HI1.out; unfold maxLen; omega) (by have := HI1.out; omega) (Nat.le_refl _) ?_; intro rb capb w3 hown3 hg3 hv3; have hB3 : Hid (Below w.heap.size w w3) := Hid.mk ((Below.refl _ w).grown hg3 (Nat.le_refl _) (fun g hg => (by cases hg))); rw [Nat.zero_add, List.nil_append] at hown3; replace hown3 := Hid.mk hown3; clear hg3 hv3)
      | (at_builtin; refine wpList_append_row rfl _ _ 42 rfl w.heap.size 46 i0 _ 6 48 und_api HI.out.1 HI.out.2.1 HI.out.2.2.1 HI.out.2.2.2 rfl (by decide) (.slice rb i capb) i (P.flatMap Ord.cells) rfl hown3.out (.slice (some ⟨g, i1 * 6, none⟩) (n - i1) (cap - i1)) (n - i1) (D.flatMap Ord.cells) rfl (rd_below (HR2.out _ _ _ rfl (Or.inr rfl)) hB3.out (fun g' hg' => (by cases hg'; exact hgl))) (flat_ones D) (by have := HI1.out; unfold maxLen; omega) (by have := HI1.out; omega) hB3.out.size ?_; intro rc capc w4 hown4 hg4 hv4; have hB4 : Hid (Below w.heap.size w w4) := Hid.mk (hB3.out.grown hg4 hB3.out.size (fun g hg => (hown3.out.lt g hg).1)); replace hown4 := Hid.mk hown4; clear hg4 hv4))
    go_ret
    refine ⟨_, rfl, ?_, hB4.out⟩
    show World.ownsRow _ _ _ _ _ _ _
    rw [HE.out, List.length_append, List.flatMap_append, HTL.out.1, HTL.out.2]
    have := hown4.out
    exact this

end Go.Proofs.Ytphkchjejbffeaa
