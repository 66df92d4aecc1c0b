/- How the laws' arguments come in: acts in memory. -/
import Derived.Test.YtphkchjejbffeaaGreatG23
import Derived.Test.YtphkchjejbffeaaGreatRows
import Derived.ProofKit
import Derived.OpenShut
import Derived.ShutString
import Derived.ChangeOld
import Derived.Below
import Derived.SizedLaws
import Derived.Deep.Slices
namespace Go.Proofs.YtphkchjejbffeaaGreat
open Go.ChangeShapes Go.WideShapes Go.ChangeAt Go.RowKit Go.Deep

theorem own : ownKnob Tryz.prog.godebug = none := by kernel_rfl
theorem laidOut : laidOutB Tryz.prog = true := by kernel_rfl
theorem Tryz.cells59 : Tryz.prog.cellsOf 59 = 7 := by kernel_rfl
theorem Tryz.cells3 : Tryz.prog.cellsOf 3 = 1 := by kernel_rfl
theorem Tryz.bytes59 : Tryz.prog.bytesOf 59 = 56 := by kernel_rfl

theorem list7 {α : Type} (l : List α) (h : l.length = 7) : ∃ a b c d e f g, l = [a, b, c, d, e, f, g] := by
  match l, h with
  | [a, b, c, d, e, f, g], _ => exact ⟨a, b, c, d, e, f, g, rfl⟩

theorem wf_i64 {x : Int} (h : (Lit.int .i64 x).wf = true) : I64 x := by
  simp [Lit.wf, IntKind.min, IntKind.max, IntKind.signed, IntKind.bits] at h
  unfold I64
  omega

theorem one_int {H : Type} {enc : TypeId × Value → H} {W : World} {base : Nat} {sp : Nat → Bool} {held : Bool} {n : Nat} {v : Value} {x : DataW H × List MemPlace}
    (h : DataW.trod enc Tryz.prog W base sp held n 3 [v] = some x) : ∃ y : Int, v = .int .i64 y ∧ I64 y := by
  obtain ⟨y, e, -, wy⟩ := DataW.trod_int Tryz.underlying3 h
  simp at e
  exact ⟨y, e, wf_i64 wy⟩

theorem open_act {H : Type} {enc : TypeId × Value → H} {W : World} {base : Nat} {sp : Nat → Bool} {held : Bool} {n : Nat} {cs : List Value} {x : DataW H × List MemPlace}
    (h : DataW.trod enc Tryz.prog W base sp held n 59 cs = some x) : ∃ a : Act, a.ok ∧ cs = a.cells.toList := by
  obtain ⟨xs, m, -, -, hl, hlen, hf⟩ := DataW.trod_struct Tryz.underlying59 h
  rw [Tryz.cells59] at hl
  obtain ⟨v0, v1, v2, v3, v4, v5, v6, rfl⟩ := list7 cs hl
  obtain ⟨y0, y1, y2, y3, y4, y5, y6, rfl⟩ := list7 xs hlen
  have f0 : DataW.trod enc Tryz.prog W base sp held m 3 (([v0, v1, v2, v3, v4, v5, v6].drop 0).take (Tryz.prog.cellsOf 3)) = some y0 := hf 0 _ rfl
  have f1 : DataW.trod enc Tryz.prog W base sp held m 3 (([v0, v1, v2, v3, v4, v5, v6].drop 1).take (Tryz.prog.cellsOf 3)) = some y1 := hf 1 _ rfl
  have f2 : DataW.trod enc Tryz.prog W base sp held m 3 (([v0, v1, v2, v3, v4, v5, v6].drop 2).take (Tryz.prog.cellsOf 3)) = some y2 := hf 2 _ rfl
  have f3 : DataW.trod enc Tryz.prog W base sp held m 3 (([v0, v1, v2, v3, v4, v5, v6].drop 3).take (Tryz.prog.cellsOf 3)) = some y3 := hf 3 _ rfl
  have f4 : DataW.trod enc Tryz.prog W base sp held m 3 (([v0, v1, v2, v3, v4, v5, v6].drop 4).take (Tryz.prog.cellsOf 3)) = some y4 := hf 4 _ rfl
  have f5 : DataW.trod enc Tryz.prog W base sp held m 3 (([v0, v1, v2, v3, v4, v5, v6].drop 5).take (Tryz.prog.cellsOf 3)) = some y5 := hf 5 _ rfl
  have f6 : DataW.trod enc Tryz.prog W base sp held m 3 (([v0, v1, v2, v3, v4, v5, v6].drop 6).take (Tryz.prog.cellsOf 3)) = some y6 := hf 6 _ rfl
  rw [Tryz.cells3] at f0 f1 f2 f3 f4 f5 f6
  obtain ⟨a0, rfl, b0⟩ := one_int (v := v0) f0
  obtain ⟨a1, rfl, b1⟩ := one_int (v := v1) f1
  obtain ⟨a2, rfl, b2⟩ := one_int (v := v2) f2
  obtain ⟨a3, rfl, b3⟩ := one_int (v := v3) f3
  obtain ⟨a4, rfl, b4⟩ := one_int (v := v4) f4
  obtain ⟨a5, rfl, b5⟩ := one_int (v := v5) f5
  obtain ⟨a6, rfl, b6⟩ := one_int (v := v6) f6
  exact ⟨⟨a0, a1, a2, a3, a4, a5, a6⟩, ⟨b0, b1, b2, b3, b4, b5, b6⟩, rfl⟩

theorem mapM_get {α β : Type} (f : α → Option β) : ∀ (l : List α) (r : List β), l.mapM f = some r → ∀ (i : Nat) (a : α), l[i]? = some a → ∃ b, r[i]? = some b ∧ f a = some b := by
  intro l
  induction l with
  | nil => intro r _ i a h; simp at h
  | cons x l ih =>
    intro r h i a hi
    rw [List.mapM_cons] at h
    cases hx : f x with
    | none => rw [hx] at h; cases h
    | some b =>
      rw [hx] at h
      cases hl : l.mapM f with
      | none => rw [hl] at h; cases h
      | some r' =>
        rw [hl] at h
        cases h
        cases i with
        | zero => simp at hi; subst hi; exact ⟨b, rfl, hx⟩
        | succ i => simp at hi; obtain ⟨c, h1, h2⟩ := ih r' hl i a hi; exact ⟨c, by simpa using h1, h2⟩

theorem add_add (a : Addr) (i j : Nat) : a.add (i + j) = (a.add i).add j := by
  obtain ⟨b, o, s⟩ := a
  by_cases hi : i = 0
  · subst hi; simp [Addr.add]
  · by_cases hj : j = 0
    · subst hj; simp [Addr.add]
    · simp only [Addr.add, if_neg hi, if_neg hj, if_neg (by omega : ¬ i + j = 0)]
      congr 1
      omega

theorem open_acts {H : Type} {enc : TypeId × Value → H} {W : World} {n : Nat} {a : Option Addr} {len cap : Nat} {x : DataW H × List MemPlace} {sp : Nat → Bool} {held : Bool}
    (h : DataW.trod enc Tryz.prog W 0 sp held n 25 [.slice a len cap] = some x) :
    ∃ l : List Act, ActsAt W (.slice a len cap) l ∧ ((l = [] ∧ x.1 = .nil) ∨ ∃ es spare, x.1 = .slice es spare ∧ es.length = l.length) := by
  rcases open_slice Tryz.underlying25 h with ⟨h1, h2⟩ | ⟨ad, len', cap', m, k, D, Pl, h1, h2, h3, h4, h5, h6, h7⟩
  · simp at h1
    obtain ⟨rfl, rfl, rfl⟩ := h1
    exact ⟨[], .inl ⟨_, _, rfl, rfl⟩, .inl ⟨rfl, by rw [h2]⟩⟩
  · simp at h1
    obtain ⟨rfl, rfl, rfl⟩ := h1
    have hm : len ≤ m := by rw [h5]; split <;> omega
    have hel : ∀ i, i < len → ∃ b : Act, b.ok ∧ ∀ j u, b.cells[j]? = some u → W.cell? (ad.add (i * 7 + j)) = some u := by
      intro i hi
      obtain ⟨cs, hc, ht⟩ := h7 i (by omega)
      obtain ⟨b, hb, rfl⟩ := open_act ht
      refine ⟨b, hb, ?_⟩
      intro j u hu
      rw [Tryz.cells59] at hc
      unfold World.cells? at hc
      rw [if_pos (Nat.zero_le _)] at hc
      have hj : j < 7 := by
        rcases Nat.lt_or_ge j 7 with h' | h'
        · exact h'
        · rw [Array.getElem?_eq_none (by simpa [Act.cells] using h')] at hu; cases hu
      obtain ⟨c, hc1, hc2⟩ := mapM_get _ _ _ hc j j (by rw [List.getElem?_range hj])
      have : c = u := by
        have hu' : b.cells.toList[j]? = some u := by simpa using hu
        rw [hu'] at hc1
        exact (Option.some.inj hc1).symm
      subst this
      rw [← hc2, add_add]
    rcases Nat.eq_zero_or_pos len with h0 | h0
    · subst h0
      exact ⟨[], .inl ⟨_, _, rfl, rfl⟩, .inr ⟨_, _, by rw [h6], by simp⟩⟩
    · have : Inhabited Act := ⟨⟨0, 0, 0, 0, 0, 0, 0⟩⟩
      obtain ⟨f, hf⟩ := choose_lt hel
      obtain ⟨blk, off, spot⟩ := ad
      have hsp : spot = none := by
        have := (hf 0 h0).2 0 _ rfl
        simpa [Addr.add] using World.cell?_spot this
      subst hsp
      have hblk : blk < W.heap.size := by
        have := (hf 0 h0).2 0 _ rfl
        simpa [Addr.add] using World.block_lt_of_cell? W _ this
      have hl : ((List.range len).map f).length = len := by simp
      refine ⟨(List.range len).map f, .inr ⟨blk, off, cap, by rw [hl], hblk, by rw [hl]; unfold maxLen at h4; omega, ?_⟩, .inr ⟨_, _, by rw [h6], by simp⟩⟩
      intro i b hb
      rw [List.getElem?_map, Option.map_eq_some_iff] at hb
      obtain ⟨i', hi', rfl⟩ := hb
      have hil : i < len := by
        rcases Nat.lt_or_ge i len with h' | h'
        · exact h'
        · rw [List.getElem?_eq_none (by simpa using h')] at hi'; cases hi'
      rw [List.getElem?_range hil] at hi'
      cases hi'
      refine ⟨(hf i hil).1, ?_⟩
      intro j u hu
      have := (hf i hil).2 j u hu
      rw [Addr.add_lit] at this
      rw [Nat.add_assoc]; exact this

end Go.Proofs.YtphkchjejbffeaaGreat

/- The law Taped as it is stated, out of what the calls do. -/
namespace Go.Proofs.YtphkchjejbffeaaGreat
open Go.ChangeShapes Go.WideShapes Go.ChangeAt Go.RowKit

set_option maxRecDepth 100000 in
theorem taped_lifted {At : World → Nat → (Nat → Prop) → St → Prop} (api : Api At) (os : Os) (started : os.Started) (H : Type) (enc : TypeId × Value → H) :
    ReturnsInHanded {} Tryz.checked os 4 .any (Rows.tapedSpec.pre6 enc Tryz.prog Tryz.f4 Rows.tapedRow.domain false) (Rows.tapedSpec.post enc Tryz.prog Tryz.f4 false true false false) := by
  refine returnsInHanded_of_change_sized (C := Tryz.checked) own started (by kernel_rfl) Tryz.func4
    (ChangeSpec.witness6 (enc := enc) (C := Tryz.checked) false ⟨#[], #[.int .i64 0, .slice none 0 0], []⟩ 8 (by kernel_rfl) (by kernel_rfl) (by kernel_rfl) (by kernel_rfl)) ?_
  intro W base args ds gs before hval0 hW hcnd hsz0 _
  have hval : ∀ (j : Nat) t v, Tryz.f4.params[j]? = some t → args[j]? = some v → Value.okWide Tryz.prog W .any base t v := hval0
  have hsz : (DataW.weightsEach Tryz.prog (Tryz.f4.params.toList ++ Rows.tapedSpec.plain.varTypes Tryz.prog) (ds ++ gs)).all (· ≤ reachBytes) = true := hsz0
  have hW' := hW
  obtain ⟨p, q, hA0, hV, rfl, hfz, hnd⟩ := hW
  have hA : DataW.TrodAll enc Tryz.prog W 0 (fun _ => true) true Tryz.f4.params.toList args.toList ds p := hA0
  rw [Tryz.params4] at hA hval hsz
  obtain ⟨v0, vs0, d0, ds0, p0, q0, hargs, rfl, rfl, h0, r0⟩ := trodAll_cons hA
  obtain ⟨v1, vs1, d1, ds1, p1, q1, rfl, rfl, rfl, h1, r1⟩ := trodAll_cons r0
  obtain ⟨rfl, rfl, rfl⟩ := trodAll_nil r1
  obtain rfl : args = #[v0, v1] := by cases args; simp_all
  obtain ⟨rfl, rfl⟩ := trodVars_none hV
  obtain ⟨pool, rfl, rfl, rfl, w0⟩ := open_int Tryz.underlying3 (hval 0 3 v0 rfl rfl) h0
  obtain ⟨a1, len1, cap1, rfl⟩ := okWide_slice Tryz.underlying25 (hval 1 25 v1 rfl rfl)
  have k1 := h1
  have lt1 : ∀ x ∈ p1, x.block < W.heap.size := by obtain ⟨m, hm⟩ := k1; exact DataW.trod_lt m _ _ _ hm
  obtain ⟨l, hl, hn⟩ : ∃ l : List Act, ActsAt W (.slice a1 len1 cap1) l ∧ l.length ≤ 2600000000000 := by
    obtain ⟨fuel, hf⟩ := h1
    obtain ⟨l, hl, hd⟩ := open_acts (by simpa [Value.cells] using hf)
    refine ⟨l, hl, ?_⟩
    rcases hd with ⟨rfl, -⟩ | ⟨es, sp, hd, hlen⟩
    · simp
    · simp only at hd
      subst hd
      have := sized_slice hsz (j := 1) (t := 25) (e := 59) rfl rfl Tryz.underlying25
      rw [Tryz.bytes59] at this
      simp only [reachBytes] at this
      omega
  have hw := wf_i64 w0
  clear hA0 hval0
  refine (taped_any api pool _ l W hw.1 hw.2 hl hn).mono fun e W' ⟨he, bel⟩ => ?_
  subst he
  exact ⟨_, rfl, _, _, _, [], _, [], hW', trodAll_mk1 (shut_bool Tryz.underlying4 _), (trodAll_cons_mk (shut_int Tryz.underlying3 w0) (trodAll_cons_mk (Below.trod laidOut (by kernel_rfl) (of_decide_eq_true (by kernel_rfl)) k1 bel lt1) trodAll_mk0)), rfl, bel.frame _, fun h => by cases h⟩

theorem taped_said {At : World → Nat → (Nat → Prop) → St → Prop} (api : Api At) : Rows.TapedSaid :=
  OpenClaim.holds_of_wide 4 Tryz.f4 rfl rfl rfl rfl rfl rfl rfl ⟨rfl, rfl, rfl, rfl, rfl⟩ rfl rfl rfl rfl rfl (by kernel_rfl) Tryz.func4 (by kernel_rfl)
    (of_decide_eq_true (by kernel_rfl)) (by unfold Func.isWrapper; first | (rw [if_pos (by decide +kernel)]; kernel_rfl) | (rw [if_neg (by decide +kernel)]; exact ⟨rfl, rfl⟩))
    (fun os started H enc _ => taped_lifted api os started H enc)

end Go.Proofs.YtphkchjejbffeaaGreat

/- A bourse is made. -/
namespace Go.Proofs.YtphkchjejbffeaaGreat
open Go.RowKit
attribute [local go_sem ↓] Go.wp_at_zero Go.wp_at_succ

theorem freeC_new (n : Nat) : ∀ m a, a + m = n + 1 → 1 ≤ a → FreeC (aftN n 1) (if m = 0 then 0 else a) (List.range' a m) := by
  intro m
  induction m with
  | zero => intro a _ _; rfl
  | succ m ih =>
    intro a h ha
    rw [List.range'_succ]
    refine ⟨if_neg (by omega), by omega, ?_⟩
    have e : aftN n 1 a = if m = 0 then 0 else a + 1 := by
      unfold aftN
      by_cases hm : m = 0
      · rw [if_pos hm, if_neg (by omega)]
      · rw [if_neg hm, if_pos (by omega)]
    rw [e]
    exact ih (a + 1) (by omega) (by omega)

theorem lk_new (S L n : Nat) (hn : 1 ≤ n) : Lk S L (n + 1) 1 (fun _ _ => 0) (fun _ _ => 0) (fun _ => 0) (aftN n 1) (fun _ _ _ => []) (List.range' 1 n) := by
  refine ⟨?_, ?_, ?_, ?_, ?_, ?_, ?_⟩
  · intro s d p _
    exact ⟨trivial, rfl, rfl, List.nodup_nil⟩
  · intro s d p _ x hx; cases hx
  · intro s d p s' d' p' _ _ x hx; cases hx
  · have := freeC_new n n 1 (by omega) (by omega)
    rwa [if_neg (by omega)] at this
  · intro x hx
    have := List.mem_range'_1.1 hx
    omega
  · exact List.nodup_range'
  · intro s d p _ x hx; cases hx

theorem fi_new (S L n : Nat) (st : St) (h : Inv st) (h1 : st.stocks = S) (h2 : st.levels = L) (h3 : st.pool = n) (h4 : ∀ s d p, st.q s d p = []) (h5 : st.used = []) : Fi S L (n + 1) (fun _ => noOrd) (fun _ _ _ => []) (List.range' 1 n) (fun _ => none) st := by
  have hr : st.resting = 0 := by
    have : st.all = [] := by
      simp [St.all, St.book, St.bids, St.asks, h4]
    unfold St.resting
    rw [this]
    rfl
  refine ⟨h1.symm, h2.symm, by rw [h3], fun s d p _ => h4 s d p, by rw [List.length_range', hr, h3]; rfl, fun t => by simp [h5], fun s d p _ x hx => (by cases hx), fun t x hx => (by cases hx), h, by rw [h5]; exact List.nodup_nil, fun t ht => by rw [h5] at ht; cases ht⟩

def newC (pm bk : Nat) : BC := { opn := true, time := 0, bytes := List.replicate 13 0, have_ := 0, refs := 0, mats := 0, pm := pm, bk := bk, va := .slice none 0 0, vt := .slice none 0 0 }
def newObj (pm bk : Nat) : Obj := .cells #[.bool true, .int .u64 0, .int .u8 0, .int .u8 0, .int .u8 0, .int .u8 0, .int .u8 0, .int .u8 0, .int .u8 0, .int .u8 0, .int .u8 0, .int .u8 0, .int .u8 0, .int .u8 0, .int .u8 0, .int .i64 0, .int .u32 0, .int .u32 0, .map (some pm), .pointer (some ⟨bk, 0, none⟩), .slice none 0 0, .slice none 0 0] 101
theorem newObj_cells (pm bk : Nat) : newObj pm bk = .cells (newC pm bk).cells 101 := rfl

def bare (s l p : Nat) : St := { opened s l p with ans := [] }
theorem inv_bare (s l p : Nat) (h1 : 1 ≤ s ∧ s ≤ 8) (h2 : 1 ≤ l ∧ l ≤ 64) (h3 : 1 ≤ p ∧ p ≤ 64) : Inv (bare s l p) :=
  (Inv.opened s l p h1 h2 h3).of_q rfl rfl rfl rfl (fun _ q => q) (by show 0 < 4294967296; omega) (by show 0 < 4294967296; omega) (by show 0 < 281474976710656; omega)
theorem bare_resting (s l p : Nat) : (bare s l p).resting = 0 := by
  have : (bare s l p).all = [] := by simp [St.all, St.book, St.bids, St.asks, bare, opened]
  unfold St.resting
  rw [this]
  rfl

theorem rel_new {w w1 : World} {k : SK} {s l p : Nat} (h1 : 1 ≤ s ∧ s ≤ 8) (h2 : 1 ≤ l ∧ l ≤ 64) (h3 : 1 ≤ p ∧ p ≤ 64) (kn : k.n = p + 1) (kS : k.S = s) (kL : k.L = l) (kok : k.ok) (kF : ∀ j, k.F j → (w.alloc (.map #[] 0)).heap.size ≤ j)
    (hbk : IsBk w1 k 1 0 (fun _ _ => 0) (fun _ _ => 0) (fun _ => 0) (aftN p 1) (fun _ => noOrd)) (hb1 : Below (w.alloc (.map #[] 0)).heap.size (w.alloc (.map #[] 0)) w1) :
    Rel (w1.alloc (newObj w.heap.size k.bk)) w1.heap.size (newC w.heap.size k.bk) k (bare s l p) ∧ (∀ j, GB w1.heap.size (newC w.heap.size k.bk) k j → w.heap.size ≤ j) ∧ Below w.heap.size w (w1.alloc (newObj w.heap.size k.bk)) := by
  have hs1 := hb1.size
  rw [size_alloc] at hs1
  have hkp : ∀ j, j < w1.heap.size → (w1.alloc (newObj w.heap.size k.bk)).heap[j]? = w1.heap[j]? := fun j hj => by rw [heap_alloc, if_neg (by omega)]
  refine ⟨⟨⟨by rw [heap_alloc, if_pos rfl, newObj_cells], rfl⟩, rfl, World.ownsRow_nil _ _ _ _, World.ownsRow_nil _ _ _ _, rfl, rfl, rfl, ?_, fun _ => none, fun _ => noOrd, fun _ _ _ => [], List.range' 1 p, ⟨kok, 1, _, _, _, _, by rw [bare_resting]; exact hbk.keep (fun j hj => hkp j (hbk.lt j hj)), by rw [kS, kL, kn]; exact lk_new s l p h3.1⟩, ?_, by rw [kS, kL, kn]; exact fi_new s l p _ (inv_bare s l p h1 h2 h3) rfl rfl rfl (fun _ _ _ => rfl) rfl⟩, ?_, ?_⟩
  · refine ⟨fun e => ?_, ?_, fun e => ?_, by nofun, by nofun, by nofun, by nofun, by nofun, by nofun, by nofun⟩
    · have := hbk.lt _ e; omega
    · show w.heap.size ≠ w1.heap.size
      omega
    · have := kF _ e
      rw [size_alloc] at this
      have : w.heap.size + 1 ≤ w.heap.size := this
      omega
  · show IsM _ w.heap.size 0 _
    refine ((IsM.new w).keep (hb1.block w.heap.size (by rw [size_alloc]; omega))).keep (hkp _ (by omega))
  · intro j hj
    rcases hj with e | e | e | e | e
    · rw [e]; omega
    · rw [e]; exact Nat.le_refl _
    · have := kF j e
      rw [size_alloc] at this
      omega
    · cases e
    · cases e
  · have hA : Below w.heap.size w (w.alloc (.map #[] 0)) := (Below.refl _ _).alloc (Nat.le_refl _) _
    have hB : Below w.heap.size w w1 := hA.trans (hb1.mono (by rw [size_alloc]; omega))
    exact hB.alloc hB.size _

set_option maxRecDepth 100000 in
set_option maxHeartbeats 1000000 in
theorem new_any (s l p : Nat) (w : World) (h1 : 1 ≤ s ∧ s ≤ 8) (h2 : 1 ≤ l ∧ l ≤ 64) (h3 : 1 ≤ p ∧ p ≤ 64) :
    Calls Tryz.prog 22 #[.int .i64 s, .int .i64 l, .int .i64 p] w fun e w' => ∃ b c k,
      e = .returned (.tuple #[.pointer (some ⟨b, 0, none⟩), .int .i64 0]) ∧ Rel w' b c k (opened s l p) ∧ Inb c (opened s l p) ∧ (∀ j, GB b c k j → w.heap.size ≤ j) ∧ Below w.heap.size w w' := by
  have HW1 := Hid.mk (within_yes s 1 8 w (by omega) (by omega))
  have HW2 := Hid.mk (within_yes l 1 64 w (by omega) (by omega))
  have HW3 := Hid.mk (within_yes p 1 64 w (by omega) (by omega))
  have HN := Hid.mk (And.intro h1 (And.intro h2 h3))
  clear h1 h2 h3
  go_enter Tryz.func22, Tryz.ntmps22
  go_wp2_with fail
  refine HW1.out.mono ?_
  rintro e w' ⟨rfl, hw⟩
  replace hw := hw.symm
  subst hw
  clear HW1
  go_wp2_with fail
  refine HW2.out.mono ?_
  rintro e w' ⟨rfl, hw⟩
  replace hw := hw.symm
  subst hw
  clear HW2
  go_wp2_with fail
  refine HW3.out.mono ?_
  rintro e w' ⟨rfl, hw⟩
  replace hw := hw.symm
  subst hw
  clear HW3
  have hmk : (Instr.makeMap 62 none).run Tryz.prog w = .ok (.map (some w.heap.size)) (w.alloc (.map #[] 0)) := rfl
  go_wp2_with fail
  refine (booksNew_any s l p _ HN.out.1 HN.out.2.1 HN.out.2.2).mono ?_
  rintro e w1 ⟨k, rfl, kn, kS, kL, kok, kF, hbk, hb1⟩
  have HR := Hid.mk (rel_new HN.out.1 HN.out.2.1 HN.out.2.2 kn kS kL kok kF hbk hb1)
  clear kn kS kL kok kF hbk hb1 hmk
  go_wp2_with fail
  replace HR : Hid (Rel (w1.alloc (Obj.cells #[.bool true, .int .u64 0, .int .u8 0, .int .u8 0, .int .u8 0, .int .u8 0, .int .u8 0, .int .u8 0, .int .u8 0, .int .u8 0, .int .u8 0, .int .u8 0, .int .u8 0, .int .u8 0, .int .u8 0, .int .i64 0, .int .u32 0, .int .u32 0, .map (some w.heap.size), .pointer (some ⟨k.bk, 0, none⟩), .slice none 0 0, .slice none 0 0] 101)) w1.heap.size (newC w.heap.size k.bk) k (bare s l p) ∧ (∀ j, GB w1.heap.size (newC w.heap.size k.bk) k j → w.heap.size ≤ j) ∧ Below w.heap.size w (w1.alloc (Obj.cells #[.bool true, .int .u64 0, .int .u8 0, .int .u8 0, .int .u8 0, .int .u8 0, .int .u8 0, .int .u8 0, .int .u8 0, .int .u8 0, .int .u8 0, .int .u8 0, .int .u8 0, .int .u8 0, .int .u8 0, .int .i64 0, .int .u32 0, .int .u32 0, .map (some w.heap.size), .pointer (some ⟨k.bk, 0, none⟩), .slice none 0 0, .slice none 0 0] 101))) := HR
  generalize w1.alloc (Obj.cells #[.bool true, .int .u64 0, .int .u8 0, .int .u8 0, .int .u8 0, .int .u8 0, .int .u8 0, .int .u8 0, .int .u8 0, .int .u8 0, .int .u8 0, .int .u8 0, .int .u8 0, .int .u8 0, .int .u8 0, .int .i64 0, .int .u32 0, .int .u32 0, .map (some w.heap.size), .pointer (some ⟨k.bk, 0, none⟩), .slice none 0 0, .slice none 0 0] 101) = W at HR ⊢
  have hR := HR.out.1
  refine (tellOpened_any w1.heap.size _ [] W hR.B (by show 0 < 18446744073709551616; omega) (by show 0 < 4294967296; omega) hR.A (by nofun) (by show 0 + 64 ≤ 140737488355328; omega)).mono ?_
  rintro e w2 ⟨rfl, ht⟩
  obtain ⟨c2, hR2, hS2, -, -⟩ := hR.tellA (l := [79, 0, 0, 0, 0, 0, 0]) ht (show (79 :: enc 0 6 : List UInt8) = [79, 0, 0, 0, 0, 0, 0] by decide +kernel)
  have HX : Hid (Rel w2 w1.heap.size c2 k (opened s l p) ∧ Inb c2 (opened s l p) ∧ (∀ j, GB w1.heap.size c2 k j → w.heap.size ≤ j) ∧ Below w.heap.size w w2) := by
    refine ⟨hR2, ⟨hS2.opn, hS2.have_, by rw [hS2.have_]; rfl, Or.inl hS2.have_⟩, ?_, ?_⟩
    · intro j hj
      rcases hS2.sub j hj with e | e
      · exact HR.out.2.1 j e
      · exact Nat.le_trans HR.out.2.2.size e
    · exact HR.out.2.2.trans (hS2.fr.below (HR.out.2.2.size) HR.out.2.1)
  clear ht hR2 hS2 hR HR
  go_wp2_with fail
  go_ret2
  exact ⟨_, c2, k, rfl, HX.out⟩

end Go.Proofs.YtphkchjejbffeaaGreat

/- The program's calls do what the document says. -/
namespace Go.Proofs.YtphkchjejbffeaaGreat
open Go.RowKit

/-- In the world the bourse at block b, with the blocks G, is as st says. -/
def AtR (w : World) (b : Nat) (G : Nat → Prop) (st : St) : Prop := ∃ c k, Rel w b c k st ∧ Inb c st ∧ G = GB b c k

theorem slice_of {w : World} {b : Nat} {v : Value} {l : List UInt8} (h : Own w b v l) : ∃ a n k, v = .slice a n k := by
  obtain ⟨a, cap, h1, -⟩ := h.len
  exact ⟨a, _, cap, h1⟩

theorem rel_told {w w' : World} {b : Nat} {c : BC} {k : SK} {st : St} (h : Rel w b c k st) (hB : IsB w' b { c with va := .slice none 0 0 }) (hf : Fr (fun j => j = b) w w') : Rel w' b { c with va := .slice none 0 0 } k st.told := by
  have hd := h.dist
  obtain ⟨M, od, ps, fl, h1, h2, h3⟩ := h.ex
  refine ⟨hB, h.bk, World.ownsRow_nil _ _ _ _, h.T.keep (fun g hg => hf.block g (Own.lt h.T g hg).2 (fun e => hd.tb (e ▸ hg))), h.time, h.refs, h.mats, ?_, M, od, ps, fl, h1.fr hf (fun j hj e => hd.bF (e ▸ hj)), h2.keep (hf.block _ h2.lt hd.pb), h3.of_st (h.inv.of_q rfl rfl rfl rfl (fun _ q => q) h.inv.refs h.inv.mats h.inv.time) rfl rfl rfl rfl rfl⟩
  exact ⟨hd.bF, hd.pb, hd.pF, by nofun, by nofun, by nofun, hd.tb, hd.tp, hd.tF, by nofun⟩
theorem rel_taped {w w' : World} {b : Nat} {c : BC} {k : SK} {st : St} (h : Rel w b c k st) (hB : IsB w' b { c with vt := .slice none 0 0 }) (hf : Fr (fun j => j = b) w w') : Rel w' b { c with vt := .slice none 0 0 } k st.taped := by
  have hd := h.dist
  obtain ⟨M, od, ps, fl, h1, h2, h3⟩ := h.ex
  refine ⟨hB, h.bk, h.A.keep (fun g hg => hf.block g (Own.lt h.A g hg).2 (fun e => hd.ab (e ▸ hg))), World.ownsRow_nil _ _ _ _, h.time, h.refs, h.mats, ?_, M, od, ps, fl, h1.fr hf (fun j hj e => hd.bF (e ▸ hj)), h2.keep (hf.block _ h2.lt hd.pb), h3.of_st (h.inv.of_q rfl rfl rfl rfl (fun _ q => q) h.inv.refs h.inv.mats h.inv.time) rfl rfl rfl rfl rfl⟩
  exact ⟨hd.bF, hd.pb, hd.pF, hd.ab, hd.ap, hd.aF, by nofun, by nofun, by nofun, fun _ _ => by nofun⟩

theorem the_api : Api AtR where
  lt := by
    rintro w b G st ⟨c, k, h, hi, rfl⟩ j hj
    exact h.lt j hj
  keep := by
    rintro w w' b G st ⟨c, k, h, hi, rfl⟩ hk
    exact ⟨c, k, h.keep hk, hi, rfl⟩
  new := by
    intro s l p w s1 s2 l1 l2 p1 p2
    obtain ⟨s, rfl⟩ : ∃ n : Nat, s = n := ⟨s.toNat, by omega⟩
    obtain ⟨l, rfl⟩ : ∃ n : Nat, l = n := ⟨l.toNat, by omega⟩
    obtain ⟨p, rfl⟩ : ∃ n : Nat, p = n := ⟨p.toNat, by omega⟩
    refine (new_any s l p w ⟨by omega, by omega⟩ ⟨by omega, by omega⟩ ⟨by omega, by omega⟩).mono ?_
    rintro e w' ⟨b, c, k, rfl, h1, h2, h3, h4⟩
    exact ⟨b, GB b c k, rfl, ⟨c, k, h1, h2, rfl⟩, h3, h4⟩
  feed := by
    rintro b G st v l w ⟨c, k, h, hi, rfl⟩ hrd ha ht
    refine (feed_any b c k st v l w h hi hrd ha ht).mono ?_
    rintro e w' ⟨rfl, c', h1, h2, h3, h4⟩
    exact ⟨GB b c' k, rfl, ⟨c', k, h1, h2, rfl⟩, h4, h3⟩
  tick := by
    rintro b G st n w ⟨c, k, h, hi, rfl⟩ n0 n1
    obtain ⟨n, rfl⟩ : ∃ m : Nat, n = m := ⟨n.toNat, by omega⟩
    have htm := h.inv.time
    have hct := h.time
    refine (tick_any b c n w h.B (by omega) (by omega)).mono ?_
    rintro e w' ⟨rfl, hB, hf⟩
    have ho := h.own (c' := { c with time := (c.time + n) % 281474976710656 }) (st' := st.tick n) hB hf rfl rfl rfl rfl rfl rfl (by show (c.time + n) % 281474976710656 = (st.time + n) % 281474976710656; rw [hct]) h.refs h.mats
      (h.inv.of_q rfl rfl rfl rfl (fun _ q => q) h.inv.refs h.inv.mats (Nat.mod_lt _ (by omega))) rfl rfl rfl rfl rfl
    exact ⟨rfl, ⟨_, k, ho.1, ⟨hi.opn, hi.len, hi.took, hi.less⟩, rfl⟩, ho.2.1⟩
  answers := by
    rintro b G st w ⟨c, k, h, hi, rfl⟩
    refine (answers_any b c w h.B (slice_of h.A)).mono ?_
    rintro e w' ⟨rfl, hB, hf⟩
    have hd := h.dist
    refine ⟨c.va, GB b { c with va := .slice none 0 0 } k, rfl, h.A.keep (fun g hg => hf.block g (Own.lt h.A g hg).2 (fun e => hd.ab (e ▸ hg))), ⟨_, k, rel_told h hB hf, ⟨hi.opn, hi.len, hi.took, hi.less⟩, rfl⟩, ?_, ?_, hf.mono (fun j _ e => Or.inl e)⟩
    · rintro j (e | e | e | e | e)
      · exact Or.inl (Or.inl e)
      · exact Or.inl (Or.inr (Or.inl e))
      · exact Or.inl (Or.inr (Or.inr (Or.inl e)))
      · cases e
      · exact Or.inl (Or.inr (Or.inr (Or.inr (Or.inr e))))
    · intro g hg
      refine ⟨Or.inl (Or.inr (Or.inr (Or.inr (Or.inl hg)))), ?_⟩
      rintro (e | e | e | e | e)
      · exact hd.ab (e ▸ hg)
      · exact hd.ap (hg.trans (congrArg some e))
      · exact hd.aF g hg e
      · cases e
      · exact hd.atb g hg e
  tape := by
    rintro b G st w ⟨c, k, h, hi, rfl⟩
    refine (tape_any b c w h.B (slice_of h.T)).mono ?_
    rintro e w' ⟨rfl, hB, hf⟩
    have hd := h.dist
    refine ⟨c.vt, GB b { c with vt := .slice none 0 0 } k, rfl, h.T.keep (fun g hg => hf.block g (Own.lt h.T g hg).2 (fun e => hd.tb (e ▸ hg))), ⟨_, k, rel_taped h hB hf, ⟨hi.opn, hi.len, hi.took, hi.less⟩, rfl⟩, ?_, ?_, hf.mono (fun j _ e => Or.inl e)⟩
    · rintro j (e | e | e | e | e)
      · exact Or.inl (Or.inl e)
      · exact Or.inl (Or.inr (Or.inl e))
      · exact Or.inl (Or.inr (Or.inr (Or.inl e)))
      · exact Or.inl (Or.inr (Or.inr (Or.inr (Or.inl e))))
      · cases e
    · intro g hg
      refine ⟨Or.inl (Or.inr (Or.inr (Or.inr (Or.inr hg)))), ?_⟩
      rintro (e | e | e | e | e)
      · exact hd.tb (e ▸ hg)
      · exact hd.tp (hg.trans (congrArg some e))
      · exact hd.tF g hg e
      · exact hd.atb g e hg
      · cases e
  look := by
    rintro b G st w ⟨c, k, h, hi, rfl⟩
    exact look_any b c k st w h hi
  book := by
    rintro b G st s w ⟨c, k, h, hi, rfl⟩ s0 s1
    obtain ⟨s, rfl⟩ : ∃ n : Nat, s = n := ⟨s.toNat, by omega⟩
    exact book_any b c k st s w h (by omega)

end Go.Proofs.YtphkchjejbffeaaGreat
