/- The walk of inbox.gather. -/
import Derived.Test.YtphkchjejbffeaaG02
import Derived.Deep.RegionHeld3
import Derived.Deep.DrawnRows
namespace Go.Proofs.Ytphkchjejbffeaa
open Go.RowKit
attribute [local go_sem ↓] Go.wp_at_zero Go.wp_at_succ

def BC.list (c : BC) : List Value := ([.bool c.opn, .int .u64 c.time] : List Value) ++ c.bytes.map B ++ ([.int .i64 c.have_, .int .u32 c.refs, .int .u32 c.mats, .map (some c.pm), .pointer (some ⟨c.bk, 0, none⟩), c.va, c.vt] : List Value)
theorem BC.cells_list (c : BC) : c.cells = c.list.toArray := rfl
theorem BC.list_len (c : BC) (h : c.bytes.length = 13) : c.list.length = 22 := by simp [BC.list, h]

theorem BC.splice (c : BC) (h13 : c.bytes.length = 13) (h : Nat) (x : List UInt8) (hh : h + x.length ≤ 13) : splice c.list (2 + h) (x.map B) = { c with bytes := Go.splice c.bytes h x }.list := by
  unfold Go.splice BC.list
  simp only [List.length_map, List.map_append, List.map_take, List.map_drop]
  rw [List.append_assoc, List.take_append, List.drop_append]
  simp only [List.length_cons, List.length_nil]
  rw [List.take_of_length_le (by simp), List.drop_of_length_le (by simp; omega)]
  rw [List.take_append_of_le_length (by simp [h13]; omega)]
  rw [show 0 + 1 + 1 = 2 from rfl, show 2 + h - 2 = h by omega, show 2 + h + x.length - 2 = h + x.length by omega]
  rw [List.drop_append_of_le_length (by simp [h13]; omega)]
  simp

theorem BC.setH (c : BC) (h : c.bytes.length = 13) (n : Nat) : c.cells.setIfInBounds 15 (.int .i64 n) = { c with have_ := n }.cells := by
  obtain ⟨a1, a2, a3, a4, a5, a6, a7, a8, a9, a10, a11, a12, a13, e⟩ := bytes13 _ h
  unfold BC.cells
  simp only [e]
  rfl
theorem IsB.setH {w : World} {b : Nat} {c : BC} (h : IsB w b c) (n : Nat) : IsB (w.setCell ⟨b, 15, none⟩ (.int .i64 n)) b { c with have_ := n } :=
  ⟨by rw [heap_setCell_same w b 15 _ _ _ h.blk, c.setH h.len n], h.len⟩

/-- What gathering leaves: k bytes of l were taken. -/
structure Gath (F : Nat → Prop) (w w' : World) (b : Nat) (c : BC) (l : List UInt8) (v' : Value) (whole : Bool) (k : Nat) (bytes' : List UInt8) : Prop where
  le : k ≤ l.length
  isB : IsB w' b { c with bytes := bytes', have_ := c.have_ + k }
  fr : Fr (fun j => j = b) w w'
  took : bytes'.take (c.have_ + k) = c.bytes.take c.have_ ++ l.take k
  yes : whole = true → 0 < c.have_ + k ∧ c.have_ + k = sizeOf (byteAt bytes' 0) ∧ Rd w' F v' (l.drop k)
  no : whole = false → k = l.length ∧ (c.have_ + k = 0 ∨ c.have_ + k < sizeOf (byteAt bytes' 0))

def Gathers (F : Nat → Prop) (w : World) (b : Nat) (c : BC) (l : List UInt8) (e : Ending) (w' : World) : Prop := ∃ v' whole k bytes', e = .returned (.tuple #[v', .bool whole]) ∧ Gath F w w' b c l v' whole k bytes'

theorem splice_take (bs x : List UInt8) (h : Nat) (hh : h ≤ bs.length) : (splice bs h x).take (h + x.length) = bs.take h ++ x := by
  unfold splice
  rw [← List.append_assoc, List.take_left' (by rw [List.length_append, List.length_take]; omega)]
theorem splice_head (bs x : List UInt8) (h : Nat) (h0 : 0 < h) (hh : h ≤ bs.length) : byteAt (splice bs h x) 0 = byteAt bs 0 := by
  unfold byteAt splice
  rcases bs with _ | ⟨a, bs⟩
  · simp at hh; omega
  · obtain ⟨k, rfl⟩ : ∃ k, h = k + 1 := ⟨h - 1, by omega⟩
    simp

theorem Gath.of {F : Nat → Prop} {w W : World} {b : Nat} {c : BC} {l : List UInt8} {v' : Value} {hz n sz : Nat} (nq : Nat) (h13 : c.bytes.length = 13) (hZ : c.have_ = hz) (h0 : 0 < hz) (h1 : hz ≤ sz) (hsz : sizeOf (byteAt c.bytes 0) = sz) (hn : min l.length (sz - hz) = n)
    (hB : IsB W b { c with bytes := splice c.bytes hz (l.take n), have_ := hz + n }) (hf : Fr (fun k => k = b) w W) (hr : Rd W F v' (l.drop n)) :
    Gath F w (W.drewN nq) b c l v' ((hz : Int) + (n : Int) == (sz : Int)) n (splice c.bytes hz (l.take n)) := by
  have hs := size_pos (byteAt c.bytes 0)
  have hln : (l.take n).length = n := by rw [List.length_take]; omega
  have hb0 : byteAt (splice c.bytes hz (l.take n)) 0 = byteAt c.bytes 0 := splice_head _ _ _ h0 (by omega)
  refine ⟨by omega, ?_, ?_, ?_, ?_, ?_⟩
  · rw [hZ]; exact ⟨hB.blk, hB.len⟩
  · exact ⟨hf.os, hf.tape, hf.output, hf.size, hf.block⟩
  · have := splice_take c.bytes (l.take n) hz (by omega)
    rw [hln] at this
    rw [hZ]; exact this
  · intro h
    have : (hz : Int) + (n : Int) = (sz : Int) := by simpa using h
    rw [hb0, hsz, hZ]
    exact ⟨by omega, by omega, hr⟩
  · intro h
    have : (hz : Int) + (n : Int) ≠ (sz : Int) := by simpa using h
    rw [hb0, hsz, hZ]
    exact ⟨by omega, Or.inr (by omega)⟩

/-- What stands behind n bytes. -/
theorem rd_behind {F : Nat → Prop} {w W : World} {b g o cap n : Nat} {l : List UInt8} (hl : Lies w g o l) (hc : l.length ≤ cap) (hc2 : cap ≤ maxLen) (hFb : F b) (hg : ¬ F g) (hgs : g < w.heap.size) (hf : Fr (fun k => k = b) w W) (hn : n ≤ l.length) :
    Rd W F (.slice (if cap = n then some ⟨g, o, none⟩ else some ⟨g, o + n, none⟩) (l.length - n) (cap - n)) (l.drop n) := by
  have hk : Lies W g o l := hl.keep (hf.block g hgs (fun e => hg (e ▸ hFb)))
  have hgs' : g < W.heap.size := Nat.lt_of_lt_of_le hgs hf.size
  by_cases he : cap = n
  · rw [if_pos he]
    have hnil : l.drop n = [] := List.drop_eq_nil_of_le (by omega)
    refine Or.inr ⟨g, o, cap - n, by rw [List.length_drop], ?_, by rw [List.length_drop]; omega, by omega, hg, hgs'⟩
    rw [hnil]
    intro j u hu
    simp at hu
  · rw [if_neg he]
    exact Or.inr ⟨g, o + n, cap - n, by rw [List.length_drop], hk.drop n, by rw [List.length_drop]; omega, by omega, hg, hgs'⟩

set_option maxRecDepth 100000 in
set_option maxHeartbeats 1000000 in
theorem gather_more (F : Nat → Prop) (b : Nat) (hFb : F b) (c : BC) (v : Value) (l : List UInt8) (w : World) (hB : IsB w b c) (hrd : Rd w F v l) (h0 : 0 < c.have_) (h1 : c.have_ < sizeOf (byteAt c.bytes 0)) (hll : l.length ≤ 9223372036854775807) :
    Calls Try.prog 28 #[.pointer (some ⟨b, 2, none⟩), v] w fun e w' => Gathers F w b c l e w' := by
  have g15 : w.cell? ⟨b, 15, none⟩ = some (.int .i64 c.have_) := by rw [hB.cell]; exact (c.get hB.len).2.2.1
  have g2 : w.cell? ⟨b, 2, none⟩ = some (.int .u8 (byteAt c.bytes 0).toNat) := by
    rw [hB.cell]
    obtain ⟨a1, a2, a3, a4, a5, a6, a7, a8, a9, a10, a11, a12, a13, e⟩ := bytes13 _ hB.len
    unfold BC.cells byteAt
    rw [e]
    rfl
  have hs := size_pos (byteAt c.bytes 0)
  generalize hsz : sizeOf (byteAt c.bytes 0) = sz at *
  have HSZ := Hid.mk hsz
  have hh0 : (((c.have_ : Nat) : Int) == 0) = false := by simp; omega
  have HB := Hid.mk hB
  have HR := Hid.mk hrd
  have hmb := messageBytes_any (byteAt c.bytes 0)
  rw [hsz] at hmb
  have HMB := Hid.mk hmb
  clear hmb
  have i1 : (0 : Int) ≤ (c.have_ : Int) := by omega
  have i2 : (c.have_ : Int) ≤ (sz : Int) := by omega
  have i3 : (sz : Int) ≤ 13 := by omega
  obtain ⟨rv, cv, hv⟩ : ∃ rv cv, v = .slice rv l.length cv := by
    rcases hrd with ⟨rfl, rfl⟩ | ⟨g', o', cap, rfl, -⟩
    · exact ⟨none, 0, rfl⟩
    · exact ⟨_, _, rfl⟩
  subst hv
  clear hsz hB hrd
  generalize hcz : c.have_ = hz at *
  have HZ := Hid.mk hcz
  clear hcz
  go_enter Try.func28, Try.ntmps28
  go_wp2_with (go_at_call 49; refine (HMB.out w).mono ?_; rintro e w' ⟨rfl, hw⟩; replace hw := hw.symm; subst hw)
  have hbk : w.drew.heap[b]? = some (.cells c.list.toArray 81 (0, 0)) := HB.out.blk
  have hrd : Rd w.drew F (.slice rv l.length cv) l := HR.out
  have hfit : 2 + hz + min l.length (sz - hz) ≤ c.list.length := by rw [c.list_len HB.out.len]; omega
  have HK := Hid.mk (And.intro hbk (And.intro hrd hfit))
  have HE : Hid (splice c.list (2 + hz) ((l.take (min l.length (sz - hz))).map B) = { c with bytes := splice c.bytes hz (l.take (min l.length (sz - hz))) }.list) := c.splice HB.out.len hz _ (by rw [List.length_take]; omega)
  have HL13 : Hid ((splice c.bytes hz (l.take (min l.length (sz - hz)))).length = 13) := by
    show _ = _
    rw [length_splice _ _ _ (by rw [HB.out.len, List.length_take]; omega), HB.out.len]
  have i4 : (hz : Int) ≤ 13 := by omega
  clear hbk hrd hfit
  go_region_held3 (fun w' => w'.cell? ⟨b, 15, none⟩ = some (.int .i64 hz)) (first | exact m1 | go_keep)
    ((refine step_copy_mid rfl _ _ (by rfl) b (2 + hz) (sz - hz) (13 - hz) _ l F (by (conv => lhs; whnf); rw [if_neg (by omega)]) (by rfl) HK.out.2.1 c.list 81 HK.out.1 HK.out.2.2 ?_; intro w2 hg2 hf2; have hB2 : Hid (IsB w2 b { c with bytes := splice c.bytes hz (l.take (min l.length (sz - hz))) }) := ⟨hg2.out.trans (by rw [HE.out]; rfl), HL13.out⟩; have m1 : w2.cell? ⟨b, 15, none⟩ = some (.int .i64 hz) := by rw [hB2.out.cell]; exact ((BC.get _ hB2.out.len).2.2.1.trans (by rw [← HZ.out]))))
  generalize hn : min l.length (sz - hz) = n at hB2 hf2 m1 HE HL13 HK ⊢
  have HN := Hid.mk hn
  have n1 : n ≤ l.length := by omega
  have n2 : hz + n ≤ sz := by omega
  clear hn
  have gf : w2.frozen? ⟨b, 15, none⟩ = false := hB2.out.frozen 15
  have ne13 : ¬ (13 = hz) := by omega
  have r1 : ((hz : Int) + (n : Int)) ≤ 9223372036854775807 := by omega
  have r2 : (-9223372036854775808 : Int) ≤ ((hz : Int) + (n : Int)) := by omega
  go_wp2_with fail
  have hB3 : Hid (IsB (w2.setCell ⟨b, 15, none⟩ (.int .i64 ((hz : Int) + (n : Int)))) b { c with bytes := splice c.bytes hz (l.take n), have_ := hz + n }) := by
    have := hB2.out.setH (hz + n)
    rwa [Int.natCast_add] at this
  have hf3 : Hid (Fr (fun k => k = b) w (w2.setCell ⟨b, 15, none⟩ (.int .i64 ((hz : Int) + (n : Int))))) :=
    (Fr.drew _ w).trans (hf2.out.trans (Fr.setCell w2 ⟨b, 15, none⟩ _) (fun _ _ h => h)) (fun _ _ h => h)
  have c15 : (w2.setCell ⟨b, 15, none⟩ (.int .i64 ((hz : Int) + (n : Int)))).cell? ⟨b, 15, none⟩ = some (.int .i64 ((hz : Int) + (n : Int))) := by
    rw [hB3.out.cell]; exact (BC.get _ hB3.out.len).2.2.1
  generalize hW : w2.setCell ⟨b, 15, none⟩ (.int .i64 ((hz : Int) + (n : Int))) = W at hB3 hf3 c15 ⊢
  clear hW
  have HD := Hid.mk (And.intro HK.out.2.1 hB3.out)
  clear hB2 hf2 m1 gf r1 r2
  rcases HR.out with ⟨hv, hl⟩ | ⟨g, o, cap, hv, hlie, hc1, hc2, hg, hgs⟩
  · obtain ⟨rfl, -, rfl⟩ : rv = none ∧ l.length = 0 ∧ cv = 0 := by simpa using hv
    subst hl
    have hn0 : n = 0 := by simpa using n1
    subst hn0
    clear hv n1 n2
    go_quiet (fail)
    go_wp2_with fail
    go_ret2
    have HGa := Gath.of (F := F) (v' := .slice none 0 0) nq HB.out.len HZ.out h0 (Nat.le_of_lt h1) HSZ.out HN.out hB3.out hf3.out (Or.inl ⟨rfl, rfl⟩)
    exact ⟨_, _, 0, _, rfl, by simpa using HGa⟩
  · obtain ⟨rfl, rfl⟩ : rv = some ⟨g, o, none⟩ ∧ cv = cap := by simpa using hv
    clear hv
    have HG := Hid.mk (And.intro hlie (And.intro hg hgs))
    clear hlie hg hgs
    go_quiet (fail)
    have HGa : Hid (Gath F w (W.drewN nq) b c l _ _ n _) := Gath.of nq HB.out.len HZ.out h0 (Nat.le_of_lt h1) HSZ.out HN.out hB3.out hf3.out (rd_behind HG.out.1 hc1 hc2 hFb HG.out.2.1 HG.out.2.2 hf3.out n1)
    generalize (if cv = n then some (⟨g, o, none⟩ : Addr) else some ⟨g, o + n, none⟩) = A at HGa ⊢
    generalize ((hz : Int) + (n : Int) == (sz : Int)) = bb at HGa ⊢
    go_wp2_with fail
    go_ret2
    exact ⟨_, _, n, _, rfl, HGa.out⟩

end Go.Proofs.Ytphkchjejbffeaa

/- The walk of inbox.gather, its begin. -/
namespace Go.Proofs.Ytphkchjejbffeaa
open Go.RowKit
attribute [local go_sem ↓] Go.wp_at_zero Go.wp_at_succ

/-- What a copy into block g answers and leaves. -/
theorem run_copy_mid (w : World) (ty : TypeId) (g off dLen dCap : Nat) (vs : Value) (l : List UInt8) (F : Nat → Prop) (hrd : Rd w F vs l)
    (cur : List Value) (t : TypeId) (hg : w.heap[g]? = some (.cells cur.toArray t (0, 0))) (hfit : off + min l.length dLen ≤ cur.length) :
    ∃ w', Sem.run Try.prog (Builtin.copy_ #[28, 28] ty #[.slice (some ⟨g, off, none⟩) dLen dCap, vs]) w = .ok (.int .i64 (min l.length dLen : Nat)) w' ∧ w'.heap[g]? = some (.cells (splice cur off ((l.take (min l.length dLen)).map B)).toArray t (0, 0)) ∧ Fr (fun k => k = g) w w' := by
  have hlen : ((l.take (min l.length dLen)).map B).length = min l.length dLen := by rw [List.length_map, List.length_take]; omega
  obtain ⟨sp, sCap, hvs⟩ : ∃ sp sCap, vs = .slice sp l.length sCap := by
    rcases hrd with ⟨rfl, rfl⟩ | ⟨g', o', cap, rfl, -⟩
    · exact ⟨none, 0, rfl⟩
    · exact ⟨_, _, rfl⟩
  by_cases h0 : min l.length dLen = 0
  · have hrun := run_copy_none (P := Try.prog) w 28 28 ty 5 (some ⟨g, off, none⟩) sp dLen dCap l.length sCap Try.underlying28 Try.size5 h0
    rw [h0]
    refine ⟨w, by rw [hvs]; exact hrun, by simpa [splice] using hg, Fr.refl _ _⟩
  · rcases hrd with ⟨rfl, rfl⟩ | ⟨g', o', cap, rfl, hl, -⟩
    · simp at h0
    · have hsrc : ∀ (j : Nat) (u : Value), ((l.take (min l.length dLen)).map B)[j]? = some u → w.cell? ((⟨g', o', none⟩ : Addr).add j) = some u := by
        intro j u hu
        rw [List.getElem?_map, Option.map_eq_some_iff] at hu
        obtain ⟨c, hc, rfl⟩ := hu
        rw [Addr.add_lit]
        exact (hl.take _) j c hc
      have hone : ∀ u ∈ (l.take (min l.length dLen)).map B, u.oneCell' = true := by
        intro u hu
        obtain ⟨c, _, rfl⟩ := List.mem_map.1 hu
        rfl
      generalize (l.take (min l.length dLen)).map B = cs at *
      have hrun := run_copy_row (P := Try.prog) w 28 28 ty 5 g off dLen dCap ⟨g', o', none⟩ l.length cap cur.toArray t cs Try.underlying28 Try.size5 hg hlen hsrc (by rw [hlen]; simpa using hfit) hone
      refine ⟨_, hrun.trans (by rw [hlen]; rfl), ?_, ?_⟩
      · rw [setRow_heap w g _ _ t _ hg]
        simp [splice, hlen]
      · exact ⟨rfl, rfl, rfl, by simp [World.setRow], fun k _ hk => setRow_other w g k _ hk⟩

set_option maxRecDepth 100000 in
set_option maxHeartbeats 1000000 in
theorem gather_none (F : Nat → Prop) (b : Nat) (c : BC) (v : Value) (w : World) (hB : IsB w b c) (hrd : Rd w F v []) (h0 : c.have_ = 0) :
    Calls Try.prog 28 #[.pointer (some ⟨b, 2, none⟩), v] w fun e w' => Gathers F w b c [] e w' := by
  have g15 : w.cell? ⟨b, 15, none⟩ = some (.int .i64 0) := by rw [hB.cell]; exact (c.get hB.len).2.2.1.trans (by rw [h0]; rfl)
  have gf : w.frozen? ⟨b, 15, none⟩ = false := hB.frozen 15
  obtain ⟨rv, cv, hv⟩ : ∃ rv cv, v = .slice rv 0 cv := by
    rcases hrd with ⟨rfl, -⟩ | ⟨g', o', cap, rfl, -⟩
    · exact ⟨none, 0, rfl⟩
    · exact ⟨_, _, rfl⟩
  subst hv
  have HB := Hid.mk hB
  have HR := Hid.mk hrd
  have H0 := Hid.mk h0
  obtain ⟨w1, hrun, hh1, hf1⟩ := run_copy_mid w 3 b 2 1 13 _ [] _ hrd c.list 81 hB.blk (by rw [c.list_len hB.len]; simp)
  have hB1 : IsB w1 b c := ⟨by rw [hh1]; simp [splice, BC.cells_list], hB.len⟩
  have gf1 : w1.frozen? ⟨b, 15, none⟩ = false := hB1.frozen 15
  have hB2 : Hid (IsB (w1.setCell ⟨b, 15, none⟩ (.int .i64 0)) b c) := by
    have := hB1.setH 0
    cases c
    cases h0
    exact this
  have HF := Hid.mk (hf1.trans (Fr.setCell w1 ⟨b, 15, none⟩ (.int .i64 0)) (fun _ _ h => h))
  have HB1 := Hid.mk hB1
  replace hrun : Sem.run Try.prog (Builtin.copy_ #[28, 28] 3 #[.slice (some ⟨b, 2, none⟩) 1 13, .slice rv 0 cv]) w = .ok (.int .i64 0) w1 := hrun
  clear hB hrd h0 hh1 hf1 hB1
  have c15 : (w1.setCell ⟨b, 15, none⟩ (.int .i64 0)).cell? ⟨b, 15, none⟩ = some (.int .i64 0) := by
    rw [hB2.out.cell]; exact (c.get hB2.out.len).2.2.1.trans (by rw [H0.out]; rfl)
  have g115 : w1.cell? ⟨b, 15, none⟩ = some (.int .i64 0) := by
    rw [HB1.out.cell]; exact (c.get HB1.out.len).2.2.1.trans (by rw [H0.out]; rfl)
  clear c15
  have hcv : (cv : Int) ≤ 9223372036854775807 := by
    rcases HR.out with ⟨hv, -⟩ | ⟨g, o, cap, hv, -, -, hc, -⟩
    · obtain ⟨rfl, rfl⟩ : rv = none ∧ cv = 0 := by simpa using hv
      omega
    · obtain ⟨rfl, rfl⟩ : rv = some ⟨g, o, none⟩ ∧ cv = cap := by simpa using hv
      unfold maxLen at hc
      omega
  have HG : Hid (Gathers F w b c [] (.returned (.tuple #[.slice none 0 0, .bool false])) (w1.setCell ⟨b, 15, none⟩ (.int .i64 0))) := by
    refine ⟨_, _, 0, c.bytes, rfl, Nat.le_refl _, ⟨hB2.out.blk, hB2.out.len⟩, ⟨HF.out.os, HF.out.tape, HF.out.output, HF.out.size, HF.out.block⟩, by simp [H0.out], (fun h => by cases h), fun _ => ⟨rfl, Or.inl H0.out⟩⟩
  obtain hvv : (rv = none ∧ cv = 0) ∨ ∃ g o, rv = some ⟨g, o, none⟩ := by
    rcases HR.out with ⟨hv, -⟩ | ⟨g, o, cap, hv, -⟩
    · exact Or.inl (by simpa using hv)
    · exact Or.inr ⟨g, o, by have h : rv = some ⟨g, o, none⟩ ∧ cv = cap := by simpa using hv
                             exact h.1⟩
  clear HR HB H0 HF
  rcases hvv with ⟨rfl, rfl⟩ | ⟨g, o, rfl⟩
  · go_enter Try.func28, Try.ntmps28
    go_wp2_with fail
    go_ret2
    exact HG.out
  · go_enter Try.func28, Try.ntmps28
    go_wp2_with fail
    go_ret2
    exact HG.out

theorem Gath.lift {F : Nat → Prop} {w w1 w' : World} {b : Nat} {c : BC} {a : UInt8} {l : List UInt8} {v' : Value} {whole : Bool} {k : Nat} {bytes' : List UInt8} (h0 : c.have_ = 0) (h13 : c.bytes.length = 13) (hf : Fr (fun k => k = b) w w1)
    (h : Gath F w1 w' b { c with bytes := splice c.bytes 0 [a], have_ := 1 } l v' whole k bytes') : Gath F w w' b c (a :: l) v' whole (1 + k) bytes' := by
  refine ⟨by have := h.le; simp; omega, ?_, hf.trans h.fr (fun _ _ h => h), ?_, ?_, ?_⟩
  · have := h.isB
    rw [h0, Nat.zero_add]
    exact this
  · have := h.took
    rw [h0, Nat.zero_add, Nat.add_comm 1 k, List.take_succ_cons, List.take_zero, List.nil_append, ← Nat.add_comm 1 k]
    refine this.trans ?_
    have e := splice_take c.bytes [a] 0 (by omega)
    rw [show 0 + [a].length = 1 from rfl] at e
    show (splice c.bytes 0 [a]).take 1 ++ _ = _
    rw [e]
    rfl
  · intro hw
    have := h.yes hw
    rw [h0, Nat.zero_add]
    refine ⟨this.1, this.2.1, ?_⟩
    have := this.2.2
    rwa [Nat.add_comm 1 k, List.drop_succ_cons]
  · intro hw
    have := h.no hw
    rw [h0, Nat.zero_add]
    exact ⟨by have := this.1; simp; omega, this.2⟩

end Go.Proofs.Ytphkchjejbffeaa

/- The walk of inbox.gather, its first byte. -/
namespace Go.Proofs.Ytphkchjejbffeaa
open Go.RowKit
attribute [local go_sem ↓] Go.wp_at_zero Go.wp_at_succ

theorem head_splice (bs : List UInt8) (a : UInt8) : byteAt (splice bs 0 [a]) 0 = a := rfl

set_option maxRecDepth 100000 in
set_option maxHeartbeats 1000000 in
theorem gather_first (F : Nat → Prop) (b : Nat) (hFb : F b) (c0 : BC) (v : Value) (a : UInt8) (l : List UInt8) (w0 : World) (hB : IsB w0 b c0) (hrd : Rd w0 F v (a :: l)) (h0 : c0.have_ = 0) (hll : l.length + 1 ≤ 9223372036854775807) :
    Calls Try.prog 28 #[.pointer (some ⟨b, 2, none⟩), v] w0 fun e w' => Gathers F w0 b c0 (a :: l) e w' := by
  obtain ⟨g, o, cap, rfl, hlie, hc1, hc2, hg, hgs⟩ : ∃ g o cap, v = .slice (some ⟨g, o, none⟩) (a :: l).length cap ∧ Lies w0 g o (a :: l) ∧ (a :: l).length ≤ cap ∧ cap ≤ maxLen ∧ ¬ F g ∧ g < w0.heap.size := by
    rcases hrd with ⟨-, h⟩ | h
    · cases h
    · exact h
  have g15 : w0.cell? ⟨b, 15, none⟩ = some (.int .i64 0) := by rw [hB.cell]; exact (c0.get hB.len).2.2.1.trans (by rw [h0]; rfl)
  obtain ⟨w1, hrun, hh1, hf1⟩ := run_copy_mid w0 3 b 2 1 13 _ (a :: l) _ hrd c0.list 81 hB.blk (by rw [c0.list_len hB.len]; simp)
  have hmin : min (a :: l).length 1 = 1 := by simp
  rw [hmin] at hrun hh1
  have hB1 : IsB w1 b { c0 with bytes := splice c0.bytes 0 [a] } := by
    refine ⟨?_, by show (splice c0.bytes 0 [a]).length = 13; rw [length_splice _ _ _ (by rw [hB.len]; simp), hB.len]⟩
    rw [hh1]
    have := c0.splice hB.len 0 [a] (by simp)
    rw [Nat.add_zero] at this
    rw [show (List.take 1 (a :: l)) = [a] from rfl, this]
    rfl
  have gf1 : w1.frozen? ⟨b, 15, none⟩ = false := hB1.frozen 15
  have g115 : w1.cell? ⟨b, 15, none⟩ = some (.int .i64 0) := by
    rw [hB1.cell]; exact (BC.get _ hB1.len).2.2.1.trans (by rw [h0]; rfl)
  have hB2 := hB1.setH 1
  have hf2 := hf1.trans (Fr.setCell w1 ⟨b, 15, none⟩ (.int .i64 (1 : Nat))) (fun _ _ h => h)
  have hr2 : Rd (w1.setCell ⟨b, 15, none⟩ (.int .i64 (1 : Nat))) F _ ((a :: l).drop 1) := rd_behind (n := 1) hlie hc1 hc2 hFb hg hgs hf2 (by simp)
  rw [show (a :: l).drop 1 = l from rfl] at hr2
  have g2 : (w1.setCell ⟨b, 15, none⟩ (.int .i64 (1 : Nat))).cell? ⟨b, 2, none⟩ = some (.int .u8 a.toNat) := by
    rw [hB2.cell]
    obtain ⟨a1, a2, a3, a4, a5, a6, a7, a8, a9, a10, a11, a12, a13, e⟩ := bytes13 _ hB.len
    show (BC.cells { c0 with bytes := splice c0.bytes 0 [a], have_ := 1 })[2]? = _
    unfold BC.cells
    simp only [e]
    rfl
  generalize hrv : (if cap = 1 then some (⟨g, o, none⟩ : Addr) else some ⟨g, o + 1, none⟩) = rv at hr2
  have HFi : Hid (∀ e w', Gathers F (w1.setCell ⟨b, 15, none⟩ (.int .i64 1)) b { c0 with bytes := splice c0.bytes 0 [a], have_ := 1 } l e w' → Gathers F w0 b c0 (a :: l) e w') := by
    rintro e w' ⟨v', wh, k, by', rfl, hG⟩
    exact ⟨v', wh, 1 + k, by', rfl, hG.lift h0 hB.len hf2⟩
  have hs := size_pos a
  have hmb := messageBytes_any a
  generalize hsz : sizeOf a = sz at *
  have HSZ : Hid (sizeOf (byteAt (splice c0.bytes 0 [a]) 0) = sz) := by show _ = _; rw [head_splice, hsz]
  have HMB := Hid.mk hmb
  have HB := Hid.mk hB2
  have HR := Hid.mk hr2
  have i3 : (sz : Int) ≤ 13 := by omega
  have i2 : (1 : Int) ≤ (sz : Int) := by omega
  obtain ⟨L, hL⟩ : ∃ L, (a :: l).length = L := ⟨_, rfl⟩
  have hL1 : L - 1 = l.length := by rw [← hL]; simp
  have hL2 : (L : Int) ≤ 9223372036854775807 := by rw [← hL]; simp; omega
  have hL3 : (1 : Int) ≤ (L : Int) := by rw [← hL]; simp; omega
  rw [hL] at hrun hc1 ⊢
  have hc3 : (L : Int) ≤ (cap : Int) := by omega
  have hc4 : (cap : Int) ≤ 9223372036854775807 := by unfold maxLen at hc2; omega
  replace hrun : Sem.run Try.prog (Builtin.copy_ #[28, 28] 3 #[.slice (some ⟨b, 2, none⟩) 1 13, .slice (some ⟨g, o, none⟩) L cap]) w0 = .ok (.int .i64 1) w1 := hrun
  replace g2 : (w1.setCell ⟨b, 15, none⟩ (.int .i64 1)).cell? ⟨b, 2, none⟩ = some (.int .u8 a.toNat) := g2
  clear hmb hB hrd hB1 hh1 hf1 hlie hg hgs hsz hc1 hc2 hB2 hr2 hf2 hmin h0 hL hll
  go_enter Try.func28, Try.ntmps28
  go_wp2_with (go_at_call 49; refine (HMB.out _).mono ?_; rintro e w' ⟨rfl, hw⟩; replace hw := hw.symm; subst hw)
  have h1 : 1 ≤ sz := hs.1
  generalize hcd : ({ c0 with bytes := splice c0.bytes 0 [a], have_ := 1 } : BC) = c at HFi HB
  have HZ : Hid (c.have_ = 1) := by show _ = _; rw [← hcd]
  replace HSZ : Hid (sizeOf (byteAt c.bytes 0) = sz) := by show _ = _; rw [← hcd]; exact HSZ.out
  replace HB : Hid (IsB (w1.setCell ⟨b, 15, none⟩ (.int .i64 1)) b c) := HB
  replace HR : Hid (Rd (w1.setCell ⟨b, 15, none⟩ (.int .i64 1)) F (.slice rv l.length (cap - 1)) l) := by
    have := HR.out
    rw [show (a :: l).length - 1 = l.length by simp] at this
    exact this
  clear hcd
  generalize cap - 1 = cv at HR ⊢
  generalize w1.setCell ⟨b, 15, none⟩ (.int .i64 1) = w at HFi HB HR g2 ⊢
  clear hrun g115 gf1 g15 hL1 hL2 hL3 hc3 hc4 hrv HMB
  have g15 : w.cell? ⟨b, 15, none⟩ = some (.int .i64 1) := by
    rw [HB.out.cell]; exact (c.get HB.out.len).2.2.1.trans (by rw [HZ.out]; rfl)
  have hbk : w.drew.heap[b]? = some (.cells c.list.toArray 81 (0, 0)) := HB.out.blk
  have hrd : Rd w.drew F (.slice rv l.length cv) l := HR.out
  have hfit : 3 + min l.length (sz - 1) ≤ c.list.length := by rw [c.list_len HB.out.len]; omega
  have HK := Hid.mk (And.intro hbk (And.intro hrd hfit))
  have HE : Hid (splice c.list (3) ((l.take (min l.length (sz - 1))).map B) = { c with bytes := splice c.bytes 1 (l.take (min l.length (sz - 1))) }.list) := c.splice HB.out.len 1 _ (by rw [List.length_take]; omega)
  have HL13 : Hid ((splice c.bytes 1 (l.take (min l.length (sz - 1)))).length = 13) := by
    show _ = _
    rw [length_splice _ _ _ (by rw [HB.out.len, List.length_take]; omega), HB.out.len]
  clear hbk hrd hfit
  go_region_held3 (fun w' => w'.cell? ⟨b, 15, none⟩ = some (.int .i64 1)) (first | exact m1 | go_keep)
    ((refine step_copy_mid rfl _ _ (by rfl) b (3) (sz - 1) (12) _ l F (by rfl) (by rfl) HK.out.2.1 c.list 81 HK.out.1 HK.out.2.2 ?_; intro w2 hg2 hf2; have hB2 : Hid (IsB w2 b { c with bytes := splice c.bytes 1 (l.take (min l.length (sz - 1))) }) := ⟨hg2.out.trans (by rw [HE.out]; rfl), HL13.out⟩; have m1 : w2.cell? ⟨b, 15, none⟩ = some (.int .i64 1) := by rw [hB2.out.cell]; exact (BC.get _ hB2.out.len).2.2.1.trans (by show some (Value.int .i64 (c.have_ : Int)) = _; rw [HZ.out]; rfl)))
  generalize hn : min l.length (sz - 1) = n at hB2 hf2 m1 HE HL13 HK ⊢
  have HN := Hid.mk hn
  have n1 : n ≤ l.length := by omega
  have n2 : 1 + n ≤ sz := by omega
  clear hn
  have gf : w2.frozen? ⟨b, 15, none⟩ = false := hB2.out.frozen 15
  have r1 : (1 + (n : Int)) ≤ 9223372036854775807 := by omega
  have r2 : (-9223372036854775808 : Int) ≤ (1 + (n : Int)) := by omega
  go_wp2_with fail
  have hB3 : Hid (IsB (w2.setCell ⟨b, 15, none⟩ (.int .i64 (1 + (n : Int)))) b { c with bytes := splice c.bytes 1 (l.take n), have_ := 1 + n }) := by
    have := hB2.out.setH (1 + n)
    rwa [Int.natCast_add] at this
  have hf3 : Hid (Fr (fun k => k = b) w (w2.setCell ⟨b, 15, none⟩ (.int .i64 (1 + (n : Int))))) :=
    (Fr.drew _ w).trans (hf2.out.trans (Fr.setCell w2 ⟨b, 15, none⟩ _) (fun _ _ h => h)) (fun _ _ h => h)
  have c15 : (w2.setCell ⟨b, 15, none⟩ (.int .i64 (1 + (n : Int)))).cell? ⟨b, 15, none⟩ = some (.int .i64 (1 + (n : Int))) := by
    rw [hB3.out.cell]; exact (BC.get _ hB3.out.len).2.2.1
  generalize hW : w2.setCell ⟨b, 15, none⟩ (.int .i64 (1 + (n : Int))) = W at hB3 hf3 c15 ⊢
  clear hW
  have HD := Hid.mk (And.intro HK.out.2.1 hB3.out)
  clear hB2 hf2 m1 gf r1 r2
  rcases HR.out with ⟨hv, hl⟩ | ⟨g, o, cap, hv, hlie, hc1, hc2, hg, hgs⟩
  · obtain ⟨rfl, -, rfl⟩ : rv = none ∧ l.length = 0 ∧ cv = 0 := by simpa using hv
    subst hl
    have hn0 : n = 0 := by simpa using n1
    subst hn0
    clear hv n1 n2
    go_quiet (fail)
    go_wp2_with fail
    go_ret2
    have HGa := Gath.of (F := F) (v' := .slice none 0 0) nq HB.out.len HZ.out (Nat.succ_pos 0) h1 HSZ.out HN.out hB3.out hf3.out (Or.inl ⟨rfl, rfl⟩)
    exact HFi.out _ _ ⟨_, _, 0, _, rfl, by simpa using HGa⟩
  · obtain ⟨rfl, rfl⟩ : rv = some ⟨g, o, none⟩ ∧ cv = cap := by simpa using hv
    clear hv
    have HG := Hid.mk (And.intro hlie (And.intro hg hgs))
    clear hlie hg hgs
    go_quiet (fail)
    have HGa : Hid (Gath F w (W.drewN nq) b c l _ _ n _) := Gath.of nq HB.out.len HZ.out (Nat.succ_pos 0) h1 HSZ.out HN.out hB3.out hf3.out (rd_behind HG.out.1 hc1 hc2 hFb HG.out.2.1 HG.out.2.2 hf3.out n1)
    generalize (if cv = n then some (⟨g, o, none⟩ : Addr) else some ⟨g, o + n, none⟩) = A at HGa ⊢
    generalize (1 + (n : Int) == (sz : Int)) = bb at HGa ⊢
    go_wp2_with fail
    go_ret2
    exact HFi.out _ _ ⟨_, _, n, _, rfl, HGa.out⟩


end Go.Proofs.Ytphkchjejbffeaa

/- The small calls of a bourse. -/
namespace Go.Proofs.Ytphkchjejbffeaa
open Go.RowKit
attribute [local go_sem ↓] Go.wp_at_zero Go.wp_at_succ

theorem gather_any (F : Nat → Prop) (b : Nat) (hFb : F b) (c : BC) (v : Value) (l : List UInt8) (w : World) (hB : IsB w b c) (hrd : Rd w F v l) (hh : c.have_ = 0 ∨ c.have_ < sizeOf (byteAt c.bytes 0)) :
    Calls Try.prog 28 #[.pointer (some ⟨b, 2, none⟩), v] w fun e w' => Gathers F w b c l e w' := by
  have hll : l.length ≤ 9223372036854775807 := by
    rcases hrd with ⟨-, rfl⟩ | ⟨g, o, cap, -, -, h1, h2, -⟩
    · simp
    · unfold maxLen at h2; omega
  by_cases h0 : c.have_ = 0
  · rcases l with _ | ⟨a, l⟩
    · exact gather_none F b c v w hB hrd h0
    · exact gather_first F b hFb c v a l w hB hrd h0 (by simpa using hll)
  · exact gather_more F b hFb c v l w hB hrd (by omega) (by omega) hll

set_option maxRecDepth 100000 in
set_option maxHeartbeats 1000000 in
theorem inbox_message (b : Nat) (c : BC) (w : World) (hB : IsB w b c) (hh : c.have_ ≤ 13) :
    Calls Try.prog 30 #[.pointer (some ⟨b, 2, none⟩)] w fun e w' => e = .returned (.slice (some ⟨b, 2, none⟩) c.have_ 13) ∧ IsB w' b { c with have_ := 0 } ∧ Fr (fun k => k = b) w w' := by
  have g15 : w.cell? ⟨b, 15, none⟩ = some (.int .i64 c.have_) := by rw [hB.cell]; exact (c.get hB.len).2.2.1
  have gf : w.frozen? ⟨b, 15, none⟩ = false := hB.frozen 15
  have HB : Hid (IsB (w.setCell ⟨b, 15, none⟩ (.int .i64 0)) b { c with have_ := 0 }) := hB.setH 0
  have hh1 : (c.have_ : Int) ≤ 13 := by omega
  generalize hcz : c.have_ = hz at *
  clear hcz hh hB
  go_enter Try.func30, Try.ntmps30
  go_wp2_with fail
  go_ret
  exact ⟨rfl, HB.out, Fr.setCell w ⟨b, 15, none⟩ _⟩

set_option maxHeartbeats 400000 in
theorem within_yes (n a z : Int) (w : World) (h1 : a ≤ n) (h2 : n ≤ z) : Calls Try.prog 46 #[.int .i64 n, .int .i64 a, .int .i64 z] w fun e w' => e = .returned (.bool true) ∧ w' = w := by
  go_enter Try.func46, Try.ntmps46
  go_wp2_with fail
  go_ret
  exact ⟨rfl, rfl⟩

theorem BC.setTime (c : BC) (h : c.bytes.length = 13) (n : Nat) : c.cells.setIfInBounds 1 (.int .u64 n) = { c with time := n }.cells := by
  obtain ⟨a1, a2, a3, a4, a5, a6, a7, a8, a9, a10, a11, a12, a13, e⟩ := bytes13 _ h
  unfold BC.cells
  simp only [e]
  rfl

theorem IsB.setTime {w : World} {b : Nat} {c : BC} (h : IsB w b c) (n : Nat) : IsB (w.setCell ⟨b, 1, none⟩ (.int .u64 n)) b { c with time := n } :=
  ⟨by rw [heap_setCell_same w b 1 _ _ _ h.blk, c.setTime h.len n], h.len⟩

set_option maxHeartbeats 400000 in
theorem handOver_any (b o : Nat) (v : Value) (w : World) (hc : w.cell? ⟨b, o, none⟩ = some v) (hf : w.frozen? ⟨b, o, none⟩ = false) (hs : ∃ a n k, v = .slice a n k) :
    Calls Try.prog 31 #[.pointer (some ⟨b, o, none⟩)] w fun e w' => e = .returned v ∧ w' = w.setCell ⟨b, o, none⟩ (.slice none 0 0) := by
  obtain ⟨a, n, k, rfl⟩ := hs
  go_enter Try.func31, Try.ntmps31
  go_wp2_with fail
  go_ret
  exact ⟨rfl, rfl⟩

set_option maxHeartbeats 400000 in
theorem answers_any (b : Nat) (c : BC) (w : World) (hB : IsB w b c) (hs : ∃ a n k, c.va = .slice a n k) :
    Calls Try.prog 15 #[.pointer (some ⟨b, 0, none⟩)] w fun e w' => e = .returned c.va ∧ IsB w' b { c with va := .slice none 0 0 } ∧ Fr (fun k => k = b) w w' := by
  have HH := Hid.mk (handOver_any b 20 c.va w (by rw [hB.cell]; exact (c.get hB.len).2.2.2.2.2.2.2.1) (hB.frozen 20) hs)
  have HB : Hid (IsB (w.setCell ⟨b, 20, none⟩ (.slice none 0 0)) b { c with va := .slice none 0 0 }) := hB.setA _
  have HF : Hid (Fr (fun k => k = b) w (w.setCell ⟨b, 20, none⟩ (.slice none 0 0))) := Fr.setCell w ⟨b, 20, none⟩ _
  clear hB
  go_enter Try.func15, Try.ntmps15
  go_wp2_with (go_at_call 31; refine HH.out.mono ?_; rintro e w' ⟨rfl, rfl⟩)
  go_ret
  exact ⟨rfl, HB.out, HF.out⟩

set_option maxHeartbeats 400000 in
theorem tape_any (b : Nat) (c : BC) (w : World) (hB : IsB w b c) (hs : ∃ a n k, c.vt = .slice a n k) :
    Calls Try.prog 20 #[.pointer (some ⟨b, 0, none⟩)] w fun e w' => e = .returned c.vt ∧ IsB w' b { c with vt := .slice none 0 0 } ∧ Fr (fun k => k = b) w w' := by
  have HH := Hid.mk (handOver_any b 21 c.vt w (by rw [hB.cell]; exact (c.get hB.len).2.2.2.2.2.2.2.2) (hB.frozen 21) hs)
  have HB : Hid (IsB (w.setCell ⟨b, 21, none⟩ (.slice none 0 0)) b { c with vt := .slice none 0 0 }) := hB.setT _
  have HF : Hid (Fr (fun k => k = b) w (w.setCell ⟨b, 21, none⟩ (.slice none 0 0))) := Fr.setCell w ⟨b, 21, none⟩ _
  clear hB
  go_enter Try.func20, Try.ntmps20
  go_wp2_with (go_at_call 31; refine HH.out.mono ?_; rintro e w' ⟨rfl, rfl⟩)
  go_ret
  exact ⟨rfl, HB.out, HF.out⟩

set_option maxHeartbeats 400000 in
theorem tick_any (b : Nat) (c : BC) (n : Nat) (w : World) (hB : IsB w b c) (hn : n ≤ 1000000) (ht : c.time < 281474976710656) :
    Calls Try.prog 34 #[.pointer (some ⟨b, 0, none⟩), .int .i64 n] w fun e w' => e = .returned (.int .i64 0) ∧ IsB w' b { c with time := (c.time + n) % 281474976710656 } ∧ Fr (fun k => k = b) w w' := by
  have HH := Hid.mk (within_yes n 0 1000000 w (by omega) (by omega))
  have g1 : w.cell? ⟨b, 1, none⟩ = some (.int .u64 c.time) := by rw [hB.cell]; exact (c.get hB.len).2.1
  have gf : w.frozen? ⟨b, 1, none⟩ = false := hB.frozen 1
  have HB := Hid.mk (hB.setTime ((c.time + n) % 281474976710656))
  have HF := Hid.mk (Fr.setCell w ⟨b, 1, none⟩ (.int .u64 ((c.time + n) % 281474976710656 : Nat)))
  clear hB
  have w1 : IntKind.u64.wrap (n : Int) = (n : Int) := by rw [IntKind.wrap_u64]; omega
  have w2 : IntKind.u64.wrap ((c.time : Int) + (n : Int)) = (c.time : Int) + (n : Int) := by rw [IntKind.wrap_u64]; omega
  go_enter Try.func34, Try.ntmps34
  go_wp2_with (go_at_call 46; refine HH.out.mono ?_; rintro e w' ⟨rfl, hw⟩; replace hw := hw.symm; subst hw)
  go_ret
  have e : (((c.time + n) % 281474976710656 : Nat) : Int) = ((c.time : Int) + (n : Int)) % 281474976710656 := by omega
  rw [← e]
  exact ⟨rfl, HB.out, HF.out⟩

end Go.Proofs.Ytphkchjejbffeaa

/- Lines of places that hang together by links: plain facts. -/
namespace Go.Proofs.Ytphkchjejbffeaa

def updN {α : Type} (g : Nat → α) (i : Nat) (v : α) : Nat → α := fun j => if j = i then v else g j
theorem updN_same {α : Type} (g : Nat → α) (i : Nat) (v : α) : updN g i v i = v := if_pos rfl
theorem updN_ne {α : Type} (g : Nat → α) (i j : Nat) (v : α) (h : j ≠ i) : updN g i v j = g j := if_neg h

/-- The places behind p are these, each with its neighbours. -/
def Chain (bef aft : Nat → Nat) : Nat → List Nat → Prop
  | _, [] => True
  | p, x :: l => x ≠ 0 ∧ bef x = p ∧ aft x = l.headD 0 ∧ Chain bef aft x l

theorem Chain.congr {bef aft bef' aft' : Nat → Nat} {l : List Nat} : ∀ {p : Nat}, Chain bef aft p l → (∀ x ∈ l, bef' x = bef x) → (∀ x ∈ l, aft' x = aft x) → Chain bef' aft' p l := by
  induction l with
  | nil => intros; trivial
  | cons x l ih =>
    intro p h h1 h2
    exact ⟨h.1, (h1 x (by simp)).trans h.2.1, (h2 x (by simp)).trans h.2.2.1, ih h.2.2.2 (fun y hy => h1 y (by simp [hy])) (fun y hy => h2 y (by simp [hy]))⟩

theorem Chain.ne {bef aft : Nat → Nat} {l : List Nat} : ∀ {p : Nat}, Chain bef aft p l → ∀ x ∈ l, x ≠ 0 := by
  induction l with
  | nil => intro p _ x hx; cases hx
  | cons y l ih =>
    intro p h x hx
    rcases List.mem_cons.1 hx with rfl | hx
    · exact h.1
    · exact ih h.2.2.2 x hx

theorem Chain.mid {bef aft : Nat → Nat} {a : List Nat} {x : Nat} {b : List Nat} : ∀ {p : Nat}, Chain bef aft p (a ++ x :: b) → bef x = a.getLastD p ∧ aft x = b.headD 0 ∧ x ≠ 0 := by
  induction a with
  | nil => intro p h; exact ⟨h.2.1, h.2.2.1, h.1⟩
  | cons z a ih =>
    intro p h
    have := ih h.2.2.2
    rw [List.getLastD_cons]
    exact this

theorem getLastD_mem (l : List Nat) (p : Nat) : l.getLastD p = p ∨ l.getLastD p ∈ l := by
  induction l generalizing p with
  | nil => exact Or.inl rfl
  | cons x l ih =>
    rw [List.getLastD_cons]
    rcases ih x with h | h
    · exact Or.inr (by rw [h]; simp)
    · exact Or.inr (List.mem_cons_of_mem _ h)

/-- A place joins behind the others. -/
theorem Chain.join {bef aft : Nat → Nat} {l : List Nat} {x : Nat} (hx : x ≠ 0) : ∀ {p : Nat}, Chain bef aft p l → (p :: l).Nodup → x ∉ p :: l →
    Chain (updN bef x (l.getLastD p)) (updN (updN aft x 0) (l.getLastD p) x) p (l ++ [x]) := by
  induction l with
  | nil =>
    intro p h hn hm
    have hxp : x ≠ p := by simpa using hm
    refine ⟨hx, updN_same _ _ _, ?_, trivial⟩
    show updN (updN aft x 0) p x x = 0
    rw [updN_ne _ _ _ _ hxp, updN_same]
  | cons z l ih =>
    intro p h hn hm
    have hn' : (z :: l).Nodup := (List.nodup_cons.1 hn).2
    have hm' : x ∉ z :: l := fun h => hm (by simp at h ⊢; exact Or.inr h)
    have hxz : z ≠ x := fun e => hm' (by simp [e])
    rw [List.getLastD_cons]
    refine ⟨h.1, by rw [updN_ne _ _ _ _ hxz]; exact h.2.1, ?_, ih h.2.2.2 hn' hm'⟩
    rcases l with _ | ⟨y, l⟩
    · exact updN_same _ _ _
    · have hzl : z ≠ (y :: l).getLastD z := by
        intro e
        have : (y :: l).getLastD z ∈ y :: l := by
          rw [List.getLastD_cons]
          rcases getLastD_mem l y with h | h
          · rw [h]; simp
          · exact List.mem_cons_of_mem _ h
        exact (List.nodup_cons.1 hn').1 (e ▸ this)
      rw [updN_ne _ _ _ _ hzl, updN_ne _ _ _ _ hxz]
      exact h.2.2.1

/-- A place leaves. -/
theorem Chain.leave {bef aft : Nat → Nat} {a : List Nat} {x : Nat} {b : List Nat} : ∀ {p : Nat}, Chain bef aft p (a ++ x :: b) → (p :: (a ++ x :: b)).Nodup →
    Chain (updN bef (b.headD 0) (a.getLastD p)) (updN aft (a.getLastD p) (b.headD 0)) p (a ++ b) := by
  induction a with
  | nil =>
    intro p h hn
    obtain ⟨h1, h2, h3, h4⟩ := h
    rcases b with _ | ⟨y, b⟩
    · trivial
    · have hp : p ∉ x :: y :: b := (List.nodup_cons.1 hn).1
      have hn2 : (y :: b).Nodup := (List.nodup_cons.1 (List.nodup_cons.1 hn).2).2
      refine ⟨h4.1, updN_same _ _ _, ?_, ?_⟩
      · show updN aft p y y = _
        rw [updN_ne _ _ _ _ (fun e => hp (by simp [e]))]
        exact h4.2.2.1
      · refine h4.2.2.2.congr (fun u hu => updN_ne _ _ _ _ ?_) (fun u hu => updN_ne _ _ _ _ ?_)
        · intro e
          exact (List.nodup_cons.1 hn2).1 ((show u = y from e) ▸ hu)
        · intro e
          exact hp (by have e : u = p := e
                       rw [← e]; simp [hu])
  | cons z a ih =>
    intro p h hn
    obtain ⟨h1, h2, h3, h4⟩ := h
    have hn' : (z :: (a ++ x :: b)).Nodup := (List.nodup_cons.1 hn).2
    have hz : z ∉ a ++ x :: b := (List.nodup_cons.1 hn').1
    rw [List.getLastD_cons]
    refine ⟨h1, ?_, ?_, ih h4 hn'⟩
    · rw [updN_ne _ _ _ _ ?_]
      · exact h2
      · intro e
        rcases b with _ | ⟨y, b⟩
        · exact h1 e
        · exact hz (by rw [show z = y from e]; simp)
    · rcases a with _ | ⟨y, a⟩
      · exact updN_same _ _ _
      · rw [updN_ne _ _ _ _ ?_]
        · exact h3
        · intro e
          rw [List.getLastD_cons] at e
          refine hz ?_
          rcases getLastD_mem a y with h | h
          · rw [e, h]; simp
          · rw [e]; exact List.mem_append_left _ (List.mem_cons_of_mem _ h)

/-- A line: the places of one price, the first and the last. -/
structure LineOf (bef aft : Nat → Nat) (f l : Nat) (ps : List Nat) : Prop where
  chain : Chain bef aft 0 ps
  first : f = ps.headD 0
  last : l = ps.getLastD 0
  nodup : ps.Nodup

theorem LineOf.zero {bef aft : Nat → Nat} {f l : Nat} {ps : List Nat} (h : LineOf bef aft f l ps) : (0 :: ps).Nodup :=
  List.nodup_cons.2 ⟨fun h0 => h.chain.ne 0 h0 rfl, h.nodup⟩

theorem LineOf.join {bef aft : Nat → Nat} {f l : Nat} {ps : List Nat} (h : LineOf bef aft f l ps) {x : Nat} (hx : x ≠ 0) (hm : x ∉ ps) :
    LineOf (updN bef x l) (updN (updN aft x 0) l x) (if f = 0 then x else f) x (ps ++ [x]) := by
  refine ⟨?_, ?_, by rw [List.getLastD_concat], ?_⟩
  · rw [h.last]
    exact h.chain.join hx h.zero (by simp [hm, hx])
  · rcases ps with _ | ⟨y, ps⟩
    · rw [h.first]; rfl
    · rw [h.first]
      have : y ≠ 0 := h.chain.1
      simp [this]
  · rw [List.nodup_append]
    exact ⟨h.nodup, by simp, by intro a ha b hb; simp at hb; subst hb; exact fun e => hm (e ▸ ha)⟩

theorem LineOf.leave {bef aft : Nat → Nat} {f l : Nat} {a b : List Nat} {x : Nat} (h : LineOf bef aft f l (a ++ x :: b)) :
    LineOf (updN bef (aft x) (bef x)) (updN aft (bef x) (aft x)) (if f = x then aft x else f) (if l = x then bef x else l) (a ++ b) := by
  obtain ⟨e1, e2, e3⟩ := h.chain.mid
  have hnd := h.nodup
  refine ⟨?_, ?_, ?_, ?_⟩
  · rw [e1, e2]
    exact h.chain.leave h.zero
  · rw [h.first]
    rcases a with _ | ⟨y, a⟩
    · simp [e2]
    · have : y ≠ x := by
        intro e
        have := (List.nodup_cons.1 hnd).1
        exact this (by rw [e]; simp)
      simp [this]
  · rw [h.last]
    rcases List.eq_nil_or_concat b with rfl | ⟨b, y, rfl⟩
    · simp [e1]
    · have : y ≠ x := by
        intro e
        subst e
        rw [List.nodup_append] at hnd
        have := (List.nodup_cons.1 hnd.2.1).1
        exact this (by simp)
      have q1 : (a ++ x :: b.concat y).getLastD 0 = y := by
        rw [show a ++ x :: b.concat y = (a ++ x :: b) ++ [y] by simp, List.getLastD_concat]
      have q2 : (a ++ b.concat y).getLastD 0 = y := by
        rw [show a ++ b.concat y = (a ++ b) ++ [y] by simp, List.getLastD_concat]
      rw [q1, q2, if_neg this]
  · rw [List.nodup_append] at hnd ⊢
    exact ⟨hnd.1, (List.nodup_cons.1 hnd.2.1).2, fun u hu v hv => hnd.2.2 u hu v (by simp [hv])⟩

theorem LineOf.congr {bef aft bef' aft' : Nat → Nat} {f l : Nat} {ps : List Nat} (h : LineOf bef aft f l ps) (h1 : ∀ x ∈ ps, bef' x = bef x) (h2 : ∀ x ∈ ps, aft' x = aft x) : LineOf bef' aft' f l ps :=
  ⟨h.chain.congr h1 h2, h.first, h.last, h.nodup⟩

end Go.Proofs.Ytphkchjejbffeaa

/- The books in memory: their block, and the small walks. -/
namespace Go.Proofs.Ytphkchjejbffeaa
open Go.RowKit
attribute [local go_sem ↓] Go.wp_at_zero Go.wp_at_succ

/-- What a Books' block holds. -/
structure KC where
  po : Nat
  n : Nat
  free : Nat
  taken : Nat
  levels : Nat
  pl : Nat
  stocks : Nat

def KC.cells (k : KC) : Array Value := #[.slice (some ⟨k.po, 0, none⟩) k.n k.n, .int .i64 k.free, .int .i64 k.taken, .int .i64 k.levels, .slice (some ⟨k.pl, 0, none⟩) k.stocks k.stocks]

structure IsK (w : World) (bk : Nat) (k : KC) : Prop where
  blk : w.heap[bk]? = some (.cells k.cells 124)

theorem IsK.cell {w : World} {b : Nat} {k : KC} (h : IsK w b k) (i : Nat) : w.cell? ⟨b, i, none⟩ = k.cells[i]? := cell_of_row w b i _ _ (0, 0) h.blk
theorem IsK.frozen {w : World} {b : Nat} {k : KC} (h : IsK w b k) (i : Nat) : w.frozen? ⟨b, i, none⟩ = false := by simp [World.frozen?, h.blk]
theorem IsK.lt {w : World} {b : Nat} {k : KC} (h : IsK w b k) : b < w.heap.size := (Array.getElem?_eq_some_iff.1 h.blk).1

set_option maxHeartbeats 400000 in
theorem resting_any (b : Nat) (k : KC) (w : World) (h : IsK w b k) : Calls Try.prog 32 #[.pointer (some ⟨b, 0, none⟩)] w fun e w' => e = .returned (.int .i64 k.taken) ∧ w' = w := by
  have g : w.cell? ⟨b, 2, none⟩ = some (.int .i64 k.taken) := h.cell 2
  clear h
  go_enter Try.func32, Try.ntmps32
  go_wp2_with fail
  go_ret
  exact ⟨rfl, rfl⟩

set_option maxHeartbeats 400000 in
theorem levels_any (b : Nat) (k : KC) (w : World) (h : IsK w b k) : Calls Try.prog 137 #[.pointer (some ⟨b, 0, none⟩)] w fun e w' => e = .returned (.int .i64 k.levels) ∧ w' = w := by
  have g : w.cell? ⟨b, 3, none⟩ = some (.int .i64 k.levels) := h.cell 3
  clear h
  go_enter Try.func137, Try.ntmps137
  go_wp2_with fail
  go_ret
  exact ⟨rfl, rfl⟩

set_option maxHeartbeats 400000 in
theorem stocks_any (b : Nat) (k : KC) (w : World) (h : IsK w b k) : Calls Try.prog 57 #[.pointer (some ⟨b, 0, none⟩)] w fun e w' => e = .returned (.int .i64 k.stocks) ∧ w' = w := by
  have g : w.cell? ⟨b, 4, none⟩ = some (.slice (some ⟨k.pl, 0, none⟩) k.stocks k.stocks) := h.cell 4
  clear h
  go_enter Try.func57, Try.ntmps57
  go_wp2_with fail
  go_ret
  exact ⟨rfl, rfl⟩

set_option maxHeartbeats 400000 in
theorem full_any (b : Nat) (k : KC) (w : World) (h : IsK w b k) : Calls Try.prog 114 #[.pointer (some ⟨b, 0, none⟩)] w fun e w' => e = .returned (.bool ((k.free : Int) == 0)) ∧ w' = w := by
  have g : w.cell? ⟨b, 1, none⟩ = some (.int .i64 k.free) := h.cell 1
  clear h
  go_enter Try.func114, Try.ntmps114
  go_wp2_with fail
  go_ret
  exact ⟨rfl, rfl⟩

set_option maxHeartbeats 400000 in
theorem line_buy (b : Nat) (k : KC) (s p ln : Nat) (w : World) (h : IsK w b k) (hs : s < k.stocks) (hp : 1 ≤ p) (hp2 : p ≤ k.levels) (hl : k.levels ≤ 1000) (hL : w.cell? ⟨k.pl, s * 2, none⟩ = some (.slice (some ⟨ln, 0, none⟩) k.levels k.levels)) :
    Calls Try.prog 89 #[.pointer (some ⟨b, 0, none⟩), .int .i64 s, .int .u8 66, .int .i64 p] w fun e w' => e = .returned (.pointer (some ⟨ln, (p - 1) * 2, none⟩)) ∧ w' = w := by
  have g : w.cell? ⟨b, 4, none⟩ = some (.slice (some ⟨k.pl, 0, none⟩) k.stocks k.stocks) := h.cell 4
  have i1 : (s : Int) < (k.stocks : Int) := by omega
  obtain ⟨q, rfl⟩ : ∃ q, p = q + 1 := ⟨p - 1, by omega⟩
  obtain ⟨z, hz⟩ : ∃ z : Int, z = ((q + 1 : Nat) : Int) := ⟨_, rfl⟩
  have hz1 : z - 1 = (q : Int) := by omega
  have i2 : (q : Int) < (k.levels : Int) := by omega
  rw [← hz, Nat.add_sub_cancel]
  have w1 : IntKind.i64.wrap (q : Int) = (q : Int) := by rw [IntKind.wrap_i64]; omega
  clear h hz hp hp2
  go_enter Try.func89, Try.ntmps89
  go_wp2_with fail
  go_ret
  exact ⟨rfl, rfl⟩

set_option maxHeartbeats 400000 in
theorem line_sell (b : Nat) (k : KC) (s p ln : Nat) (w : World) (h : IsK w b k) (hs : s < k.stocks) (hp : 1 ≤ p) (hp2 : p ≤ k.levels) (hl : k.levels ≤ 1000) (hL : w.cell? ⟨k.pl, s * 2 + 1, none⟩ = some (.slice (some ⟨ln, 0, none⟩) k.levels k.levels)) :
    Calls Try.prog 89 #[.pointer (some ⟨b, 0, none⟩), .int .i64 s, .int .u8 83, .int .i64 p] w fun e w' => e = .returned (.pointer (some ⟨ln, (p - 1) * 2, none⟩)) ∧ w' = w := by
  have g : w.cell? ⟨b, 4, none⟩ = some (.slice (some ⟨k.pl, 0, none⟩) k.stocks k.stocks) := h.cell 4
  have i1 : (s : Int) < (k.stocks : Int) := by omega
  obtain ⟨q, rfl⟩ : ∃ q, p = q + 1 := ⟨p - 1, by omega⟩
  obtain ⟨z, hz⟩ : ∃ z : Int, z = ((q + 1 : Nat) : Int) := ⟨_, rfl⟩
  have hz1 : z - 1 = (q : Int) := by omega
  have i2 : (q : Int) < (k.levels : Int) := by omega
  rw [← hz, Nat.add_sub_cancel]
  have w1 : IntKind.i64.wrap (q : Int) = (q : Int) := by rw [IntKind.wrap_i64]; omega
  clear h hz hp hp2
  go_enter Try.func89, Try.ntmps89
  go_wp2_with fail
  go_ret
  exact ⟨rfl, rfl⟩

theorem otherSide_any (d : UInt8) (w : World) (hd : d = 66 ∨ d = 83) : Calls Try.prog 126 #[.int .u8 d.toNat] w fun e w' => e = .returned (.int .u8 (other d).toNat) ∧ w' = w := by
  rcases hd with rfl | rfl
  · go_enter Try.func126, Try.ntmps126
    go_wp2
    go_ret
    exact ⟨rfl, rfl⟩
  · go_enter Try.func126, Try.ntmps126
    go_wp2
    go_ret
    exact ⟨rfl, rfl⟩

set_option maxHeartbeats 400000 in
theorem ranked_any (b : Nat) (k : KC) (d : UInt8) (r : Nat) (w : World) (h : IsK w b k) (hd : d = 66 ∨ d = 83) (hr : r < k.levels) (hl : k.levels ≤ 1000) :
    Calls Try.prog 90 #[.pointer (some ⟨b, 0, none⟩), .int .u8 d.toNat, .int .i64 r] w fun e w' => e = .returned (.int .i64 ((if d = 66 then k.levels - r else r + 1 : Nat) : Int)) ∧ w' = w := by
  have g : w.cell? ⟨b, 3, none⟩ = some (.int .i64 k.levels) := h.cell 3
  have w1 : IntKind.i64.wrap ((k.levels : Int) - (r : Int)) = (k.levels : Int) - (r : Int) := by rw [IntKind.wrap_i64]; omega
  have w2 : IntKind.i64.wrap ((r : Int) + 1) = (r : Int) + 1 := by rw [IntKind.wrap_i64]; omega
  have HE : Hid (((k.levels - r : Nat) : Int) = (k.levels : Int) - (r : Int)) := by show _ = _; omega
  clear h
  rcases hd with rfl | rfl
  · go_enter Try.func90, Try.ntmps90
    go_wp2_with fail
    go_ret
    exact ⟨by rw [HE.out]; rfl, rfl⟩
  · go_enter Try.func90, Try.ntmps90
    go_wp2_with fail
    go_ret
    exact ⟨rfl, rfl⟩

end Go.Proofs.Ytphkchjejbffeaa

/- Orders in their pool: rows of cells, and the walks of links. -/
namespace Go.Proofs.Ytphkchjejbffeaa
open Go.RowKit
attribute [local go_sem ↓] Go.wp_at_zero Go.wp_at_succ

/-- n records of m cells each. -/
def rowOf (n m : Nat) (f : Nat → Nat → Value) : Array Value := Array.ofFn (n := n * m) fun i => f (i / m) (i % m)
theorem rowOf_size (n m : Nat) (f : Nat → Nat → Value) : (rowOf n m f).size = n * m := by simp [rowOf]
theorem rowOf_get (n m : Nat) (f : Nat → Nat → Value) (i j : Nat) (hi : i < n) (hj : j < m) : (rowOf n m f)[i * m + j]? = some (f i j) := by
  have hlt : i * m + j < n * m := by
    have : (i + 1) * m ≤ n * m := Nat.mul_le_mul_right m hi
    rw [Nat.add_mul, Nat.one_mul] at this
    omega
  have h1 : (i * m + j) / m = i := by
    rw [Nat.add_comm, Nat.add_mul_div_right _ _ (by omega), Nat.div_eq_of_lt hj, Nat.zero_add]
  have h2 : (i * m + j) % m = j := by
    rw [Nat.add_comm, Nat.add_mul_mod_self_right, Nat.mod_eq_of_lt hj]
  simp [rowOf, hlt, h1, h2]
theorem rowOf_set (n m : Nat) (f : Nat → Nat → Value) (i j : Nat) (hj : j < m) (v : Value) :
    (rowOf n m f).setIfInBounds (i * m + j) v = rowOf n m (fun a b => if a = i ∧ b = j then v else f a b) := by
  apply Array.ext
  · simp [rowOf]
  · intro x h1 h2
    rw [Array.getElem_setIfInBounds (by simpa [rowOf] using h2)]
    simp only [rowOf, Array.getElem_ofFn]
    have hd := Nat.div_add_mod x m
    by_cases hx : i * m + j = x
    · subst hx
      have e1 : (i * m + j) / m = i := by
        rw [Nat.add_comm, Nat.add_mul_div_right _ _ (by omega), Nat.div_eq_of_lt hj, Nat.zero_add]
      have e2 : (i * m + j) % m = j := by
        rw [Nat.add_comm, Nat.add_mul_mod_self_right, Nat.mod_eq_of_lt hj]
      simp [e1, e2]
    · rw [if_neg hx, if_neg]
      rintro ⟨rfl, rfl⟩
      exact hx (by rw [Nat.mul_comm]; exact hd)

set_option maxHeartbeats 400000 in
theorem behind_any (g o n : Nat) (w : World) (h : w.cell? ⟨g, o + 1, none⟩ = some (.int .i64 n)) :
    Calls Try.prog 91 #[.pointer (some ⟨g, o, none⟩)] w fun e w' => e = .returned (.int .i64 n) ∧ w' = w := by
  go_enter Try.func91, Try.ntmps91
  go_wp2_with fail
  go_ret
  exact ⟨rfl, rfl⟩
set_option maxHeartbeats 400000 in
theorem ahead_any (g o n : Nat) (w : World) (h : w.cell? ⟨g, o, none⟩ = some (.int .i64 n)) :
    Calls Try.prog 150 #[.pointer (some ⟨g, o, none⟩)] w fun e w' => e = .returned (.int .i64 n) ∧ w' = w := by
  go_enter Try.func150, Try.ntmps150
  go_wp2_with fail
  go_ret
  exact ⟨rfl, rfl⟩
set_option maxHeartbeats 400000 in
theorem setBehind_any (g o n : Nat) (u : Value) (w : World) (h : w.cell? ⟨g, o + 1, none⟩ = some u) (hf : w.frozen? ⟨g, o + 1, none⟩ = false) :
    Calls Try.prog 108 #[.pointer (some ⟨g, o, none⟩), .int .i64 n] w fun e w' => e = .returned (.tuple #[]) ∧ w' = w.setCell ⟨g, o + 1, none⟩ (.int .i64 n) := by
  go_enter Try.func108, Try.ntmps108
  go_wp2_with fail
  go_end0
  exact ⟨rfl, rfl⟩
set_option maxHeartbeats 400000 in
theorem setAhead_any (g o n : Nat) (u : Value) (w : World) (h : w.cell? ⟨g, o, none⟩ = some u) (hf : w.frozen? ⟨g, o, none⟩ = false) :
    Calls Try.prog 149 #[.pointer (some ⟨g, o, none⟩), .int .i64 n] w fun e w' => e = .returned (.tuple #[]) ∧ w' = w.setCell ⟨g, o, none⟩ (.int .i64 n) := by
  go_enter Try.func149, Try.ntmps149
  go_wp2_with fail
  go_end0
  exact ⟨rfl, rfl⟩

end Go.Proofs.Ytphkchjejbffeaa

/- Orders in their pool, and lines: joining and leaving. -/
namespace Go.Proofs.Ytphkchjejbffeaa
open Go.RowKit
attribute [local go_sem ↓] Go.wp_at_zero Go.wp_at_succ

def oCell (bef aft : Nat → Nat) (od : Nat → Ord) (i : Nat) : Nat → Value
  | 0 => .int .i64 (bef i)
  | 1 => .int .i64 (aft i)
  | 2 => .int .u32 (od i).ref
  | 3 => .int .u32 (od i).token
  | 4 => .int .u8 (od i).side.toNat
  | 5 => .int .u8 (od i).stock
  | 6 => .int .u16 (od i).price
  | _ => .int .u16 (od i).shares

/-- The orders' row. -/
structure IsP (w : World) (po n : Nat) (bef aft : Nat → Nat) (od : Nat → Ord) : Prop where
  blk : w.heap[po]? = some (.cells (rowOf n 8 (oCell bef aft od)) 129)

theorem IsP.cell {w : World} {po n : Nat} {bef aft : Nat → Nat} {od : Nat → Ord} (h : IsP w po n bef aft od) (i j : Nat) (hi : i < n) (hj : j < 8) : w.cell? ⟨po, i * 8 + j, none⟩ = some (oCell bef aft od i j) := by
  rw [cell_of_row w po _ _ _ (0, 0) h.blk, rowOf_get _ _ _ _ _ hi hj]
theorem IsP.frozen {w : World} {po n : Nat} {bef aft : Nat → Nat} {od : Nat → Ord} (h : IsP w po n bef aft od) (i : Nat) : w.frozen? ⟨po, i, none⟩ = false := by simp [World.frozen?, h.blk]
theorem IsP.lt {w : World} {po n : Nat} {bef aft : Nat → Nat} {od : Nat → Ord} (h : IsP w po n bef aft od) : po < w.heap.size := (Array.getElem?_eq_some_iff.1 h.blk).1
theorem IsP.keep {w w' : World} {po n : Nat} {bef aft : Nat → Nat} {od : Nat → Ord} (h : IsP w po n bef aft od) (hk : w'.heap[po]? = w.heap[po]?) : IsP w' po n bef aft od := ⟨hk.trans h.blk⟩
theorem IsP.setBef {w : World} {po n : Nat} {bef aft : Nat → Nat} {od : Nat → Ord} (h : IsP w po n bef aft od) (i v : Nat) : IsP (w.setCell ⟨po, i * 8, none⟩ (.int .i64 v)) po n (updN bef i v) aft od := by
  refine ⟨?_⟩
  rw [heap_setCell_same w po (i * 8) _ _ _ h.blk]
  have := rowOf_set n 8 (oCell bef aft od) i 0 (by omega) (.int .i64 v)
  rw [Nat.add_zero] at this
  rw [this]
  congr 3
  funext a b
  match b with
  | 0 => by_cases e : a = i <;> simp [oCell, updN, e]
  | 1 | 2 | 3 | 4 | 5 | 6 | _ + 7 => simp [oCell]
theorem IsP.setAft {w : World} {po n : Nat} {bef aft : Nat → Nat} {od : Nat → Ord} (h : IsP w po n bef aft od) (i v : Nat) : IsP (w.setCell ⟨po, i * 8 + 1, none⟩ (.int .i64 v)) po n bef (updN aft i v) od := by
  refine ⟨?_⟩
  rw [heap_setCell_same w po (i * 8 + 1) _ _ _ h.blk, rowOf_set n 8 (oCell bef aft od) i 1 (by omega) (.int .i64 v)]
  congr 3
  funext a b
  match b with
  | 1 => by_cases e : a = i <;> simp [oCell, updN, e]
  | 0 | 2 | 3 | 4 | 5 | 6 | _ + 7 => simp [oCell]

def lCell (fs ls : Nat → Nat) (i : Nat) : Nat → Value
  | 0 => .int .i64 (fs i)
  | _ => .int .i64 (ls i)

/-- A row of lines. -/
structure IsL (w : World) (ln m : Nat) (fs ls : Nat → Nat) : Prop where
  blk : w.heap[ln]? = some (.cells (rowOf m 2 (lCell fs ls)) 166)
theorem IsL.cell {w : World} {ln m : Nat} {fs ls : Nat → Nat} (h : IsL w ln m fs ls) (i j : Nat) (hi : i < m) (hj : j < 2) : w.cell? ⟨ln, i * 2 + j, none⟩ = some (lCell fs ls i j) := by
  rw [cell_of_row w ln _ _ _ (0, 0) h.blk, rowOf_get _ _ _ _ _ hi hj]
theorem IsL.frozen {w : World} {ln m : Nat} {fs ls : Nat → Nat} (h : IsL w ln m fs ls) (i : Nat) : w.frozen? ⟨ln, i, none⟩ = false := by simp [World.frozen?, h.blk]
theorem IsL.lt {w : World} {ln m : Nat} {fs ls : Nat → Nat} (h : IsL w ln m fs ls) : ln < w.heap.size := (Array.getElem?_eq_some_iff.1 h.blk).1
theorem IsL.keep {w w' : World} {ln m : Nat} {fs ls : Nat → Nat} (h : IsL w ln m fs ls) (hk : w'.heap[ln]? = w.heap[ln]?) : IsL w' ln m fs ls := ⟨hk.trans h.blk⟩
theorem IsL.setF {w : World} {ln m : Nat} {fs ls : Nat → Nat} (h : IsL w ln m fs ls) (i v : Nat) : IsL (w.setCell ⟨ln, i * 2, none⟩ (.int .i64 v)) ln m (updN fs i v) ls := by
  refine ⟨?_⟩
  rw [heap_setCell_same w ln (i * 2) _ _ _ h.blk]
  have := rowOf_set m 2 (lCell fs ls) i 0 (by omega) (.int .i64 v)
  rw [Nat.add_zero] at this
  rw [this]
  congr 3
  funext a b
  match b with
  | 0 => by_cases e : a = i <;> simp [lCell, updN, e]
  | _ + 1 => simp [lCell]
theorem IsL.setL {w : World} {ln m : Nat} {fs ls : Nat → Nat} (h : IsL w ln m fs ls) (i v : Nat) : IsL (w.setCell ⟨ln, i * 2 + 1, none⟩ (.int .i64 v)) ln m fs (updN ls i v) := by
  refine ⟨?_⟩
  rw [heap_setCell_same w ln (i * 2 + 1) _ _ _ h.blk, rowOf_set m 2 (lCell fs ls) i 1 (by omega) (.int .i64 v)]
  congr 2
  apply Array.ext
  · simp [rowOf]
  · intro x h1 h2
    simp only [rowOf, Array.getElem_ofFn]
    have hx : x % 2 = 0 ∨ x % 2 = 1 := by omega
    rcases hx with hx | hx
    · simp [hx, lCell]
    · by_cases e : x / 2 = i <;> simp [hx, lCell, updN, e]

end Go.Proofs.Ytphkchjejbffeaa
