/- The walks of reading messages. -/
import Derived.Test.YtphkchjejbffeaaG09
import Derived.Laws.CopyOwn
import Derived.Deep.RegionLaw
import Derived.Deep.RegionHeld3
import Derived.Deep.DrawnRows
namespace Go.Proofs.Ytphkchjejbffeaa
open Go.RowKit

theorem setCell_drewN (w : World) (n : Nat) (a : Addr) (v : Value) : (w.drewN n).setCell a v = (w.setCell a v).drewN n := rfl
theorem drewN_drewN (w : World) (n m : Nat) : (w.drewN n).drewN m = w.drewN (n + m) := by
  unfold World.drewN; simp [Nat.add_assoc]
theorem lies_two {w : World} {g o : Nat} {l : List UInt8} (h : Lies w g o l) (hg : g < w.heap.size) (A B : Obj) (n : Nat) : Lies (((w.alloc A).alloc B).drewN n) g o l :=
  h.keep (by show ((w.alloc A).alloc B).heap[g]? = _; rw [heap_alloc, if_neg (by rw [size_alloc]; omega), heap_alloc, if_neg (by omega)])
attribute [local go_sem] setCell_drewN drewN_drewN

theorem take32n (g o n cap : Nat) (l : List UInt8) (w : World) (hn : l.length = n) (hl : 4 ≤ n) (hc : n ≤ cap) (hc2 : cap ≤ 9223372036854775807) (h : Lies w g o l) :
    Calls Try.prog 77 #[.slice (some ⟨g, o, none⟩) n cap] w fun e w' => ∃ o', e = .returned (.tuple #[.int .u32 (num (l.take 4) 0 : Nat), .slice (some ⟨g, o', none⟩) (n - 4) (cap - 4)]) ∧ (4 < cap → o' = o + 4) ∧ ∃ n, w' = w.drewN n := by
  subst hn; exact take32 g o cap l w hl hc hc2 h
theorem take16n (g o n cap : Nat) (l : List UInt8) (w : World) (hn : l.length = n) (hl : 2 ≤ n) (hc : n ≤ cap) (hc2 : cap ≤ 9223372036854775807) (h : Lies w g o l) :
    Calls Try.prog 79 #[.slice (some ⟨g, o, none⟩) n cap] w fun e w' => ∃ o', e = .returned (.tuple #[.int .u16 (num (l.take 2) 0 : Nat), .slice (some ⟨g, o', none⟩) (n - 2) (cap - 2)]) ∧ (2 < cap → o' = o + 2) ∧ ∃ n, w' = w.drewN n := by
  subst hn; exact take16 g o cap l w hl hc hc2 h
theorem take8n (g o n cap : Nat) (l : List UInt8) (w : World) (hn : l.length = n) (hl : 1 ≤ n) (hc : n ≤ cap) (hc2 : cap ≤ 9223372036854775807) (h : Lies w g o l) :
    Calls Try.prog 78 #[.slice (some ⟨g, o, none⟩) n cap] w fun e w' => ∃ o', e = .returned (.tuple #[.int .u8 (num (l.take 1) 0 : Nat), .slice (some ⟨g, o', none⟩) (n - 1) (cap - 1)]) ∧ (1 < cap → o' = o + 1) ∧ ∃ n, w' = w.drewN n := by
  subst hn; exact take8 g o cap l w hl hc hc2 h

set_option maxHeartbeats 1000000 in
theorem readEnter_any (g o : Nat) (l : List UInt8) (w : World) (hl : l.length = 11) (h : Lies w g o l) (hg : g < w.heap.size) :
    Calls Try.prog 51 #[.slice (some ⟨g, o, none⟩) 11 12] w fun e w' =>
      e = .returned (.agg #[.int .u32 (num (l.take 4) 0 : Nat), .int .u8 (num ((l.drop 4).take 1) 0 : Nat), .int .u8 (num ((l.drop 5).take 1) 0 : Nat), .int .u16 (num ((l.drop 6).take 2) 0 : Nat), .int .u16 (num ((l.drop 8).take 2) 0 : Nat), .int .u8 (num ((l.drop 10).take 1) 0 : Nat)]) ∧ Below w.heap.size w w' := by
  go_enter Try.func51, Try.ntmps51
  go_wp2_with fail
  refine (take32n g o 11 12 l _ hl (by decide) (by decide) (by decide) (lies_two h hg _ _ 0)).mono ?_
  rintro e w1 ⟨o1, rfl, ho1, q1, rfl⟩
  obtain rfl := ho1 (by decide)
  clear ho1
  go_wp2_with fail
  refine (take8n g (o + 4) 7 8 (l.drop 4) _ (by rw [List.length_drop, hl]) (by decide) (by decide) (by decide) (lies_two (h.drop 4) hg _ _ _)).mono ?_
  rintro e w2 ⟨o2, rfl, ho2, q2, rfl⟩
  obtain rfl := ho2 (by decide)
  clear ho2
  go_wp2_with fail
  refine (take8n g (o + 5) 6 7 (l.drop 5) _ (by rw [List.length_drop, hl]) (by decide) (by decide) (by decide) (lies_two (h.drop 5) hg _ _ _)).mono ?_
  rintro e w3 ⟨o3, rfl, ho3, q3, rfl⟩
  obtain rfl := ho3 (by decide)
  clear ho3
  go_wp2_with fail
  refine (take16n g (o + 6) 5 6 (l.drop 6) _ (by rw [List.length_drop, hl]) (by decide) (by decide) (by decide) (lies_two (h.drop 6) hg _ _ _)).mono ?_
  rintro e w4 ⟨o4, rfl, ho4, q4, rfl⟩
  obtain rfl := ho4 (by decide)
  clear ho4
  go_wp2_with fail
  refine (take16n g (o + 8) 3 4 (l.drop 8) _ (by rw [List.length_drop, hl]) (by decide) (by decide) (by decide) (lies_two (h.drop 8) hg _ _ _)).mono ?_
  rintro e w5 ⟨o5, rfl, ho5, q5, rfl⟩
  obtain rfl := ho5 (by decide)
  clear ho5
  go_wp2_with fail
  refine (take8n g (o + 10) 1 2 (l.drop 10) _ (by rw [List.length_drop, hl]) (by decide) (by decide) (by decide) (lies_two (h.drop 10) hg _ _ _)).mono ?_
  rintro e w6 ⟨o6, rfl, ho6, q6, rfl⟩
  clear ho6
  go_wp2_with fail
  exact bodyPost_ret (v := .agg #[.int .u32 (num (l.take 4) 0 : Nat), .int .u8 (num ((l.drop 4).take 1) 0 : Nat), .int .u8 (num ((l.drop 5).take 1) 0 : Nat), .int .u16 (num ((l.drop 6).take 2) 0 : Nat), .int .u16 (num ((l.drop 8).take 2) 0 : Nat), .int .u8 (num ((l.drop 10).take 1) 0 : Nat)]) (by simp [results, Try.results51, go_sem]) rfl ⟨rfl, below_drewN (Below.alloc ((Below.refl _ _).alloc (Nat.le_refl _) _) (by rw [size_alloc]; omega) _) _⟩

set_option maxHeartbeats 1000000 in
theorem readCancel_any (g o : Nat) (l : List UInt8) (w : World) (hl : l.length = 6) (h : Lies w g o l) (hg : g < w.heap.size) :
    Calls Try.prog 55 #[.slice (some ⟨g, o, none⟩) 6 12] w fun e w' =>
      e = .returned (.agg #[.int .u32 (num (l.take 4) 0 : Nat), .int .u16 (num ((l.drop 4).take 2) 0 : Nat)]) ∧ Below w.heap.size w w' := by
  go_enter Try.func55, Try.ntmps55
  go_wp2_with fail
  refine (take32n g o 6 12 l _ hl (by decide) (by decide) (by decide) (lies_two h hg _ _ 0)).mono ?_
  rintro e w1 ⟨o1, rfl, ho1, q1, rfl⟩
  obtain rfl := ho1 (by decide)
  clear ho1
  go_wp2_with fail
  refine (take16n g (o + 4) 2 8 (l.drop 4) _ (by rw [List.length_drop, hl]) (by decide) (by decide) (by decide) (lies_two (h.drop 4) hg _ _ _)).mono ?_
  rintro e w2 ⟨o2, rfl, ho2, q2, rfl⟩
  clear ho2
  go_wp2_with fail
  exact bodyPost_ret (v := .agg #[.int .u32 (num (l.take 4) 0 : Nat), .int .u16 (num ((l.drop 4).take 2) 0 : Nat)]) (by simp [results, Try.results55, go_sem]) rfl ⟨rfl, below_drewN (Below.alloc ((Below.refl _ _).alloc (Nat.le_refl _) _) (by rw [size_alloc]; omega) _) _⟩

end Go.Proofs.Ytphkchjejbffeaa

/- The walks of gathering messages. -/
namespace Go.Proofs.Ytphkchjejbffeaa
open Go.RowKit

set_option maxHeartbeats 400000 in
theorem messageBytes_any (t : UInt8) (w : World) : Calls Try.prog 49 #[.int .u8 t.toNat] w fun e w' => e = .returned (.int .i64 (sizeOf t : Nat)) ∧ w' = w := by
  have ne : ∀ u : UInt8, t ≠ u → (((t.toNat : Int)) == (u.toNat : Int)) = false := by
    intro u hu
    rw [beq_eq_false_iff_ne]
    intro e
    exact hu (UInt8.toNat_inj.1 (by omega))
  by_cases h1 : t = 69
  · subst h1
    go_enter Try.func49, Try.ntmps49
    go_wp2
    go_ret
    exact ⟨rfl, rfl⟩
  · by_cases h2 : t = 82
    · subst h2
      go_enter Try.func49, Try.ntmps49
      go_wp2
      go_ret
      exact ⟨rfl, rfl⟩
    · by_cases h3 : t = 67
      · subst h3
        go_enter Try.func49, Try.ntmps49
        go_wp2
        go_ret
        exact ⟨rfl, rfl⟩
      · have e1 : (((t.toNat : Int)) == 69) = false := ne 69 h1
        have e2 : (((t.toNat : Int)) == 82) = false := ne 82 h2
        have e3 : (((t.toNat : Int)) == 67) = false := ne 67 h3
        have HS : Hid (sizeOf t = 1) := by
          show _ = _
          unfold sizeOf
          rw [if_neg h1, if_neg h2, if_neg h3]
        clear ne h1 h2 h3
        go_enter Try.func49, Try.ntmps49
        go_wp2
        go_ret
        exact ⟨by rw [HS.out]; rfl, rfl⟩

theorem size_pos (t : UInt8) : 1 ≤ sizeOf t ∧ sizeOf t ≤ 13 := by
  unfold sizeOf
  repeat' split
  all_goals omega

theorem Try.size5 : (Try.prog.info? 5).map (·.size) = some 1 := by kernel_rfl

/-- What a copy into block g leaves. -/
theorem wp_copy_mid {w : World} {o : Oper} {a : Go.Act} {K : Go.Act → World → Prop} {Q : Exit → Go.Act → World → Prop} (d s : Operand)
    (ho : o.op = .call { callee := .builtin .copy, args := #[d, s], argTypes := #[28, 28] })
    (g off dLen dCap : Nat) (vs : Value) (l : List UInt8) (F : Nat → Prop) (hd : a.eval d = .slice (some ⟨g, off, none⟩) dLen dCap) (hs : a.eval s = vs) (hrd : Rd w F vs l)
    (cur : List Value) (t : TypeId) (hg : w.heap[g]? = some (.cells cur.toArray t (0, 0))) (hfit : off + min l.length dLen ≤ cur.length)
    (h : ∀ w', Hid (w'.heap[g]? = some (.cells (splice cur off ((l.take (min l.length dLen)).map B)).toArray t (0, 0))) → Hid (Fr (fun k => k = g) w w') → K (a.put o.dst (.int .i64 (min l.length dLen : Nat))) w') :
    o.wp Try.prog a w K Q := by
  have hlen : ((l.take (min l.length dLen)).map B).length = min l.length dLen := by rw [List.length_map, List.length_take]; omega
  obtain ⟨sp, sCap, hvs⟩ : ∃ sp sCap, vs = .slice sp l.length sCap := by
    rcases hrd with ⟨rfl, rfl⟩ | ⟨g', o', cap, rfl, -⟩
    · exact ⟨none, 0, rfl⟩
    · exact ⟨_, _, rfl⟩
  by_cases h0 : min l.length dLen = 0
  · have hrun := run_copy_none (P := Try.prog) w 28 28 o.type 5 (some ⟨g, off, none⟩) sp dLen dCap l.length sCap Try.underlying28 Try.size5 h0
    have hk := h w (by show _ = _; rw [h0]; simpa [splice] using hg) (Fr.refl _ _)
    rw [h0] at hk
    unfold Oper.wp
    simp only [execOp, ho, resolve, invoke, builtin, Sem.run_bind, Sem.run_pure, Result.andThen_ok, List.map_toArray, List.map_cons, List.map_nil, hd, hs, hvs, hrun]
    exact hk
  · rcases hrd with ⟨rfl, rfl⟩ | ⟨g', o', cap, rfl, hl, -⟩
    · simp at h0
    · have hsrc : ∀ (j : Nat) (u : Value), ((l.take (min l.length dLen)).map B)[j]? = some u → w.cell? ((⟨g', o', none⟩ : Addr).add j) = some u := by
        intro j u hu
        rw [List.getElem?_map, Option.map_eq_some_iff] at hu
        obtain ⟨c, hc, rfl⟩ := hu
        rw [Addr.add_lit]
        exact (hl.take _) j c hc
      have hone : ∀ u ∈ (l.take (min l.length dLen)).map B, u.oneCell' = true := by
        intro u hu
        obtain ⟨c, _, rfl⟩ := List.mem_map.1 hu
        rfl
      generalize (l.take (min l.length dLen)).map B = cs at *
      have hrun := run_copy_row (P := Try.prog) w 28 28 o.type 5 g off dLen dCap ⟨g', o', none⟩ l.length cap cur.toArray t cs Try.underlying28 Try.size5 hg hlen hsrc (by rw [hlen]; simpa using hfit) hone
      unfold Oper.wp
      simp only [execOp, ho, resolve, invoke, builtin, Sem.run_bind, Sem.run_pure, Result.andThen_ok, List.map_toArray, List.map_cons, List.map_nil, hd, hs, hrun, hlen]
      refine h _ ?_ ?_
      · show _ = _
        rw [setRow_heap w g _ _ t _ hg]
        simp [splice, hlen]
      · exact ⟨rfl, rfl, rfl, by simp [World.setRow], fun k _ hk => setRow_other w g k _ hk⟩

theorem wpList_copy_mid {w : World} {ops : Array Oper} {rest : List Oper} {o : Oper} {a : Go.Act} {Q : Exit → Go.Act → World → Prop} (hgd : o.guard = none) (d s : Operand)
    (ho : o.op = .call { callee := .builtin .copy, args := #[d, s], argTypes := #[28, 28] })
    (g off dLen dCap : Nat) (vs : Value) (l : List UInt8) (F : Nat → Prop) (hd : a.eval d = .slice (some ⟨g, off, none⟩) dLen dCap) (hs : a.eval s = vs) (hrd : Rd w F vs l)
    (cur : List Value) (t : TypeId) (hg : w.heap[g]? = some (.cells cur.toArray t (0, 0))) (hfit : off + min l.length dLen ≤ cur.length)
    (h : ∀ w', Hid (w'.heap[g]? = some (.cells (splice cur off ((l.take (min l.length dLen)).map B)).toArray t (0, 0))) → Hid (Fr (fun k => k = g) w w') → wpList Try.prog ops Q rest (a.put o.dst (.int .i64 (min l.length dLen : Nat))) w') :
    wpList Try.prog ops Q (o :: rest) a w :=
  wpList_plain hgd fun _ hK => wp_copy_mid d s ho g off dLen dCap vs l F hd hs hrd cur t hg hfit fun w' h1 h2 => hK _ _ (h w' h1 h2)

theorem step_copy_mid {w : World} {ops : Array Oper} {o : Oper} {a : Go.Act} {K : Go.Act → World → Prop} {Q : Exit → Go.Act → World → Prop} {E : Prop} (hgd : o.guard = none) (d s : Operand)
    (ho : o.op = .call { callee := .builtin .copy, args := #[d, s], argTypes := #[28, 28] })
    (g off dLen dCap : Nat) (vs : Value) (l : List UInt8) (F : Nat → Prop) (hd : a.eval d = .slice (some ⟨g, off, none⟩) dLen dCap) (hs : a.eval s = vs) (hrd : Rd w F vs l)
    (cur : List Value) (t : TypeId) (hg : w.heap[g]? = some (.cells cur.toArray t (0, 0))) (hfit : off + min l.length dLen ≤ cur.length)
    (h : ∀ w', Hid (w'.heap[g]? = some (.cells (splice cur off ((l.take (min l.length dLen)).map B)).toArray t (0, 0))) → Hid (Fr (fun k => k = g) w w') → K (a.put o.dst (.int .i64 (min l.length dLen : Nat))) w') :
    if Region.wanted o (yielded ops a.tmps) = true then Oper.wp Try.prog o a w K Q else E := by
  have hw : Region.wanted o (yielded ops a.tmps) = true := by simp [Region.wanted, hgd]
  rw [if_pos hw]
  exact wp_copy_mid d s ho g off dLen dCap vs l F hd hs hrd cur t hg hfit h

end Go.Proofs.Ytphkchjejbffeaa

/- The walk of inbox.gather. -/
namespace Go.Proofs.Ytphkchjejbffeaa
open Go.RowKit
attribute [local go_sem ↓] Go.wp_at_zero Go.wp_at_succ

def BC.list (c : BC) : List Value := ([.bool c.opn, .int .u64 c.time] : List Value) ++ c.bytes.map B ++ ([.int .i64 c.have_, .int .u32 c.refs, .int .u32 c.mats, .map (some c.pm), .pointer (some ⟨c.bk, 0, none⟩), c.va, c.vt] : List Value)
theorem BC.cells_list (c : BC) : c.cells = c.list.toArray := rfl
theorem BC.list_len (c : BC) (h : c.bytes.length = 13) : c.list.length = 22 := by simp [BC.list, h]

theorem BC.splice (c : BC) (h13 : c.bytes.length = 13) (h : Nat) (x : List UInt8) (hh : h + x.length ≤ 13) : splice c.list (2 + h) (x.map B) = { c with bytes := Go.splice c.bytes h x }.list := by
  unfold Go.splice BC.list
  simp only [List.length_map, List.map_append, List.map_take, List.map_drop]
  rw [List.append_assoc, List.take_append, List.drop_append]
  simp only [List.length_cons, List.length_nil]
  rw [List.take_of_length_le (by simp), List.drop_of_length_le (by simp; omega)]
  rw [List.take_append_of_le_length (by simp [h13]; omega)]
  rw [show 0 + 1 + 1 = 2 from rfl, show 2 + h - 2 = h by omega, show 2 + h + x.length - 2 = h + x.length by omega]
  rw [List.drop_append_of_le_length (by simp [h13]; omega)]
  simp

theorem BC.setH (c : BC) (h : c.bytes.length = 13) (n : Nat) : c.cells.setIfInBounds 15 (.int .i64 n) = { c with have_ := n }.cells := by
  obtain ⟨a1, a2, a3, a4, a5, a6, a7, a8, a9, a10, a11, a12, a13, e⟩ := bytes13 _ h
  unfold BC.cells
  simp only [e]
  rfl
theorem IsB.setH {w : World} {b : Nat} {c : BC} (h : IsB w b c) (n : Nat) : IsB (w.setCell ⟨b, 15, none⟩ (.int .i64 n)) b { c with have_ := n } :=
  ⟨by rw [heap_setCell_same w b 15 _ _ _ h.blk, c.setH h.len n], h.len⟩

/-- What gathering leaves: k bytes of l were taken. -/
structure Gath (F : Nat → Prop) (w w' : World) (b : Nat) (c : BC) (l : List UInt8) (v' : Value) (whole : Bool) (k : Nat) (bytes' : List UInt8) : Prop where
  le : k ≤ l.length
  isB : IsB w' b { c with bytes := bytes', have_ := c.have_ + k }
  fr : Fr (fun j => j = b) w w'
  took : bytes'.take (c.have_ + k) = c.bytes.take c.have_ ++ l.take k
  yes : whole = true → 0 < c.have_ + k ∧ c.have_ + k = sizeOf (byteAt bytes' 0) ∧ Rd w' F v' (l.drop k)
  no : whole = false → k = l.length ∧ (c.have_ + k = 0 ∨ c.have_ + k < sizeOf (byteAt bytes' 0))

def Gathers (F : Nat → Prop) (w : World) (b : Nat) (c : BC) (l : List UInt8) (e : Ending) (w' : World) : Prop := ∃ v' whole k bytes', e = .returned (.tuple #[v', .bool whole]) ∧ Gath F w w' b c l v' whole k bytes'

theorem splice_take (bs x : List UInt8) (h : Nat) (hh : h ≤ bs.length) : (splice bs h x).take (h + x.length) = bs.take h ++ x := by
  unfold splice
  rw [← List.append_assoc, List.take_left' (by rw [List.length_append, List.length_take]; omega)]
theorem splice_head (bs x : List UInt8) (h : Nat) (h0 : 0 < h) (hh : h ≤ bs.length) : byteAt (splice bs h x) 0 = byteAt bs 0 := by
  unfold byteAt splice
  rcases bs with _ | ⟨a, bs⟩
  · simp at hh; omega
  · obtain ⟨k, rfl⟩ : ∃ k, h = k + 1 := ⟨h - 1, by omega⟩
    simp

theorem Gath.of {F : Nat → Prop} {w W : World} {b : Nat} {c : BC} {l : List UInt8} {v' : Value} {hz n sz : Nat} (nq : Nat) (h13 : c.bytes.length = 13) (hZ : c.have_ = hz) (h0 : 0 < hz) (h1 : hz ≤ sz) (hsz : sizeOf (byteAt c.bytes 0) = sz) (hn : min l.length (sz - hz) = n)
    (hB : IsB W b { c with bytes := splice c.bytes hz (l.take n), have_ := hz + n }) (hf : Fr (fun k => k = b) w W) (hr : Rd W F v' (l.drop n)) :
    Gath F w (W.drewN nq) b c l v' ((hz : Int) + (n : Int) == (sz : Int)) n (splice c.bytes hz (l.take n)) := by
  have hs := size_pos (byteAt c.bytes 0)
  have hln : (l.take n).length = n := by rw [List.length_take]; omega
  have hb0 : byteAt (splice c.bytes hz (l.take n)) 0 = byteAt c.bytes 0 := splice_head _ _ _ h0 (by omega)
  refine ⟨by omega, ?_, ?_, ?_, ?_, ?_⟩
  · rw [hZ]; exact ⟨hB.blk, hB.len⟩
  · exact ⟨hf.os, hf.tape, hf.output, hf.size, hf.block⟩
  · have := splice_take c.bytes (l.take n) hz (by omega)
    rw [hln] at this
    rw [hZ]; exact this
  · intro h
    have : (hz : Int) + (n : Int) = (sz : Int) := by simpa using h
    rw [hb0, hsz, hZ]
    exact ⟨by omega, by omega, hr⟩
  · intro h
    have : (hz : Int) + (n : Int) ≠ (sz : Int) := by simpa using h
    rw [hb0, hsz, hZ]
    exact ⟨by omega, Or.inr (by omega)⟩

/-- What stands behind n bytes. -/
theorem rd_behind {F : Nat → Prop} {w W : World} {b g o cap n : Nat} {l : List UInt8} (hl : Lies w g o l) (hc : l.length ≤ cap) (hc2 : cap ≤ maxLen) (hFb : F b) (hg : ¬ F g) (hgs : g < w.heap.size) (hf : Fr (fun k => k = b) w W) (hn : n ≤ l.length) :
    Rd W F (.slice (if cap = n then some ⟨g, o, none⟩ else some ⟨g, o + n, none⟩) (l.length - n) (cap - n)) (l.drop n) := by
  have hk : Lies W g o l := hl.keep (hf.block g hgs (fun e => hg (e ▸ hFb)))
  have hgs' : g < W.heap.size := Nat.lt_of_lt_of_le hgs hf.size
  by_cases he : cap = n
  · rw [if_pos he]
    have hnil : l.drop n = [] := List.drop_eq_nil_of_le (by omega)
    refine Or.inr ⟨g, o, cap - n, by rw [List.length_drop], ?_, by rw [List.length_drop]; omega, by omega, hg, hgs'⟩
    rw [hnil]
    intro j u hu
    simp at hu
  · rw [if_neg he]
    exact Or.inr ⟨g, o + n, cap - n, by rw [List.length_drop], hk.drop n, by rw [List.length_drop]; omega, by omega, hg, hgs'⟩

set_option maxRecDepth 100000 in
set_option maxHeartbeats 1000000 in
theorem gather_more (F : Nat → Prop) (b : Nat) (hFb : F b) (c : BC) (v : Value) (l : List UInt8) (w : World) (hB : IsB w b c) (hrd : Rd w F v l) (h0 : 0 < c.have_) (h1 : c.have_ < sizeOf (byteAt c.bytes 0)) (hll : l.length ≤ 9223372036854775807) :
    Calls Try.prog 28 #[.pointer (some ⟨b, 2, none⟩), v] w fun e w' => Gathers F w b c l e w' := by
  have g15 : w.cell? ⟨b, 15, none⟩ = some (.int .i64 c.have_) := by rw [hB.cell]; exact (c.get hB.len).2.2.1
  have g2 : w.cell? ⟨b, 2, none⟩ = some (.int .u8 (byteAt c.bytes 0).toNat) := by
    rw [hB.cell]
    obtain ⟨a1, a2, a3, a4, a5, a6, a7, a8, a9, a10, a11, a12, a13, e⟩ := bytes13 _ hB.len
    unfold BC.cells byteAt
    rw [e]
    rfl
  have hs := size_pos (byteAt c.bytes 0)
  generalize hsz : sizeOf (byteAt c.bytes 0) = sz at *
  have HSZ := Hid.mk hsz
  have hh0 : (((c.have_ : Nat) : Int) == 0) = false := by simp; omega
  have HB := Hid.mk hB
  have HR := Hid.mk hrd
  have hmb := messageBytes_any (byteAt c.bytes 0)
  rw [hsz] at hmb
  have HMB := Hid.mk hmb
  clear hmb
  have i1 : (0 : Int) ≤ (c.have_ : Int) := by omega
  have i2 : (c.have_ : Int) ≤ (sz : Int) := by omega
  have i3 : (sz : Int) ≤ 13 := by omega
  obtain ⟨rv, cv, hv⟩ : ∃ rv cv, v = .slice rv l.length cv := by
    rcases hrd with ⟨rfl, rfl⟩ | ⟨g', o', cap, rfl, -⟩
    · exact ⟨none, 0, rfl⟩
    · exact ⟨_, _, rfl⟩
  subst hv
  clear hsz hB hrd
  generalize hcz : c.have_ = hz at *
  have HZ := Hid.mk hcz
  clear hcz
  go_enter Try.func28, Try.ntmps28
  go_wp2_with (go_at_call 49; refine (HMB.out w).mono ?_; rintro e w' ⟨rfl, hw⟩; replace hw := hw.symm; subst hw)
  have hbk : w.drew.heap[b]? = some (.cells c.list.toArray 81 (0, 0)) := HB.out.blk
  have hrd : Rd w.drew F (.slice rv l.length cv) l := HR.out
  have hfit : 2 + hz + min l.length (sz - hz) ≤ c.list.length := by rw [c.list_len HB.out.len]; omega
  have HK := Hid.mk (And.intro hbk (And.intro hrd hfit))
  have HE : Hid (splice c.list (2 + hz) ((l.take (min l.length (sz - hz))).map B) = { c with bytes := splice c.bytes hz (l.take (min l.length (sz - hz))) }.list) := c.splice HB.out.len hz _ (by rw [List.length_take]; omega)
  have HL13 : Hid ((splice c.bytes hz (l.take (min l.length (sz - hz)))).length = 13) := by
    show _ = _
    rw [length_splice _ _ _ (by rw [HB.out.len, List.length_take]; omega), HB.out.len]
  have i4 : (hz : Int) ≤ 13 := by omega
  clear hbk hrd hfit
  go_region_held3 (fun w' => w'.cell? ⟨b, 15, none⟩ = some (.int .i64 hz)) (first | exact m1 | go_keep)
    ((refine step_copy_mid rfl _ _ (by rfl) b (2 + hz) (sz - hz) (13 - hz) _ l F (by (conv => lhs; whnf); rw [if_neg (by omega)]) (by rfl) HK.out.2.1 c.list 81 HK.out.1 HK.out.2.2 ?_; intro w2 hg2 hf2; have hB2 : Hid (IsB w2 b { c with bytes := splice c.bytes hz (l.take (min l.length (sz - hz))) }) := ⟨hg2.out.trans (by rw [HE.out]; rfl), HL13.out⟩; have m1 : w2.cell? ⟨b, 15, none⟩ = some (.int .i64 hz) := by rw [hB2.out.cell]; exact ((BC.get _ hB2.out.len).2.2.1.trans (by rw [← HZ.out]))))
  generalize hn : min l.length (sz - hz) = n at hB2 hf2 m1 HE HL13 HK ⊢
  have HN := Hid.mk hn
  have n1 : n ≤ l.length := by omega
  have n2 : hz + n ≤ sz := by omega
  clear hn
  have gf : w2.frozen? ⟨b, 15, none⟩ = false := hB2.out.frozen 15
  have ne13 : ¬ (13 = hz) := by omega
  have r1 : ((hz : Int) + (n : Int)) ≤ 9223372036854775807 := by omega
  have r2 : (-9223372036854775808 : Int) ≤ ((hz : Int) + (n : Int)) := by omega
  go_wp2_with fail
  have hB3 : Hid (IsB (w2.setCell ⟨b, 15, none⟩ (.int .i64 ((hz : Int) + (n : Int)))) b { c with bytes := splice c.bytes hz (l.take n), have_ := hz + n }) := by
    have := hB2.out.setH (hz + n)
    rwa [Int.natCast_add] at this
  have hf3 : Hid (Fr (fun k => k = b) w (w2.setCell ⟨b, 15, none⟩ (.int .i64 ((hz : Int) + (n : Int))))) :=
    (Fr.drew _ w).trans (hf2.out.trans (Fr.setCell w2 ⟨b, 15, none⟩ _) (fun _ _ h => h)) (fun _ _ h => h)
  have c15 : (w2.setCell ⟨b, 15, none⟩ (.int .i64 ((hz : Int) + (n : Int)))).cell? ⟨b, 15, none⟩ = some (.int .i64 ((hz : Int) + (n : Int))) := by
    rw [hB3.out.cell]; exact (BC.get _ hB3.out.len).2.2.1
  generalize hW : w2.setCell ⟨b, 15, none⟩ (.int .i64 ((hz : Int) + (n : Int))) = W at hB3 hf3 c15 ⊢
  clear hW
  have HD := Hid.mk (And.intro HK.out.2.1 hB3.out)
  clear hB2 hf2 m1 gf r1 r2
  rcases HR.out with ⟨hv, hl⟩ | ⟨g, o, cap, hv, hlie, hc1, hc2, hg, hgs⟩
  · obtain ⟨rfl, -, rfl⟩ : rv = none ∧ l.length = 0 ∧ cv = 0 := by simpa using hv
    subst hl
    have hn0 : n = 0 := by simpa using n1
    subst hn0
    clear hv n1 n2
    go_quiet (fail)
    go_wp2_with fail
    go_ret2
    have HGa := Gath.of (F := F) (v' := .slice none 0 0) nq HB.out.len HZ.out h0 (Nat.le_of_lt h1) HSZ.out HN.out hB3.out hf3.out (Or.inl ⟨rfl, rfl⟩)
    exact ⟨_, _, 0, _, rfl, by simpa using HGa⟩
  · obtain ⟨rfl, rfl⟩ : rv = some ⟨g, o, none⟩ ∧ cv = cap := by simpa using hv
    clear hv
    have HG := Hid.mk (And.intro hlie (And.intro hg hgs))
    clear hlie hg hgs
    go_quiet (fail)
    have HGa : Hid (Gath F w (W.drewN nq) b c l _ _ n _) := Gath.of nq HB.out.len HZ.out h0 (Nat.le_of_lt h1) HSZ.out HN.out hB3.out hf3.out (rd_behind HG.out.1 hc1 hc2 hFb HG.out.2.1 HG.out.2.2 hf3.out n1)
    generalize (if cv = n then some (⟨g, o, none⟩ : Addr) else some ⟨g, o + n, none⟩) = A at HGa ⊢
    generalize ((hz : Int) + (n : Int) == (sz : Int)) = bb at HGa ⊢
    go_wp2_with fail
    go_ret2
    exact ⟨_, _, n, _, rfl, HGa.out⟩

end Go.Proofs.Ytphkchjejbffeaa

/- The walk of inbox.gather, its begin. -/
namespace Go.Proofs.Ytphkchjejbffeaa
open Go.RowKit
attribute [local go_sem ↓] Go.wp_at_zero Go.wp_at_succ

/-- What a copy into block g answers and leaves. -/
theorem run_copy_mid (w : World) (ty : TypeId) (g off dLen dCap : Nat) (vs : Value) (l : List UInt8) (F : Nat → Prop) (hrd : Rd w F vs l)
    (cur : List Value) (t : TypeId) (hg : w.heap[g]? = some (.cells cur.toArray t (0, 0))) (hfit : off + min l.length dLen ≤ cur.length) :
    ∃ w', Sem.run Try.prog (Builtin.copy_ #[28, 28] ty #[.slice (some ⟨g, off, none⟩) dLen dCap, vs]) w = .ok (.int .i64 (min l.length dLen : Nat)) w' ∧ w'.heap[g]? = some (.cells (splice cur off ((l.take (min l.length dLen)).map B)).toArray t (0, 0)) ∧ Fr (fun k => k = g) w w' := by
  have hlen : ((l.take (min l.length dLen)).map B).length = min l.length dLen := by rw [List.length_map, List.length_take]; omega
  obtain ⟨sp, sCap, hvs⟩ : ∃ sp sCap, vs = .slice sp l.length sCap := by
    rcases hrd with ⟨rfl, rfl⟩ | ⟨g', o', cap, rfl, -⟩
    · exact ⟨none, 0, rfl⟩
    · exact ⟨_, _, rfl⟩
  by_cases h0 : min l.length dLen = 0
  · have hrun := run_copy_none (P := Try.prog) w 28 28 ty 5 (some ⟨g, off, none⟩) sp dLen dCap l.length sCap Try.underlying28 Try.size5 h0
    rw [h0]
    refine ⟨w, by rw [hvs]; exact hrun, by simpa [splice] using hg, Fr.refl _ _⟩
  · rcases hrd with ⟨rfl, rfl⟩ | ⟨g', o', cap, rfl, hl, -⟩
    · simp at h0
    · have hsrc : ∀ (j : Nat) (u : Value), ((l.take (min l.length dLen)).map B)[j]? = some u → w.cell? ((⟨g', o', none⟩ : Addr).add j) = some u := by
        intro j u hu
        rw [List.getElem?_map, Option.map_eq_some_iff] at hu
        obtain ⟨c, hc, rfl⟩ := hu
        rw [Addr.add_lit]
        exact (hl.take _) j c hc
      have hone : ∀ u ∈ (l.take (min l.length dLen)).map B, u.oneCell' = true := by
        intro u hu
        obtain ⟨c, _, rfl⟩ := List.mem_map.1 hu
        rfl
      generalize (l.take (min l.length dLen)).map B = cs at *
      have hrun := run_copy_row (P := Try.prog) w 28 28 ty 5 g off dLen dCap ⟨g', o', none⟩ l.length cap cur.toArray t cs Try.underlying28 Try.size5 hg hlen hsrc (by rw [hlen]; simpa using hfit) hone
      refine ⟨_, hrun.trans (by rw [hlen]; rfl), ?_, ?_⟩
      · rw [setRow_heap w g _ _ t _ hg]
        simp [splice, hlen]
      · exact ⟨rfl, rfl, rfl, by simp [World.setRow], fun k _ hk => setRow_other w g k _ hk⟩

set_option maxRecDepth 100000 in
set_option maxHeartbeats 1000000 in
theorem gather_none (F : Nat → Prop) (b : Nat) (c : BC) (v : Value) (w : World) (hB : IsB w b c) (hrd : Rd w F v []) (h0 : c.have_ = 0) :
    Calls Try.prog 28 #[.pointer (some ⟨b, 2, none⟩), v] w fun e w' => Gathers F w b c [] e w' := by
  have g15 : w.cell? ⟨b, 15, none⟩ = some (.int .i64 0) := by rw [hB.cell]; exact (c.get hB.len).2.2.1.trans (by rw [h0]; rfl)
  have gf : w.frozen? ⟨b, 15, none⟩ = false := hB.frozen 15
  obtain ⟨rv, cv, hv⟩ : ∃ rv cv, v = .slice rv 0 cv := by
    rcases hrd with ⟨rfl, -⟩ | ⟨g', o', cap, rfl, -⟩
    · exact ⟨none, 0, rfl⟩
    · exact ⟨_, _, rfl⟩
  subst hv
  have HB := Hid.mk hB
  have HR := Hid.mk hrd
  have H0 := Hid.mk h0
  obtain ⟨w1, hrun, hh1, hf1⟩ := run_copy_mid w 3 b 2 1 13 _ [] _ hrd c.list 81 hB.blk (by rw [c.list_len hB.len]; simp)
  have hB1 : IsB w1 b c := ⟨by rw [hh1]; simp [splice, BC.cells_list], hB.len⟩
  have gf1 : w1.frozen? ⟨b, 15, none⟩ = false := hB1.frozen 15
  have hB2 : Hid (IsB (w1.setCell ⟨b, 15, none⟩ (.int .i64 0)) b c) := by
    have := hB1.setH 0
    cases c
    cases h0
    exact this
  have HF := Hid.mk (hf1.trans (Fr.setCell w1 ⟨b, 15, none⟩ (.int .i64 0)) (fun _ _ h => h))
  have HB1 := Hid.mk hB1
  replace hrun : Sem.run Try.prog (Builtin.copy_ #[28, 28] 3 #[.slice (some ⟨b, 2, none⟩) 1 13, .slice rv 0 cv]) w = .ok (.int .i64 0) w1 := hrun
  clear hB hrd h0 hh1 hf1 hB1
  have c15 : (w1.setCell ⟨b, 15, none⟩ (.int .i64 0)).cell? ⟨b, 15, none⟩ = some (.int .i64 0) := by
    rw [hB2.out.cell]; exact (c.get hB2.out.len).2.2.1.trans (by rw [H0.out]; rfl)
  have g115 : w1.cell? ⟨b, 15, none⟩ = some (.int .i64 0) := by
    rw [HB1.out.cell]; exact (c.get HB1.out.len).2.2.1.trans (by rw [H0.out]; rfl)
  clear c15
  have hcv : (cv : Int) ≤ 9223372036854775807 := by
    rcases HR.out with ⟨hv, -⟩ | ⟨g, o, cap, hv, -, -, hc, -⟩
    · obtain ⟨rfl, rfl⟩ : rv = none ∧ cv = 0 := by simpa using hv
      omega
    · obtain ⟨rfl, rfl⟩ : rv = some ⟨g, o, none⟩ ∧ cv = cap := by simpa using hv
      unfold maxLen at hc
      omega
  have HG : Hid (Gathers F w b c [] (.returned (.tuple #[.slice none 0 0, .bool false])) (w1.setCell ⟨b, 15, none⟩ (.int .i64 0))) := by
    refine ⟨_, _, 0, c.bytes, rfl, Nat.le_refl _, ⟨hB2.out.blk, hB2.out.len⟩, ⟨HF.out.os, HF.out.tape, HF.out.output, HF.out.size, HF.out.block⟩, by simp [H0.out], (fun h => by cases h), fun _ => ⟨rfl, Or.inl H0.out⟩⟩
  obtain hvv : (rv = none ∧ cv = 0) ∨ ∃ g o, rv = some ⟨g, o, none⟩ := by
    rcases HR.out with ⟨hv, -⟩ | ⟨g, o, cap, hv, -⟩
    · exact Or.inl (by simpa using hv)
    · exact Or.inr ⟨g, o, by have h : rv = some ⟨g, o, none⟩ ∧ cv = cap := by simpa using hv
                             exact h.1⟩
  clear HR HB H0 HF
  rcases hvv with ⟨rfl, rfl⟩ | ⟨g, o, rfl⟩
  · go_enter Try.func28, Try.ntmps28
    go_wp2_with fail
    go_ret2
    exact HG.out
  · go_enter Try.func28, Try.ntmps28
    go_wp2_with fail
    go_ret2
    exact HG.out

theorem Gath.lift {F : Nat → Prop} {w w1 w' : World} {b : Nat} {c : BC} {a : UInt8} {l : List UInt8} {v' : Value} {whole : Bool} {k : Nat} {bytes' : List UInt8} (h0 : c.have_ = 0) (h13 : c.bytes.length = 13) (hf : Fr (fun k => k = b) w w1)
    (h : Gath F w1 w' b { c with bytes := splice c.bytes 0 [a], have_ := 1 } l v' whole k bytes') : Gath F w w' b c (a :: l) v' whole (1 + k) bytes' := by
  refine ⟨by have := h.le; simp; omega, ?_, hf.trans h.fr (fun _ _ h => h), ?_, ?_, ?_⟩
  · have := h.isB
    rw [h0, Nat.zero_add]
    exact this
  · have := h.took
    rw [h0, Nat.zero_add, Nat.add_comm 1 k, List.take_succ_cons, List.take_zero, List.nil_append, ← Nat.add_comm 1 k]
    refine this.trans ?_
    have e := splice_take c.bytes [a] 0 (by omega)
    rw [show 0 + [a].length = 1 from rfl] at e
    show (splice c.bytes 0 [a]).take 1 ++ _ = _
    rw [e]
    rfl
  · intro hw
    have := h.yes hw
    rw [h0, Nat.zero_add]
    refine ⟨this.1, this.2.1, ?_⟩
    have := this.2.2
    rwa [Nat.add_comm 1 k, List.drop_succ_cons]
  · intro hw
    have := h.no hw
    rw [h0, Nat.zero_add]
    exact ⟨by have := this.1; simp; omega, this.2⟩

end Go.Proofs.Ytphkchjejbffeaa

/- The walk of inbox.gather, its first byte. -/
namespace Go.Proofs.Ytphkchjejbffeaa
open Go.RowKit
attribute [local go_sem ↓] Go.wp_at_zero Go.wp_at_succ

theorem head_splice (bs : List UInt8) (a : UInt8) : byteAt (splice bs 0 [a]) 0 = a := rfl

set_option maxRecDepth 100000 in
set_option maxHeartbeats 1000000 in
theorem gather_first (F : Nat → Prop) (b : Nat) (hFb : F b) (c0 : BC) (v : Value) (a : UInt8) (l : List UInt8) (w0 : World) (hB : IsB w0 b c0) (hrd : Rd w0 F v (a :: l)) (h0 : c0.have_ = 0) (hll : l.length + 1 ≤ 9223372036854775807) :
    Calls Try.prog 28 #[.pointer (some ⟨b, 2, none⟩), v] w0 fun e w' => Gathers F w0 b c0 (a :: l) e w' := by
  obtain ⟨g, o, cap, rfl, hlie, hc1, hc2, hg, hgs⟩ : ∃ g o cap, v = .slice (some ⟨g, o, none⟩) (a :: l).length cap ∧ Lies w0 g o (a :: l) ∧ (a :: l).length ≤ cap ∧ cap ≤ maxLen ∧ ¬ F g ∧ g < w0.heap.size := by
    rcases hrd with ⟨-, h⟩ | h
    · cases h
    · exact h
  have g15 : w0.cell? ⟨b, 15, none⟩ = some (.int .i64 0) := by rw [hB.cell]; exact (c0.get hB.len).2.2.1.trans (by rw [h0]; rfl)
  obtain ⟨w1, hrun, hh1, hf1⟩ := run_copy_mid w0 3 b 2 1 13 _ (a :: l) _ hrd c0.list 81 hB.blk (by rw [c0.list_len hB.len]; simp)
  have hmin : min (a :: l).length 1 = 1 := by simp
  rw [hmin] at hrun hh1
  have hB1 : IsB w1 b { c0 with bytes := splice c0.bytes 0 [a] } := by
    refine ⟨?_, by show (splice c0.bytes 0 [a]).length = 13; rw [length_splice _ _ _ (by rw [hB.len]; simp), hB.len]⟩
    rw [hh1]
    have := c0.splice hB.len 0 [a] (by simp)
    rw [Nat.add_zero] at this
    rw [show (List.take 1 (a :: l)) = [a] from rfl, this]
    rfl
  have gf1 : w1.frozen? ⟨b, 15, none⟩ = false := hB1.frozen 15
  have g115 : w1.cell? ⟨b, 15, none⟩ = some (.int .i64 0) := by
    rw [hB1.cell]; exact (BC.get _ hB1.len).2.2.1.trans (by rw [h0]; rfl)
  have hB2 := hB1.setH 1
  have hf2 := hf1.trans (Fr.setCell w1 ⟨b, 15, none⟩ (.int .i64 (1 : Nat))) (fun _ _ h => h)
  have hr2 : Rd (w1.setCell ⟨b, 15, none⟩ (.int .i64 (1 : Nat))) F _ ((a :: l).drop 1) := rd_behind (n := 1) hlie hc1 hc2 hFb hg hgs hf2 (by simp)
  rw [show (a :: l).drop 1 = l from rfl] at hr2
  have g2 : (w1.setCell ⟨b, 15, none⟩ (.int .i64 (1 : Nat))).cell? ⟨b, 2, none⟩ = some (.int .u8 a.toNat) := by
    rw [hB2.cell]
    obtain ⟨a1, a2, a3, a4, a5, a6, a7, a8, a9, a10, a11, a12, a13, e⟩ := bytes13 _ hB.len
    show (BC.cells { c0 with bytes := splice c0.bytes 0 [a], have_ := 1 })[2]? = _
    unfold BC.cells
    simp only [e]
    rfl
  generalize hrv : (if cap = 1 then some (⟨g, o, none⟩ : Addr) else some ⟨g, o + 1, none⟩) = rv at hr2
  have HFi : Hid (∀ e w', Gathers F (w1.setCell ⟨b, 15, none⟩ (.int .i64 1)) b { c0 with bytes := splice c0.bytes 0 [a], have_ := 1 } l e w' → Gathers F w0 b c0 (a :: l) e w') := by
    rintro e w' ⟨v', wh, k, by', rfl, hG⟩
    exact ⟨v', wh, 1 + k, by', rfl, hG.lift h0 hB.len hf2⟩
  have hs := size_pos a
  have hmb := messageBytes_any a
  generalize hsz : sizeOf a = sz at *
  have HSZ : Hid (sizeOf (byteAt (splice c0.bytes 0 [a]) 0) = sz) := by show _ = _; rw [head_splice, hsz]
  have HMB := Hid.mk hmb
  have HB := Hid.mk hB2
  have HR := Hid.mk hr2
  have i3 : (sz : Int) ≤ 13 := by omega
  have i2 : (1 : Int) ≤ (sz : Int) := by omega
  obtain ⟨L, hL⟩ : ∃ L, (a :: l).length = L := ⟨_, rfl⟩
  have hL1 : L - 1 = l.length := by rw [← hL]; simp
  have hL2 : (L : Int) ≤ 9223372036854775807 := by rw [← hL]; simp; omega
  have hL3 : (1 : Int) ≤ (L : Int) := by rw [← hL]; simp; omega
  rw [hL] at hrun hc1 ⊢
  have hc3 : (L : Int) ≤ (cap : Int) := by omega
  have hc4 : (cap : Int) ≤ 9223372036854775807 := by unfold maxLen at hc2; omega
  replace hrun : Sem.run Try.prog (Builtin.copy_ #[28, 28] 3 #[.slice (some ⟨b, 2, none⟩) 1 13, .slice (some ⟨g, o, none⟩) L cap]) w0 = .ok (.int .i64 1) w1 := hrun
  replace g2 : (w1.setCell ⟨b, 15, none⟩ (.int .i64 1)).cell? ⟨b, 2, none⟩ = some (.int .u8 a.toNat) := g2
  clear hmb hB hrd hB1 hh1 hf1 hlie hg hgs hsz hc1 hc2 hB2 hr2 hf2 hmin h0 hL hll
  go_enter Try.func28, Try.ntmps28
  go_wp2_with (go_at_call 49; refine (HMB.out _).mono ?_; rintro e w' ⟨rfl, hw⟩; replace hw := hw.symm; subst hw)
  have h1 : 1 ≤ sz := hs.1
  generalize hcd : ({ c0 with bytes := splice c0.bytes 0 [a], have_ := 1 } : BC) = c at HFi HB
  have HZ : Hid (c.have_ = 1) := by show _ = _; rw [← hcd]
  replace HSZ : Hid (sizeOf (byteAt c.bytes 0) = sz) := by show _ = _; rw [← hcd]; exact HSZ.out
  replace HB : Hid (IsB (w1.setCell ⟨b, 15, none⟩ (.int .i64 1)) b c) := HB
  replace HR : Hid (Rd (w1.setCell ⟨b, 15, none⟩ (.int .i64 1)) F (.slice rv l.length (cap - 1)) l) := by
    have := HR.out
    rw [show (a :: l).length - 1 = l.length by simp] at this
    exact this
  clear hcd
  generalize cap - 1 = cv at HR ⊢
  generalize w1.setCell ⟨b, 15, none⟩ (.int .i64 1) = w at HFi HB HR g2 ⊢
  clear hrun g115 gf1 g15 hL1 hL2 hL3 hc3 hc4 hrv HMB
  have g15 : w.cell? ⟨b, 15, none⟩ = some (.int .i64 1) := by
    rw [HB.out.cell]; exact (c.get HB.out.len).2.2.1.trans (by rw [HZ.out]; rfl)
  have hbk : w.drew.heap[b]? = some (.cells c.list.toArray 81 (0, 0)) := HB.out.blk
  have hrd : Rd w.drew F (.slice rv l.length cv) l := HR.out
  have hfit : 3 + min l.length (sz - 1) ≤ c.list.length := by rw [c.list_len HB.out.len]; omega
  have HK := Hid.mk (And.intro hbk (And.intro hrd hfit))
  have HE : Hid (splice c.list (3) ((l.take (min l.length (sz - 1))).map B) = { c with bytes := splice c.bytes 1 (l.take (min l.length (sz - 1))) }.list) := c.splice HB.out.len 1 _ (by rw [List.length_take]; omega)
  have HL13 : Hid ((splice c.bytes 1 (l.take (min l.length (sz - 1)))).length = 13) := by
    show _ = _
    rw [length_splice _ _ _ (by rw [HB.out.len, List.length_take]; omega), HB.out.len]
  clear hbk hrd hfit
  go_region_held3 (fun w' => w'.cell? ⟨b, 15, none⟩ = some (.int .i64 1)) (first | exact m1 | go_keep)
    ((refine step_copy_mid rfl _ _ (by rfl) b (3) (sz - 1) (12) _ l F (by rfl) (by rfl) HK.out.2.1 c.list 81 HK.out.1 HK.out.2.2 ?_; intro w2 hg2 hf2; have hB2 : Hid (IsB w2 b { c with bytes := splice c.bytes 1 (l.take (min l.length (sz - 1))) }) := ⟨hg2.out.trans (by rw [HE.out]; rfl), HL13.out⟩; have m1 : w2.cell? ⟨b, 15, none⟩ = some (.int .i64 1) := by rw [hB2.out.cell]; exact (BC.get _ hB2.out.len).2.2.1.trans (by show some (Value.int .i64 (c.have_ : Int)) = _; rw [HZ.out]; rfl)))
  generalize hn : min l.length (sz - 1) = n at hB2 hf2 m1 HE HL13 HK ⊢
  have HN := Hid.mk hn
  have n1 : n ≤ l.length := by omega
  have n2 : 1 + n ≤ sz := by omega
  clear hn
  have gf : w2.frozen? ⟨b, 15, none⟩ = false := hB2.out.frozen 15
  have r1 : (1 + (n : Int)) ≤ 9223372036854775807 := by omega
  have r2 : (-9223372036854775808 : Int) ≤ (1 + (n : Int)) := by omega
  go_wp2_with fail
  have hB3 : Hid (IsB (w2.setCell ⟨b, 15, none⟩ (.int .i64 (1 + (n : Int)))) b { c with bytes := splice c.bytes 1 (l.take n), have_ := 1 + n }) := by
    have := hB2.out.setH (1 + n)
    rwa [Int.natCast_add] at this
  have hf3 : Hid (Fr (fun k => k = b) w (w2.setCell ⟨b, 15, none⟩ (.int .i64 (1 + (n : Int))))) :=
    (Fr.drew _ w).trans (hf2.out.trans (Fr.setCell w2 ⟨b, 15, none⟩ _) (fun _ _ h => h)) (fun _ _ h => h)
  have c15 : (w2.setCell ⟨b, 15, none⟩ (.int .i64 (1 + (n : Int)))).cell? ⟨b, 15, none⟩ = some (.int .i64 (1 + (n : Int))) := by
    rw [hB3.out.cell]; exact (BC.get _ hB3.out.len).2.2.1
  generalize hW : w2.setCell ⟨b, 15, none⟩ (.int .i64 (1 + (n : Int))) = W at hB3 hf3 c15 ⊢
  clear hW
  have HD := Hid.mk (And.intro HK.out.2.1 hB3.out)
  clear hB2 hf2 m1 gf r1 r2
  rcases HR.out with ⟨hv, hl⟩ | ⟨g, o, cap, hv, hlie, hc1, hc2, hg, hgs⟩
  · obtain ⟨rfl, -, rfl⟩ : rv = none ∧ l.length = 0 ∧ cv = 0 := by simpa using hv
    subst hl
    have hn0 : n = 0 := by simpa using n1
    subst hn0
    clear hv n1 n2
    go_quiet (fail)
    go_wp2_with fail
    go_ret2
    have HGa := Gath.of (F := F) (v' := .slice none 0 0) nq HB.out.len HZ.out (Nat.succ_pos 0) h1 HSZ.out HN.out hB3.out hf3.out (Or.inl ⟨rfl, rfl⟩)
    exact HFi.out _ _ ⟨_, _, 0, _, rfl, by simpa using HGa⟩
  · obtain ⟨rfl, rfl⟩ : rv = some ⟨g, o, none⟩ ∧ cv = cap := by simpa using hv
    clear hv
    have HG := Hid.mk (And.intro hlie (And.intro hg hgs))
    clear hlie hg hgs
    go_quiet (fail)
    have HGa : Hid (Gath F w (W.drewN nq) b c l _ _ n _) := Gath.of nq HB.out.len HZ.out (Nat.succ_pos 0) h1 HSZ.out HN.out hB3.out hf3.out (rd_behind HG.out.1 hc1 hc2 hFb HG.out.2.1 HG.out.2.2 hf3.out n1)
    generalize (if cv = n then some (⟨g, o, none⟩ : Addr) else some ⟨g, o + n, none⟩) = A at HGa ⊢
    generalize (1 + (n : Int) == (sz : Int)) = bb at HGa ⊢
    go_wp2_with fail
    go_ret2
    exact HFi.out _ _ ⟨_, _, n, _, rfl, HGa.out⟩


end Go.Proofs.Ytphkchjejbffeaa

/- The small calls of a bourse. -/
namespace Go.Proofs.Ytphkchjejbffeaa
open Go.RowKit
attribute [local go_sem ↓] Go.wp_at_zero Go.wp_at_succ

theorem gather_any (F : Nat → Prop) (b : Nat) (hFb : F b) (c : BC) (v : Value) (l : List UInt8) (w : World) (hB : IsB w b c) (hrd : Rd w F v l) (hh : c.have_ = 0 ∨ c.have_ < sizeOf (byteAt c.bytes 0)) :
    Calls Try.prog 28 #[.pointer (some ⟨b, 2, none⟩), v] w fun e w' => Gathers F w b c l e w' := by
  have hll : l.length ≤ 9223372036854775807 := by
    rcases hrd with ⟨-, rfl⟩ | ⟨g, o, cap, -, -, h1, h2, -⟩
    · simp
    · unfold maxLen at h2; omega
  by_cases h0 : c.have_ = 0
  · rcases l with _ | ⟨a, l⟩
    · exact gather_none F b c v w hB hrd h0
    · exact gather_first F b hFb c v a l w hB hrd h0 (by simpa using hll)
  · exact gather_more F b hFb c v l w hB hrd (by omega) (by omega) hll

set_option maxRecDepth 100000 in
set_option maxHeartbeats 1000000 in
theorem inbox_message (b : Nat) (c : BC) (w : World) (hB : IsB w b c) (hh : c.have_ ≤ 13) :
    Calls Try.prog 30 #[.pointer (some ⟨b, 2, none⟩)] w fun e w' => e = .returned (.slice (some ⟨b, 2, none⟩) c.have_ 13) ∧ IsB w' b { c with have_ := 0 } ∧ Fr (fun k => k = b) w w' := by
  have g15 : w.cell? ⟨b, 15, none⟩ = some (.int .i64 c.have_) := by rw [hB.cell]; exact (c.get hB.len).2.2.1
  have gf : w.frozen? ⟨b, 15, none⟩ = false := hB.frozen 15
  have HB : Hid (IsB (w.setCell ⟨b, 15, none⟩ (.int .i64 0)) b { c with have_ := 0 }) := hB.setH 0
  have hh1 : (c.have_ : Int) ≤ 13 := by omega
  generalize hcz : c.have_ = hz at *
  clear hcz hh hB
  go_enter Try.func30, Try.ntmps30
  go_wp2_with fail
  go_ret
  exact ⟨rfl, HB.out, Fr.setCell w ⟨b, 15, none⟩ _⟩

set_option maxHeartbeats 400000 in
theorem within_yes (n a z : Int) (w : World) (h1 : a ≤ n) (h2 : n ≤ z) : Calls Try.prog 46 #[.int .i64 n, .int .i64 a, .int .i64 z] w fun e w' => e = .returned (.bool true) ∧ w' = w := by
  go_enter Try.func46, Try.ntmps46
  go_wp2_with fail
  go_ret
  exact ⟨rfl, rfl⟩

theorem BC.setTime (c : BC) (h : c.bytes.length = 13) (n : Nat) : c.cells.setIfInBounds 1 (.int .u64 n) = { c with time := n }.cells := by
  obtain ⟨a1, a2, a3, a4, a5, a6, a7, a8, a9, a10, a11, a12, a13, e⟩ := bytes13 _ h
  unfold BC.cells
  simp only [e]
  rfl

theorem IsB.setTime {w : World} {b : Nat} {c : BC} (h : IsB w b c) (n : Nat) : IsB (w.setCell ⟨b, 1, none⟩ (.int .u64 n)) b { c with time := n } :=
  ⟨by rw [heap_setCell_same w b 1 _ _ _ h.blk, c.setTime h.len n], h.len⟩

set_option maxHeartbeats 400000 in
theorem handOver_any (b o : Nat) (v : Value) (w : World) (hc : w.cell? ⟨b, o, none⟩ = some v) (hf : w.frozen? ⟨b, o, none⟩ = false) (hs : ∃ a n k, v = .slice a n k) :
    Calls Try.prog 31 #[.pointer (some ⟨b, o, none⟩)] w fun e w' => e = .returned v ∧ w' = w.setCell ⟨b, o, none⟩ (.slice none 0 0) := by
  obtain ⟨a, n, k, rfl⟩ := hs
  go_enter Try.func31, Try.ntmps31
  go_wp2_with fail
  go_ret
  exact ⟨rfl, rfl⟩

set_option maxHeartbeats 400000 in
theorem answers_any (b : Nat) (c : BC) (w : World) (hB : IsB w b c) (hs : ∃ a n k, c.va = .slice a n k) :
    Calls Try.prog 15 #[.pointer (some ⟨b, 0, none⟩)] w fun e w' => e = .returned c.va ∧ IsB w' b { c with va := .slice none 0 0 } ∧ Fr (fun k => k = b) w w' := by
  have HH := Hid.mk (handOver_any b 20 c.va w (by rw [hB.cell]; exact (c.get hB.len).2.2.2.2.2.2.2.1) (hB.frozen 20) hs)
  have HB : Hid (IsB (w.setCell ⟨b, 20, none⟩ (.slice none 0 0)) b { c with va := .slice none 0 0 }) := hB.setA _
  have HF : Hid (Fr (fun k => k = b) w (w.setCell ⟨b, 20, none⟩ (.slice none 0 0))) := Fr.setCell w ⟨b, 20, none⟩ _
  clear hB
  go_enter Try.func15, Try.ntmps15
  go_wp2_with (go_at_call 31; refine HH.out.mono ?_; rintro e w' ⟨rfl, rfl⟩)
  go_ret
  exact ⟨rfl, HB.out, HF.out⟩

set_option maxHeartbeats 400000 in
theorem tape_any (b : Nat) (c : BC) (w : World) (hB : IsB w b c) (hs : ∃ a n k, c.vt = .slice a n k) :
    Calls Try.prog 20 #[.pointer (some ⟨b, 0, none⟩)] w fun e w' => e = .returned c.vt ∧ IsB w' b { c with vt := .slice none 0 0 } ∧ Fr (fun k => k = b) w w' := by
  have HH := Hid.mk (handOver_any b 21 c.vt w (by rw [hB.cell]; exact (c.get hB.len).2.2.2.2.2.2.2.2) (hB.frozen 21) hs)
  have HB : Hid (IsB (w.setCell ⟨b, 21, none⟩ (.slice none 0 0)) b { c with vt := .slice none 0 0 }) := hB.setT _
  have HF : Hid (Fr (fun k => k = b) w (w.setCell ⟨b, 21, none⟩ (.slice none 0 0))) := Fr.setCell w ⟨b, 21, none⟩ _
  clear hB
  go_enter Try.func20, Try.ntmps20
  go_wp2_with (go_at_call 31; refine HH.out.mono ?_; rintro e w' ⟨rfl, rfl⟩)
  go_ret
  exact ⟨rfl, HB.out, HF.out⟩

set_option maxHeartbeats 400000 in
theorem tick_any (b : Nat) (c : BC) (n : Nat) (w : World) (hB : IsB w b c) (hn : n ≤ 1000000) (ht : c.time < 281474976710656) :
    Calls Try.prog 34 #[.pointer (some ⟨b, 0, none⟩), .int .i64 n] w fun e w' => e = .returned (.int .i64 0) ∧ IsB w' b { c with time := (c.time + n) % 281474976710656 } ∧ Fr (fun k => k = b) w w' := by
  have HH := Hid.mk (within_yes n 0 1000000 w (by omega) (by omega))
  have g1 : w.cell? ⟨b, 1, none⟩ = some (.int .u64 c.time) := by rw [hB.cell]; exact (c.get hB.len).2.1
  have gf : w.frozen? ⟨b, 1, none⟩ = false := hB.frozen 1
  have HB := Hid.mk (hB.setTime ((c.time + n) % 281474976710656))
  have HF := Hid.mk (Fr.setCell w ⟨b, 1, none⟩ (.int .u64 ((c.time + n) % 281474976710656 : Nat)))
  clear hB
  have w1 : IntKind.u64.wrap (n : Int) = (n : Int) := by rw [IntKind.wrap_u64]; omega
  have w2 : IntKind.u64.wrap ((c.time : Int) + (n : Int)) = (c.time : Int) + (n : Int) := by rw [IntKind.wrap_u64]; omega
  go_enter Try.func34, Try.ntmps34
  go_wp2_with (go_at_call 46; refine HH.out.mono ?_; rintro e w' ⟨rfl, hw⟩; replace hw := hw.symm; subst hw)
  go_ret
  have e : (((c.time + n) % 281474976710656 : Nat) : Int) = ((c.time : Int) + (n : Int)) % 281474976710656 := by omega
  rw [← e]
  exact ⟨rfl, HB.out, HF.out⟩

end Go.Proofs.Ytphkchjejbffeaa

/- The books in memory: their block, and the small walks. -/
namespace Go.Proofs.Ytphkchjejbffeaa
open Go.RowKit
attribute [local go_sem ↓] Go.wp_at_zero Go.wp_at_succ

/-- What a Books' block holds. -/
structure KC where
  po : Nat
  n : Nat
  free : Nat
  taken : Nat
  levels : Nat
  pl : Nat
  stocks : Nat

def KC.cells (k : KC) : Array Value := #[.slice (some ⟨k.po, 0, none⟩) k.n k.n, .int .i64 k.free, .int .i64 k.taken, .int .i64 k.levels, .slice (some ⟨k.pl, 0, none⟩) k.stocks k.stocks]

structure IsK (w : World) (bk : Nat) (k : KC) : Prop where
  blk : w.heap[bk]? = some (.cells k.cells 124)

theorem IsK.cell {w : World} {b : Nat} {k : KC} (h : IsK w b k) (i : Nat) : w.cell? ⟨b, i, none⟩ = k.cells[i]? := cell_of_row w b i _ _ (0, 0) h.blk
theorem IsK.frozen {w : World} {b : Nat} {k : KC} (h : IsK w b k) (i : Nat) : w.frozen? ⟨b, i, none⟩ = false := by simp [World.frozen?, h.blk]
theorem IsK.lt {w : World} {b : Nat} {k : KC} (h : IsK w b k) : b < w.heap.size := (Array.getElem?_eq_some_iff.1 h.blk).1

set_option maxHeartbeats 400000 in
theorem resting_any (b : Nat) (k : KC) (w : World) (h : IsK w b k) : Calls Try.prog 32 #[.pointer (some ⟨b, 0, none⟩)] w fun e w' => e = .returned (.int .i64 k.taken) ∧ w' = w := by
  have g : w.cell? ⟨b, 2, none⟩ = some (.int .i64 k.taken) := h.cell 2
  clear h
  go_enter Try.func32, Try.ntmps32
  go_wp2_with fail
  go_ret
  exact ⟨rfl, rfl⟩

set_option maxHeartbeats 400000 in
theorem levels_any (b : Nat) (k : KC) (w : World) (h : IsK w b k) : Calls Try.prog 137 #[.pointer (some ⟨b, 0, none⟩)] w fun e w' => e = .returned (.int .i64 k.levels) ∧ w' = w := by
  have g : w.cell? ⟨b, 3, none⟩ = some (.int .i64 k.levels) := h.cell 3
  clear h
  go_enter Try.func137, Try.ntmps137
  go_wp2_with fail
  go_ret
  exact ⟨rfl, rfl⟩

set_option maxHeartbeats 400000 in
theorem stocks_any (b : Nat) (k : KC) (w : World) (h : IsK w b k) : Calls Try.prog 57 #[.pointer (some ⟨b, 0, none⟩)] w fun e w' => e = .returned (.int .i64 k.stocks) ∧ w' = w := by
  have g : w.cell? ⟨b, 4, none⟩ = some (.slice (some ⟨k.pl, 0, none⟩) k.stocks k.stocks) := h.cell 4
  clear h
  go_enter Try.func57, Try.ntmps57
  go_wp2_with fail
  go_ret
  exact ⟨rfl, rfl⟩

set_option maxHeartbeats 400000 in
theorem full_any (b : Nat) (k : KC) (w : World) (h : IsK w b k) : Calls Try.prog 114 #[.pointer (some ⟨b, 0, none⟩)] w fun e w' => e = .returned (.bool ((k.free : Int) == 0)) ∧ w' = w := by
  have g : w.cell? ⟨b, 1, none⟩ = some (.int .i64 k.free) := h.cell 1
  clear h
  go_enter Try.func114, Try.ntmps114
  go_wp2_with fail
  go_ret
  exact ⟨rfl, rfl⟩

set_option maxHeartbeats 400000 in
theorem line_buy (b : Nat) (k : KC) (s p ln : Nat) (w : World) (h : IsK w b k) (hs : s < k.stocks) (hp : 1 ≤ p) (hp2 : p ≤ k.levels) (hl : k.levels ≤ 1000) (hL : w.cell? ⟨k.pl, s * 2, none⟩ = some (.slice (some ⟨ln, 0, none⟩) k.levels k.levels)) :
    Calls Try.prog 89 #[.pointer (some ⟨b, 0, none⟩), .int .i64 s, .int .u8 66, .int .i64 p] w fun e w' => e = .returned (.pointer (some ⟨ln, (p - 1) * 2, none⟩)) ∧ w' = w := by
  have g : w.cell? ⟨b, 4, none⟩ = some (.slice (some ⟨k.pl, 0, none⟩) k.stocks k.stocks) := h.cell 4
  have i1 : (s : Int) < (k.stocks : Int) := by omega
  obtain ⟨q, rfl⟩ : ∃ q, p = q + 1 := ⟨p - 1, by omega⟩
  obtain ⟨z, hz⟩ : ∃ z : Int, z = ((q + 1 : Nat) : Int) := ⟨_, rfl⟩
  have hz1 : z - 1 = (q : Int) := by omega
  have i2 : (q : Int) < (k.levels : Int) := by omega
  rw [← hz, Nat.add_sub_cancel]
  have w1 : IntKind.i64.wrap (q : Int) = (q : Int) := by rw [IntKind.wrap_i64]; omega
  clear h hz hp hp2
  go_enter Try.func89, Try.ntmps89
  go_wp2_with fail
  go_ret
  exact ⟨rfl, rfl⟩

set_option maxHeartbeats 400000 in
theorem line_sell (b : Nat) (k : KC) (s p ln : Nat) (w : World) (h : IsK w b k) (hs : s < k.stocks) (hp : 1 ≤ p) (hp2 : p ≤ k.levels) (hl : k.levels ≤ 1000) (hL : w.cell? ⟨k.pl, s * 2 + 1, none⟩ = some (.slice (some ⟨ln, 0, none⟩) k.levels k.levels)) :
    Calls Try.prog 89 #[.pointer (some ⟨b, 0, none⟩), .int .i64 s, .int .u8 83, .int .i64 p] w fun e w' => e = .returned (.pointer (some ⟨ln, (p - 1) * 2, none⟩)) ∧ w' = w := by
  have g : w.cell? ⟨b, 4, none⟩ = some (.slice (some ⟨k.pl, 0, none⟩) k.stocks k.stocks) := h.cell 4
  have i1 : (s : Int) < (k.stocks : Int) := by omega
  obtain ⟨q, rfl⟩ : ∃ q, p = q + 1 := ⟨p - 1, by omega⟩
  obtain ⟨z, hz⟩ : ∃ z : Int, z = ((q + 1 : Nat) : Int) := ⟨_, rfl⟩
  have hz1 : z - 1 = (q : Int) := by omega
  have i2 : (q : Int) < (k.levels : Int) := by omega
  rw [← hz, Nat.add_sub_cancel]
  have w1 : IntKind.i64.wrap (q : Int) = (q : Int) := by rw [IntKind.wrap_i64]; omega
  clear h hz hp hp2
  go_enter Try.func89, Try.ntmps89
  go_wp2_with fail
  go_ret
  exact ⟨rfl, rfl⟩

theorem otherSide_any (d : UInt8) (w : World) (hd : d = 66 ∨ d = 83) : Calls Try.prog 126 #[.int .u8 d.toNat] w fun e w' => e = .returned (.int .u8 (other d).toNat) ∧ w' = w := by
  rcases hd with rfl | rfl
  · go_enter Try.func126, Try.ntmps126
    go_wp2
    go_ret
    exact ⟨rfl, rfl⟩
  · go_enter Try.func126, Try.ntmps126
    go_wp2
    go_ret
    exact ⟨rfl, rfl⟩

set_option maxHeartbeats 400000 in
theorem ranked_any (b : Nat) (k : KC) (d : UInt8) (r : Nat) (w : World) (h : IsK w b k) (hd : d = 66 ∨ d = 83) (hr : r < k.levels) (hl : k.levels ≤ 1000) :
    Calls Try.prog 90 #[.pointer (some ⟨b, 0, none⟩), .int .u8 d.toNat, .int .i64 r] w fun e w' => e = .returned (.int .i64 ((if d = 66 then k.levels - r else r + 1 : Nat) : Int)) ∧ w' = w := by
  have g : w.cell? ⟨b, 3, none⟩ = some (.int .i64 k.levels) := h.cell 3
  have w1 : IntKind.i64.wrap ((k.levels : Int) - (r : Int)) = (k.levels : Int) - (r : Int) := by rw [IntKind.wrap_i64]; omega
  have w2 : IntKind.i64.wrap ((r : Int) + 1) = (r : Int) + 1 := by rw [IntKind.wrap_i64]; omega
  have HE : Hid (((k.levels - r : Nat) : Int) = (k.levels : Int) - (r : Int)) := by show _ = _; omega
  clear h
  rcases hd with rfl | rfl
  · go_enter Try.func90, Try.ntmps90
    go_wp2_with fail
    go_ret
    exact ⟨by rw [HE.out]; rfl, rfl⟩
  · go_enter Try.func90, Try.ntmps90
    go_wp2_with fail
    go_ret
    exact ⟨rfl, rfl⟩

end Go.Proofs.Ytphkchjejbffeaa

/- Orders in their pool: rows of cells, and the walks of links. -/
namespace Go.Proofs.Ytphkchjejbffeaa
open Go.RowKit
attribute [local go_sem ↓] Go.wp_at_zero Go.wp_at_succ

/-- n records of m cells each. -/
def rowOf (n m : Nat) (f : Nat → Nat → Value) : Array Value := Array.ofFn (n := n * m) fun i => f (i / m) (i % m)
theorem rowOf_size (n m : Nat) (f : Nat → Nat → Value) : (rowOf n m f).size = n * m := by simp [rowOf]
theorem rowOf_get (n m : Nat) (f : Nat → Nat → Value) (i j : Nat) (hi : i < n) (hj : j < m) : (rowOf n m f)[i * m + j]? = some (f i j) := by
  have hlt : i * m + j < n * m := by
    have : (i + 1) * m ≤ n * m := Nat.mul_le_mul_right m hi
    rw [Nat.add_mul, Nat.one_mul] at this
    omega
  have h1 : (i * m + j) / m = i := by
    rw [Nat.add_comm, Nat.add_mul_div_right _ _ (by omega), Nat.div_eq_of_lt hj, Nat.zero_add]
  have h2 : (i * m + j) % m = j := by
    rw [Nat.add_comm, Nat.add_mul_mod_self_right, Nat.mod_eq_of_lt hj]
  simp [rowOf, hlt, h1, h2]
theorem rowOf_set (n m : Nat) (f : Nat → Nat → Value) (i j : Nat) (hj : j < m) (v : Value) :
    (rowOf n m f).setIfInBounds (i * m + j) v = rowOf n m (fun a b => if a = i ∧ b = j then v else f a b) := by
  apply Array.ext
  · simp [rowOf]
  · intro x h1 h2
    rw [Array.getElem_setIfInBounds (by simpa [rowOf] using h2)]
    simp only [rowOf, Array.getElem_ofFn]
    have hd := Nat.div_add_mod x m
    by_cases hx : i * m + j = x
    · subst hx
      have e1 : (i * m + j) / m = i := by
        rw [Nat.add_comm, Nat.add_mul_div_right _ _ (by omega), Nat.div_eq_of_lt hj, Nat.zero_add]
      have e2 : (i * m + j) % m = j := by
        rw [Nat.add_comm, Nat.add_mul_mod_self_right, Nat.mod_eq_of_lt hj]
      simp [e1, e2]
    · rw [if_neg hx, if_neg]
      rintro ⟨rfl, rfl⟩
      exact hx (by rw [Nat.mul_comm]; exact hd)

set_option maxHeartbeats 400000 in
theorem behind_any (g o n : Nat) (w : World) (h : w.cell? ⟨g, o + 1, none⟩ = some (.int .i64 n)) :
    Calls Try.prog 91 #[.pointer (some ⟨g, o, none⟩)] w fun e w' => e = .returned (.int .i64 n) ∧ w' = w := by
  go_enter Try.func91, Try.ntmps91
  go_wp2_with fail
  go_ret
  exact ⟨rfl, rfl⟩
set_option maxHeartbeats 400000 in
theorem ahead_any (g o n : Nat) (w : World) (h : w.cell? ⟨g, o, none⟩ = some (.int .i64 n)) :
    Calls Try.prog 150 #[.pointer (some ⟨g, o, none⟩)] w fun e w' => e = .returned (.int .i64 n) ∧ w' = w := by
  go_enter Try.func150, Try.ntmps150
  go_wp2_with fail
  go_ret
  exact ⟨rfl, rfl⟩
set_option maxHeartbeats 400000 in
theorem setBehind_any (g o n : Nat) (u : Value) (w : World) (h : w.cell? ⟨g, o + 1, none⟩ = some u) (hf : w.frozen? ⟨g, o + 1, none⟩ = false) :
    Calls Try.prog 108 #[.pointer (some ⟨g, o, none⟩), .int .i64 n] w fun e w' => e = .returned (.tuple #[]) ∧ w' = w.setCell ⟨g, o + 1, none⟩ (.int .i64 n) := by
  go_enter Try.func108, Try.ntmps108
  go_wp2_with fail
  go_end0
  exact ⟨rfl, rfl⟩
set_option maxHeartbeats 400000 in
theorem setAhead_any (g o n : Nat) (u : Value) (w : World) (h : w.cell? ⟨g, o, none⟩ = some u) (hf : w.frozen? ⟨g, o, none⟩ = false) :
    Calls Try.prog 149 #[.pointer (some ⟨g, o, none⟩), .int .i64 n] w fun e w' => e = .returned (.tuple #[]) ∧ w' = w.setCell ⟨g, o, none⟩ (.int .i64 n) := by
  go_enter Try.func149, Try.ntmps149
  go_wp2_with fail
  go_end0
  exact ⟨rfl, rfl⟩

end Go.Proofs.Ytphkchjejbffeaa
