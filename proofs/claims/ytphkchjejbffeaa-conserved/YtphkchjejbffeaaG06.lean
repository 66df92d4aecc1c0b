/- The walk of boursekeep's read. -/
import Derived.Test.YtphkchjejbffeaaG05
import Derived.RegionTactic
import Derived.Orders
namespace Go.Proofs.Ytphkchjejbffeaa
open Go.RowKit
attribute [local go_sem ↓] Go.wp_at_zero Go.wp_at_succ

/-- What is true of the list while answers are read. -/
structure Fine (k : Nat) (l : List Hl) : Prop where
  nd : (l.map (·.token)).Nodup
  left : ∀ h ∈ l, h.left ≤ 65535
  len : 22 * l.length ≤ k
  tok : ∀ h ∈ l, h.token < 4294967296

theorem Fine.step {k : Nat} {m : List UInt8} {l l' : List Hl} (h : Fine k l) (s : RdStep m l l') : Fine (k + m.length) l' := by
  cases s with
  | acc t6 tok side stock price shares kind ref l h6 h1 h2 h3 =>
    refine ⟨?_, ?_, ?_, ?_⟩
    · rw [List.map_append, List.nodup_append]
      refine ⟨h.nd, by simp, ?_⟩
      intro a ha b hb e
      simp at hb
      obtain ⟨y, hy, rfl⟩ := List.mem_map.1 ha
      exact h3 y hy (by rw [e, hb])
    · intro y hy
      rcases List.mem_append.1 hy with hy | hy
      · exact h.left y hy
      · simp at hy; subst hy; show shares ≤ 65535; omega
    · have := h.len
      simp [enc_length, h6]
      omega
    · intro y hy
      rcases List.mem_append.1 hy with hy | hy
      · exact h.tok y hy
      · simp at hy; subst hy; exact h1
  | rep t6 new old price shares ref l x h6 h1 h2 h3 h4 h5 h7 h8 h9 =>
    refine ⟨?_, ?_, ?_, ?_⟩
    · rw [List.map_append, done_tokens, List.nodup_append]
      refine ⟨h.nd, by simp, ?_⟩
      intro a ha b hb e
      simp at hb
      obtain ⟨y, hy, rfl⟩ := List.mem_map.1 ha
      exact h3 y hy (by rw [e, hb])
    · intro y hy
      rcases List.mem_append.1 hy with hy | hy
      · obtain ⟨a, ha, e⟩ := mem_done.1 hy
        have := h.left a ha
        rw [e]; split <;> exact this
      · simp at hy; subst hy; show shares ≤ 65535; omega
    · have := h.len
      simp [enc_length, h6, doneAt]
      omega
    · intro y hy
      rcases List.mem_append.1 hy with hy | hy
      · obtain ⟨a, ha, e⟩ := mem_done.1 hy
        have := h.tok a ha
        rw [e]; split <;> exact this
      · simp at hy; subst hy; exact h1
  | can t6 tok n r l x h6 h1 h2 h4 h5 h7 =>
    refine ⟨by rw [less_tokens]; exact h.nd, ?_, ?_, ?_⟩
    · intro y hy
      obtain ⟨a, ha, e⟩ := mem_less.1 hy
      have := h.left a ha
      rw [e]; split
      · show a.left - n ≤ 65535; omega
      · exact this
    · have := h.len
      simp [lessAt]
      omega
    · intro y hy
      obtain ⟨a, ha, e⟩ := mem_less.1 hy
      have := h.tok a ha
      rw [e]; split <;> exact this
  | rej t6 tok r l h6 h1 => exact ⟨h.nd, h.left, Nat.le_trans h.len (Nat.le_add_right _ _), h.tok⟩
  | fil t6 a b n p m l x y h6 h1 h2 h3 h0 h4 h5 h7 h8 h9 h10 h11 h12 =>
    refine ⟨by rw [less_tokens, less_tokens]; exact h.nd, ?_, ?_, ?_⟩
    · intro y hy
      obtain ⟨c, hc, e⟩ := mem_less.1 hy
      obtain ⟨d, hd, e'⟩ := mem_less.1 hc
      have := h.left d hd
      rw [e, e']
      split <;> split <;> (first | (simp only [Hl.less]; omega) | omega)
    · have := h.len
      simp [lessAt]
      omega
    · intro y hy
      obtain ⟨c, hc, e⟩ := mem_less.1 hy
      obtain ⟨d, hd, e'⟩ := mem_less.1 hc
      have := h.tok d hd
      rw [e, e']
      split <;> split <;> exact this

theorem list6 {α : Type} (l : List α) (h : l.length = 6) : ∃ a b c d e f, l = [a, b, c, d, e, f] := by
  match l, h with
  | [a, b, c, d, e, f], _ => exact ⟨a, b, c, d, e, f, rfl⟩

theorem Try.infoHeld : (Try.prog.info? 57).map (fun i => (i.zero, i.size, i.bytes)) = some (some (.agg #[.int .i64 0, .int .i64 0, .int .u8 0, .bool false]), 4, 24) := by kernel_rfl

theorem hs_frozen {w : World} {base g len cap : Nat} {l : List Hl} (h : HsAt w base (.slice (some ⟨g, 0, none⟩) len cap) l) (j : Nat) : w.frozen? ⟨g, j, none⟩ = false := by
  rcases h.2 with ⟨h1, -⟩ | ⟨g', cap', cur, h1, h2, h3, -⟩
  · simp at h1
  · simp only [Value.slice.injEq, Option.some.injEq, Addr.mk.injEq] at h1
    obtain ⟨⟨rfl, -, -⟩, -⟩ := h1
    simp [World.frozen?, h3]

theorem und_held : Try.prog.underlying 53 = some (.slice 57) := by kernel_rfl

theorem step_append_row {w : World} {ops : Array Oper} {o : Oper} {a : Go.Act} {K : Go.Act → World → Prop} {Q : Exit → Go.Act → World → Prop} {E : Prop} (hgd : o.guard = none) (s x : Operand) (t : TypeId)
    (ho : o.op = .call { callee := .builtin .append, args := #[s, x], argTypes := #[t, t] })
    (base : Nat) (e : TypeId) (i : TypeInfo) (z : Value) (size bytes : Nat) (ht : Try.prog.underlying t = some (.slice e)) (hi : Try.prog.info? e = some i) (hz : i.zero = some z)
    (hsize : i.size = size) (hby : i.bytes = bytes) (hzs : z.cells.size = size) (hsz : 0 < size)
    (vo : Value) (n : Nat) (xs : List Value) (hs : a.eval s = vo) (hown : w.ownsRow base e size vo n xs) (ad : Addr) (m c : Nat) (ys : List Value) (hx : a.eval x = .slice (some ad) m c) (hl : ys.length = m * size) (hy : ∀ j u, ys[j]? = some u → w.cell? (ad.add j) = some u) (h1 : ∀ u ∈ ys, u.oneCell' = true)
    (h63 : n + m ≤ maxLen) (hbytes : (n + m) * bytes ≤ 140737488355328) (hbase : base ≤ w.heap.size)
    (h : ∀ ra cap w', Hid (w'.ownsRow base e size (.slice ra (n + m) cap) (n + m) (xs ++ ys)) → Hid (w.grownBy w' vo.ownBlock) → K (a.put o.dst (.slice ra (n + m) cap)) w') :
    if Region.wanted o (yielded ops a.tmps) = true then Oper.wp Try.prog o a w K Q else E := by
  have hw : Region.wanted o (yielded ops a.tmps) = true := by simp [Region.wanted, hgd]
  rw [if_pos hw]
  obtain ⟨v', w', hr, h2, h3, h4, h5⟩ := run_append_own_at (P := Try.prog) w base t o.type e i z size bytes ht hi hz hsize hby hzs hsz vo n xs hown ad m c ys hl hy h1 h63 hbytes hbase
  obtain ⟨ra, cap, rfl, _, _⟩ := ownsRow_len h2
  unfold Oper.wp execOp
  simp only [ho, resolve, invoke, builtin, Sem.run_bind, Sem.run_pure, Result.andThen_ok, List.map_toArray, List.map_cons, List.map_nil, hs, hx, hr]
  exact h ra cap w' h2 h3

/-- What is appended to leaves what was there as it was. -/
theorem run_append_keep {w : World} {base g n cap : Nat} {t ty e : TypeId} {i : TypeInfo} {z : Value} {size bytes : Nat} (ht : Try.prog.underlying t = some (.slice e)) (hi : Try.prog.info? e = some i) (hz : i.zero = some z)
    (hsize : i.size = size) (hby : i.bytes = bytes) (hzs : z.cells.size = size) (hsz : 0 < size) {xs : List Value} (hown : w.ownsRow base e size (.slice (some ⟨g, 0, none⟩) n cap) n xs)
    {ad : Addr} {m c : Nat} {ys : List Value} (hl : ys.length = m * size) (hy : ∀ j u, ys[j]? = some u → w.cell? (ad.add j) = some u) (h1 : ∀ u ∈ ys, u.oneCell' = true)
    (h63 : n + m ≤ maxLen) (hbytes : (n + m) * bytes ≤ 140737488355328) (hbase : base ≤ w.heap.size) :
    ∃ v' w', (Builtin.append_ #[t, t] ty #[.slice (some ⟨g, 0, none⟩) n cap, .slice (some ad) m c]).run Try.prog w = .ok v' w' ∧ w'.ownsRow base e size v' (n + m) (xs ++ ys) ∧ w.grownBy w' (some g) ∧ ∀ j u, xs[j]? = some u → w'.cell? ⟨g, j, none⟩ = some u := by
  obtain ⟨v', w', hr, h2, h3, h4, h5⟩ := run_append_own_at (P := Try.prog) w base t ty e i z size bytes ht hi hz hsize hby hzs hsz _ n xs hown ad m c ys hl hy h1 h63 hbytes hbase
  refine ⟨v', w', hr, h2, h3, ?_⟩
  rcases hown.2 with ⟨h, -⟩ | ⟨g', cap', cur, h, hbg, hg, hnc, hcm, hcs, htake⟩
  · simp at h
  · simp only [Value.slice.injEq, Option.some.injEq, Addr.mk.injEq, and_true, true_and] at h
    obtain ⟨rfl, rfl⟩ := h
    intro j u hu
    by_cases hroom : n + m ≤ cap
    · have hfit : n * i.size + ys.length ≤ cur.size := by rw [hl, hcs, hsize, ← Nat.add_mul]; exact Nat.mul_le_mul_right _ hroom
      have hr2 := run_append_room (P := Try.prog) w t ty e i ht hi g n cap cur hg ad m c ys (by rw [hsize]; exact hl) hy h1 hroom hfit
      rw [hr] at hr2
      obtain ⟨e1, e2⟩ := Result.ok.inj hr2
      have := h2.cells (g := g) (by rw [e1]; rfl) j u (by rw [List.getElem?_append_left (List.getElem?_eq_some_iff.1 hu).1]; exact hu)
      rwa [Addr.add_lit, Nat.zero_add] at this
    · have holds : ∀ j u, xs[j]? = some u → w.cell? ((⟨g, 0, none⟩ : Addr).add j) = some u := hown.cells (g := g) rfl
      have hr2 := run_append_grow (P := Try.prog) w t ty e i z ht hi hz ⟨g, 0, none⟩ n cap xs (by rw [hsize]; exact hown.1) holds ad m c ys (by rw [hsize]; exact hl) hy (by omega) (by unfold maxLen at h63; omega) (growslice_fits (by omega) (by rw [hby]; exact hbytes))
      rw [hr] at hr2
      obtain ⟨e1, e2⟩ := Result.ok.inj hr2
      have hc := holds j u hu
      rw [Addr.add_lit, Nat.zero_add] at hc
      rw [← hc, e2]
      have hgl : g < w.heap.size := (Array.getElem?_eq_some_iff.1 hg).1
      exact World.cell?_of_block (a := ⟨g, j, none⟩) (by show (w.drew.alloc _).heap[g]? = _; rw [heap_alloc, if_neg (by show g ≠ w.heap.size; omega)]; rfl)

theorem step_append_keep {w : World} {ops : Array Oper} {o : Oper} {a : Go.Act} {K : Go.Act → World → Prop} {Q : Exit → Go.Act → World → Prop} {E : Prop} (hgd : o.guard = none) (s x : Operand) (t : TypeId)
    (ho : o.op = .call { callee := .builtin .append, args := #[s, x], argTypes := #[t, t] })
    (base : Nat) (e : TypeId) (i : TypeInfo) (z : Value) (size bytes : Nat) (ht : Try.prog.underlying t = some (.slice e)) (hi : Try.prog.info? e = some i) (hz : i.zero = some z)
    (hsize : i.size = size) (hby : i.bytes = bytes) (hzs : z.cells.size = size) (hsz : 0 < size)
    (g n cap : Nat) (xs : List Value) (hs : a.eval s = .slice (some ⟨g, 0, none⟩) n cap) (hown : w.ownsRow base e size (.slice (some ⟨g, 0, none⟩) n cap) n xs) (ad : Addr) (m c : Nat) (ys : List Value) (hx : a.eval x = .slice (some ad) m c) (hl : ys.length = m * size) (hy : ∀ j u, ys[j]? = some u → w.cell? (ad.add j) = some u) (h1 : ∀ u ∈ ys, u.oneCell' = true)
    (h63 : n + m ≤ maxLen) (hbytes : (n + m) * bytes ≤ 140737488355328) (hbase : base ≤ w.heap.size)
    (h : ∀ ra cap' w', Hid (w'.ownsRow base e size (.slice ra (n + m) cap') (n + m) (xs ++ ys)) → Hid (w.grownBy w' (some g) ∧ ∀ j u, xs[j]? = some u → w'.cell? ⟨g, j, none⟩ = some u) → K (a.put o.dst (.slice ra (n + m) cap')) w') :
    if Region.wanted o (yielded ops a.tmps) = true then Oper.wp Try.prog o a w K Q else E := by
  have hw : Region.wanted o (yielded ops a.tmps) = true := by simp [Region.wanted, hgd]
  rw [if_pos hw]
  obtain ⟨v', w', hr, h2, h3, h4⟩ := run_append_keep (ty := o.type) (c := c) ht hi hz hsize hby hzs hsz hown hl hy h1 h63 hbytes hbase
  obtain ⟨ra, cap', rfl, _, _⟩ := ownsRow_len h2
  unfold Oper.wp execOp
  simp only [ho, resolve, invoke, builtin, Sem.run_bind, Sem.run_pure, Result.andThen_ok, List.map_toArray, List.map_cons, List.map_nil, hs, hx, hr]
  exact h ra cap' w' h2 ⟨h3, h4⟩

/-- The number in some bytes of a message. -/
theorem val_part {w : World} {g o : Nat} {M : List UInt8} (h : Lies w g o M) : ∀ j n cap, j + n ≤ M.length → n ≤ 7 →
    Calls Try.prog 16 #[.slice (some ⟨g, o + j, none⟩) n cap] w fun e w' => e = .returned (.int .i64 (num ((M.drop j).take n) 0 : Nat)) ∧ w' = w := by
  intro j n cap h1 h2
  have hl : ((M.drop j).take n).length = n := by rw [List.length_take, List.length_drop]; omega
  have := val_any g (o + j) cap ((M.drop j).take n) w (by omega) ((h.drop j).take n)
  rw [hl] at this
  exact this

theorem rdRow_held (W : World) (h : Hl) : ∀ j u, h.cells[j]? = some u → (W.alloc (.cells h.cells.toArray 57)).cell? ((⟨W.heap.size, 0, none⟩ : Addr).add j) = some u := by
  intro j u hu
  rw [Addr.add_lit, Nat.zero_add, cell_of_row _ W.heap.size j _ 57 (0, 0) (by rw [heap_alloc, if_pos rfl])]
  simpa using hu

def accMsg (t6 : List UInt8) (tok : Nat) (side stock : UInt8) (price shares : Nat) (kind : UInt8) (ref : Nat) : List UInt8 := 65 :: t6 ++ enc tok 4 ++ [side, stock] ++ enc price 2 ++ enc shares 2 ++ [kind] ++ enc ref 4
theorem acc_read (t6 : List UInt8) (tok : Nat) (side stock : UInt8) (price shares : Nat) (kind : UInt8) (ref : Nat) (h6 : t6.length = 6) (h1 : tok < 4294967296) (h2 : shares < 65536) :
    (accMsg t6 tok side stock price shares kind ref).length = 22 ∧ (accMsg t6 tok side stock price shares kind ref)[0]? = some 65 ∧ (accMsg t6 tok side stock price shares kind ref)[11]? = some side ∧
    num (((accMsg t6 tok side stock price shares kind ref).drop 7).take 4) 0 = tok ∧ num (((accMsg t6 tok side stock price shares kind ref).drop 15).take 2) 0 = shares := by
  obtain ⟨a, b, c, d, e, f, rfl⟩ := list6 t6 h6
  refine ⟨by simp [accMsg, enc_length], rfl, rfl, ?_, ?_⟩
  · have : ((accMsg [a, b, c, d, e, f] tok side stock price shares kind ref).drop 7).take 4 = enc tok 4 := rfl
    rw [this, num_enc]; exact Nat.mod_eq_of_lt (by omega)
  · have : ((accMsg [a, b, c, d, e, f] tok side stock price shares kind ref).drop 15).take 2 = enc shares 2 := rfl
    rw [this, num_enc]; exact Nat.mod_eq_of_lt (by omega)

def rejMsg (t6 : List UInt8) (tok : Nat) (r : UInt8) : List UInt8 := 74 :: t6 ++ enc tok 4 ++ [r]
theorem rej_read (t6 : List UInt8) (tok : Nat) (r : UInt8) (h6 : t6.length = 6) (h1 : tok < 4294967296) :
    (rejMsg t6 tok r).length = 12 ∧ (rejMsg t6 tok r)[0]? = some 74 ∧ num (((rejMsg t6 tok r).drop 7).take 4) 0 = tok := by
  obtain ⟨a, b, c, d, e, f, rfl⟩ := list6 t6 h6
  refine ⟨by simp [rejMsg, enc_length], rfl, ?_⟩
  have : ((rejMsg [a, b, c, d, e, f] tok r).drop 7).take 4 = enc tok 4 := rfl
  rw [this, num_enc]; exact Nat.mod_eq_of_lt (by omega)
def canMsg (t6 : List UInt8) (tok n : Nat) (r : UInt8) : List UInt8 := 88 :: t6 ++ enc tok 4 ++ enc n 2 ++ [r]
theorem can_read (t6 : List UInt8) (tok n : Nat) (r : UInt8) (h6 : t6.length = 6) (h1 : tok < 4294967296) (h2 : n < 65536) :
    (canMsg t6 tok n r).length = 14 ∧ (canMsg t6 tok n r)[0]? = some 88 ∧ num (((canMsg t6 tok n r).drop 7).take 4) 0 = tok ∧ num (((canMsg t6 tok n r).drop 11).take 2) 0 = n := by
  obtain ⟨a, b, c, d, e, f, rfl⟩ := list6 t6 h6
  refine ⟨by simp [canMsg, enc_length], rfl, ?_, ?_⟩
  · have : ((canMsg [a, b, c, d, e, f] tok n r).drop 7).take 4 = enc tok 4 := rfl
    rw [this, num_enc]; exact Nat.mod_eq_of_lt (by omega)
  · have : ((canMsg [a, b, c, d, e, f] tok n r).drop 11).take 2 = enc n 2 := rfl
    rw [this, num_enc]; exact Nat.mod_eq_of_lt (by omega)
def repMsg (t6 : List UInt8) (new old price shares ref : Nat) : List UInt8 := 85 :: t6 ++ enc new 4 ++ enc price 2 ++ enc shares 2 ++ enc ref 4 ++ enc old 4
theorem rep_read (t6 : List UInt8) (new old price shares ref : Nat) (h6 : t6.length = 6) (h1 : new < 4294967296) (h9 : old < 4294967296) (h2 : shares < 65536) :
    (repMsg t6 new old price shares ref).length = 23 ∧ (repMsg t6 new old price shares ref)[0]? = some 85 ∧ num (((repMsg t6 new old price shares ref).drop 7).take 4) 0 = new ∧
    num (((repMsg t6 new old price shares ref).drop 13).take 2) 0 = shares ∧ num (((repMsg t6 new old price shares ref).drop 19).take 4) 0 = old := by
  obtain ⟨a, b, c, d, e, f, rfl⟩ := list6 t6 h6
  refine ⟨by simp [repMsg, enc_length], rfl, ?_, ?_, ?_⟩
  · have : ((repMsg [a, b, c, d, e, f] new old price shares ref).drop 7).take 4 = enc new 4 := rfl
    rw [this, num_enc]; exact Nat.mod_eq_of_lt (by omega)
  · have : ((repMsg [a, b, c, d, e, f] new old price shares ref).drop 13).take 2 = enc shares 2 := rfl
    rw [this, num_enc]; exact Nat.mod_eq_of_lt (by omega)
  · have : ((repMsg [a, b, c, d, e, f] new old price shares ref).drop 19).take 4 = enc old 4 := rfl
    rw [this, num_enc]; exact Nat.mod_eq_of_lt (by omega)
theorem fil_num (t6 : List UInt8) (a b n p m : Nat) (h6 : t6.length = 6) (h1 : a < 4294967296) : (filMsg t6 a b n p m).length = 38 ∧ (filMsg t6 a b n p m)[0]? = some 70 ∧ num (((filMsg t6 a b n p m).drop 7).take 4) 0 = a := by
  obtain ⟨a1, b1, c1, d1, e1, f1, rfl⟩ := list6 t6 h6
  refine ⟨by simp [filMsg, enc_length], rfl, ?_⟩
  have : ((filMsg [a1, b1, c1, d1, e1, f1] a b n p m).drop 7).take 4 = enc a 4 := rfl
  rw [this, num_enc]; exact Nat.mod_eq_of_lt (by omega)

set_option maxRecDepth 100000 in
set_option maxHeartbeats 4000000 in
theorem read_any (w : World) (gb ob cb : Nat) (out : List UInt8) (lf : List Hl) (hl : Lies w gb ob out) (hg : gb < w.heap.size) (hcb : out.length ≤ cb) (hcm : cb ≤ 9223372036854775807) (hrd : Reads out [] lf) (hout : out.length ≤ 70368744177664) :
    Calls Try.prog 23 #[.slice (some ⟨gb, ob, none⟩) out.length cb] w fun e w' => ∃ v, e = .returned (.tuple #[v, .bool true]) ∧ HsAt w' w.heap.size v lf ∧ Below w.heap.size w w' := by
  obtain ⟨i0, hi, hz0, hz1, hz2⟩ := info_parts Try.infoHeld
  have HI := Hid.mk (And.intro hi (And.intro hz0 (And.intro hz1 hz2)))
  clear hi hz0 hz1 hz2
  have HL := Hid.mk (And.intro hl hg)
  have HRD := Hid.mk hrd
  have hol : (out.length : Int) ≤ 70368744177664 := by omega
  have hoc : (out.length : Int) ≤ (cb : Int) := by omega
  have hcb2 : (cb : Int) ≤ 9223372036854775807 := by omega
  obtain ⟨ol, hol2⟩ : ∃ ol, out.length = ol := ⟨_, rfl⟩
  rw [hol2] at hol hoc ⊢
  have HOL := Hid.mk hol2
  clear hl hg hrd hcb hcm hout hol2
  go_enter Try.func23, Try.ntmps23
  go_wp2_with fail
  go_loopw [4, 5] (fun lv at_ wr => ∃ (k : Nat) (ls : List Hl), at_ = .int .i64 k ∧ k ≤ ol ∧ Hid (Reads (out.drop k) ls lf ∧ HsAt wr w.heap.size lv ls ∧ Fine k ls ∧ Below w.heap.size w wr)) (fun _ at_ _ => ol - (intOf at_).toNat)
  case atStart => exact ⟨0, [], rfl, Nat.zero_le _, ⟨HRD.out, World.ownsRow_nil _ _ _ _, ⟨List.nodup_nil, fun _ h => (by cases h), Nat.le_refl _, fun _ h => (by cases h)⟩, Below.refl _ _⟩⟩
  case round =>
    obtain ⟨k, ls, rfl, hk, HR⟩ := hrel
    clear HRD
    have hcase : (k = ol ∧ ls = lf) ∨ ∃ m r l', out.drop k = m ++ r ∧ RdStep m ls l' ∧ Reads r l' lf := by
      have h := HR.out.1
      generalize hD : out.drop k = D at h
      cases h with
      | nil l => 
        refine .inl ⟨?_, rfl⟩
        have := congrArg List.length hD
        rw [List.length_drop, HOL.out] at this
        simp at this
        omega
      | cons m r l l' l'' h1 h2 => exact .inr ⟨m, r, l', rfl, h1, h2⟩
    obtain ⟨rl, cl, rfl, hcl1, hcl2, -⟩ := HR.out.2.1.form
    rcases hcase with ⟨rfl, rfl⟩ | ⟨m, r, l', hD, hst, hrr⟩
    · go_wp2_with fail
      go_ret2
      exact ⟨_, rfl, HR.out.2.1, HR.out.2.2.2⟩
    · have hfin := HR.out.2.2.1.step hst
      have hlM : k + m.length ≤ ol := by
        have := congrArg List.length hD
        rw [List.length_drop, List.length_append, HOL.out] at this
        omega
      have hdr : out.drop (k + m.length) = r := by rw [← List.drop_drop, hD, List.drop_left]
      have hM : Lies wr gb (ob + k) m := by
        have := HL.out.1.drop k
        rw [hD] at this
        exact ((lies_app this).1).keep (HR.out.2.2.2.block gb HL.out.2)
      have HST := Hid.mk (And.intro hfin (And.intro hdr hrr))
      have i1 : (0 : Int) ≤ (k : Int) := by omega
      have hlen := HR.out.2.2.1.len
      clear hD hfin hdr hrr
      cases hst with
      | acc t6 tok side stock price shares kind ref l h6 h1 h2 h3 =>
        obtain ⟨m1, m2, m3, m4, m5⟩ := acc_read t6 tok side stock price shares kind ref h6 h1 h2
        change Lies wr gb (ob + k) (accMsg t6 tok side stock price shares kind ref) at hM
        change Hid (Fine (k + (accMsg t6 tok side stock price shares kind ref).length) _ ∧ out.drop (k + (accMsg t6 tok side stock price shares kind ref).length) = r ∧ _) at HST
        change k + (accMsg t6 tok side stock price shares kind ref).length ≤ ol at hlM
        rw [m1] at HST hlM
        generalize accMsg t6 tok side stock price shares kind ref = M at *
        have c0 := hM 0 65 m2
        have c11 := hM 11 side m3
        have HV := Hid.mk (fun (W : World) (h : W.heap[gb]? = wr.heap[gb]?) => val_part (hM.keep h))
        have HM := Hid.mk (And.intro m1 (And.intro m4 m5))
        have HN : Hid (heldAt ls tok = -1) := heldAt_none h3
        have i2 : (k : Int) + 22 ≤ (ol : Int) := by omega
        have i3 : (k : Int) < (ol : Int) := by omega
        have n4 : ¬ cb = k := by omega
        clear hM m1 m2 m3 m4 m5 h3
        simp only [B, Nat.add_zero] at c0 c11
        obtain ⟨cm, hcm⟩ : ∃ cm, cb - k = cm := ⟨_, rfl⟩
        have i4 : (22 : Int) ≤ (cm : Int) := by omega
        have i5 : (cm : Int) ≤ 9223372036854775807 := by omega
        obtain ⟨om, hom⟩ : ∃ om, ob + k = om := ⟨_, rfl⟩
        rw [hom] at c0 c11 HV
        go_wp2_with fail
        try rw [show k + 22 - k = 22 by omega]
        clear hcm hom
        refine (HV.out wr rfl 7 4 _ (by rw [HM.out.1]; omega) (by omega)).mono ?_
        rintro e w' ⟨rfl, hw⟩
        replace hw := hw.symm
        subst hw
        rw [HM.out.2.1]
        go_wp2_with fail
        refine (held_any wr w.heap.size _ ls tok HR.out.2.1).mono ?_
        rintro e w' ⟨rfl, hw⟩
        replace hw := hw.symm
        subst hw
        rw [HN.out]
        go_wp2_with fail
        have HOA : Hid (∀ Ob : Obj, ((wr.alloc Ob).drew).ownsRow w.heap.size 57 4 (.slice rl ls.length cl) ls.length (ls.flatMap Hl.cells)) := fun Ob => ownsRow_keep HR.out.2.1 (fun g hg => by
          show (wr.alloc Ob).heap[g]? = _
          rw [heap_alloc, if_neg (by have := (HR.out.2.1.lt g hg).2; omega)])
        have hbs := HR.out.2.2.2.size
        have s1 : (11 : Int) ≤ (cm : Int) := by omega
        have s2 : (17 : Int) ≤ (cm : Int) := by omega
        have s3 : ¬ cm = 7 := by omega
        have s4 : ¬ cm = 15 := by omega
        have HQ : Hid (∀ (Ob : Obj) (w3 : World), ((wr.alloc Ob).drew).grownBy w3 (Value.ownBlock (.slice rl ls.length cl)) → Below w.heap.size w w3 ∧ w3.cell? ⟨gb, om + 11, none⟩ = some (.int .u8 side.toNat)) := by
          intro Ob w3 hg3
          have hB3 : Below w.heap.size w w3 := (HR.out.2.2.2.alloc hbs Ob).drew.grown hg3 (by show _ ≤ (wr.alloc Ob).heap.size; rw [size_alloc]; omega) (fun g hg => (HR.out.2.1.lt g hg).1)
          exact ⟨hB3, (hB3.cell (p := ⟨gb, om + 11, none⟩) HL.out.2).trans ((HR.out.2.2.2.cell (p := ⟨gb, om + 11, none⟩) HL.out.2).symm.trans c11)⟩
        go_region_held3 (fun w' => w'.cell? ⟨gb, om + 11, none⟩ = some (.int .u8 side.toNat)) (first | exact q1 | go_keep)
          (first
            | (go_at_call 16; refine (HV.out wr.drew rfl _ _ _ (by rw [HM.out.1]; omega) (by omega)).mono ?_; rintro e w' ⟨rfl, hw⟩; subst hw)
            | (refine step_append_row rfl _ _ 53 (by rfl) w.heap.size 57 i0 _ 4 24 und_held HI.out.1 HI.out.2.1 HI.out.2.2.1 HI.out.2.2.2 rfl (by decide) _ ls.length (ls.flatMap Hl.cells) (by rfl) (HOA.out _) ⟨wr.heap.size, 0, none⟩ 1 1 (Hl.cells ⟨num ((M.drop 7).take 4) 0, num ((M.drop 15).take 2) 0, side, false⟩) (by rfl) (by rfl) (rdRow_held wr _) (hl_one [_] |> fun h u hu => h u (by simpa using hu)) (by unfold maxLen; omega) (by omega) (by show _ ≤ (wr.alloc _).heap.size; rw [size_alloc]; omega) ?_; intro rb capb w3 hown3 hg3; have q1 := (HQ.out _ w3 hg3.out).2))
        have HO3 : Hid (HsAt w3 w.heap.size (.slice rb (ls.length + 1) capb) (ls ++ [⟨tok, shares, side, false⟩])) := by
          show World.ownsRow _ _ _ _ _ _ _
          have := hown3.out
          rw [HM.out.2.1, HM.out.2.2] at this
          rw [List.flatMap_append, List.length_append]
          simpa using this
        have HB3 : Hid (Below w.heap.size w w3) := (HQ.out _ w3 hg3.out).1
        clear hown3 hg3 q1 HQ HOA
        go_wp2_with fail
        exact ⟨⟨k + 22, _, by go_num, by omega, by rw [HST.out.2.1]; exact HST.out.2.2, HO3.out, HST.out.1, HB3.out⟩, by simp [intOf]; omega⟩
      | rep t6 new old price shares ref l x h6 h1 h2 h3 h4 h5 h7 h8 h9 =>
        obtain ⟨m1, m2, m4, m5, m6⟩ := rep_read t6 new old price shares ref h6 h1 h9 h2
        change Lies wr gb (ob + k) (repMsg t6 new old price shares ref) at hM
        change Hid (Fine (k + (repMsg t6 new old price shares ref).length) _ ∧ out.drop (k + (repMsg t6 new old price shares ref).length) = _ ∧ _) at HST
        change k + (repMsg t6 new old price shares ref).length ≤ ol at hlM
        rw [m1] at HST hlM
        generalize repMsg t6 new old price shares ref = M at *
        have c0 := hM 0 85 m2
        have HV := Hid.mk (fun (W : World) (h : W.heap[gb]? = wr.heap[gb]?) => val_part (hM.keep h))
        have i2 : (k : Int) + 23 ≤ (ol : Int) := by omega
        have i3 : (k : Int) < (ol : Int) := by omega
        have n4 : ¬ cb = k := by omega
        simp only [B, Nat.add_zero] at c0
        obtain ⟨cm, hcm⟩ : ∃ cm, cb - k = cm := ⟨_, rfl⟩
        have i4 : (23 : Int) ≤ (cm : Int) := by omega
        have i5 : (cm : Int) ≤ 9223372036854775807 := by omega
        obtain ⟨om, hom⟩ : ∃ om, ob + k = om := ⟨_, rfl⟩
        rw [hom] at c0 HV
        have HM := Hid.mk (And.intro m1 (And.intro m4 (And.intro m5 m6)))
        obtain ⟨i, hi, hia⟩ := heldAt_some h4 HR.out.2.2.1.nd
        rw [h5] at hia
        have hx16 := HR.out.2.2.1.left x h4
        obtain ⟨ra', ca', he', -, -, hcs⟩ := HR.out.2.1.form
        obtain ⟨g, hrl, hgb2, hgl2, d0, d1, d2, d3⟩ := hcs i x hi
        simp only [Value.slice.injEq, true_and] at he'
        obtain ⟨rfl, rfl⟩ := he'
        subst hrl
        have hil := (List.getElem?_eq_some_iff.1 hi).1
        have z1 : wr.frozen? ⟨g, i * 4 + 3, none⟩ = false := hs_frozen HR.out.2.1 _
        have HX := Hid.mk (And.intro hi (And.intro h5 hia))
        have j1 : (0 : Int) ≤ (i : Int) := by omega
        have j2 : (i : Int) < (ls.length : Int) := by omega
        have j3 : (1 : Int) ≤ (x.left : Int) := by omega
        have j5 : ¬ ((i : Int) < 0) := by omega
        have j6 : ¬ ((x.left : Int) < 1) := by omega
        rw [h8] at d3
        have HN : Hid (heldAt ls new = -1) := heldAt_none h3
        clear hM m1 m2 m4 m5 m6 hcs hi hia h3 h4 h5 d0
        go_wp2_with fail
        try rw [show k + 23 - k = 23 by omega]
        clear hcm hom
        refine (HV.out wr rfl 7 4 _ (by rw [HM.out.1]; omega) (by omega)).mono ?_
        rintro e w' ⟨rfl, hw⟩
        replace hw := hw.symm
        subst hw
        rw [HM.out.2.1]
        go_wp2_with fail
        refine (held_any wr w.heap.size _ ls new HR.out.2.1).mono ?_
        rintro e w' ⟨rfl, hw⟩
        replace hw := hw.symm
        subst hw
        rw [HN.out]
        have s1 : (23 : Int) ≤ (cm : Int) := by omega
        have s3 : ¬ cm = 19 := by omega
        go_wp2_with fail
        refine (HV.out wr rfl 19 4 _ (by rw [HM.out.1]; omega) (by omega)).mono ?_
        rintro e w' ⟨rfl, hw⟩
        replace hw := hw.symm
        subst hw
        rw [HM.out.2.2.2]
        go_wp2_with fail
        refine (held_any wr w.heap.size _ ls old HR.out.2.1).mono ?_
        rintro e w' ⟨rfl, hw⟩
        replace hw := hw.symm
        subst hw
        rw [HX.out.2.2]
        have hD1 : HsAt (wr.setCell ⟨g, i * 4 + 3, none⟩ (.bool true)) w.heap.size (.slice (some ⟨g, 0, none⟩) ls.length cl) (doneAt old ls) := by
          obtain ⟨hi, hxt, -⟩ := HX.out
          have e1 : doneAt old ls = ls.set i x.done := by
            have := map_set_at (f := fun h => h.done) HR.out.2.2.1.nd hi
            rw [hxt] at this
            exact this
          rw [e1]
          exact HsAt.put HR.out.2.1 i 3 x x.done _ hi (by omega) (by simp [Hl.cells, Hl.done])
        have hBD : Below w.heap.size w (wr.setCell ⟨g, i * 4 + 3, none⟩ (.bool true)) := HR.out.2.2.2.trans ((Fr.setCell wr ⟨g, i * 4 + 3, none⟩ (.bool true)).below HR.out.2.2.2.size (fun j e => by rw [show j = g from e]; exact hgb2))
        have hdl : (doneAt old ls).length = ls.length := by unfold doneAt; rw [List.length_map]
        have HDL := Hid.mk hdl
        have hgbs : gb ≠ g := by have := HL.out.2; omega
        have hvb : (wr.setCell ⟨g, i * 4 + 3, none⟩ (.bool true)).heap[gb]? = wr.heap[gb]? := Below.heap_setCell _ _ _ _ hgbs
        have e2 : (wr.setCell ⟨g, i * 4 + 3, none⟩ (.bool true)).cell? ⟨g, i * 4 + 2, none⟩ = some (.int .u8 x.side.toNat) := by
          obtain ⟨hi, hxt, -⟩ := HX.out
          obtain ⟨ra2, ca2, he2, -, -, hcs2⟩ := hD1.form
          obtain ⟨g2, hr2, -, -, -, -, q2, -⟩ := hcs2 i x.done (show (doneAt old ls)[i]? = some x.done by
            have e1 : doneAt old ls = ls.set i x.done := by
              have := map_set_at (f := fun h => h.done) HR.out.2.2.1.nd hi
              rw [hxt] at this
              exact this
            rw [e1, List.getElem?_set_self hil])
          simp only [Value.slice.injEq] at he2
          rw [hr2] at he2
          simp only [Option.some.injEq, Addr.mk.injEq, and_true] at he2
          rw [← he2.1] at q2
          exact q2
        have HD := Hid.mk (And.intro hD1 (And.intro hBD hvb))
        clear hD1 hBD hdl hvb
        have s5 : (11 : Int) ≤ (cm : Int) := by omega
        have s6 : (15 : Int) ≤ (cm : Int) := by omega
        have s7 : ¬ cm = 7 := by omega
        have s8 : ¬ cm = 13 := by omega
        go_wp2_with fail
        generalize wr.setCell ⟨g, i * 4 + 3, none⟩ (.bool true) = wd at HD e2 ⊢
        have HOA : Hid (∀ Ob : Obj, ((wd.alloc Ob).drew).ownsRow w.heap.size 57 4 (.slice (some ⟨g, 0, none⟩) ls.length cl) ls.length ((doneAt old ls).flatMap Hl.cells)) := fun Ob => by
          have := HD.out.1
          unfold HsAt at this
          rw [HDL.out] at this
          exact ownsRow_keep this (fun g hg => by
            show (wd.alloc Ob).heap[g]? = _
            rw [heap_alloc, if_neg (by have := (this.lt g hg).2; omega)])
        have hbs := HD.out.2.1.size
        have hgd : g < wd.heap.size := World.block_lt_of_cell? wd _ e2
        have HQ : Hid (∀ (Ob : Obj) (w3 : World), ((wd.alloc Ob).drew).grownBy w3 (Value.ownBlock (.slice (some ⟨g, 0, none⟩) ls.length cl)) → Below w.heap.size w w3) := by
          intro Ob w3 hg3
          exact (HD.out.2.1.alloc hbs Ob).drew.grown hg3 (by show _ ≤ (wd.alloc Ob).heap.size; rw [size_alloc]; omega) (fun g' hg' => by cases hg'; exact hgb2)
        have HSD : Hid (((doneAt old ls).flatMap Hl.cells)[i * 4 + 2]? = some (.int .u8 x.side.toNat)) := by
          obtain ⟨hi, hxt, -⟩ := HX.out
          have e1 : doneAt old ls = ls.set i x.done := by
            have := map_set_at (f := fun h => h.done) HR.out.2.2.1.nd hi
            rw [hxt] at this
            exact this
          exact hl_get _ i 2 x.done _ (by rw [e1, List.getElem?_set_self hil]) (by omega) rfl
        clear d1 d2 d3 z1
        go_region_held3 (fun w' => w'.cell? ⟨g, i * 4 + 2, none⟩ = some (.int .u8 x.side.toNat)) (first | exact q1 | go_keep)
          (first
            | (go_at_call 16; refine (HV.out wd.drew HD.out.2.2 _ _ _ (by rw [HM.out.1]; omega) (by omega)).mono ?_; rintro e w' ⟨rfl, hw⟩; subst hw)
            | (refine step_append_keep rfl _ _ 53 (by rfl) w.heap.size 57 i0 _ 4 24 und_held HI.out.1 HI.out.2.1 HI.out.2.2.1 HI.out.2.2.2 rfl (by decide) g ls.length cl ((doneAt old ls).flatMap Hl.cells) (by rfl) (HOA.out _) ⟨wd.heap.size, 0, none⟩ 1 1 (Hl.cells ⟨num ((M.drop 7).take 4) 0, num ((M.drop 13).take 2) 0, x.side, false⟩) (by rfl) (by rfl) (rdRow_held wd _) (hl_one [_] |> fun h u hu => h u (by simpa using hu)) (by unfold maxLen; omega) (by omega) (by show _ ≤ (wd.alloc _).heap.size; rw [size_alloc]; omega) ?_; intro rb capb w3 hown3 hg3; have q1 := hg3.out.2 _ _ HSD.out))
        have HO3 : Hid (HsAt w3 w.heap.size (.slice rb (ls.length + 1) capb) (doneAt old ls ++ [⟨new, shares, x.side, false⟩])) := by
          show World.ownsRow _ _ _ _ _ _ _
          have := hown3.out
          rw [HM.out.2.1, HM.out.2.2.1] at this
          rw [List.flatMap_append, List.length_append, HDL.out]
          simpa using this
        have HB3 : Hid (Below w.heap.size w w3) := HQ.out _ w3 hg3.out.1
        clear hown3 hg3 q1 HQ HOA
        go_wp2_with fail
        exact ⟨⟨k + 23, _, by go_num, by omega, by rw [HST.out.2.1]; exact HST.out.2.2, HO3.out, HST.out.1, HB3.out⟩, by simp [intOf]; omega⟩
      | can t6 tok n rs l x h6 h1 h2 h4 h5 h7 =>
        obtain ⟨m1, m2, m4, m5⟩ := can_read t6 tok n rs h6 h1 h2
        change Lies wr gb (ob + k) (canMsg t6 tok n rs) at hM
        change Hid (Fine (k + (canMsg t6 tok n rs).length) _ ∧ out.drop (k + (canMsg t6 tok n rs).length) = _ ∧ _) at HST
        change k + (canMsg t6 tok n rs).length ≤ ol at hlM
        rw [m1] at HST hlM
        generalize canMsg t6 tok n rs = M at *
        have c0 := hM 0 88 m2
        have HV := Hid.mk (fun (W : World) (h : W.heap[gb]? = wr.heap[gb]?) => val_part (hM.keep h))
        have i2 : (k : Int) + 14 ≤ (ol : Int) := by omega
        have i3 : (k : Int) < (ol : Int) := by omega
        have n4 : ¬ cb = k := by omega
        simp only [B, Nat.add_zero] at c0
        obtain ⟨cm, hcm⟩ : ∃ cm, cb - k = cm := ⟨_, rfl⟩
        have i4 : (14 : Int) ≤ (cm : Int) := by omega
        have i5 : (cm : Int) ≤ 9223372036854775807 := by omega
        obtain ⟨om, hom⟩ : ∃ om, ob + k = om := ⟨_, rfl⟩
        rw [hom] at c0 HV
        have HM := Hid.mk (And.intro m1 (And.intro m4 m5))
        obtain ⟨i, hi, hia⟩ := heldAt_some h4 HR.out.2.2.1.nd
        rw [h5] at hia
        have hx16 := HR.out.2.2.1.left x h4
        obtain ⟨ra', ca', he', -, -, hcs⟩ := HR.out.2.1.form
        obtain ⟨g, hrl, hgb2, hgl2, d0, d1, d2, d3⟩ := hcs i x hi
        simp only [Value.slice.injEq, true_and] at he'
        obtain ⟨rfl, rfl⟩ := he'
        subst hrl
        have hil := (List.getElem?_eq_some_iff.1 hi).1
        have z1 : wr.frozen? ⟨g, i * 4 + 1, none⟩ = false := hs_frozen HR.out.2.1 _
        have HX := Hid.mk (And.intro hi (And.intro h5 hia))
        have j1 : (0 : Int) ≤ (i : Int) := by omega
        have j2 : (i : Int) < (ls.length : Int) := by omega
        have j3 : (n : Int) ≤ (x.left : Int) := by omega
        have j4 : (x.left : Int) ≤ 65535 := by omega
        have j5 : ¬ ((i : Int) < 0) := by omega
        clear hM m1 m2 m4 m5 hcs hi hia h4 h5 d0 d2 d3
        go_wp2_with fail
        try rw [show k + 14 - k = 14 by omega]
        clear hcm hom
        refine (HV.out wr rfl 7 4 _ (by rw [HM.out.1]; omega) (by omega)).mono ?_
        rintro e w' ⟨rfl, hw⟩
        replace hw := hw.symm
        subst hw
        rw [HM.out.2.1]
        go_wp2_with fail
        refine (held_any wr w.heap.size _ ls tok HR.out.2.1).mono ?_
        rintro e w' ⟨rfl, hw⟩
        replace hw := hw.symm
        subst hw
        rw [HX.out.2.2]
        have s1 : (13 : Int) ≤ (cm : Int) := by omega
        have s3 : ¬ cm = 11 := by omega
        have wp1 : IntKind.i64.wrap ((x.left : Int) - (n : Int)) = (x.left : Int) - (n : Int) := by rw [IntKind.wrap_i64]; omega
        go_wp2_with fail
        go_region_with (go_at_call 16; refine (HV.out wr.drew rfl _ _ _ (by rw [HM.out.1]; omega) (by omega)).mono ?_; rintro e w' ⟨rfl, hw⟩; subst hw; rw [HM.out.2.2])
        all_goals
          have HH3 : Hid (HsAt ((wr.setCell ⟨g, i * 4 + 1, none⟩ (.int .i64 ((x.left : Int) - (n : Int)))).drew) w.heap.size (.slice (some ⟨g, 0, none⟩) ls.length cl) (lessAt tok n ls)) := by
            obtain ⟨hi, hxt, -⟩ := HX.out
            have e1 : lessAt tok n ls = ls.set i (x.less n) := by
              have := map_set_at (f := fun h => h.less n) HR.out.2.2.1.nd hi
              rw [hxt] at this
              exact this
            rw [e1]
            exact HsAt.keep (HsAt.put HR.out.2.1 i 1 x (x.less n) _ hi (by omega) (by simp [Hl.cells, Hl.less, Int.ofNat_sub h7])) (fun _ _ => rfl)
          have HB3 : Hid (Below w.heap.size w ((wr.setCell ⟨g, i * 4 + 1, none⟩ (.int .i64 ((x.left : Int) - (n : Int)))).drew)) :=
            HR.out.2.2.2.trans (((Fr.setCell wr ⟨g, i * 4 + 1, none⟩ _).then (Fr.drew _ _)).below HR.out.2.2.2.size (fun j e => by rw [show j = g from e]; exact hgb2))
          go_wp2_with fail
          exact ⟨⟨k + 14, _, by go_num, by omega, by rw [HST.out.2.1]; exact HST.out.2.2, HH3.out, HST.out.1, HB3.out⟩, by simp [intOf]; omega⟩
      | rej t6 tok rs l h6 h1 =>
        obtain ⟨m1, m2, m4⟩ := rej_read t6 tok rs h6 h1
        change Lies wr gb (ob + k) (rejMsg t6 tok rs) at hM
        change Hid (Fine (k + (rejMsg t6 tok rs).length) _ ∧ out.drop (k + (rejMsg t6 tok rs).length) = _ ∧ _) at HST
        change k + (rejMsg t6 tok rs).length ≤ ol at hlM
        rw [m1] at HST hlM
        generalize rejMsg t6 tok rs = M at *
        have c0 := hM 0 74 m2
        have HV := Hid.mk (fun (W : World) (h : W.heap[gb]? = wr.heap[gb]?) => val_part (hM.keep h))
        have i2 : (k : Int) + 12 ≤ (ol : Int) := by omega
        have i3 : (k : Int) < (ol : Int) := by omega
        have n4 : ¬ cb = k := by omega
        simp only [B, Nat.add_zero] at c0
        obtain ⟨cm, hcm⟩ : ∃ cm, cb - k = cm := ⟨_, rfl⟩
        have i4 : (12 : Int) ≤ (cm : Int) := by omega
        have i5 : (cm : Int) ≤ 9223372036854775807 := by omega
        obtain ⟨om, hom⟩ : ∃ om, ob + k = om := ⟨_, rfl⟩
        rw [hom] at c0 HV
        have HM := Hid.mk (And.intro m1 (And.intro m4 trivial))
        clear hM m1 m2 m4
        go_wp2_with fail
        try rw [show k + 12 - k = 12 by omega]
        clear hcm hom
        refine (HV.out wr rfl 7 4 _ (by rw [HM.out.1]; omega) (by omega)).mono ?_
        rintro e w' ⟨rfl, hw⟩
        replace hw := hw.symm
        subst hw
        rw [HM.out.2.1]
        go_wp2_with fail
        refine (held_any wr w.heap.size _ ls tok HR.out.2.1).mono ?_
        rintro e w' ⟨rfl, hw⟩
        replace hw := hw.symm
        subst hw
        generalize heldAt ls tok = hv
        have hsel : hv < 0 ∨ ¬ hv < 0 := by omega
        rcases hsel with s1 | s1
        all_goals
          go_wp2_with fail
          exact ⟨⟨k + 12, _, by go_num, by omega, by rw [HST.out.2.1]; exact HST.out.2.2, HR.out.2.1, HST.out.1, HR.out.2.2.2⟩, by simp [intOf]; omega⟩
      | fil t6 a b n p mt l x y h6 h1 h2 h3 h0 h4 h5 h7 h8 h9 h10 h11 h12 =>
        obtain ⟨m1, m2, m4⟩ := fil_num t6 a b n p mt h6 h1
        change Lies wr gb (ob + k) (filMsg t6 a b n p mt) at hM
        change Hid (Fine (k + (filMsg t6 a b n p mt).length) _ ∧ out.drop (k + (filMsg t6 a b n p mt).length) = _ ∧ _) at HST
        change k + (filMsg t6 a b n p mt).length ≤ ol at hlM
        rw [m1] at HST hlM
        have c0 := hM 0 70 m2
        have HV := Hid.mk (fun (W : World) (h : W.heap[gb]? = wr.heap[gb]?) => val_part (hM.keep h))
        have i2 : (k : Int) + 38 ≤ (ol : Int) := by omega
        have i3 : (k : Int) < (ol : Int) := by omega
        have n4 : ¬ cb = k := by omega
        simp only [B, Nat.add_zero] at c0
        obtain ⟨cm, hcm⟩ : ∃ cm, cb - k = cm := ⟨_, rfl⟩
        have i4 : (38 : Int) ≤ (cm : Int) := by omega
        have i5 : (cm : Int) ≤ 9223372036854775807 := by omega
        obtain ⟨om, hom⟩ : ∃ om, ob + k = om := ⟨_, rfl⟩
        rw [hom] at c0 HV
        have hMo := hM
        rw [hom] at hMo
        obtain ⟨i, hi, hia⟩ := heldAt_some h4 HR.out.2.2.1.nd
        rw [h5] at hia
        have hil := (List.getElem?_eq_some_iff.1 hi).1
        have HBo : Hid (Calls Try.prog 36 #[.slice rl ls.length cl, .slice (some ⟨gb, om, none⟩) 38 cm] wr fun e w' => e = .returned (.bool true) ∧ HsAt w' w.heap.size (.slice rl ls.length cl) (lessAt b n (lessAt a n ls)) ∧ Fr (fun k => (Value.slice rl ls.length cl).ownBlock = some k) wr w') :=
          both_any wr w.heap.size _ ls gb om cm t6 a b n p mt x y HR.out.2.1 HR.out.2.2.1.nd h6 hMo HL.out.2 (by omega) (by omega) h1 h2 h3 h0 h4 h5 h7 h8 h9 h10 h11 h12 (HR.out.2.2.1.left x h4) (HR.out.2.2.1.left y h7)
        have HM := Hid.mk (And.intro m1 (And.intro m4 trivial))
        have HX := Hid.mk hia
        have j1 : (0 : Int) ≤ (i : Int) := by omega
        have j5 : ¬ ((i : Int) < 0) := by omega
        clear hM hMo m1 m2 m4 hi hia h4 h5 h7 h8 h9 h10 h11 h12
        go_wp2_with fail
        try rw [show k + 38 - k = 38 by omega]
        clear hcm hom
        refine (HV.out wr rfl 7 4 _ (by rw [HM.out.1]; omega) (by omega)).mono ?_
        rintro e w' ⟨rfl, hw⟩
        replace hw := hw.symm
        subst hw
        rw [HM.out.2.1]
        go_wp2_with fail
        refine (held_any wr w.heap.size _ ls a HR.out.2.1).mono ?_
        rintro e w' ⟨rfl, hw⟩
        replace hw := hw.symm
        subst hw
        rw [HX.out]
        go_wp2_with fail
        refine HBo.out.mono ?_
        rintro e w3 ⟨rfl, hH3, hF3⟩
        have HB3 : Hid (Below w.heap.size w w3) := HR.out.2.2.2.trans (hF3.below HR.out.2.2.2.size (fun g hg => (HR.out.2.1.lt g hg).1))
        have HH3 := Hid.mk hH3
        clear hH3 hF3 HBo
        go_wp2_with fail
        exact ⟨⟨k + 38, _, by go_num, by omega, by rw [HST.out.2.1]; exact HST.out.2.2, HH3.out, HST.out.1, HB3.out⟩, by simp [intOf]; omega⟩

end Go.Proofs.Ytphkchjejbffeaa

/- Orders that may not be: what the document answers. -/
namespace Go.Proofs.Ytphkchjejbffeaa

theorem does_used (st : St) (a : Act) (t : Nat) (h : t ∈ st.used) : t ∈ (st.does a).used := by
  rcases grew_does st a with ⟨-, e⟩ | ⟨u, -, -, e, -⟩
  · rw [e]; exact h
  · rw [e]; exact List.mem_cons_of_mem _ h
theorem run_act_used {p n : Nat} {x : Run} (g : Good p n x) (a : Act) (t : Nat) (h : t ∈ x.st.used) : t ∈ (x.act a).st.used := by
  unfold Run.act
  split
  · exact h
  · show t ∈ (x.st.feed a.message).used
    rw [feed_message x.st a g.opn g.part]
    exact does_used _ _ _ h
theorem acts_used {p : Nat} (l : List Act) : ∀ {n : Nat} {x : Run}, Good p n x → ∀ t ∈ x.st.used, t ∈ (x.acts l).st.used := by
  induction l with
  | nil => intro n x _ t h; exact h
  | cons a l ih =>
    intro n x g t h
    show t ∈ ((x.act a).acts l).st.used
    exact ih (g.act a) t (run_act_used g a t h)
theorem started_used (pool : Int) : (started pool).st.used = [1001, 1000] := by
  have := pick_lt pool 64 (by omega)
  exact (open_used (1 + pick pool 64) (by omega) (by omega)).1

/-- Why the order is rejected. -/
def wrongQ (T : Nat) (sd : UInt8) (stk p sh : Nat) (kd : UInt8) : UInt8 :=
  if T ≠ 2000 then 68 else if sd ≠ 66 ∧ sd ≠ 83 then 66 else if 3 ≤ stk then 83 else if p < 1 ∨ 10 < p then 80 else if sh < 1 ∨ 9999 < sh then 81 else if kd ≠ 68 ∧ kd ≠ 73 then 75 else 0

theorem why_wrong {p n : Nat} {x : Run} (g : Good p n x) (h1 : 1000 ∈ x.st.used) (h2 : 1001 ∈ x.st.used) (T : Nat) (sd : UInt8) (stk pr sh : Nat) (kd : UInt8) (hT : T = 2000 ∨ T = 1000 ∨ T = 1001)
    (h0 : wrongQ T sd stk pr sh kd ≠ 0) : x.st.why T sd stk pr sh kd = some (wrongQ T sd stk pr sh kd) := by
  unfold St.why wrongQ at *
  rw [g.stocks, g.levels]
  have hn : 2000 ∉ x.st.used := fun h => by have := g.tok _ h; unfold Tok at this; omega
  rcases hT with rfl | rfl | rfl
  · have e2 : ¬ ((2000 : Nat) ≠ 2000) := fun h => h rfl
    rw [if_neg e2] at h0
    rw [if_neg hn, if_neg e2]
    split
    · rfl
    · split
      · rfl
      · split
        · rfl
        · split
          · rfl
          · split
            · rfl
            · rename_i a1 a2 a3 a4 a5
              rw [if_neg a1, if_neg a2, if_neg a3, if_neg a4, if_neg a5] at h0
              exact absurd rfl h0
  · rw [if_pos h1, if_pos (by decide)]
  · rw [if_pos h2, if_pos (by decide)]

theorem refused_feed {p n : Nat} {x : Run} (g : Good p n x) (h1 : 1000 ∈ x.st.used) (h2 : 1001 ∈ x.st.used) (T : Nat) (sd : UInt8) (stk pr sh : Nat) (kd : UInt8) (hT : T = 2000 ∨ T = 1000 ∨ T = 1001)
    (hk : stk < 256) (hp : pr < 65536) (hs : sh < 65536)
    (h0 : wrongQ T sd stk pr sh kd ≠ 0) : x.st.feed (enterMsg T sd (UInt8.ofNat stk) pr sh kd) = x.st.reject T (wrongQ T sd stk pr sh kd) := by
  rw [feed_whole _ x.st g.opn g.part (enterMsg_ok _ _ _ _ _ _).1 (enterMsg_ok _ _ _ _ _ _).2, enterMsg_act x.st T sd (UInt8.ofNat stk) pr sh kd (by omega) hp hs,
    show (UInt8.ofNat stk).toNat = stk by simp; omega]
  unfold St.enter
  rw [why_wrong g h1 h2 T sd stk pr sh kd hT h0]

end Go.Proofs.Ytphkchjejbffeaa

/- A region that draws its order, by what each of its operations yields: whatever the order, one proof for each operation. -/
namespace Go.Proofs.Ytphkchjejbffeaa

/-- The i-th operation writes the i-th place behind lo, asks no guard, and waits for earlier ones alone. -/
def rgOne (lo i : Nat) (o : Oper) : Bool := o.dst == some (lo + i) && o.guard.isNone && o.after.all fun e => decide (e.on < i) && Region.binds .any e
/-- Every operation but the last has a later one that waits for it. -/
def rgNext (ops : Array Oper) (j : Nat) : Bool := (List.range ops.size).any fun s => decide (j < s) && ((ops[s]?).map fun o => o.after.any fun e => e.on == j).getD false
def rgShape (lo : Nat) (ops : Array Oper) : Bool :=
  (List.range ops.size).all (fun i => ((ops[i]?).map (rgOne lo i)).getD true) && (List.range (ops.size - 1)).all (rgNext ops)

theorem rg_one {lo : Nat} {ops : Array Oper} (h : rgShape lo ops = true) {i : Nat} {o : Oper} (ho : ops[i]? = some o) :
    o.dst = some (lo + i) ∧ o.guard = none ∧ ∀ e ∈ o.after, e.on < i ∧ Region.binds .any e = true := by
  have hlt : i < ops.size := (Array.getElem?_eq_some_iff.1 ho).1
  unfold rgShape at h
  rw [Bool.and_eq_true, List.all_eq_true] at h
  have h1 := h.1 i (List.mem_range.2 hlt)
  rw [ho] at h1
  simp only [Option.map_some, Option.getD_some, rgOne, Bool.and_eq_true, beq_iff_eq, Option.isNone_iff_eq_none, Array.all_eq_true_iff_forall_mem, decide_eq_true_eq] at h1
  exact ⟨h1.1.1, h1.1.2, h1.2⟩
theorem rg_next {lo : Nat} {ops : Array Oper} (h : rgShape lo ops = true) {j : Nat} (hj : j + 1 < ops.size) : ∃ s o, j < s ∧ ops[s]? = some o ∧ ∃ e ∈ o.after, e.on = j := by
  unfold rgShape at h
  rw [Bool.and_eq_true, List.all_eq_true, List.all_eq_true] at h
  have h1 := h.2 j (List.mem_range.2 (by omega))
  unfold rgNext at h1
  rw [List.any_eq_true] at h1
  obtain ⟨s, hs, h2⟩ := h1
  rw [Bool.and_eq_true, decide_eq_true_eq] at h2
  have hlt := List.mem_range.1 hs
  rw [Array.getElem?_eq_getElem hlt] at h2
  simp only [Option.map_some, Option.getD_some, Array.any_eq_true', beq_iff_eq] at h2
  obtain ⟨e, he, hej⟩ := h2.2
  exact ⟨s, ops[s], h2.1, Array.getElem?_eq_getElem hlt, e, he, hej⟩

/-- A frame: what lies ahead of the region's places, what they hold, what lies behind. -/
def RgFrame (pre vals suf : List Value) (df : List Deferred) : Go.Act := ⟨(pre ++ vals ++ suf).toArray, df⟩
theorem RgFrame.put (pre vals suf : List Value) (df : List Deferred) (i : Nat) (v : Value) (h : i < vals.length) : (RgFrame pre vals suf df).put (some (pre.length + i)) v = RgFrame pre (vals.set i v) suf df := by
  unfold RgFrame Go.Act.put
  simp only [List.setIfInBounds_toArray, Go.Act.mk.injEq, and_true]
  rw [List.append_assoc, List.set_append_right _ _ (by omega), Nat.add_sub_cancel_left, List.set_append_left _ _ h, List.append_assoc]

theorem rg_wanted {o : Oper} (h : o.guard = none) (f : Nat → Option Bool) : Region.wanted o f = true := by unfold Region.wanted; rw [h]

/-- How many have not come up. -/
def rgLeft (n : Nat) (listed : Array Bool) : Nat := ((List.range n).filter fun i => !listed.getD i true).length
theorem rgLeft_step (n : Nat) (listed : Array Bool) (i : Nat) (hi : i < n) (h : listed.getD i true = false) : rgLeft n (listed.setIfInBounds i true) < rgLeft n listed := by
  unfold rgLeft
  have hsub : ((List.range n).filter fun j => !(listed.setIfInBounds i true).getD j true).length < ((List.range n).filter fun j => !listed.getD j true).length := by
    rw [← List.countP_eq_length_filter, ← List.countP_eq_length_filter]
    have : ∀ l : List Nat, (∀ j ∈ l, j ≠ i) → l.countP (fun j => !(listed.setIfInBounds i true).getD j true) = l.countP (fun j => !listed.getD j true) := by
      intro l hl
      refine List.countP_congr fun j hj => ?_
      rw [getD_set_ne true (fun e => hl j hj e.symm)]
    have hsplit : List.range n = List.range i ++ i :: (List.range' (i + 1) (n - i - 1)) := by
      rw [List.range_eq_range', List.range_eq_range']
      have : n = i + (1 + (n - i - 1)) := by omega
      rw [this, ← List.range'_append_1, Nat.zero_add, show 1 + (n - i - 1) = (n - i - 1) + 1 by omega, List.range'_succ]
      congr 3
      omega
    rw [hsplit, List.countP_append, List.countP_append, List.countP_cons, List.countP_cons,
      this _ (fun j hj => by have := List.mem_range.1 hj; omega), this _ (fun j hj => by have := (List.mem_range'_1.1 hj).1; omega)]
    have e1 : (listed.setIfInBounds i true).getD i true = true := by
      rw [Array.getD_eq_getD_getElem?, Array.getElem?_setIfInBounds]
      split
      · split <;> rfl
      · rename_i hh; exact absurd rfl hh
    rw [e1, h]
    simp
  exact hsub

theorem wpAny_inv {P : Program} {ops : Array Oper} {Q : Exit → Go.Act → World → Prop} (I : Array Bool → Go.Act → World → Prop)
    (done : ∀ listed a w, I listed a w → Region.ready .any ops listed = [] → Q .normal a w)
    (step : ∀ listed a w, I listed a w → ∀ i ∈ Region.ready .any ops listed, wpOp P ops Q i (fun a' w' => I (listed.setIfInBounds i true) a' w') a w) :
    ∀ fuel listed a w, rgLeft ops.size listed ≤ fuel → I listed a w → wpAny P .any ops Q fuel listed a w := by
  intro fuel
  induction fuel with
  | zero =>
    intro listed a w hf hi
    have hr : Region.ready .any ops listed = [] := by
      rw [List.eq_nil_iff_forall_not_mem]
      intro j hj
      obtain ⟨h0, o, ho, -⟩ := mem_ready.1 hj
      have hlt : j < ops.size := (Array.getElem?_eq_some_iff.1 ho).1
      have := rgLeft_step ops.size listed j hlt h0
      omega
    exact ⟨hr, done _ _ _ hi hr⟩
  | succ fuel ih =>
    intro listed a w hf hi
    refine ⟨fun hr => done _ _ _ hi hr, fun i hr => ?_⟩
    refine wpOp_mono ?_ (step listed a w hi i hr)
    intro a' w' hi'
    obtain ⟨h0, o, ho, -⟩ := mem_ready.1 hr
    have hlt : i < ops.size := (Array.getElem?_eq_some_iff.1 ho).1
    have := rgLeft_step ops.size listed i hlt h0
    exact ih _ _ _ (by omega) hi'

theorem wp_region_vals {P : Program} {id : Nat} {ops : Array Oper} {Q : Exit → Go.Act → World → Prop} {pre suf vals0 : List Value} {df : List Deferred} {w : World}
    (hm : P.follows .mixedOrders = true) (hs : rgShape pre.length ops = true) (n : Nat) (hn : ops.size = n + 1) (V : Nat → Value → World → Prop) (R : World → Prop) (hv0 : vals0.length = n + 1) (hR : R w.drew)
    (step : ∀ i o, i < n → ops[i]? = some o → ∀ vals w, vals.length = n + 1 → R w → (∀ e ∈ o.after, V e.on (vals.getD e.on undef) w) →
      ∀ K : Go.Act → World → Prop, (∀ v w', V i v w' → R w' → (∀ j u, V j u w → V j u w') → K (RgFrame pre (vals.set i v) suf df) w') → o.wp P (RgFrame pre vals suf df) w K Q)
    (last : ∀ o, ops[n]? = some o → ∀ vals w, vals.length = n + 1 → R w → (∀ j, j < n → V j (vals.getD j undef) w) →
      ∀ K : Go.Act → World → Prop, (∀ a' w', Q .normal a' w' → K a' w') → o.wp P (RgFrame pre vals suf df) w K Q) :
    (Code.region id ops true).wp P Q (RgFrame pre vals0 suf df) w := by
  refine wp_region_any hm ?_
  refine wpAny_inv (fun listed a w => listed.size = n + 1 ∧ (∀ i o, ops[i]? = some o → listed.getD i false = true → ∀ e ∈ o.after, listed.getD e.on false = true) ∧
      ((listed.getD n false = true ∧ Q .normal a w) ∨ (listed.getD n false = false ∧ R w ∧ ∃ vals, vals.length = n + 1 ∧ a = RgFrame pre vals suf df ∧ ∀ j, listed.getD j false = true → V j (vals.getD j undef) w))) ?_ ?_ _ _ _ _ ?_ ?_
  · rintro listed a w ⟨hsz, hcl, h⟩ hr
    have hall : ∀ k, k < n + 1 → ∀ j, j ≤ k → listed.getD j false = true := by
      intro k
      induction k with
      | zero =>
        intro hk j hj
        rcases hb : listed.getD j false with _ | _
        · exfalso
          have hjn : j < ops.size := by omega
          have : j ∈ Region.ready .any ops listed := mem_ready.2 ⟨by
            rw [Array.getD_eq_getD_getElem?, Array.getElem?_eq_getElem (by omega)] at hb ⊢
            exact hb, ops[j], Array.getElem?_eq_getElem hjn, fun e he _ => by
            have := ((rg_one hs (Array.getElem?_eq_getElem hjn)).2.2 e he).1
            omega⟩
          rw [hr] at this
          cases this
        · rfl
      | succ k ih =>
        intro hk j hj
        rcases Nat.lt_or_ge j (k + 1) with h' | h'
        · exact ih (by omega) j (by omega)
        · have hjk : j = k + 1 := by omega
          subst hjk
          rcases hb : listed.getD (k + 1) false with _ | _
          · exfalso
            have hjn : k + 1 < ops.size := by omega
            have : k + 1 ∈ Region.ready .any ops listed := mem_ready.2 ⟨by
              rw [Array.getD_eq_getD_getElem?, Array.getElem?_eq_getElem (by omega)] at hb ⊢
              exact hb, ops[k + 1], Array.getElem?_eq_getElem hjn, fun e he _ => by
              have := ((rg_one hs (Array.getElem?_eq_getElem hjn)).2.2 e he).1
              exact ih (by omega) e.on (by omega)⟩
            rw [hr] at this
            cases this
          · rfl
    rcases h with ⟨-, h⟩ | ⟨h, -⟩
    · exact h
    · rw [hall n (by omega) n (Nat.le_refl _)] at h; cases h
  · rintro listed a w ⟨hsz, hcl, h⟩ i hr
    obtain ⟨h0, o, ho, hdep⟩ := mem_ready.1 hr
    have hlt : i < n + 1 := by have := (Array.getElem?_eq_some_iff.1 ho).1; omega
    obtain ⟨hdst, hg, haf⟩ := rg_one hs ho
    have h0' : listed.getD i false = false := by
      rw [Array.getD_eq_getD_getElem?, Array.getElem?_eq_getElem (by omega)] at h0 ⊢
      exact h0
    have hcl' : ∀ i' o', ops[i']? = some o' → (listed.setIfInBounds i true).getD i' false = true → ∀ e ∈ o'.after, (listed.setIfInBounds i true).getD e.on false = true := by
      intro i' o' ho' hl e he
      refine getD_set_true ?_
      by_cases hii : i = i'
      · subst hii
        rw [ho] at ho'
        cases ho'
        exact hdep e he (haf e he).2
      · rw [getD_set_ne false hii] at hl
        exact hcl i' o' ho' hl e he
    rcases h with ⟨hl, -⟩ | ⟨hl, hRw, vals, hvl, rfl, hV⟩
    · exfalso
      have hall : ∀ k j, j + k = n → listed.getD j false = true := by
        intro k
        induction k using Nat.strongRecOn with
        | ind k ih =>
          intro j hjk
          rcases Nat.eq_zero_or_pos k with rfl | hk
          · rw [show j = n by omega]; exact hl
          · obtain ⟨s, os, hjs, hos, e, he, hej⟩ := rg_next hs (j := j) (by omega)
            have hsn : s < n + 1 := by have := (Array.getElem?_eq_some_iff.1 hos).1; omega
            have := hcl s os hos (ih (n - s) (by omega) s (by omega)) e he
            rw [hej] at this
            exact this
      rw [hall (n - i) i (by omega)] at h0'
      cases h0'
    · refine wpOp_step ho fun K' hK' => ?_
      rw [if_pos (rg_wanted hg _)]
      by_cases hin : i = n
      · subst hin
        refine last o ho vals w hvl hRw ?_ K' ?_
        · intro j hj
          refine hV j ?_
          have hall : ∀ k j, j + k = i → j < i → listed.getD j false = true := by
            intro k
            induction k using Nat.strongRecOn with
            | ind k ih =>
              intro j hjk hji
              obtain ⟨s, os, hjs, hos, e, he, hej⟩ := rg_next hs (j := j) (by omega)
              have hsn : s < i + 1 := by have := (Array.getElem?_eq_some_iff.1 hos).1; omega
              by_cases hsi : s = i
              · subst hsi
                rw [ho] at hos
                cases hos
                have := hdep e he (haf e he).2
                rw [hej] at this
                exact this
              · have := hcl s os hos (ih (i - s) (by omega) s (by omega) (by omega)) e he
                rw [hej] at this
                exact this
          exact hall (i - j) j (by omega) hj
        · intro a' w' hq
          refine hK' a' w' ⟨by simpa using hsz, hcl', .inl ⟨?_, hq⟩⟩
          rw [Array.getD_eq_getD_getElem?, Array.getElem?_setIfInBounds, if_pos rfl, if_pos (by omega)]
          rfl
      · refine step i o (by omega) ho vals w hvl hRw (fun e he => hV e.on (hdep e he (haf e he).2)) K' ?_
        intro v w' hv hR' hst
        refine hK' _ w' ⟨by simpa using hsz, hcl', .inr ⟨?_, hR', vals.set i v, by simpa using hvl, rfl, ?_⟩⟩
        · rw [getD_set_ne false hin]; exact hl
        · intro j hj
          by_cases hij : i = j
          · subst hij
            rw [List.getD_eq_getElem?_getD, List.getElem?_set_self (by omega)]
            exact hv
          · rw [getD_set_ne false hij] at hj
            rw [List.getD_eq_getElem?_getD, List.getElem?_set_ne hij, ← List.getD_eq_getElem?_getD]
            exact hst j _ (hV j hj)
  · have := List.length_filter_le (fun i => !(Array.replicate ops.size false).getD i true) (List.range ops.size)
    unfold rgLeft
    rw [List.length_range] at this
    exact this
  · have hz : ∀ j, (Array.replicate ops.size false).getD j false = false := by
      intro j
      rw [Array.getD_eq_getD_getElem?, Array.getElem?_replicate]
      split <;> rfl
    refine ⟨by simp [hn], ?_, .inr ⟨hz n, hR, vals0, hv0, rfl, ?_⟩⟩
    · intro i o _ hl
      rw [hz i] at hl
      cases hl
    · intro j hj
      rw [hz j] at hj
      cases hj

end Go.Proofs.Ytphkchjejbffeaa
