import Derived.Test.YtackgjmmeojpiaaPmFn9
namespace Go.Proofs.Ytackgjmmeojpiaa
set_option linter.unusedVariables false
set_option linter.unusedSimpArgs false
open Go.ChangeShapes Go.WideShapes Go.ChangeAt Go.RowKit Go.Proofs.Ytackgjmmeojpiaa.Num Go.Proofs.Ytackgjmmeojpiaa.Mem
/-- The pages, up to k, in which two lists differ. -/
def chg (l r : List Int) (k : Nat) : List Nat := (List.range k).filter fun f => !decide (pageL l f = pageL r f)
theorem chg_succ (l r : List Int) (k : Nat) : chg l r (k + 1) = if pageL l k = pageL r k then chg l r k else chg l r k ++ [k] := by
  unfold chg
  rw [List.range_succ, List.filter_append]
  by_cases h : pageL l k = pageL r k <;> simp [h]
theorem chg_len (l r : List Int) (k : Nat) : (chg l r k).length ≤ k := by
  unfold chg
  have := List.length_filter_le (fun f => !decide (pageL l f = pageL r f)) (List.range k)
  simpa using this
def i64s (l : List Nat) : List Value := l.map fun (n : Nat) => .int .i64 (n : Int)
theorem info_int : (Try.prog.info? 3).map (fun i => (i.zero, i.size, i.bytes)) = some (some (.int .i64 0), 1, 8) := by kernel_rfl
/-- A slice of numbers of the call's own. -/
def NumsPost (l : List Nat) (w : World) (e : Ending) (w' : World) : Prop := (∃ v, e = .returned v ∧ w'.ownsRow w.heap.size 3 1 v l.length (i64s l)) ∧ Below w.heap.size w w'
theorem nums_shape {w : World} {base : Nat} {v : Value} {l : List Nat} (h : w.ownsRow base 3 1 v l.length (i64s l)) (hb : ∀ i, i < l.length → l.getD i 0 ≤ 1000) : ∃ A c, v = .slice A l.length c ∧ Ints w A l.length (fun i => (l.getD i 0 : Int)) := by
  rcases h.2 with ⟨rfl, h0⟩ | ⟨g, cap, cur, rfl, hbg, hg, hnc, hcm, hcs, htake⟩
  · rw [h0]
    exact ⟨none, 0, rfl, fun i hi => absurd hi (Nat.not_lt_zero _), fun i hi => absurd hi (Nat.not_lt_zero _)⟩
  · refine ⟨_, cap, rfl, fun i hi => ⟨g, 0, rfl, ?_⟩, fun i hi => ?_⟩
    · rw [Nat.zero_add, h.cellAt i (by omega)]
      unfold i64s
      rw [List.getElem?_map, List.getElem?_eq_getElem hi]
      simp [List.getD, hi]
    · have := hb i hi
      show _ ≤ ((l.getD i 0 : Nat) : Int) ∧ ((l.getD i 0 : Nat) : Int) ≤ _
      omega
theorem chg_bd (l r : List Int) (k : Nat) (hk : k ≤ 32) : ∀ i, i < (chg l r k).length → (chg l r k).getD i 0 ≤ 1000 := by
  intro i hi
  have e : (chg l r k).getD i 0 = (chg l r k)[i] := by simp [List.getD, hi]
  have h := List.getElem_mem hi
  rw [e]
  generalize (chg l r k)[i] = x at h
  unfold chg at h
  rw [List.mem_filter, List.mem_range] at h
  omega
theorem i64s_snoc (l : List Nat) (k : Nat) : i64s l ++ [Value.int .i64 (k : Int)] = i64s (l ++ [k]) := by simp [i64s]
theorem Mem.page' {w : World} {b off n c k : Nat} {l : List Int} (h : Mem w (some ⟨b, off, none⟩) n c l) (hf : 32 * k + 32 ≤ n) : Mem w (some ⟨b, off + k * 32, none⟩) ((k + 1) * 32 - k * 32) (c - k * 32) (pageL l k) := by
  have h' := h.page hf
  have e1 : (k + 1) * 32 - k * 32 = 32 := by omega
  rw [e1, Nat.mul_comm k 32]
  exact h'
theorem own_drewN {w : World} {base size n : Nat} {e : TypeId} {v : Value} {xs : List Value} (h : w.ownsRow base e size v n xs) (k : Nat) : (w.drewN k).ownsRow base e size v n xs := h
theorem changed_refno (A B : Option Addr) (n m c d : Nat) (w : World) (h : ¬ n = m) (hn : n ≤ 1024) (hm : m ≤ 1024) :
    Calls Try.prog 21 #[.slice A n c, .slice B m d] w (NumsPost [] w) := by
  have h' : ¬ (n : Int) = m := by omega
  go_enter Try.func21, Try.ntmps21
  go_wp2
  all_goals go_ret
  exact ⟨⟨_, rfl, World.ownsRow_nil _ _ _ _⟩, Below.refl _ _⟩
set_option maxRecDepth 100000 in
set_option maxHeartbeats 1000000 in
theorem changed_ref (A B : Option Addr) (n c d : Nat) (l r : List Int) (w : World) (hl : Mem w A n c l) (hr : Mem w B n d r) :
    Calls Try.prog 21 #[.slice A n c, .slice B n d] w (NumsPost (chg l r (pagesN n)) w) := by
  obtain ⟨i0, hi, hz0, hz1, hz2⟩ := info_parts info_int
  have hn := hl.2.2.1
  have hlc := hl.2.1
  have hrc := hr.2.1
  have hp := pagesN_le n
  have HL := Lib.hid hl
  have HR := Lib.hid hr
  have HPG := Lib.hid (fun W => pages_ref A n c W (by omega))
  obtain ⟨R, hR⟩ : ∃ R, Hid (chg l r (pagesN n) = R) := ⟨_, rfl⟩
  rw [hR.out]
  generalize hP : pagesN n = P at hp HPG hR
  have hPI := Lib.hid hP
  clear hl hr hP
  obtain ⟨hp1, hp2⟩ := hp
  go_enter Try.func21, Try.ntmps21
  go_wp2
  go_loopw [5, 6] (fun v i wr => ∃ k : Nat, k ≤ P ∧ i = .int .i64 k ∧ wr.ownsRow w.heap.size 3 1 v (chg l r k).length (i64s (chg l r k)) ∧ Below w.heap.size w wr) (fun _ i _ => P - (intOf i).toNat)
  case atStart => exact ⟨0, Nat.zero_le _, rfl, World.ownsRow_nil _ _ _ _, Below.refl _ _⟩
  case round =>
    obtain ⟨k, hk, rfl, hown, hb⟩ := hrel
    by_cases hlt : k < P
    · obtain ⟨b1, o1, rfl, _⟩ := HL.out.at_ (k := 0) (by omega)
      obtain ⟨b2, o2, rfl, _⟩ := HR.out.at_ (k := 0) (by omega)
      have HS := Lib.hid (chg_succ l r k)
      have hcl := chg_len l r k
      have hws : w.heap.size ≤ wr.heap.size := hb.size
      have hcc : ¬ c = k * 32 := by omega
      have hdd : ¬ d = k * 32 := by omega
      have hu1 : ((k : Int) + 1) * 32 ≤ c := by omega
      have hu2 : ((k : Int) + 1) * 32 ≤ d := by omega
      have HE := Lib.hid (fun q => same_yes (some ⟨b1, o1 + k * 32, none⟩) (some ⟨b2, o2 + k * 32, none⟩) ((k + 1) * 32 - k * 32) (c - k * 32) (d - k * 32) (pageL l k) (pageL r k) (wr.drewN q) (((HL.out.on hb).page' (by omega)).drewN q) (((HR.out.on hb).page' (by omega)).drewN q))
      have HB := Lib.hid hb
      have HO := Lib.hid hown
      clear hb
      by_cases hd : pageL l k = pageL r k
      · rw [decide_eq_true hd] at HE
        rw [if_pos hd] at HS
        clear hd hown
        go_wp2_with (go_at_call 20; refine (HPG.out _).mono ?_; rintro e w2 ⟨rfl, m2, rfl⟩)
        go_quiet ((go_at_call 10; exact quiet_add (HE.out _)))
        go_wp2
        go_roundw
        case rel => exact ⟨k + 1, by omega, by go_num, by rw [HS.out]; exact HO.out, below_more (below_drewN HB.out m2) nq⟩
        case measure => simp [intOf]; omega
      · rw [decide_eq_false hd] at HE
        rw [if_neg hd] at HS
        clear hd hown
        generalize chg l r k = pre at HS hcl HO
        go_wp2_with (go_at_call 20; refine (HPG.out _).mono ?_; rintro e w2 ⟨rfl, m2, rfl⟩)
        go_quiet ((go_at_call 10; exact quiet_add (HE.out _)))
        have HO4 : Hid (((wr.drewN m2).drewN nq).ownsRow w.heap.size 3 1 _ pre.length (i64s pre)) := HO.out
        have HB4 : Hid (Below w.heap.size w ((wr.drewN m2).drewN nq)) := below_drewN (below_drewN HB.out m2) nq
        have hw4 : w.heap.size ≤ ((wr.drewN m2).drewN nq).heap.size := hws
        generalize (wr.drewN m2).drewN nq = w4 at HO4 HB4 hw4 ⊢
        go_wp2_with (at_builtin; refine wpList_append_own _ rfl _ _ 37 rfl (w.heap.size) 3 i0 (.int .i64 0) 1 8 Try.underlying37 hi hz0 hz1 hz2 rfl (by decide) _ _ _ rfl (HO4.out.alloc _) ⟨w4.heap.size, 0, none⟩ 1 1 [.int .i64 (k : Int)] rfl rfl (new_cell _ _ _) (one_cell _ _) (by unfold maxLen; omega) (by omega) (by simp; omega) ?_)
        intro v' w1 hown1 hgrow _
        rw [i64s_snoc, ← HS.out] at hown1
        have hb9 : Below w.heap.size w w1 := (HB4.out.alloc hw4 _).grown hgrow (by simp; omega) (fun k hk => (HO4.out.lt k hk).1)
        have hlen : (chg l r (k + 1)).length = pre.length + 1 := by rw [HS.out]; simp
        have HLN := Lib.hid hlen
        clear hlen
        go_wp2
        go_roundw
        case rel => exact ⟨k + 1, by omega, by go_num, by rw [HLN.out]; exact hown1, hb9⟩
        case measure => simp [intOf]; omega
    · obtain rfl : k = P := by omega
      rw [hR.out] at hown
      have HO := Lib.hid hown
      have HB := Lib.hid hb
      clear hown hb
      go_wp2_with (go_at_call 20; refine (HPG.out _).mono ?_; rintro e w2 ⟨rfl, m2, rfl⟩)
      go_ret
      exact ⟨⟨_, rfl, own_drewN HO.out m2⟩, below_drewN HB.out m2⟩
end Go.Proofs.Ytackgjmmeojpiaa
