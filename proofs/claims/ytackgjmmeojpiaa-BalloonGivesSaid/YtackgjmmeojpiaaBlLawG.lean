import Derived.Test.YtackgjmmeojpiaaBlLawT
import Derived.Test.YtackgjmmeojpiaaPmRow
namespace Go.Proofs.Ytackgjmmeojpiaa
set_option linter.unusedVariables false
set_option linter.unusedSimpArgs false
set_option maxRecDepth 20000
open Go.ChangeShapes Go.WideShapes Go.ChangeAt Go.RowKit Go.Proofs.Ytackgjmmeojpiaa.Num Go.Proofs.Ytackgjmmeojpiaa.Mem
/-- The frames that were given, as the law notes them. -/
structure InG (w : World) (b : Nat) (g : Nat) : Prop where
  c : ∀ i, i < 32 → w.cell? ⟨b, i, none⟩ = some (.bool (g.testBit i))
  z : ∀ i, w.frozen? ⟨b, i, none⟩ = false
theorem InG.lt {w : World} {b g : Nat} (h : InG w b g) : b < w.heap.size := World.block_lt_of_cell? w _ (h.c 0 (by omega))
theorem InG.on {w w' : World} {b g : Nat} (h : InG w b g) (hb : Below w.heap.size w w') : InG w' b g := ⟨fun i hi => stillI (h.c i hi) hb, fun i => (hb.frozen (p := ⟨b, i, none⟩) h.lt).trans (h.z i)⟩
theorem info_boolB : (Try.prog.info? 4).map (fun i => (i.zero, i.size, i.bytes)) = some (some (.bool false), 1, 1) := by kernel_rfl
theorem mk_given (w : World) : (Instr.makeSlice 39 (.int .i64 32) (.int .i64 32)).run Try.prog w = .ok (.slice (some ⟨w.heap.size, 0, none⟩) 32 32) (w.alloc (.cells (Array.replicate 32 (.bool false)) 4)) := by
  obtain ⟨i0, hi0, hz0, hz1, hz2⟩ := info_parts info_boolB
  have h := run_make (P := Try.prog) w 39 4 i0 (.bool false) Try.underlying39 hi0 hz0 .i64 .i64 32 32 (by omega) (by omega) (by rw [hz2]; omega) (by omega)
  rw [h, hz1]
  congr 3
  apply Array.toList_inj.1
  rw [show (Value.bool false).cells = #[Value.bool false] from rfl, toList_madeCells_one]
  rfl
theorem InG.new (w : World) : InG (w.alloc (.cells (Array.replicate 32 (.bool false)) 4)) w.heap.size 0 := ⟨fun i hi => by
    rw [World.cell?_alloc_at _ _ _ _ rfl]
    simp [hi], fun i => by simp [go_sem]⟩
theorem mk_zeros (N : Int) (n : Nat) (hN : N = (n : Int)) (hn : n ≤ 4096) (w : World) : (Instr.makeSlice 44 (.int .i64 N) (.int .i64 N)).run Try.prog w = .ok (.slice (some ⟨w.heap.size, 0, none⟩) n n) (w.alloc (.cells (u8s (List.replicate n 0)).toArray 5)) := by
  obtain ⟨i0, hi0, hz0, hz1, hz2⟩ := info_parts info_u8
  subst hN
  have h := run_make (P := Try.prog) w 44 5 i0 (.int .u8 0) Try.underlying44 hi0 hz0 .i64 .i64 n n (by omega) (by omega) (by rw [hz2]; omega) (by omega)
  rw [h, hz1]
  simp only [Int.toNat_natCast, Nat.mul_one]
  congr 3
  have e : (Value.int IntKind.u8 0).cells = #[Value.int .u8 0] := rfl
  rw [e]
  apply Array.toList_inj.1
  rw [toList_madeCells_one]
  simp [u8s]
/-- The cells of 128 zeros. -/
def zC : Array Value := (u8s (List.replicate 128 0)).toArray
theorem mk_zC (w : World) : (Instr.makeSlice 44 (.int .i64 128) (.int .i64 128)).run Try.prog w = .ok (.slice (some ⟨w.heap.size, 0, none⟩) 128 128) (w.alloc (.cells zC 5)) := mk_zeros 128 128 rfl (by omega) w
/-- 128 zeros out of a slice of bytes. -/
theorem zeros_conv (w : World) : (convert 44 9 (.slice (some ⟨w.heap.size, 0, none⟩) 128 128)).run Try.prog (w.alloc (.cells zC 5)) = .ok (.string zs8) (w.alloc (.cells zC 5)) := by
  rw [run_convert_bytes_string _ 44 9 5 _ _ _ Try.underlying44 Try.underlying5 Try.underlying9]
  have hl : (List.replicate 128 (0 : UInt8)).length = 128 := by simp
  have h := bytes_string (P := Try.prog) (w.alloc (.cells zC 5)) ⟨w.heap.size, 0, none⟩ 128 128 (List.replicate 128 0) hl (fun j hj => by
    rw [add_plain, World.cell?_alloc_at _ _ _ _ rfl]
    have hj' : j < 128 := by rw [hl] at hj; exact hj
    rw [List.getElem_replicate]
    show zC[0 + j]? = _
    unfold zC
    rw [show u8s (List.replicate 128 0) = List.replicate 128 (Value.int .u8 0) from by unfold u8s; rw [List.map_replicate]; rfl]
    rw [Nat.zero_add, List.getElem?_toArray, List.getElem?_replicate, if_pos hj']
    rfl)
  rw [h]
  congr 3
theorem and1_i64 (y : Int) : bits .and .i64 y 1 = 0 ∨ bits .and .i64 y 1 = 1 := by
  have e : ((BitVec.ofInt 64 y) &&& (BitVec.ofInt 64 1)).toNat = (BitVec.ofInt 64 y).toNat % 2 := by
    rw [BitVec.toNat_and]
    exact Nat.and_one_is_mod _
  have h : bits .and .i64 y 1 = IntKind.i64.wrap (((BitVec.ofInt 64 y) &&& (BitVec.ofInt 64 1)).toNat : Int) := rfl
  rw [h, e]
  rcases Nat.mod_two_eq_zero_or_one (BitVec.ofInt 64 y).toNat with h | h <;> rw [h]
  · exact .inl rfl
  · exact .inr rfl
theorem chg_selfB (l : List Int) (k : Nat) : chg l l k = [] := by unfold chg; simp
theorem pageL_u32 {l : List Int} (h : U32 l) (f : Nat) : U32 (pageL l f) := fun x hx => h x (List.mem_of_mem_drop (List.mem_of_mem_take hx))
theorem page_far {s : List UInt8} {v f : Nat} {l l' : List Int} (h : Filled s v 128 l l') (hu : U32 l) (hl : 32 * f + 32 ≤ l.length) (hf : ¬ f = v) : pageL l f = pageL l' f := by
  have h1 := pageL_len hl
  have h2 : (pageL l' f).length = 32 := pageL_len (by rw [h.1]; exact hl)
  refine byte_ext (pageL_u32 hu f) (pageL_u32 h.2.1 f) (by rw [h1, h2]) fun a ha => ?_
  rw [h1] at ha
  rw [page_byte (by omega), page_byte (by omega), h.2.2 _ (by omega), if_neg (by omega)]
theorem chg_one {s : List UInt8} {v : Nat} {l l' : List Int} (h : Filled s v 128 l l') (hu : U32 l) : ∀ k, 32 * k ≤ l.length → (k ≤ v → chg l l' k = []) ∧ (v < k → chg l l' k = [] ∨ chg l l' k = [v]) := by
  intro k
  induction k with
  | zero => intro _; exact ⟨fun _ => rfl, fun h => absurd h (Nat.not_lt_zero _)⟩
  | succ k ih =>
    intro hk
    obtain ⟨i1, i2⟩ := ih (by omega)
    rw [chg_succ]
    refine ⟨fun hv => ?_, fun hv => ?_⟩
    · rw [if_pos (page_far h hu (by omega) (by omega))]
      exact i1 (by omega)
    · by_cases e : k = v
      · subst e
        split
        · exact .inl (i1 (Nat.le_refl _))
        · right; rw [i1 (Nat.le_refl _)]; rfl
      · rw [if_pos (page_far h hu (by omega) e)]
        exact i2 (by omega)
def NumsB (L : List Nat) (w : World) (e : Ending) (w' : World) : Prop := (∃ A c, e = .returned (.slice A L.length c) ∧ Ints w' A L.length (fun i => (L.getD i 0 : Int))) ∧ Below w.heap.size w w'
theorem changedB (A B : Option Addr) (n c d : Nat) (l r : List Int) (w : World) (hl : Mem w A n c l) (hr : Mem w B n d r) :
    Calls Try.prog 21 #[.slice A n c, .slice B n d] w (NumsB (chg l r (pagesN n)) w) := by
  refine (changed_ref A B n c d l r w hl hr).mono fun e w' h => ?_
  obtain ⟨⟨v, rfl, ho⟩, hb⟩ := h
  obtain ⟨A, c, rfl, hi⟩ := nums_shape ho (chg_bd l r _ (pagesN_le n).1)
  exact ⟨⟨A, c, rfl, hi⟩, hb⟩
theorem pgS_zeros {n f : Nat} {l l' : List Int} (h : Filled zs8.data.toList f 128 l l') (hl : l.length = n) (hf : f < pagesN n) : pgS n l' f = zs8 := by
  have hp := pagesN_le n
  unfold pgS
  rw [if_pos ⟨by omega, by omega⟩]
  show pageS l' f = zs8
  unfold pageS
  rw [h.page (by rw [zs8_list]; simp) (by omega)]
  unfold S8
  simp
theorem InG.set {w : World} {b g h v : Nat} (hg : InG w b g) (B : Bool) (e : ∀ i, i < 32 → h.testBit i = if v = i then B else g.testBit i) : InG (w.setCell ⟨b, v, none⟩ (.bool B)) b h := by
  refine ⟨fun i hi => ?_, fun i => by rw [World.frozen?_setCell]; exact hg.z i⟩
  by_cases hv : v = i
  · subst hv
    rw [e v hi, if_pos rfl]
    have := hg.c v hi
    simp [go_sem, this]
  · rw [e i hi, if_neg hv]
    have := hg.c i hi
    simp [go_sem, hv, this]
theorem InB.far {w : World} {b : Nat} {T : Int} {g : Nat} (h : InB w b T g) {c : Nat} (hc : ¬ c = b) (i : Nat) (v : Value) : InB (w.setCell ⟨c, i, none⟩ v) b T g := by
  have e : ∀ k, (w.setCell ⟨c, i, none⟩ v).cell? ⟨b, k, none⟩ = w.cell? ⟨b, k, none⟩ := fun k => World.cell?_setCell_far w ⟨c, i, none⟩ ⟨b, k, none⟩ v hc
  exact ⟨(e 0).trans h.c0, (e 1).trans h.c1, fun k => by rw [World.frozen?_setCell]; exact h.z k⟩
theorem InG.far {w : World} {b g : Nat} (h : InG w b g) {c : Nat} (hc : ¬ c = b) (i : Nat) (v : Value) : InG (w.setCell ⟨c, i, none⟩ v) b g := by
  have e : ∀ k, (w.setCell ⟨c, i, none⟩ v).cell? ⟨b, k, none⟩ = w.cell? ⟨b, k, none⟩ := fun k => World.cell?_setCell_far w ⟨c, i, none⟩ ⟨b, k, none⟩ v hc
  exact ⟨fun k hk => (e k).trans (h.c k hk), fun k => by rw [World.frozen?_setCell]; exact h.z k⟩
theorem gives_long (x pg : Int) (A : Option Addr) (n c : Nat) (w : World) (h : 60 < n) :
    Calls Try.prog 4 #[.int .i64 x, .int .i64 pg, .slice A n c] w fun e w' => e = .returned (.bool true) ∧ Below w.heap.size w w' := by
  have HW := Lib.hid awake11
  go_enter Try.func4, Try.ntmps4
  go_wp2_with (go_at_call 19; (with_reducible refine (HW.out _).mono ?_); rintro e w1 ⟨rfl, hb1⟩)
  go_ret
  exact ⟨rfl, hb1⟩
set_option maxRecDepth 100000 in
set_option maxHeartbeats 4000000 in
theorem gives_walk (x pg : Int) (A : Option Addr) (n c : Nat) (z : Nat → Int) (w : World) (hz : Ints w A n z) (h : n ≤ 60) (x0 : -9223372036854775808 ≤ x) (x1 : x ≤ 9223372036854775807) (p0 : -9223372036854775808 ≤ pg) (p1 : pg ≤ 9223372036854775807) :
    Calls Try.prog 4 #[.int .i64 x, .int .i64 pg, .slice A n c] w fun e w' => e = .returned (.bool true) ∧ Below w.heap.size w w' := by
  have HW := Lib.hid awake11
  obtain ⟨r, hr⟩ : ∃ r : Nat, pg % 8 = r := ⟨(pg % 8).toNat, by omega⟩
  have HWD := Lib.hid (fun W => words11 x pg r W x0 x1 p0 p1 hr)
  unfold WordsPost at HWD
  have hr7 : r ≤ 7 := by omega
  obtain ⟨N, hN⟩ : ∃ N, 32 * (1 + r) = N := ⟨_, rfl⟩
  have hpN : pagesN N = 1 + r := by unfold pagesN; rw [if_pos ⟨by omega, by omega⟩]; omega
  have HPG := Lib.hid (fun A2 c2 W => pages_ref A2 N c2 W (by omega))
  rw [hN] at HWD
  obtain ⟨K, hK⟩ : ∃ K, pagesN N = K := ⟨_, rfl⟩
  rw [hK] at HPG
  have HN := Lib.hid hN
  have HK := Lib.hid hK
  have HKr := Lib.hid (hK.symm.trans hpN)
  have HZ := Lib.hid hz
  clear hN hpN hK hz hr
  have hmk := mk_given
  go_enter Try.func4, Try.ntmps4
  go_wp2_with (first
    | go_skip
    | (go_at_call 6; (with_reducible refine (HWD.out _).mono ?_); rintro e w1 ⟨⟨q, cw, l0, rfl, hq, hcw, hl0, hu0, ho0⟩, hb1⟩; have B0 := Lib.hid hb1; have H0 := Lib.hid ho0; have U0 := Lib.hid hu0; have L0 := Lib.hid hl0; clear hb1 ho0 hu0 hl0)
    | (go_at_call 20; (with_reducible refine (HPG.out _ _ _).mono ?_); rintro e w2 ⟨rfl, m2, rfl⟩))
  have lq := H0.out.lt
  obtain ⟨b, HE⟩ : ∃ b, Hid (w1.heap.size = b) := ⟨_, rfl⟩
  obtain ⟨W0, HW0⟩ : ∃ W, Hid ((((w1.drewN m2).alloc (.cells #[.int .u32 0, .int .u32 0] 24)).alloc (.cells (Array.replicate 32 (.bool false)) 4)) = W) := ⟨_, rfl⟩
  have bW : Below w1.heap.size w1 W0 := by rw [← HW0.out]; exact (((below_drewN (Below.refl _ _) m2).alloc (by simp) _).alloc (by simp) _)
  have X0 : Hid (InB W0 b 0 0) := by rw [← HW0.out, ← HE.out]; exact Lib.hid ((InB.new (w1.drewN m2) 0 0 24).alloc _)
  have Y0 : Hid (InG W0 (b + 1) 0) := by
    rw [← HW0.out, ← HE.out]
    have e : ((w1.drewN m2).alloc (.cells #[.int .u32 0, .int .u32 0] 24)).heap.size = w1.heap.size + 1 := by simp
    have := InG.new ((w1.drewN m2).alloc (.cells #[.int .u32 0, .int .u32 0] 24))
    rw [e] at this
    exact Lib.hid this
  have C0 := Lib.hid (below_stepI B0.out bW (Nat.le_refl _))
  have P0 := Lib.hid (H0.out.on bW)
  have hqb : q < b := by rw [← HE.out]; exact lq
  have hbw : w.heap.size ≤ b := by rw [← HE.out]; exact B0.out.size
  rw [HW0.out, HE.out]
  clear HW0 bW B0 H0 lq
  go_loopw [7, 11] (fun m i wr => ∃ (j q c : Nat) (lm : List Int) (g : Nat), j ≤ n ∧ i = .int .i64 j ∧ m = .slice (some ⟨q, 0, none⟩) N c ∧ N ≤ c ∧ Hid (lm.length = N) ∧ Hid (U32 lm) ∧ Hid (Own wr q lm) ∧ w.heap.size ≤ q ∧ ¬ b = q ∧ ¬ b + 1 = q ∧ Hid (g < 4294967296) ∧ Hid (∀ i, g.testBit i = true → i < K) ∧ Hid (InB wr b 0 g) ∧ Hid (InG wr (b + 1) g) ∧ Hid (Below w.heap.size w wr)) (fun _ i _ => n - (intOf i).toNat)
  case atStart => exact ⟨0, q, cw, l0, 0, by omega, rfl, rfl, hcw, L0, U0, P0, hq, by omega, by omega, Lib.hid (by omega), Lib.hid (fun i hi => by simp at hi), X0, Y0, C0⟩
  case round =>
    obtain ⟨j, q, c2, lm, g, hj, rfl, rfl, hc2, HL, HU, HO, hq0, hq1, hq2, HG, HS, HX, HY, HB⟩ := hrel
    clear hcw X0 Y0 C0 P0 U0 L0 hqb
    by_cases hlt : j < n
    · obtain ⟨ba, off, rfl, hcl⟩ := (HZ.out.on HB.out).1 j hlt
      obtain ⟨z0, z1⟩ := HZ.out.2 j hlt
      obtain ⟨y, HYJ⟩ : ∃ y, Hid (z j = y) := ⟨_, rfl⟩
      rw [HYJ.out] at hcl z0 z1
      obtain ⟨v, hv⟩ : ∃ v : Nat, y / 2 % 10 = v := ⟨(y / 2 % 10).toNat, by omega⟩
      have hv10 : v < 10 := by omega
      have HRD := Lib.hid (fun W => (round_any (y / 2) 10 W (by omega) (by omega) (by omega) (by omega)).mono (R' := fun e w' => e = .returned (.int .i64 (v : Int)) ∧ w' = W) fun _ _ ⟨h, h'⟩ => ⟨by rw [h, hv], h'.symm⟩)
      clear hv
      rcases and1_i64 y with hd | hd
      · by_cases hC : v < K ∧ g.testBit v = false
        · obtain ⟨hvk, hbv⟩ := hC
          have HOO := Lib.hid (fun W (hM : Mem W (some ⟨q, 0, none⟩) N c2 lm) => bout_any 0 g v 10 (some ⟨q, 0, none⟩) N c2 lm W hM HG.out (by omega))
          unfold BOut at HOO
          rw [show outG N g 10 v = giveB g v by unfold outG; rw [if_pos rfl, if_pos ⟨by rw [HK.out]; exact hvk, hbv⟩]] at HOO
          have HCC : Hid (outC N g 10 v) := Lib.hid ⟨rfl, by rw [HK.out]; exact hvk, hbv⟩
          have HG6 := Lib.hid (giveB_lt g v HG.out)
          have HS6 : Hid (∀ i, (giveB g v).testBit i = true → i < K) := Lib.hid (fun i hi => by
            rw [giveB_test g v i (by omega)] at hi
            by_cases e : v = i
            · omega
            · exact HS.out i (by simpa [e] using hi))
          have HT6 : Hid (∀ i, i < 32 → (giveB g v).testBit i = if v = i then true else g.testBit i) := Lib.hid (fun i hi => by
            rw [giveB_test g v i (by omega)]
            by_cases e : v = i <;> simp [e])
          obtain ⟨G, HGG⟩ : ∃ G, Hid (giveB g v = G) := ⟨_, rfl⟩
          rw [HGG.out] at HOO HG6 HS6 HT6
          have lxb := HX.out.lt
          have lyb := HY.out.lt
          have hM0 := Lib.hid (HO.out.mem HL.out hc2 (by have := HN.out; omega) HU.out)
          have hlm := HO.out.lt
          obtain ⟨x0', x1', xz'⟩ := HX.out
          have HCH := Lib.hid (fun A2 c3 l2 W (h1 : Mem W (some ⟨q, 0, none⟩) N c2 lm) (h2 : Mem W A2 N c3 l2) => changedB (some ⟨q, 0, none⟩) A2 N c2 c3 lm l2 W h1 h2)
          unfold NumsB at HCH
          unfold blV at HOO
          have hgv := HY.out.c v (by omega)
          go_upto_region 14 with (first
            | go_skip
            | (go_at_call 7; (with_reducible refine (HRD.out _).mono ?_); rintro e w4 ⟨rfl, rfl⟩)
            | (go_at_call 8; (with_reducible refine (HOO.out _ hM0.out).mono ?_); rintro e w3 ⟨⟨A3, c3, l3, rfl, hm3, ho3, hF3, hG3⟩, hb3⟩; have I3 := Lib.hid (HX.out.on hb3); have G3 := Lib.hid (HY.out.on hb3); have M3 := Lib.hid hm3; have O3 := Lib.hid ho3; have F3 := Lib.hid hF3; have E3 := Lib.hid hG3; have B3 := Lib.hid (below_stepI HB.out hb3 (Nat.le_refl _)); have P3 := Lib.hid (hM0.out.on hb3); have s3 : w.heap.size ≤ w3.heap.size := B3.out.size; have gcv := (G3.out.on ((Below.refl _ _).alloc (Nat.le_refl _) (.cells #[.int .u32 0, .int .u32 (G : Int)] 24))).c v (by omega); rw [hbv] at gcv; have ll3 : b + 1 < w3.heap.size := G3.out.lt; have n31 : ¬ w3.heap.size = b + 1 := (by omega); have n32 : ¬ b + 1 = w3.heap.size := (by omega); clear hm3 ho3 hF3 hG3 hb3))
          have hc3 : N ≤ c3 := M3.out.2.1
          obtain ⟨q3, rfl, hq3, hO3⟩ := O3.out (by have := HN.out; omega)
          have HFI := Lib.hid (F3.out HCC.out)
          have HCH := HCH.out _ c3 l3 (w3.alloc (.cells #[.int .u32 0, .int .u32 (G : Int)] 24)) (P3.out.on ((Below.refl _ _).alloc (Nat.le_refl _) _)) (M3.out.on ((Below.refl _ _).alloc (Nat.le_refl _) _))
          have HPP := Lib.hid (fun W (hM : Mem W (some ⟨q3, 0, none⟩) N c3 l3) => page_ref' (some ⟨q3, 0, none⟩) N c3 (v : Int) l3 W hM)
          rw [pgS_zeros HFI.out HL.out (by rw [HK.out]; exact hvk), decide_eq_true (show 0 ≤ (v : Int) ∧ (v : Int) < pagesN N from ⟨by omega, by rw [HK.out]; omega⟩)] at HPP
          have HL1 := (chg_one HFI.out HU.out (pagesN N) (by have := (pagesN_le N).2; rw [HL.out]; exact this)).2 (by rw [HK.out]; exact hvk)
          have O4 := Lib.hid hO3
          clear O3 E3 F3 hO3
          have hmz := mk_zC
          have hcv := zeros_conv
          rcases HL1 with hL1 | hL1
          all_goals
            rw [hL1] at HCH
            try simp only [List.length_nil, List.length_cons, List.length_singleton, List.getD_cons_zero] at HCH
            have HCH := Lib.hid HCH
            clear hL1
            go_upto_region 25 with (first
              | go_skip
              | (go_at_call 21; (with_reducible refine HCH.out.mono ?_); rintro e w5 ⟨⟨A5, c5, rfl, hI5⟩, hb5⟩; have hI5' := hI5.1 0 (by omega); obtain ⟨b5, o5, rfl, hcc5⟩ := hI5'; simp only [List.getD_cons_zero, Nat.add_zero] at hcc5; have I5 := Lib.hid ((I3.out.alloc (.cells #[.int .u32 0, .int .u32 (G : Int)] 24)).on hb5); have G5 := Lib.hid ((G3.out.on ((Below.refl _ _).alloc (Nat.le_refl _) (.cells #[.int .u32 0, .int .u32 (G : Int)] 24))).on hb5); have J5 := Lib.hid ((InB.new w3 0 G 24).on hb5); have O5 := Lib.hid ((O4.out.on ((Below.refl _ _).alloc (Nat.le_refl _) (.cells #[.int .u32 0, .int .u32 (G : Int)] 24))).on hb5); have M5 := Lib.hid ((M3.out.on ((Below.refl _ _).alloc (Nat.le_refl _) (.cells #[.int .u32 0, .int .u32 (G : Int)] 24))).on hb5); have B5 := Lib.hid (below_stepI (below_stepI B3.out ((Below.refl _ _).alloc (Nat.le_refl _) (.cells #[.int .u32 0, .int .u32 (G : Int)] 24)) (Nat.le_refl _)) hb5 (Nat.le_refl _)); clear hb5 hI5)
              | (go_at_call 21; (with_reducible refine HCH.out.mono ?_); rintro e w5 ⟨⟨A5, c5, rfl, hI5⟩, hb5⟩; have I5 := Lib.hid ((I3.out.alloc (.cells #[.int .u32 0, .int .u32 (G : Int)] 24)).on hb5); have G5 := Lib.hid ((G3.out.on ((Below.refl _ _).alloc (Nat.le_refl _) (.cells #[.int .u32 0, .int .u32 (G : Int)] 24))).on hb5); have J5 := Lib.hid ((InB.new w3 0 G 24).on hb5); have O5 := Lib.hid ((O4.out.on ((Below.refl _ _).alloc (Nat.le_refl _) (.cells #[.int .u32 0, .int .u32 (G : Int)] 24))).on hb5); have M5 := Lib.hid ((M3.out.on ((Below.refl _ _).alloc (Nat.le_refl _) (.cells #[.int .u32 0, .int .u32 (G : Int)] 24))).on hb5); have B5 := Lib.hid (below_stepI (below_stepI B3.out ((Below.refl _ _).alloc (Nat.le_refl _) (.cells #[.int .u32 0, .int .u32 (G : Int)] 24)) (Nat.le_refl _)) hb5 (Nat.le_refl _)); clear hb5 hI5)
              | (go_at_call 22; (with_reducible refine (HPP.out _ M5.out).mono ?_); rintro e w6 ⟨rfl, hb6⟩; have I6 := Lib.hid (I5.out.on hb6); have G6 := Lib.hid (G5.out.on hb6); have J6 := Lib.hid (J5.out.on hb6); have O6' := Lib.hid (O5.out.on hb6); have B6' := Lib.hid (below_stepI B5.out hb6 (Nat.le_refl _)); have G7 := Lib.hid (G6.out.on ((Below.refl _ _).alloc (Nat.le_refl _) (.cells zC 5))); have gcv5 := G7.out.c v (by omega); rw [hbv] at gcv5; have gzv5 := G7.out.z v; obtain ⟨i50, i51, i5z⟩ := I6.out.alloc (.cells zC 5); obtain ⟨j50, j51, j5z⟩ := J6.out.alloc (.cells zC 5); clear hb6))
          all_goals
            have I5 := I6
            have G5 := G7
            have J5 := J6
            have O5 := Lib.hid (O6'.out.on ((Below.refl _ _).alloc (Nat.le_refl _) (.cells zC 5)))
            have M5 := M5
            have B5 := Lib.hid (below_stepI B6'.out ((Below.refl _ _).alloc (Nat.le_refl _) (.cells zC 5)) (Nat.le_refl _))
            have HL6 : Hid (l3.length = N) := Lib.hid (HFI.out.1.trans HL.out)
            have HU6 := Lib.hid HFI.out.2.1
            obtain ⟨w7, HW7⟩ : ∃ W, Hid (w6.alloc (.cells zC 5) = W) := ⟨_, rfl⟩
            rw [HW7.out] at G5 O5 B5 i51 gcv5 j51
            replace i50 : w7.cell? ⟨b, 0, none⟩ = some (.int .u32 0) := by rw [← HW7.out]; exact i50
            replace j50 : w7.cell? ⟨w3.heap.size, 0, none⟩ = some (.int .u32 0) := by rw [← HW7.out]; exact j50
            replace i5z : ∀ i, w7.frozen? ⟨b, i, none⟩ = false := by rw [← HW7.out]; exact i5z
            replace j5z : ∀ i, w7.frozen? ⟨w3.heap.size, i, none⟩ = false := by rw [← HW7.out]; exact j5z
            replace gzv5 : w7.frozen? ⟨b + 1, v, none⟩ = false := by rw [← HW7.out]; exact gzv5
            rw [HW7.out]
            clear HFI HCH HPP hmz hcv G6 I6 J6 O6' B6' HCC HW7
            obtain ⟨W6, HW6⟩ : ∃ W, Hid ((((w7.setCell ⟨b + 1, v, none⟩ (.bool true)).setCell ⟨b, 0, none⟩ (.int .u32 0)).setCell ⟨b, 1, none⟩ (.int .u32 (G : Int))) = W) := ⟨_, rfl⟩
            have X6 : Hid (InB W6 b 0 G) := by rw [← HW6.out]; exact Lib.hid ⟨by simp [go_sem, i50], by simp [go_sem, i51], fun i => by simp [go_sem, i5z]⟩
            have Y6 : Hid (InG W6 (b + 1) G) := by rw [← HW6.out]; exact Lib.hid (((G5.out.set true HT6.out).far (by omega) _ _).far (by omega) _ _)
            have O6 : Hid (Own W6 q3 l3) := by
              rw [← HW6.out]; refine Lib.hid ?_
              repeat' (first | with_reducible exact O5.out | (with_reducible refine Own.far ?_ _ _ (by omega)))
            have B6 : Hid (Below w.heap.size w W6) := by
              rw [← HW6.out]; refine Lib.hid ?_
              repeat' (first | with_reducible exact B5.out | (with_reducible refine Below.setCell ?_ (by simp <;> omega) _))
            rw [HW6.out]
            clear i50 i51 i5z j50 j51 j5z gcv5 gzv5 I5 G5 J5 O5 M5 B5 HW6
            have hcG := cnt_le G 32
            have HCN := Lib.hid (fun W => bcount_any 0 G W HG6.out)
            have HMY := Lib.hid (fun W => bmay_any 0 G (K : Int) W HG6.out)
            rw [mayB_yes HG6.out (fun i _ hi => by have := HS6.out i hi; omega)] at HMY
            unfold blV at HCN HMY
            have hN0 : (0 : Int) < N := by have := HN.out; omega
            obtain ⟨s, hs⟩ : ∃ s : Nat, y % N = s := ⟨(y % N).toNat, (Int.toNat_of_nonneg (Int.emod_nonneg _ (by omega))).symm⟩
            have hsN : s < N := by have := Int.emod_lt_of_pos y hN0; omega
            have HR2 := Lib.hid (fun W => (round_any y N W (by have := HN.out; omega) (by have := HN.out; omega) z0 z1).mono (R' := fun e w' => e = .returned (.int .i64 (s : Int)) ∧ w' = W) fun _ _ ⟨h, h'⟩ => ⟨by rw [h, hs], h'.symm⟩)
            clear hs
            go_wp2_with fail
            go_loop [20, 21] (fun m i => ∃ k : Nat, k ≤ 32 ∧ i = .int .i64 k ∧ m = .int .i64 (cnt G k : Int)) (fun _ i => 32 - (intOf i).toNat)
            case atStart => exact ⟨0, Nat.zero_le _, rfl, rfl⟩
            case round =>
              obtain ⟨k, hk, rfl, rfl⟩ := hrel
              have hck := cnt_le G k
              by_cases hk32 : k < 32
              · have hck2 := Y6.out.c k hk32
                have hs' : cnt G (k + 1) = cnt G k + ((G).testBit k).toNat := rfl
                cases ht : (G).testBit k
                all_goals
                  rw [ht] at hck2 hs'
                  have HSS := Lib.hid hs'
                  clear hs' ht
                  generalize cnt G k = M at *
                  go_wp2_with fail
                  go_round
                  case rel => exact ⟨k + 1, by omega, by go_num, by rw [HSS.out]; go_num⟩
                  case measure => simp [intOf]; omega
              · obtain rfl : k = 32 := by omega
                clear hk
                obtain ⟨x60, x61, x6z⟩ := X6.out
                generalize cnt G 32 = M at *
                go_upto_region 33 with (first
                  | go_skip
                  | (go_at_call 13; (with_reducible refine (HCN.out _).mono ?_); rintro e w7 ⟨rfl, hb7⟩; have X7 := Lib.hid (X6.out.on hb7); have Y7 := Lib.hid (Y6.out.on hb7); have O7 := Lib.hid (O6.out.on hb7); have B7 := Lib.hid (below_stepI B6.out hb7 (Nat.le_refl _)); obtain ⟨x70, x71, x7z⟩ := X7.out; clear hb7)
                  | (go_at_call 17; (with_reducible refine (HMY.out _).mono ?_); rintro e w8 ⟨rfl, hb8⟩; have X8 := Lib.hid (X7.out.on hb8); have Y8 := Lib.hid (Y7.out.on hb8); have O8 := Lib.hid (O7.out.on hb8); have B8 := Lib.hid (below_stepI B7.out hb8 (Nat.le_refl _)); have Z8 := Lib.hid (HZ.out.on B8.out); clear hb8))
                obtain ⟨ba2, off2, hA2, hcl2⟩ := Z8.out.1 j hlt
                obtain ⟨rfl, rfl⟩ : ba = ba2 ∧ off = off2 := by simpa using hA2
                rw [HYJ.out] at hcl2
                have hcell := O8.out.cell (i := s) (by rw [HL6.out]; omega)
                have hfree := O8.out.free s
                clear hA2
                refine wp_region_still_tail 15 (by kernel_rfl) (by kernel_rfl) ?_
                simp only [List.take_succ_cons, List.take_zero, List.drop_succ_cons, List.drop_zero]
                repeat (refine wpStill_step (fun K hK => ?_); go_simp; first | (with_reducible refine hK _ ?_) | (with_reducible refine ⟨_, HR2.out _, hK _ ?_⟩); clear hK K)
                refine wpStill_nil ?_
                go_wp2_with fail
                go_roundw
                case rel => exact ⟨j + 1, q3, c3, (l3).set s (bits .and .i64 y 4294967295 % 4294967296), G, by omega, by go_num, rfl, hc3, (by rw [List.length_set]; exact HL6.out : ((l3).set s (bits .and .i64 y 4294967295 % 4294967296)).length = N), HU6.out.set s (Int.emod_nonneg _ (by omega)) (by omega), (O8.out.set (by rw [HL6.out]; exact hsN) _).on ((Below.refl _ _).drew), by omega, by omega, by omega, HG6, HS6, (X8.out.far (by omega) _ _).on ((Below.refl _ _).drew), (Y8.out.far (by omega) _ _).on ((Below.refl _ _).drew), (B8.out.setCell (by simp <;> omega) _).drew⟩
                case measure => simp [intOf]; omega
        · have hvK : v < K → g.testBit v = true := fun hh => by
            cases hb : g.testBit v
            · exact absurd ⟨hh, hb⟩ hC
            · rfl
          have HOO := Lib.hid (fun W (hM : Mem W (some ⟨q, 0, none⟩) N c2 lm) => bout_any 0 g v 10 (some ⟨q, 0, none⟩) N c2 lm W hM HG.out (by omega))
          unfold BOut at HOO
          rw [show outG N g 10 v = g by unfold outG; rw [if_pos rfl, if_neg (by rw [HK.out]; exact hC)]] at HOO
          have HNC : Hid (¬ outC N g 10 v) := Lib.hid (fun hh => hC ⟨by rw [← HK.out]; exact hh.2.1, hh.2.2⟩)
          clear hC
          by_cases hvk : v < K
          · have hbv := hvK hvk
            clear hvK
            have lxb := HX.out.lt
            have lyb := HY.out.lt
            have hM0 := Lib.hid (HO.out.mem HL.out hc2 (by have := HN.out; omega) HU.out)
            have hlm := HO.out.lt
            obtain ⟨x0', x1', xz'⟩ := HX.out
            have HCH := Lib.hid (fun A2 c3 l2 W (h1 : Mem W (some ⟨q, 0, none⟩) N c2 lm) (h2 : Mem W A2 N c3 l2) => changedB (some ⟨q, 0, none⟩) A2 N c2 c3 lm l2 W h1 h2)
            unfold NumsB at HCH
            unfold blV at HOO
            have hgv := HY.out.c v (by omega)
            go_upto_region 14 with (first
              | go_skip
              | (go_at_call 7; (with_reducible refine (HRD.out _).mono ?_); rintro e w4 ⟨rfl, rfl⟩)
              | (go_at_call 8; (with_reducible refine (HOO.out _ hM0.out).mono ?_); rintro e w3 ⟨⟨A3, c3, l3, rfl, hm3, ho3, hF3, hG3⟩, hb3⟩; have I3 := Lib.hid (HX.out.on hb3); have G3 := Lib.hid (HY.out.on hb3); have M3 := Lib.hid hm3; have O3 := Lib.hid ho3; have F3 := Lib.hid hF3; have E3 := Lib.hid hG3; have B3 := Lib.hid (below_stepI HB.out hb3 (Nat.le_refl _)); have P3 := Lib.hid (hM0.out.on hb3); have s3 : w.heap.size ≤ w3.heap.size := B3.out.size; have gcv := (G3.out.on ((Below.refl _ _).alloc (Nat.le_refl _) (.cells #[.int .u32 0, .int .u32 (g : Int)] 24))).c v (by omega); rw [hbv] at gcv; have ll3 : b + 1 < w3.heap.size := G3.out.lt; have n31 : ¬ w3.heap.size = b + 1 := (by omega); have n32 : ¬ b + 1 = w3.heap.size := (by omega); clear hm3 ho3 hF3 hG3 hb3))
            have hc3 : N ≤ c3 := M3.out.2.1
            obtain ⟨q3, rfl, hq3, hO3⟩ := O3.out (by have := HN.out; omega)
            have e3 : lm = l3 := (E3.out HNC.out).symm
            subst e3
            have HCH := HCH.out _ c3 lm (w3.alloc (.cells #[.int .u32 0, .int .u32 (g : Int)] 24)) (P3.out.on ((Below.refl _ _).alloc (Nat.le_refl _) _)) (M3.out.on ((Below.refl _ _).alloc (Nat.le_refl _) _))
            rw [chg_selfB] at HCH
            simp only [List.length_nil] at HCH
            have HCH := Lib.hid HCH
            have O4 := Lib.hid hO3
            clear O3 E3 F3 hO3
            go_upto_region 25 with (first
              | go_skip
              | (go_at_call 21; (with_reducible refine HCH.out.mono ?_); rintro e w5 ⟨⟨A5, c5, rfl, hI5⟩, hb5⟩; have I5 := Lib.hid ((I3.out.alloc (.cells #[.int .u32 0, .int .u32 (g : Int)] 24)).on hb5); have G5 := Lib.hid ((G3.out.on ((Below.refl _ _).alloc (Nat.le_refl _) (.cells #[.int .u32 0, .int .u32 (g : Int)] 24))).on hb5); have J5 := Lib.hid ((InB.new w3 0 g 24).on hb5); have O5 := Lib.hid ((O4.out.on ((Below.refl _ _).alloc (Nat.le_refl _) (.cells #[.int .u32 0, .int .u32 (g : Int)] 24))).on hb5); have M5 := Lib.hid ((M3.out.on ((Below.refl _ _).alloc (Nat.le_refl _) (.cells #[.int .u32 0, .int .u32 (g : Int)] 24))).on hb5); have B5 := Lib.hid (below_stepI (below_stepI B3.out ((Below.refl _ _).alloc (Nat.le_refl _) (.cells #[.int .u32 0, .int .u32 (g : Int)] 24)) (Nat.le_refl _)) hb5 (Nat.le_refl _)); have gcv5 := G5.out.c v (by omega); rw [hbv] at gcv5; have gzv5 := G5.out.z v; obtain ⟨i50, i51, i5z⟩ := I5.out; obtain ⟨j50, j51, j5z⟩ := J5.out; clear hb5 hI5))
            have HG6 := HG
            have HS6 := HS
            have HL6 := HL
            have HU6 := HU
            obtain ⟨W6, HW6⟩ : ∃ W, Hid (((w5.setCell ⟨b, 0, none⟩ (.int .u32 0)).setCell ⟨b, 1, none⟩ (.int .u32 (g : Int))) = W) := ⟨_, rfl⟩
            have X6 : Hid (InB W6 b 0 g) := by rw [← HW6.out]; exact Lib.hid ⟨by simp [go_sem, i50], by simp [go_sem, i51], fun i => by simp [go_sem, i5z]⟩
            have Y6 : Hid (InG W6 (b + 1) g) := by rw [← HW6.out]; exact Lib.hid ((G5.out.far (by omega) _ _).far (by omega) _ _)
            have O6 : Hid (Own W6 q3 lm) := by
              rw [← HW6.out]; refine Lib.hid ?_
              repeat' (first | with_reducible exact O5.out | (with_reducible refine Own.far ?_ _ _ (by omega)))
            have B6 : Hid (Below w.heap.size w W6) := by
              rw [← HW6.out]; refine Lib.hid ?_
              repeat' (first | with_reducible exact B5.out | (with_reducible refine Below.setCell ?_ (by simp <;> omega) _))
            rw [HW6.out]
            clear i50 i51 i5z j50 j51 j5z gcv5 gzv5 I5 G5 J5 O5 M5 B5 HW6
            have hcG := cnt_le g 32
            have HCN := Lib.hid (fun W => bcount_any 0 g W HG6.out)
            have HMY := Lib.hid (fun W => bmay_any 0 g (K : Int) W HG6.out)
            rw [mayB_yes HG6.out (fun i _ hi => by have := HS6.out i hi; omega)] at HMY
            unfold blV at HCN HMY
            have hN0 : (0 : Int) < N := by have := HN.out; omega
            obtain ⟨s, hs⟩ : ∃ s : Nat, y % N = s := ⟨(y % N).toNat, (Int.toNat_of_nonneg (Int.emod_nonneg _ (by omega))).symm⟩
            have hsN : s < N := by have := Int.emod_lt_of_pos y hN0; omega
            have HR2 := Lib.hid (fun W => (round_any y N W (by have := HN.out; omega) (by have := HN.out; omega) z0 z1).mono (R' := fun e w' => e = .returned (.int .i64 (s : Int)) ∧ w' = W) fun _ _ ⟨h, h'⟩ => ⟨by rw [h, hs], h'.symm⟩)
            clear hs
            go_wp2_with fail
            go_loop [20, 21] (fun m i => ∃ k : Nat, k ≤ 32 ∧ i = .int .i64 k ∧ m = .int .i64 (cnt g k : Int)) (fun _ i => 32 - (intOf i).toNat)
            case atStart => exact ⟨0, Nat.zero_le _, rfl, rfl⟩
            case round =>
              obtain ⟨k, hk, rfl, rfl⟩ := hrel
              have hck := cnt_le g k
              by_cases hk32 : k < 32
              · have hck2 := Y6.out.c k hk32
                have hs' : cnt g (k + 1) = cnt g k + ((g).testBit k).toNat := rfl
                cases ht : (g).testBit k
                all_goals
                  rw [ht] at hck2 hs'
                  have HSS := Lib.hid hs'
                  clear hs' ht
                  generalize cnt g k = M at *
                  go_wp2_with fail
                  go_round
                  case rel => exact ⟨k + 1, by omega, by go_num, by rw [HSS.out]; go_num⟩
                  case measure => simp [intOf]; omega
              · obtain rfl : k = 32 := by omega
                clear hk
                obtain ⟨x60, x61, x6z⟩ := X6.out
                generalize cnt g 32 = M at *
                go_upto_region 33 with (first
                  | go_skip
                  | (go_at_call 13; (with_reducible refine (HCN.out _).mono ?_); rintro e w7 ⟨rfl, hb7⟩; have X7 := Lib.hid (X6.out.on hb7); have Y7 := Lib.hid (Y6.out.on hb7); have O7 := Lib.hid (O6.out.on hb7); have B7 := Lib.hid (below_stepI B6.out hb7 (Nat.le_refl _)); obtain ⟨x70, x71, x7z⟩ := X7.out; clear hb7)
                  | (go_at_call 17; (with_reducible refine (HMY.out _).mono ?_); rintro e w8 ⟨rfl, hb8⟩; have X8 := Lib.hid (X7.out.on hb8); have Y8 := Lib.hid (Y7.out.on hb8); have O8 := Lib.hid (O7.out.on hb8); have B8 := Lib.hid (below_stepI B7.out hb8 (Nat.le_refl _)); have Z8 := Lib.hid (HZ.out.on B8.out); clear hb8))
                obtain ⟨ba2, off2, hA2, hcl2⟩ := Z8.out.1 j hlt
                obtain ⟨rfl, rfl⟩ : ba = ba2 ∧ off = off2 := by simpa using hA2
                rw [HYJ.out] at hcl2
                have hcell := O8.out.cell (i := s) (by rw [HL6.out]; omega)
                have hfree := O8.out.free s
                clear hA2
                refine wp_region_still_tail 15 (by kernel_rfl) (by kernel_rfl) ?_
                simp only [List.take_succ_cons, List.take_zero, List.drop_succ_cons, List.drop_zero]
                repeat (refine wpStill_step (fun K hK => ?_); go_simp; first | (with_reducible refine hK _ ?_) | (with_reducible refine ⟨_, HR2.out _, hK _ ?_⟩); clear hK K)
                refine wpStill_nil ?_
                go_wp2_with fail
                go_roundw
                case rel => exact ⟨j + 1, q3, c3, (lm).set s (bits .and .i64 y 4294967295 % 4294967296), g, by omega, by go_num, rfl, hc3, (by rw [List.length_set]; exact HL6.out : ((lm).set s (bits .and .i64 y 4294967295 % 4294967296)).length = N), HU6.out.set s (Int.emod_nonneg _ (by omega)) (by omega), (O8.out.set (by rw [HL6.out]; exact hsN) _).on ((Below.refl _ _).drew), by omega, by omega, by omega, HG6, HS6, (X8.out.far (by omega) _ _).on ((Below.refl _ _).drew), (Y8.out.far (by omega) _ _).on ((Below.refl _ _).drew), (B8.out.setCell (by simp <;> omega) _).drew⟩
                case measure => simp [intOf]; omega
          · obtain ⟨t, hbv⟩ : ∃ t, g.testBit v = t := ⟨_, rfl⟩
            clear hvK
            have lxb := HX.out.lt
            have lyb := HY.out.lt
            have hM0 := Lib.hid (HO.out.mem HL.out hc2 (by have := HN.out; omega) HU.out)
            have hlm := HO.out.lt
            obtain ⟨x0', x1', xz'⟩ := HX.out
            have HCH := Lib.hid (fun A2 c3 l2 W (h1 : Mem W (some ⟨q, 0, none⟩) N c2 lm) (h2 : Mem W A2 N c3 l2) => changedB (some ⟨q, 0, none⟩) A2 N c2 c3 lm l2 W h1 h2)
            unfold NumsB at HCH
            unfold blV at HOO
            have hgv := HY.out.c v (by omega)
            go_upto_region 14 with (first
              | go_skip
              | (go_at_call 7; (with_reducible refine (HRD.out _).mono ?_); rintro e w4 ⟨rfl, rfl⟩)
              | (go_at_call 8; (with_reducible refine (HOO.out _ hM0.out).mono ?_); rintro e w3 ⟨⟨A3, c3, l3, rfl, hm3, ho3, hF3, hG3⟩, hb3⟩; have I3 := Lib.hid (HX.out.on hb3); have G3 := Lib.hid (HY.out.on hb3); have M3 := Lib.hid hm3; have O3 := Lib.hid ho3; have F3 := Lib.hid hF3; have E3 := Lib.hid hG3; have B3 := Lib.hid (below_stepI HB.out hb3 (Nat.le_refl _)); have P3 := Lib.hid (hM0.out.on hb3); have s3 : w.heap.size ≤ w3.heap.size := B3.out.size; have gcv := (G3.out.on ((Below.refl _ _).alloc (Nat.le_refl _) (.cells #[.int .u32 0, .int .u32 (g : Int)] 24))).c v (by omega); rw [hbv] at gcv; have ll3 : b + 1 < w3.heap.size := G3.out.lt; have n31 : ¬ w3.heap.size = b + 1 := (by omega); have n32 : ¬ b + 1 = w3.heap.size := (by omega); clear hm3 ho3 hF3 hG3 hb3))
            have hc3 : N ≤ c3 := M3.out.2.1
            obtain ⟨q3, rfl, hq3, hO3⟩ := O3.out (by have := HN.out; omega)
            have e3 : lm = l3 := (E3.out HNC.out).symm
            subst e3
            have HCH := HCH.out _ c3 lm (w3.alloc (.cells #[.int .u32 0, .int .u32 (g : Int)] 24)) (P3.out.on ((Below.refl _ _).alloc (Nat.le_refl _) _)) (M3.out.on ((Below.refl _ _).alloc (Nat.le_refl _) _))
            rw [chg_selfB] at HCH
            simp only [List.length_nil] at HCH
            have HCH := Lib.hid HCH
            have O4 := Lib.hid hO3
            clear O3 E3 F3 hO3
            go_upto_region 25 with (first
              | go_skip
              | (go_at_call 21; (with_reducible refine HCH.out.mono ?_); rintro e w5 ⟨⟨A5, c5, rfl, hI5⟩, hb5⟩; have I5 := Lib.hid ((I3.out.alloc (.cells #[.int .u32 0, .int .u32 (g : Int)] 24)).on hb5); have G5 := Lib.hid ((G3.out.on ((Below.refl _ _).alloc (Nat.le_refl _) (.cells #[.int .u32 0, .int .u32 (g : Int)] 24))).on hb5); have J5 := Lib.hid ((InB.new w3 0 g 24).on hb5); have O5 := Lib.hid ((O4.out.on ((Below.refl _ _).alloc (Nat.le_refl _) (.cells #[.int .u32 0, .int .u32 (g : Int)] 24))).on hb5); have M5 := Lib.hid ((M3.out.on ((Below.refl _ _).alloc (Nat.le_refl _) (.cells #[.int .u32 0, .int .u32 (g : Int)] 24))).on hb5); have B5 := Lib.hid (below_stepI (below_stepI B3.out ((Below.refl _ _).alloc (Nat.le_refl _) (.cells #[.int .u32 0, .int .u32 (g : Int)] 24)) (Nat.le_refl _)) hb5 (Nat.le_refl _)); have gcv5 := G5.out.c v (by omega); rw [hbv] at gcv5; have gzv5 := G5.out.z v; obtain ⟨i50, i51, i5z⟩ := I5.out; obtain ⟨j50, j51, j5z⟩ := J5.out; clear hb5 hI5))
            have HG6 := HG
            have HS6 := HS
            have HL6 := HL
            have HU6 := HU
            obtain ⟨W6, HW6⟩ : ∃ W, Hid (((w5.setCell ⟨b, 0, none⟩ (.int .u32 0)).setCell ⟨b, 1, none⟩ (.int .u32 (g : Int))) = W) := ⟨_, rfl⟩
            have X6 : Hid (InB W6 b 0 g) := by rw [← HW6.out]; exact Lib.hid ⟨by simp [go_sem, i50], by simp [go_sem, i51], fun i => by simp [go_sem, i5z]⟩
            have Y6 : Hid (InG W6 (b + 1) g) := by rw [← HW6.out]; exact Lib.hid ((G5.out.far (by omega) _ _).far (by omega) _ _)
            have O6 : Hid (Own W6 q3 lm) := by
              rw [← HW6.out]; refine Lib.hid ?_
              repeat' (first | with_reducible exact O5.out | (with_reducible refine Own.far ?_ _ _ (by omega)))
            have B6 : Hid (Below w.heap.size w W6) := by
              rw [← HW6.out]; refine Lib.hid ?_
              repeat' (first | with_reducible exact B5.out | (with_reducible refine Below.setCell ?_ (by simp <;> omega) _))
            rw [HW6.out]
            clear i50 i51 i5z j50 j51 j5z gcv5 gzv5 I5 G5 J5 O5 M5 B5 HW6
            have hcG := cnt_le g 32
            have HCN := Lib.hid (fun W => bcount_any 0 g W HG6.out)
            have HMY := Lib.hid (fun W => bmay_any 0 g (K : Int) W HG6.out)
            rw [mayB_yes HG6.out (fun i _ hi => by have := HS6.out i hi; omega)] at HMY
            unfold blV at HCN HMY
            have hN0 : (0 : Int) < N := by have := HN.out; omega
            obtain ⟨s, hs⟩ : ∃ s : Nat, y % N = s := ⟨(y % N).toNat, (Int.toNat_of_nonneg (Int.emod_nonneg _ (by omega))).symm⟩
            have hsN : s < N := by have := Int.emod_lt_of_pos y hN0; omega
            have HR2 := Lib.hid (fun W => (round_any y N W (by have := HN.out; omega) (by have := HN.out; omega) z0 z1).mono (R' := fun e w' => e = .returned (.int .i64 (s : Int)) ∧ w' = W) fun _ _ ⟨h, h'⟩ => ⟨by rw [h, hs], h'.symm⟩)
            clear hs
            go_wp2_with fail
            go_loop [20, 21] (fun m i => ∃ k : Nat, k ≤ 32 ∧ i = .int .i64 k ∧ m = .int .i64 (cnt g k : Int)) (fun _ i => 32 - (intOf i).toNat)
            case atStart => exact ⟨0, Nat.zero_le _, rfl, rfl⟩
            case round =>
              obtain ⟨k, hk, rfl, rfl⟩ := hrel
              have hck := cnt_le g k
              by_cases hk32 : k < 32
              · have hck2 := Y6.out.c k hk32
                have hs' : cnt g (k + 1) = cnt g k + ((g).testBit k).toNat := rfl
                cases ht : (g).testBit k
                all_goals
                  rw [ht] at hck2 hs'
                  have HSS := Lib.hid hs'
                  clear hs' ht
                  generalize cnt g k = M at *
                  go_wp2_with fail
                  go_round
                  case rel => exact ⟨k + 1, by omega, by go_num, by rw [HSS.out]; go_num⟩
                  case measure => simp [intOf]; omega
              · obtain rfl : k = 32 := by omega
                clear hk
                obtain ⟨x60, x61, x6z⟩ := X6.out
                generalize cnt g 32 = M at *
                go_upto_region 33 with (first
                  | go_skip
                  | (go_at_call 13; (with_reducible refine (HCN.out _).mono ?_); rintro e w7 ⟨rfl, hb7⟩; have X7 := Lib.hid (X6.out.on hb7); have Y7 := Lib.hid (Y6.out.on hb7); have O7 := Lib.hid (O6.out.on hb7); have B7 := Lib.hid (below_stepI B6.out hb7 (Nat.le_refl _)); obtain ⟨x70, x71, x7z⟩ := X7.out; clear hb7)
                  | (go_at_call 17; (with_reducible refine (HMY.out _).mono ?_); rintro e w8 ⟨rfl, hb8⟩; have X8 := Lib.hid (X7.out.on hb8); have Y8 := Lib.hid (Y7.out.on hb8); have O8 := Lib.hid (O7.out.on hb8); have B8 := Lib.hid (below_stepI B7.out hb8 (Nat.le_refl _)); have Z8 := Lib.hid (HZ.out.on B8.out); clear hb8))
                obtain ⟨ba2, off2, hA2, hcl2⟩ := Z8.out.1 j hlt
                obtain ⟨rfl, rfl⟩ : ba = ba2 ∧ off = off2 := by simpa using hA2
                rw [HYJ.out] at hcl2
                have hcell := O8.out.cell (i := s) (by rw [HL6.out]; omega)
                have hfree := O8.out.free s
                clear hA2
                refine wp_region_still_tail 15 (by kernel_rfl) (by kernel_rfl) ?_
                simp only [List.take_succ_cons, List.take_zero, List.drop_succ_cons, List.drop_zero]
                repeat (refine wpStill_step (fun K hK => ?_); go_simp; first | (with_reducible refine hK _ ?_) | (with_reducible refine ⟨_, HR2.out _, hK _ ?_⟩); clear hK K)
                refine wpStill_nil ?_
                go_wp2_with fail
                go_roundw
                case rel => exact ⟨j + 1, q3, c3, (lm).set s (bits .and .i64 y 4294967295 % 4294967296), g, by omega, by go_num, rfl, hc3, (by rw [List.length_set]; exact HL6.out : ((lm).set s (bits .and .i64 y 4294967295 % 4294967296)).length = N), HU6.out.set s (Int.emod_nonneg _ (by omega)) (by omega), (O8.out.set (by rw [HL6.out]; exact hsN) _).on ((Below.refl _ _).drew), by omega, by omega, by omega, HG6, HS6, (X8.out.far (by omega) _ _).on ((Below.refl _ _).drew), (Y8.out.far (by omega) _ _).on ((Below.refl _ _).drew), (B8.out.setCell (by simp <;> omega) _).drew⟩
                case measure => simp [intOf]; omega
      · obtain ⟨t, hbv⟩ : ∃ t, g.testBit v = t := ⟨_, rfl⟩
        have HOO := Lib.hid (fun W (hM : Mem W (some ⟨q, 0, none⟩) N c2 lm) => bout_any 0 g v 11 (some ⟨q, 0, none⟩) N c2 lm W hM HG.out (by omega))
        unfold BOut at HOO
        rw [show outG N g 11 v = takeB g v by unfold outG; rw [if_neg (by omega), if_pos rfl]] at HOO
        have HNC : Hid (¬ outC N g 11 v) := Lib.hid (fun hh => by have := hh.1; omega)
        have HG6 := Lib.hid (takeB_lt g v HG.out)
        have HS6 : Hid (∀ i, (takeB g v).testBit i = true → i < K) := Lib.hid (fun i hi => by
          rw [takeB_test g v i (by omega) HG.out] at hi
          exact HS.out i (by revert hi; cases g.testBit i <;> simp))
        have HT6 : Hid (∀ i, i < 32 → (takeB g v).testBit i = if v = i then false else g.testBit i) := Lib.hid (fun i hi => by
          rw [takeB_test g v i (by omega) HG.out]
          by_cases e : v = i <;> simp [e])
        obtain ⟨G, HGG⟩ : ∃ G, Hid (takeB g v = G) := ⟨_, rfl⟩
        rw [HGG.out] at HOO HG6 HS6 HT6
        have lxb := HX.out.lt
        have lyb := HY.out.lt
        have hM0 := Lib.hid (HO.out.mem HL.out hc2 (by have := HN.out; omega) HU.out)
        have hlm := HO.out.lt
        obtain ⟨x0', x1', xz'⟩ := HX.out
        have HCH := Lib.hid (fun A2 c3 l2 W (h1 : Mem W (some ⟨q, 0, none⟩) N c2 lm) (h2 : Mem W A2 N c3 l2) => changedB (some ⟨q, 0, none⟩) A2 N c2 c3 lm l2 W h1 h2)
        unfold NumsB at HCH
        unfold blV at HOO
        have hgv := HY.out.c v (by omega)
        go_upto_region 14 with (first
          | go_skip
          | (go_at_call 7; (with_reducible refine (HRD.out _).mono ?_); rintro e w4 ⟨rfl, rfl⟩)
          | (go_at_call 8; (with_reducible refine (HOO.out _ hM0.out).mono ?_); rintro e w3 ⟨⟨A3, c3, l3, rfl, hm3, ho3, hF3, hG3⟩, hb3⟩; have I3 := Lib.hid (HX.out.on hb3); have G3 := Lib.hid (HY.out.on hb3); have M3 := Lib.hid hm3; have O3 := Lib.hid ho3; have F3 := Lib.hid hF3; have E3 := Lib.hid hG3; have B3 := Lib.hid (below_stepI HB.out hb3 (Nat.le_refl _)); have P3 := Lib.hid (hM0.out.on hb3); have s3 : w.heap.size ≤ w3.heap.size := B3.out.size; have gcv := (G3.out.on ((Below.refl _ _).alloc (Nat.le_refl _) (.cells #[.int .u32 0, .int .u32 (G : Int)] 24))).c v (by omega); rw [hbv] at gcv; have ll3 : b + 1 < w3.heap.size := G3.out.lt; have n31 : ¬ w3.heap.size = b + 1 := (by omega); have n32 : ¬ b + 1 = w3.heap.size := (by omega); clear hm3 ho3 hF3 hG3 hb3))
        have hc3 : N ≤ c3 := M3.out.2.1
        obtain ⟨q3, rfl, hq3, hO3⟩ := O3.out (by have := HN.out; omega)
        have e3 : lm = l3 := (E3.out HNC.out).symm
        subst e3
        have HCH := HCH.out _ c3 lm (w3.alloc (.cells #[.int .u32 0, .int .u32 (G : Int)] 24)) (P3.out.on ((Below.refl _ _).alloc (Nat.le_refl _) _)) (M3.out.on ((Below.refl _ _).alloc (Nat.le_refl _) _))
        rw [chg_selfB] at HCH
        simp only [List.length_nil] at HCH
        have HCH := Lib.hid HCH
        have O4 := Lib.hid hO3
        clear O3 E3 F3 hO3
        go_upto_region 25 with (first
          | go_skip
          | (go_at_call 21; (with_reducible refine HCH.out.mono ?_); rintro e w5 ⟨⟨A5, c5, rfl, hI5⟩, hb5⟩; have I5 := Lib.hid ((I3.out.alloc (.cells #[.int .u32 0, .int .u32 (G : Int)] 24)).on hb5); have G5 := Lib.hid ((G3.out.on ((Below.refl _ _).alloc (Nat.le_refl _) (.cells #[.int .u32 0, .int .u32 (G : Int)] 24))).on hb5); have J5 := Lib.hid ((InB.new w3 0 G 24).on hb5); have O5 := Lib.hid ((O4.out.on ((Below.refl _ _).alloc (Nat.le_refl _) (.cells #[.int .u32 0, .int .u32 (G : Int)] 24))).on hb5); have M5 := Lib.hid ((M3.out.on ((Below.refl _ _).alloc (Nat.le_refl _) (.cells #[.int .u32 0, .int .u32 (G : Int)] 24))).on hb5); have B5 := Lib.hid (below_stepI (below_stepI B3.out ((Below.refl _ _).alloc (Nat.le_refl _) (.cells #[.int .u32 0, .int .u32 (G : Int)] 24)) (Nat.le_refl _)) hb5 (Nat.le_refl _)); have gcv5 := G5.out.c v (by omega); rw [hbv] at gcv5; have gzv5 := G5.out.z v; obtain ⟨i50, i51, i5z⟩ := I5.out; obtain ⟨j50, j51, j5z⟩ := J5.out; clear hb5 hI5))
        have HL6 := HL
        have HU6 := HU
        obtain ⟨W6, HW6⟩ : ∃ W, Hid ((((w5.setCell ⟨b + 1, v, none⟩ (.bool false)).setCell ⟨b, 0, none⟩ (.int .u32 0)).setCell ⟨b, 1, none⟩ (.int .u32 (G : Int))) = W) := ⟨_, rfl⟩
        have X6 : Hid (InB W6 b 0 G) := by rw [← HW6.out]; exact Lib.hid ⟨by simp [go_sem, i50], by simp [go_sem, i51], fun i => by simp [go_sem, i5z]⟩
        have Y6 : Hid (InG W6 (b + 1) G) := by rw [← HW6.out]; exact Lib.hid (((G5.out.set false HT6.out).far (by omega) _ _).far (by omega) _ _)
        have O6 : Hid (Own W6 q3 lm) := by
          rw [← HW6.out]; refine Lib.hid ?_
          repeat' (first | with_reducible exact O5.out | (with_reducible refine Own.far ?_ _ _ (by omega)))
        have B6 : Hid (Below w.heap.size w W6) := by
          rw [← HW6.out]; refine Lib.hid ?_
          repeat' (first | with_reducible exact B5.out | (with_reducible refine Below.setCell ?_ (by simp <;> omega) _))
        rw [HW6.out]
        clear i50 i51 i5z j50 j51 j5z gcv5 gzv5 I5 G5 J5 O5 M5 B5 HW6
        have hcG := cnt_le G 32
        have HCN := Lib.hid (fun W => bcount_any 0 G W HG6.out)
        have HMY := Lib.hid (fun W => bmay_any 0 G (K : Int) W HG6.out)
        rw [mayB_yes HG6.out (fun i _ hi => by have := HS6.out i hi; omega)] at HMY
        unfold blV at HCN HMY
        have hN0 : (0 : Int) < N := by have := HN.out; omega
        obtain ⟨s, hs⟩ : ∃ s : Nat, y % N = s := ⟨(y % N).toNat, (Int.toNat_of_nonneg (Int.emod_nonneg _ (by omega))).symm⟩
        have hsN : s < N := by have := Int.emod_lt_of_pos y hN0; omega
        have HR2 := Lib.hid (fun W => (round_any y N W (by have := HN.out; omega) (by have := HN.out; omega) z0 z1).mono (R' := fun e w' => e = .returned (.int .i64 (s : Int)) ∧ w' = W) fun _ _ ⟨h, h'⟩ => ⟨by rw [h, hs], h'.symm⟩)
        clear hs
        go_wp2_with fail
        go_loop [20, 21] (fun m i => ∃ k : Nat, k ≤ 32 ∧ i = .int .i64 k ∧ m = .int .i64 (cnt G k : Int)) (fun _ i => 32 - (intOf i).toNat)
        case atStart => exact ⟨0, Nat.zero_le _, rfl, rfl⟩
        case round =>
          obtain ⟨k, hk, rfl, rfl⟩ := hrel
          have hck := cnt_le G k
          by_cases hk32 : k < 32
          · have hck2 := Y6.out.c k hk32
            have hs' : cnt G (k + 1) = cnt G k + ((G).testBit k).toNat := rfl
            cases ht : (G).testBit k
            all_goals
              rw [ht] at hck2 hs'
              have HSS := Lib.hid hs'
              clear hs' ht
              generalize cnt G k = M at *
              go_wp2_with fail
              go_round
              case rel => exact ⟨k + 1, by omega, by go_num, by rw [HSS.out]; go_num⟩
              case measure => simp [intOf]; omega
          · obtain rfl : k = 32 := by omega
            clear hk
            obtain ⟨x60, x61, x6z⟩ := X6.out
            generalize cnt G 32 = M at *
            go_upto_region 33 with (first
              | go_skip
              | (go_at_call 13; (with_reducible refine (HCN.out _).mono ?_); rintro e w7 ⟨rfl, hb7⟩; have X7 := Lib.hid (X6.out.on hb7); have Y7 := Lib.hid (Y6.out.on hb7); have O7 := Lib.hid (O6.out.on hb7); have B7 := Lib.hid (below_stepI B6.out hb7 (Nat.le_refl _)); obtain ⟨x70, x71, x7z⟩ := X7.out; clear hb7)
              | (go_at_call 17; (with_reducible refine (HMY.out _).mono ?_); rintro e w8 ⟨rfl, hb8⟩; have X8 := Lib.hid (X7.out.on hb8); have Y8 := Lib.hid (Y7.out.on hb8); have O8 := Lib.hid (O7.out.on hb8); have B8 := Lib.hid (below_stepI B7.out hb8 (Nat.le_refl _)); have Z8 := Lib.hid (HZ.out.on B8.out); clear hb8))
            obtain ⟨ba2, off2, hA2, hcl2⟩ := Z8.out.1 j hlt
            obtain ⟨rfl, rfl⟩ : ba = ba2 ∧ off = off2 := by simpa using hA2
            rw [HYJ.out] at hcl2
            have hcell := O8.out.cell (i := s) (by rw [HL6.out]; omega)
            have hfree := O8.out.free s
            clear hA2
            refine wp_region_still_tail 15 (by kernel_rfl) (by kernel_rfl) ?_
            simp only [List.take_succ_cons, List.take_zero, List.drop_succ_cons, List.drop_zero]
            repeat (refine wpStill_step (fun K hK => ?_); go_simp; first | (with_reducible refine hK _ ?_) | (with_reducible refine ⟨_, HR2.out _, hK _ ?_⟩); clear hK K)
            refine wpStill_nil ?_
            go_wp2_with fail
            go_roundw
            case rel => exact ⟨j + 1, q3, c3, (lm).set s (bits .and .i64 y 4294967295 % 4294967296), G, by omega, by go_num, rfl, hc3, (by rw [List.length_set]; exact HL6.out : ((lm).set s (bits .and .i64 y 4294967295 % 4294967296)).length = N), HU6.out.set s (Int.emod_nonneg _ (by omega)) (by omega), (O8.out.set (by rw [HL6.out]; exact hsN) _).on ((Below.refl _ _).drew), by omega, by omega, by omega, HG6, HS6, (X8.out.far (by omega) _ _).on ((Below.refl _ _).drew), (Y8.out.far (by omega) _ _).on ((Below.refl _ _).drew), (B8.out.setCell (by simp <;> omega) _).drew⟩
            case measure => simp [intOf]; omega
    · obtain rfl : j = n := by omega
      go_wp2_with (go_at_call 19; (with_reducible refine (HW.out _).mono ?_); rintro e w4 ⟨rfl, hb4⟩)
      go_ret
      exact ⟨rfl, below_stepI HB.out hb4 (Nat.le_refl _)⟩
end Go.Proofs.Ytackgjmmeojpiaa
