import Derived.Test.YtbaepeccgjoiaaaDkBth
namespace Go.Proofs.Ytbaepeccgjoiaaa
set_option linter.unusedVariables false
set_option linter.unusedSimpArgs false
set_option maxRecDepth 20000
open Go.ChangeShapes Go.WideShapes Go.ChangeAt Go.RowKit Go.Proofs.Ytbaepeccgjoiaaa.Num Go.Proofs.Ytbaepeccgjoiaaa.Mem
theorem new_one (w : World) : Calls Try.prog 30 #[.int .i64 1] w fun e w' => (∃ g l c, e = .returned (.slice (some ⟨g, 0, none⟩) 32 c) ∧ w.heap.size ≤ g ∧ 32 ≤ c ∧ Hid (l.length = 32) ∧ Hid (U32 l) ∧ Own w' g l) ∧ Below w.heap.size w w' := by
  have h := new_made 0 w (by omega)
  have e : (1 + ((0 : Nat) : Int)) = 1 := rfl
  rw [e] at h
  exact h.mono fun e w' ⟨⟨l, c, he, hc, hl, hu, ho⟩, hb⟩ => ⟨⟨_, l, c, he, Nat.le_refl _, hc, hl, hu, ho⟩, hb⟩
set_option maxHeartbeats 1000000 in
theorem awake9 (w : World) :
    Calls Try.prog 17 #[] w fun e w' => e = .returned (.bool true) ∧ Below w.heap.size w w' := by
  have HN := Lib.hid new_one
  have hp : pagesN 32 = 1 := rfl
  have HO1 := Lib.hid (fun l A c W (hm : Mem W A 32 c l) => (out_error 32 l 64 64 0 0 0 0 ⟨#[]⟩ 2 0 (by omega) (by omega) (by omega) (.inr rfl)).1 A c W hm)
  have HO2 := Lib.hid (fun l A c W (hm : Mem W A 32 c l) => show Calls Try.prog 10 #[dkV 64 63 0 0 0 0 0 ⟨#[]⟩, .slice A 32 c, .int .i64 6, .int .u32 1, .int .u64 7] W (OutPost 64 63 0 1 1 63 0 ⟨#[]⟩ (some (3, 7, 63, ⟨#[]⟩)) W) from (out_issued 32 l 64 63 0 0 0 0 ⟨#[]⟩ 1 7 (by omega) (by omega) (by omega) (by rw [hp]; decide) (.inl rfl)).1 A c W hm)
  unfold OutPost dkV at HO1 HO2
  clear hp
  go_enter Try.func17, Try.ntmps17
  go_wp2_with (first
    | go_skip
    | (go_at_call 30; (with_reducible refine (HN.out _).mono ?_); rintro e w3 ⟨⟨g3, m3, c3, rfl, hg3, hc3, hl3, hu3, ho3⟩, hb3⟩; have X3 : InD w3 w2.heap.size 64 64 0 3 0 0 0 ⟨#[]⟩ := (InD.new _ _ _ _ _ _ _ _ _ _).on hb3; have b3 : Below w.heap.size w w3 := Below.trans (b2.alloc b2.size _) (hb3.mono (by have := b2.size; simp; omega)); clear hb3)
    | (go_at_call 30; (with_reducible refine (HN.out _).mono ?_); rintro e w1 ⟨⟨g1, m1, c1, rfl, hg1, hc1, hl1, hu1, ho1⟩, hb1⟩)
    | (go_at_call 10; (with_reducible refine (HO1.out m1 _ _ _ (ho1.mem hl1.out hc1 (by omega) hu1.out)).mono ?_); rintro e w2 ⟨⟨s2, rfl, hs2⟩, hb2⟩; obtain rfl : s2 = .slice none 0 0 := hs2; have b2 : Below w.heap.size w w2 := below_stepI hb1 hb2 (Nat.le_refl _); clear hb2)
    | (go_at_call 10; (with_reducible refine (HO2.out m3 _ _ _ (ho3.mem hl3.out hc3 (by omega) hu3.out)).mono ?_); rintro e w4 ⟨⟨s4, rfl, hs4⟩, hb4⟩; obtain ⟨g4, hg4, rfl, x4⟩ := hs4; have X4 := X3.on hb4; have b4 : Below w.heap.size w w4 := below_stepI b3 hb4 (Nat.le_refl _); clear hb4; have h4 := b4.size; have l4 := X4.lt; have k4 := x4.lt; have n1 : ¬ w4.heap.size = w2.heap.size := (by omega); have n2 : ¬ w2.heap.size = w4.heap.size := (by omega); have u3 := (X4.alloc (.cells #[.int .u32 64, .int .u32 63, .int .u32 0, .int .i64 1, .int .i64 1, .int .u32 63, .int .u32 0, .string ⟨#[]⟩] 24)).c3; have r0 := (x4.alloc (.cells #[.int .u32 64, .int .u32 63, .int .u32 0, .int .i64 1, .int .i64 1, .int .u32 63, .int .u32 0, .string ⟨#[]⟩] 24)).c0; have r1 := (x4.alloc (.cells #[.int .u32 64, .int .u32 63, .int .u32 0, .int .i64 1, .int .i64 1, .int .u32 63, .int .u32 0, .string ⟨#[]⟩] 24)).c1; have r2 := (x4.alloc (.cells #[.int .u32 64, .int .u32 63, .int .u32 0, .int .i64 1, .int .i64 1, .int .u32 63, .int .u32 0, .string ⟨#[]⟩] 24)).c2; have r3 := (x4.alloc (.cells #[.int .u32 64, .int .u32 63, .int .u32 0, .int .i64 1, .int .i64 1, .int .u32 63, .int .u32 0, .string ⟨#[]⟩] 24)).c3))
  go_ret
  exact ⟨rfl, by (repeat' (first | with_reducible exact Below.refl _ _ | with_reducible assumption | with_reducible apply below_drewN | with_reducible apply Below.drew | with_reducible apply Below.setCell | with_reducible apply Below.alloc | (simp; done) | omega | (simp; omega)))⟩
end Go.Proofs.Ytbaepeccgjoiaaa
