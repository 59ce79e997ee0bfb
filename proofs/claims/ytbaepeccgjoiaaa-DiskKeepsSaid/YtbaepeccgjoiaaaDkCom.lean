import Derived.Test.YtbaepeccgjoiaaaDkFin2
namespace Go.Proofs.Ytbaepeccgjoiaaa
set_option linter.unusedVariables false
set_option linter.unusedSimpArgs false
set_option maxRecDepth 20000
open Go.ChangeShapes Go.WideShapes Go.ChangeAt Go.RowKit Go.Proofs.Ytbaepeccgjoiaaa.Num Go.Proofs.Ytbaepeccgjoiaaa.Mem
/-- What completing gives: the controller, a memory, whether the event fits. -/
def CmpPost (n : Nat) (l : List Int) (B K F S C OB OF : Int) (D : ByteArray) (ok : Bool) (rd : Prop) (s : List UInt8) (f : Nat) (w : World) (e : Ending) (w' : World) : Prop :=
  (∃ A c l', e = .returned (.tuple #[dkV B K F S C OB OF D, .slice A n c, .bool ok]) ∧ Mem w' A n c l' ∧ (0 < n → ∃ g, A = some ⟨g, 0, none⟩ ∧ w.heap.size ≤ g ∧ Own w' g l') ∧ (rd → Filled s f 128 l l') ∧ (¬ rd → l' = l)) ∧ Below w.heap.size w w'
set_option maxHeartbeats 2000000 in
theorem compR_plain (B K F S C OB OF B' K' F' S' C' OB' OF' : Int) (D D' : ByteArray) (ok : Bool) (s : List UInt8) (f : Nat) (A : Option Addr) (n c : Nat) (l : List Int) (ek en : Int) (ed : ByteArray) (w : World) (hm : Mem w A n c l) (h0 : 0 < n)
    (HFI : Hid (∀ A c W, Calls Try.prog 36 #[dkV B K F S C OB OF D, .slice A n c, evV ek en ed] W fun e w' => e = .returned (.tuple #[dkV B' K' F' S' C' OB' OF' D', .bool ok]) ∧ Below W.heap.size W w')) :
    Calls Try.prog 20 #[dkV B K F S C OB OF D, .slice A n c, evV ek en ed] w (CmpPost n l B' K' F' S' C' OB' OF' D' ok False s f w) := by
  have hn := hm.2.2.1
  have hL := Lib.hid hm.1
  have HU := Lib.hid hm.2.2.2.1
  have HC := Lib.hid (fun W (hW : Mem W A n c l) => copy_any A n c l W hW)
  have HM := Lib.hid hm
  clear hm
  unfold dkV evV at HFI
  unfold CmpPost dkV evV
  go_enter Try.func20, Try.ntmps20
  go_wp2_with (first
    | (go_at_call 35; (with_reducible refine (HC.out _ (HM.out.on (by (repeat' (first | with_reducible exact Below.refl _ _ | with_reducible assumption | with_reducible apply below_drewN | with_reducible apply Below.drew | with_reducible apply Below.setCell | with_reducible apply Below.alloc | (simp; done) | omega | (simp; omega)))))).mono ?_); rintro e w1 ⟨⟨A1, c1, rfl, hm1, ho1⟩, hb1⟩; obtain ⟨g, rfl, hg, ho⟩ := ho1 h0; have X1 : InD w1 w.heap.size B K F S C OB OF D := InD.on ⟨by simp [go_sem], by simp [go_sem], by simp [go_sem], by simp [go_sem], by simp [go_sem], by simp [go_sem], by simp [go_sem], by simp [go_sem], fun i => by simp [go_sem]⟩ hb1; have V1 : InV w1 (w.heap.size + 1) ek en ed := InV.on ⟨by simp [go_sem], by simp [go_sem], by simp [go_sem], fun i => by simp [go_sem]⟩ hb1; have Y1 : InD w1 (w.heap.size + 2) 0 0 0 0 0 0 0 ⟨#[]⟩ := InD.on ⟨by simp [go_sem], by simp [go_sem], by simp [go_sem], by simp [go_sem], by simp [go_sem], by simp [go_sem], by simp [go_sem], by simp [go_sem], fun i => by simp [go_sem]⟩ hb1; have b1 : Below w.heap.size w w1 := Below.trans (by (repeat' (first | with_reducible exact Below.refl _ _ | with_reducible assumption | with_reducible apply below_drewN | with_reducible apply Below.drew | with_reducible apply Below.setCell | with_reducible apply Below.alloc | (simp; done) | omega | (simp; omega)))) (hb1.mono (by simp <;> omega)); have hg2 : w.heap.size + 2 < g := Nat.lt_of_lt_of_le (by simp) hg; have gl1 := ho.lt; have HO1 := Lib.hid ho; have HC1 := Lib.hid hm1.2.1; clear hb1 hm1 ho1 ho hg; have l1 := Y1.lt; have Y1' := Lib.hid Y1; obtain ⟨a0, a1, a2, a3, a4, a5, a6, a7, az⟩ := X1; obtain ⟨v0, v1, v2, vz⟩ := V1; obtain ⟨y0, y1, y2, y3, y4, y5, y6, y7, yz⟩ := Y1)
    | (go_at_call 36; (with_reducible refine (HFI.out _ _ _).mono ?_); rintro e w2 ⟨rfl, hb2⟩; have Y2 : InD w2 (w.heap.size + 2) 0 0 0 0 0 0 0 ⟨#[]⟩ := InD.on Y1'.out hb2; have b2 : Below w.heap.size w w2 := Below.trans b1 (hb2.mono (by omega)); have HO2 := Lib.hid (HO1.out.on hb2); clear hb2; have l2 := Y2.lt; obtain ⟨x0, x1, x2, x3, x4, x5, x6, x7, yz⟩ := Y2; have z0 := yz 0; have z1 := yz 1; have z2 := yz 2; have z3 := yz 3; have z4 := yz 4; have z5 := yz 5; have z6 := yz 6; have z7 := yz 7; have gl2 := HO2.out.lt; refine Hid.out ?_))
  refine Lib.hid ?_
  (repeat' (first | (with_reducible refine then_normal ?_) | (with_reducible refine wp_exit ?_) | (with_reducible refine wp_ret ?_) | (with_reducible refine then_exit ?_) | (with_reducible refine blk_hit ?_) | (with_reducible refine blk_pass (by decide) ?_) | (with_reducible refine then_ret ?_) | (with_reducible refine blk_ret ?_) | (with_reducible refine blk_normal ?_) | go_values | go_skip | go_guarded | go_step | go_upon | (simp only [Int.not_lt, Int.not_le] at *; go_simp) | (go_values <;> (try go_simp)) | (go_ite <;> go_prune <;> (try go_simp))))
  refine bodyPost_ret (v := .tuple #[.agg #[.int .u32 B', .int .u32 K', .int .u32 F', .int .i64 S', .int .i64 C', .int .u32 OB', .int .u32 OF', .string D'], .slice (some ⟨g, 0, none⟩) n c1, .bool ok]) (by rw [results_cst rfl]; go_simp) rfl ⟨⟨_, c1, l, rfl, Own.mem ?own hL.out HC1.out hn HU.out, fun _ => ⟨g, rfl, by omega, ?own⟩, fun h => h.elim, fun _ => rfl⟩, ?_⟩
  · repeat' (first | with_reducible exact HO2.out | (with_reducible refine Own.far ?_ _ _ ?_) | (with_reducible refine Own.on ?_ (Below.alloc (Below.refl _ _) (Nat.le_refl _) _)) | omega)
  · (repeat' (first | with_reducible exact Below.refl _ _ | with_reducible assumption | with_reducible apply below_drewN | with_reducible apply Below.drew | with_reducible apply Below.setCell | with_reducible apply Below.alloc | (simp; done) | omega | (simp; omega)))
set_option maxHeartbeats 2000000 in
theorem compR_read (B K F OB : Int) (f : Nat) (D : ByteArray) (A : Option Addr) (n c : Nat) (l : List Int) (ed : ByteArray) (w : World) (hm : Mem w A n c l) (hf : f < pagesN n) (hs : ed.size = 128) :
    Calls Try.prog 20 #[dkV B K F 1 1 OB f D, .slice A n c, evV 4 1 ed] w (CmpPost n l B K F 2 0 0 0 ⟨#[]⟩ true True ed.data.toList f w) := by
  have hp := pagesN_le n
  have h0 : 0 < n := by omega
  have HFI := Lib.hid (fun g c W (hW : Own W g l) => fin_read B K F OB f D g n c l ed W hW hm.1 hm.2.2.1 hm.2.2.2.1 hf hs)
  have hn := hm.2.2.1
  have hL := Lib.hid hm.1
  have HU := Lib.hid hm.2.2.2.1
  have HC := Lib.hid (fun W (hW : Mem W A n c l) => copy_any A n c l W hW)
  have HM := Lib.hid hm
  clear hm hf hs hp
  unfold dkV evV at HFI
  unfold CmpPost dkV evV
  go_enter Try.func20, Try.ntmps20
  go_wp2_with (first
    | (go_at_call 35; (with_reducible refine (HC.out _ (HM.out.on (by (repeat' (first | with_reducible exact Below.refl _ _ | with_reducible assumption | with_reducible apply below_drewN | with_reducible apply Below.drew | with_reducible apply Below.setCell | with_reducible apply Below.alloc | (simp; done) | omega | (simp; omega)))))).mono ?_); rintro e w1 ⟨⟨A1, c1, rfl, hm1, ho1⟩, hb1⟩; obtain ⟨g, rfl, hg, ho⟩ := ho1 h0; have X1 : InD w1 w.heap.size B K F 1 1 OB f D := InD.on ⟨by simp [go_sem], by simp [go_sem], by simp [go_sem], by simp [go_sem], by simp [go_sem], by simp [go_sem], by simp [go_sem], by simp [go_sem], fun i => by simp [go_sem]⟩ hb1; have V1 : InV w1 (w.heap.size + 1) 4 1 ed := InV.on ⟨by simp [go_sem], by simp [go_sem], by simp [go_sem], fun i => by simp [go_sem]⟩ hb1; have Y1 : InD w1 (w.heap.size + 2) 0 0 0 0 0 0 0 ⟨#[]⟩ := InD.on ⟨by simp [go_sem], by simp [go_sem], by simp [go_sem], by simp [go_sem], by simp [go_sem], by simp [go_sem], by simp [go_sem], by simp [go_sem], fun i => by simp [go_sem]⟩ hb1; have b1 : Below w.heap.size w w1 := Below.trans (by (repeat' (first | with_reducible exact Below.refl _ _ | with_reducible assumption | with_reducible apply below_drewN | with_reducible apply Below.drew | with_reducible apply Below.setCell | with_reducible apply Below.alloc | (simp; done) | omega | (simp; omega)))) (hb1.mono (by simp <;> omega)); have hg2 : w.heap.size + 2 < g := Nat.lt_of_lt_of_le (by simp) hg; have gl1 := ho.lt; have HO1 := Lib.hid ho; have HC1 := Lib.hid hm1.2.1; clear hb1 hm1 ho1 ho hg; have l1 := Y1.lt; have Y1' := Lib.hid Y1; obtain ⟨a0, a1, a2, a3, a4, a5, a6, a7, az⟩ := X1; obtain ⟨v0, v1, v2, vz⟩ := V1; obtain ⟨y0, y1, y2, y3, y4, y5, y6, y7, yz⟩ := Y1)
    | (go_at_call 36; (with_reducible refine (HFI.out _ _ _ (HO1.out.on (by (repeat' (first | with_reducible exact Below.refl _ _ | with_reducible assumption | with_reducible apply below_drewN | with_reducible apply Below.drew | with_reducible apply Below.setCell | with_reducible apply Below.alloc | (simp; done) | omega | (simp; omega)))))).mono ?_); rintro e w2 ⟨rfl, ⟨l', ho2, hF2⟩, hk2⟩; have Y2 : InD w2 (w.heap.size + 2) 0 0 0 0 0 0 0 ⟨#[]⟩ := InD.kp Y1'.out hk2 (by omega); have b2 : Below w.heap.size w w2 := Below.trans b1 (hk2.below (by omega) (fun _ => by omega)); have HO2 := Lib.hid ho2; have HF2 := Lib.hid hF2; clear hk2 ho2 hF2; have l2 := Y2.lt; obtain ⟨x0, x1, x2, x3, x4, x5, x6, x7, yz⟩ := Y2; have z0 := yz 0; have z1 := yz 1; have z2 := yz 2; have z3 := yz 3; have z4 := yz 4; have z5 := yz 5; have z6 := yz 6; have z7 := yz 7; have gl2 := HO2.out.lt; refine Hid.out ?_))
  refine Lib.hid ?_
  (repeat' (first | (with_reducible refine then_normal ?_) | (with_reducible refine wp_exit ?_) | (with_reducible refine wp_ret ?_) | (with_reducible refine then_exit ?_) | (with_reducible refine blk_hit ?_) | (with_reducible refine blk_pass (by decide) ?_) | (with_reducible refine then_ret ?_) | (with_reducible refine blk_ret ?_) | (with_reducible refine blk_normal ?_) | go_values | go_skip | go_guarded | go_step | go_upon | (simp only [Int.not_lt, Int.not_le] at *; go_simp) | (go_values <;> (try go_simp)) | (go_ite <;> go_prune <;> (try go_simp))))
  refine bodyPost_ret (v := .tuple #[.agg #[.int .u32 B, .int .u32 K, .int .u32 F, .int .i64 2, .int .i64 0, .int .u32 0, .int .u32 0, .string ⟨#[]⟩], .slice (some ⟨g, 0, none⟩) n c1, .bool true]) (by rw [results_cst rfl]; go_simp) rfl ⟨⟨_, c1, l', rfl, Own.mem ?own (HF2.out.1.trans hL.out) HC1.out hn (HF2.out.2.1), fun _ => ⟨g, rfl, by omega, ?own⟩, fun _ => HF2.out, fun h => absurd trivial h⟩, ?_⟩
  · repeat' (first | with_reducible exact HO2.out | (with_reducible refine Own.far ?_ _ _ ?_) | (with_reducible refine Own.on ?_ (Below.alloc (Below.refl _ _) (Nat.le_refl _) _)) | omega)
  · (repeat' (first | with_reducible exact Below.refl _ _ | with_reducible assumption | with_reducible apply below_drewN | with_reducible apply Below.drew | with_reducible apply Below.setCell | with_reducible apply Below.alloc | (simp; done) | omega | (simp; omega)))
end Go.Proofs.Ytbaepeccgjoiaaa
