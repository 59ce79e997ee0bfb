import Derived.Test.YtbaepeccgjoiaaaDkFin
namespace Go.Proofs.Ytbaepeccgjoiaaa
set_option linter.unusedVariables false
set_option linter.unusedSimpArgs false
set_option maxRecDepth 20000
open Go.ChangeShapes Go.WideShapes Go.ChangeAt Go.RowKit Go.Proofs.Ytbaepeccgjoiaaa.Num Go.Proofs.Ytbaepeccgjoiaaa.Mem
theorem Own.far {w : World} {g : Nat} {l : List Int} (h : Own w g l) {b : Nat} (i : Nat) (v : Value) (hb : ¬ b = g) : Own (w.setCell ⟨b, i, none⟩ v) g l := by
  have e := look_setCell w b i g v
  rw [if_neg hb] at e
  unfold lk at e
  unfold Own at h ⊢
  rw [e]; exact h
theorem Keep.high {p : Prop} {g : Nat} {a w : World} (h : Keep p g a w) {b : Nat} (i : Nat) (v : Value) (hb : a.heap.size ≤ b) : Keep p g a (w.setCell ⟨b, i, none⟩ v) := by
  have h2 := (Below.refl b w).setCell (p := ⟨b, i, none⟩) (Nat.le_refl _) v
  refine ⟨h2.os.trans h.os, h2.tape.trans h.tape, h2.output.trans h.output, Nat.le_trans h.size h2.size, fun k hk hn => ?_⟩
  rw [← h.block k hk hn, look_setCell, if_neg (by omega)]
set_option maxHeartbeats 2000000 in
theorem fin_read (B K F OB : Int) (f : Nat) (D : ByteArray) (g n c : Nat) (l : List Int) (ed : ByteArray) (w : World) (ho : Own w g l) (hl : l.length = n) (hn : n ≤ 1024) (hu : U32 l) (hf : f < pagesN n) (hs : ed.size = 128) :
    Calls Try.prog 36 #[dkV B K F 1 1 OB f D, .slice (some ⟨g, 0, none⟩) n c, evV 4 1 ed] w fun e w' => e = .returned (.tuple #[dkV B K F 2 0 0 0 ⟨#[]⟩, .bool true]) ∧ (∃ l', Own w' g l' ∧ Filled ed.data.toList f 128 l l') ∧ Keep (0 < n) g w w' := by
  have hp := pagesN_le n
  have HPG := Lib.hid (fun W => dkPage_ref (some ⟨g, 0, none⟩) n c f W hn (by omega) (by omega))
  rw [decide_eq_true (show (f : Int) < pagesN n by omega)] at HPG
  have f0 : (0 : Int) ≤ f := by omega
  have f1 : (f : Int) ≤ 31 := by omega
  have HFL := Lib.hid (fun W (hW : Own W g l) => fill_kp g n c f l ed W hW hl hn hu hf hs)
  have hgw : g < w.heap.size := ho.lt
  have HO := Lib.hid ho
  have ds : ((ed.size : Int) != 128) = false := by rw [hs]; rfl
  have es : (ed.size : Int) = 128 := by omega
  clear ho hl hu hf hs hp
  unfold dkV evV
  go_enter Try.func36, Try.ntmps36
  go_wp2_with (first
    | go_skip
    | (go_at_call 32; (with_reducible refine (HPG.out _).mono ?_); rintro e w1 ⟨rfl, m1, rfl⟩)
    | (go_at_call 42; (with_reducible refine (HFL.out _ (HO.out.on (by (repeat' (first | with_reducible exact Below.refl _ _ | with_reducible assumption | with_reducible apply below_drewN | with_reducible apply Below.drew | with_reducible apply Below.setCell | with_reducible apply Below.alloc | (simp; done) | omega | (simp; omega)))))).mono ?_); rintro e w2 ⟨rfl, ⟨l', ho2, hF2⟩, hb2⟩; have X : InD w2 w.heap.size B K F 1 1 OB f D := InD.kp ⟨by simp [go_sem], by simp [go_sem], by simp [go_sem], by simp [go_sem], by simp [go_sem], by simp [go_sem], by simp [go_sem], by simp [go_sem], fun i => by simp [go_sem]⟩ hb2 (by omega); have V : InV w2 (w.heap.size + 1) 4 1 ed := InV.kp ⟨by simp [go_sem], by simp [go_sem], by simp [go_sem], fun i => by simp [go_sem]⟩ hb2 (by omega); have Y : InD w2 (w.heap.size + 2) 0 0 0 0 0 0 0 ⟨#[]⟩ := InD.kp ⟨by simp [go_sem], by simp [go_sem], by simp [go_sem], by simp [go_sem], by simp [go_sem], by simp [go_sem], by simp [go_sem], by simp [go_sem], fun i => by simp [go_sem]⟩ hb2 (by omega); have k2 : Keep (0 < n) g w w2 := Keep.trans (Keep.of (by (repeat' (first | with_reducible exact Below.refl _ _ | with_reducible assumption | with_reducible apply below_drewN | with_reducible apply Below.drew | with_reducible apply Below.setCell | with_reducible apply Below.alloc | (simp; done) | omega | (simp; omega))))) hb2; clear hb2; have l2 := Y.lt; obtain ⟨p0, p1, p2, p3, p4, p5, p6, p7, pz⟩ := X; have q3 := pz 3; have q4 := pz 4; have q5 := pz 5; have q6 := pz 6; have q7 := pz 7; obtain ⟨v0, v1, v2, vz⟩ := V; obtain ⟨y0, y1, y2, y3, y4, y5, y6, y7, yz⟩ := Y; have z0 := yz 0; have z1 := yz 1; have z2 := yz 2; have z3 := yz 3; have z4 := yz 4; have z5 := yz 5; have z6 := yz 6; have z7 := yz 7; have HO2 := Lib.hid ho2; have HF2 := Lib.hid hF2; have HK2 := Lib.hid k2; clear ho2 hF2 k2; refine Hid.out ?_))
  refine Lib.hid ?_
  (repeat' (first | (with_reducible refine then_normal ?_) | (with_reducible refine wp_exit ?_) | (with_reducible refine wp_ret ?_) | (with_reducible refine then_exit ?_) | (with_reducible refine blk_hit ?_) | (with_reducible refine blk_pass (by decide) ?_) | (with_reducible refine then_ret ?_) | (with_reducible refine blk_ret ?_) | (with_reducible refine blk_normal ?_) | go_values | go_skip | go_guarded | go_step | go_upon | (simp only [Int.not_lt, Int.not_le] at *; go_simp) | (go_values <;> (try go_simp)) | (go_ite <;> go_prune <;> (try go_simp))))
  refine bodyPost_ret (v := .tuple #[.agg #[.int .u32 B, .int .u32 K, .int .u32 F, .int .i64 2, .int .i64 0, .int .u32 0, .int .u32 0, .string ⟨#[]⟩], .bool true]) (by rw [results_cell_tmp rfl]; go_simp) rfl ⟨rfl, ⟨l', ?_, HF2.out⟩, ?_⟩
  · repeat' (first | with_reducible exact HO2.out | (with_reducible refine Own.far ?_ _ _ ?_) | omega)
  · repeat' (first | with_reducible exact HK2.out | (with_reducible refine Keep.high ?_ _ _ ?_) | omega)
end Go.Proofs.Ytbaepeccgjoiaaa
