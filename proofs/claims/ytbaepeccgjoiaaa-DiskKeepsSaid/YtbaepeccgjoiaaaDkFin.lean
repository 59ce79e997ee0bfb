import Derived.Test.YtbaepeccgjoiaaaDkSam
import Derived.Test.YtbaepeccgjoiaaaKeep
namespace Go.Proofs.Ytbaepeccgjoiaaa
set_option linter.unusedVariables false
set_option linter.unusedSimpArgs false
set_option maxRecDepth 20000
open Go.ChangeShapes Go.WideShapes Go.ChangeAt Go.RowKit Go.Proofs.Ytbaepeccgjoiaaa.Num Go.Proofs.Ytbaepeccgjoiaaa.Mem
/-- An event that completes the command. -/
def dkFits (n : Nat) (S C OF ek en : Int) (ed : ByteArray) : Prop := S = 1 ∧ ek = 4 ∧ (en = 0 ∨ en = 1) ∧ (en = 1 ∧ C = 1 → ed.size = 128 ∧ OF < pagesN n) ∧ (¬ (en = 1 ∧ C = 1) → ed.size = 0)
theorem cell_kp {w w' : World} {b : Nat} (h : lk w' b = lk w b) (i : Nat) : w'.cell? ⟨b, i, none⟩ = w.cell? ⟨b, i, none⟩ := by
  unfold lk at h
  simp only [World.cell?, h]
theorem frozen_kp {w w' : World} {b : Nat} (h : lk w' b = lk w b) (i : Nat) : w'.frozen? ⟨b, i, none⟩ = w.frozen? ⟨b, i, none⟩ := by
  unfold lk at h
  simp only [World.frozen?, h]
theorem InD.kp {p : Prop} {g : Nat} {w w' : World} {b : Nat} {B K F S C OB OF : Int} {D : ByteArray} (h : InD w b B K F S C OB OF D) (hk : Keep p g w w') (hg : ¬ b = g) : InD w' b B K F S C OB OF D := by
  have e := hk.block b h.lt (fun x => hg x.2)
  exact ⟨(cell_kp e 0).trans h.c0, (cell_kp e 1).trans h.c1, (cell_kp e 2).trans h.c2, (cell_kp e 3).trans h.c3, (cell_kp e 4).trans h.c4, (cell_kp e 5).trans h.c5, (cell_kp e 6).trans h.c6, (cell_kp e 7).trans h.c7, fun i => (frozen_kp e i).trans (h.z i)⟩
theorem InV.kp {p : Prop} {g : Nat} {w w' : World} {b : Nat} {K N : Int} {D : ByteArray} (h : InV w b K N D) (hk : Keep p g w w') (hg : ¬ b = g) : InV w' b K N D := by
  have e := hk.block b h.lt (fun x => hg x.2)
  exact ⟨(cell_kp e 0).trans h.c0, (cell_kp e 1).trans h.c1, (cell_kp e 2).trans h.c2, fun i => (frozen_kp e i).trans (h.z i)⟩
set_option maxRecDepth 100000 in
set_option maxHeartbeats 1000000 in
theorem fill_kp (g n c f : Nat) (l : List Int) (s : ByteArray) (w : World) (ho : Own w g l) (hl : l.length = n) (hn : n ≤ 1024) (hu : U32 l) (hf : f < pagesN n) (hs : s.size = 128) :
    Calls Try.prog 42 #[.slice (some ⟨g, 0, none⟩) n c, .int .i64 f, .string s] w fun e w' => e = .returned (.tuple #[]) ∧ (∃ l', Own w' g l' ∧ Filled s.data.toList f 128 l l') ∧ Keep (0 < n) g w w' := by
  have hp := pagesN_le n
  have HO := Lib.hid ho
  have HL := Lib.hid hl
  have HS := Lib.hid hs
  have HF : Hid (f < pagesN n) := hf
  clear ho hl hs hf
  go_enter Try.func42, Try.ntmps42
  go_wp2
  go_loopw [6] (fun i wr => ∃ (k : Nat) (l' : List Int), k ≤ 128 ∧ i = .int .i64 k ∧ Hid (Filled s.data.toList f k l l') ∧ Own wr g l' ∧ Keep (0 < n) g w wr) (fun i _ => 128 - (intOf i).toNat)
  case atStart => exact ⟨0, l, by omega, rfl, Filled.start _ _ hu, HO.out, Keep.refl _ _ _⟩
  case round =>
    obtain ⟨k, l', hk, rfl, hF, ho, hb⟩ := hrel
    by_cases hlt : k < 128
    · have hks : k < s.size := by rw [HS.out]; exact hlt
      have HO2 := Lib.hid ho
      have HB2 := Lib.hid hb
      have hFN := hF.out.one hlt (by rw [HL.out]; have := HF.out; omega)
      have hv := sget s k hks
      rw [hv] at hFN
      have v0 : 0 ≤ ((s[k].toNat : Nat) : Int) := by omega
      have v1 : ((s[k].toNat : Nat) : Int) ≤ 4294967295 := by have := s[k].toNat_lt; omega
      have HFN := Lib.hid hFN
      have ha0 : 0 ≤ (f : Int) * 128 + k := by omega
      have ha1 : (f : Int) * 128 + k ≤ 4095 := by have := HF.out; omega
      have HP := Lib.hid (fun W (h : Own W g l') => put_ref2 g n c l' ((f : Int) * 128 + k) 1 ((s[k].toNat : Nat) : Int) W h (by rw [hF.out.1]; exact HL.out) hn hF.out.2.1 (by omega) (by have := HF.out; omega) (.inl rfl) v0 v1)
      rw [stV_byte l' _ (128 * f + k) _ (by omega)] at HP
      clear ho hb hFN hv
      go_wp2_with (go_at_call 49; refine (HP.out _ HO2.out).mono ?_; rintro e w2 ⟨rfl, ho2, hb2⟩)
      go_roundw
      case rel => exact ⟨k + 1, _, by omega, by go_num, HFN, ho2, HB2.out.trans hb2⟩
      case measure => simp [intOf]; omega
    · obtain rfl : k = 128 := by omega
      have s3 : ¬ (128 : Int) < s.size := by rw [HS.out]; decide
      have s4 : ¬ 128 < s.size := by rw [HS.out]; decide
      go_wp2
      go_end0
      exact ⟨rfl, ⟨l', ho, hF.out⟩, hb⟩
theorem results_cst {fn : Func} {p u u' : Tmp} {ty : TypeId} (h : fn.results = #[.cell p ty, .tmp u, .tmp u']) (tmps : Array Value) (P : Program) (w : World) :
    (results fn tmps).run P w =
      ((asAddr (tmps.getD p undef)).run P w).andThen fun a w₁ => ((loadVar ty a).run P w₁).andThen fun v w₂ => .ok (.tuple #[v, tmps.getD u undef, tmps.getD u' undef]) w₂ := by
  simp only [results, h]
  simp [Sem.run_bind, Result.andThen]
set_option maxHeartbeats 2000000 in
theorem fin_no (B K F S C OB OF : Int) (D : ByteArray) (A : Option Addr) (n c : Nat) (ek en : Int) (ed : ByteArray) (w : World) (hn : n ≤ 1024) (o0 : 0 ≤ OF) (o1 : OF ≤ 4294967295) (n0 : 0 ≤ en) (hno : ¬ dkFits n S C OF ek en ed) :
    Calls Try.prog 36 #[dkV B K F S C OB OF D, .slice A n c, evV ek en ed] w fun e w' => e = .returned (.tuple #[dkV B K F S C OB OF D, .bool false]) ∧ Below w.heap.size w w' := by
  have HPG := Lib.hid (fun W => dkPage_ref A n c OF W hn o0 o1)
  have HNO := Lib.hid hno
  clear hno
  unfold dkV evV
  by_cases hS : S = 1
  case neg =>
    have eS : (S != 1) = true := by simpa using hS
    clear HPG HNO
    go_enter Try.func36, Try.ntmps36
    go_wp2_with (first | go_skip | fail)
    refine bodyPost_ret (v := .tuple #[.agg #[.int .u32 B, .int .u32 K, .int .u32 F, .int .i64 S, .int .i64 C, .int .u32 OB, .int .u32 OF, .string D], .bool false]) (by rw [results_cell_tmp rfl]; go_simp) rfl ⟨rfl, by (repeat' (first | with_reducible exact Below.refl _ _ | with_reducible assumption | with_reducible apply below_drewN | with_reducible apply Below.drew | with_reducible apply Below.setCell | with_reducible apply Below.alloc | (simp; done) | omega | (simp; omega)))⟩
  by_cases hK : ek = 4
  case neg =>
    have eK : (ek != 4) = true := by simpa using hK
    clear HPG HNO
    subst hS
    go_enter Try.func36, Try.ntmps36
    go_wp2_with (first | go_skip | fail)
    refine bodyPost_ret (v := .tuple #[.agg #[.int .u32 B, .int .u32 K, .int .u32 F, .int .i64 1, .int .i64 C, .int .u32 OB, .int .u32 OF, .string D], .bool false]) (by rw [results_cell_tmp rfl]; go_simp) rfl ⟨rfl, by (repeat' (first | with_reducible exact Below.refl _ _ | with_reducible assumption | with_reducible apply below_drewN | with_reducible apply Below.drew | with_reducible apply Below.setCell | with_reducible apply Below.alloc | (simp; done) | omega | (simp; omega)))⟩
  by_cases hN : en ≤ 1
  case neg =>
    have dN : decide (1 < en) = true := by simp; omega
    clear HPG HNO
    subst hS hK
    go_enter Try.func36, Try.ntmps36
    go_wp2_with (first | go_skip | fail)
    refine bodyPost_ret (v := .tuple #[.agg #[.int .u32 B, .int .u32 K, .int .u32 F, .int .i64 1, .int .i64 C, .int .u32 OB, .int .u32 OF, .string D], .bool false]) (by rw [results_cell_tmp rfl]; go_simp) rfl ⟨rfl, by (repeat' (first | with_reducible exact Below.refl _ _ | with_reducible assumption | with_reducible apply below_drewN | with_reducible apply Below.drew | with_reducible apply Below.setCell | with_reducible apply Below.alloc | (simp; done) | omega | (simp; omega)))⟩
  have hN2 : en = 0 ∨ en = 1 := by omega
  rcases hN2 with rfl | rfl
  · have hs : ¬ ed.size = 0 := fun h => HNO.out ⟨hS, hK, .inl rfl, fun h => absurd h.1 (by decide), fun _ => h⟩
    have ds : decide (0 < (ed.size : Int)) = true := by simp; omega
    clear HPG HNO
    subst hS hK
    go_enter Try.func36, Try.ntmps36
    go_wp2_with (first | go_skip | fail)
    refine bodyPost_ret (v := .tuple #[.agg #[.int .u32 B, .int .u32 K, .int .u32 F, .int .i64 1, .int .i64 C, .int .u32 OB, .int .u32 OF, .string D], .bool false]) (by rw [results_cell_tmp rfl]; go_simp) rfl ⟨rfl, by (repeat' (first | with_reducible exact Below.refl _ _ | with_reducible assumption | with_reducible apply below_drewN | with_reducible apply Below.drew | with_reducible apply Below.setCell | with_reducible apply Below.alloc | (simp; done) | omega | (simp; omega)))⟩
  · by_cases hC : C = 1
    · subst hS hK hC
      by_cases hs : ed.size = 128
      · have hp : ¬ OF < pagesN n := fun h => HNO.out ⟨rfl, rfl, .inr rfl, fun _ => ⟨hs, h⟩, fun h => absurd ⟨rfl, rfl⟩ h⟩
        rw [decide_eq_false hp] at HPG
        have ds : ((ed.size : Int) != 128) = false := by rw [hs]; rfl
        clear HNO
        go_enter Try.func36, Try.ntmps36
        go_wp2_with (first | go_skip | (go_at_call 32; (with_reducible refine (HPG.out _).mono ?_); rintro e w1 ⟨rfl, m1, rfl⟩))
        refine bodyPost_ret (v := .tuple #[.agg #[.int .u32 B, .int .u32 K, .int .u32 F, .int .i64 1, .int .i64 1, .int .u32 OB, .int .u32 OF, .string D], .bool false]) (by rw [results_cell_tmp rfl]; go_simp) rfl ⟨rfl, by (repeat' (first | with_reducible exact Below.refl _ _ | with_reducible assumption | with_reducible apply below_drewN | with_reducible apply Below.drew | with_reducible apply Below.setCell | with_reducible apply Below.alloc | (simp; done) | omega | (simp; omega)))⟩
      · have ds : ((ed.size : Int) != 128) = true := by simp; omega
        clear HPG HNO
        go_enter Try.func36, Try.ntmps36
        go_wp2_with (first | go_skip | fail)
        refine bodyPost_ret (v := .tuple #[.agg #[.int .u32 B, .int .u32 K, .int .u32 F, .int .i64 1, .int .i64 1, .int .u32 OB, .int .u32 OF, .string D], .bool false]) (by rw [results_cell_tmp rfl]; go_simp) rfl ⟨rfl, by (repeat' (first | with_reducible exact Below.refl _ _ | with_reducible assumption | with_reducible apply below_drewN | with_reducible apply Below.drew | with_reducible apply Below.setCell | with_reducible apply Below.alloc | (simp; done) | omega | (simp; omega)))⟩
    · have eC : (C == 1) = false := by rw [beq_eq_false_iff_ne]; exact hC
      have hs : ¬ ed.size = 0 := fun h => HNO.out ⟨hS, hK, .inr rfl, fun h => absurd h.2 hC, fun _ => h⟩
      have ds : decide (0 < (ed.size : Int)) = true := by simp; omega
      clear HPG HNO
      subst hS hK
      go_enter Try.func36, Try.ntmps36
      go_wp2_with (first | go_skip | fail)
      refine bodyPost_ret (v := .tuple #[.agg #[.int .u32 B, .int .u32 K, .int .u32 F, .int .i64 1, .int .i64 C, .int .u32 OB, .int .u32 OF, .string D], .bool false]) (by rw [results_cell_tmp rfl]; go_simp) rfl ⟨rfl, by (repeat' (first | with_reducible exact Below.refl _ _ | with_reducible assumption | with_reducible apply below_drewN | with_reducible apply Below.drew | with_reducible apply Below.setCell | with_reducible apply Below.alloc | (simp; done) | omega | (simp; omega)))⟩
set_option maxHeartbeats 2000000 in
theorem fin_plain (B K F C OB OF : Int) (D : ByteArray) (A : Option Addr) (n c : Nat) (en : Int) (ed : ByteArray) (w : World) (hN : en = 0 ∨ en = 1) (hr : ¬ (en = 1 ∧ C = 1)) (hs : ed.size = 0) :
    Calls Try.prog 36 #[dkV B K F 1 C OB OF D, .slice A n c, evV 4 en ed] w fun e w' => e = .returned (.tuple #[dkV B K F (if en = 1 then 2 else 3) 0 0 0 ⟨#[]⟩, .bool true]) ∧ Below w.heap.size w w' := by
  have ds : decide (0 < (ed.size : Int)) = false := by rw [hs]; rfl
  have es : (ed.size : Int) = 0 := by omega
  unfold dkV evV
  rcases hN with rfl | rfl
  · clear hr
    rw [if_neg (by decide)]
    go_enter Try.func36, Try.ntmps36
    go_wp2_with (first | go_skip | fail)
    refine bodyPost_ret (v := .tuple #[.agg #[.int .u32 B, .int .u32 K, .int .u32 F, .int .i64 3, .int .i64 0, .int .u32 0, .int .u32 0, .string ⟨#[]⟩], .bool true]) (by rw [results_cell_tmp rfl]; go_simp) rfl ⟨rfl, by (repeat' (first | with_reducible exact Below.refl _ _ | with_reducible assumption | with_reducible apply below_drewN | with_reducible apply Below.drew | with_reducible apply Below.setCell | with_reducible apply Below.alloc | (simp; done) | omega | (simp; omega)))⟩
  · have eC : (C == 1) = false := by rw [beq_eq_false_iff_ne]; exact fun h => hr ⟨rfl, h⟩
    clear hr
    rw [if_pos rfl]
    go_enter Try.func36, Try.ntmps36
    go_wp2_with (first | go_skip | fail)
    refine bodyPost_ret (v := .tuple #[.agg #[.int .u32 B, .int .u32 K, .int .u32 F, .int .i64 2, .int .i64 0, .int .u32 0, .int .u32 0, .string ⟨#[]⟩], .bool true]) (by rw [results_cell_tmp rfl]; go_simp) rfl ⟨rfl, by (repeat' (first | with_reducible exact Below.refl _ _ | with_reducible assumption | with_reducible apply below_drewN | with_reducible apply Below.drew | with_reducible apply Below.setCell | with_reducible apply Below.alloc | (simp; done) | omega | (simp; omega)))⟩
end Go.Proofs.Ytbaepeccgjoiaaa
