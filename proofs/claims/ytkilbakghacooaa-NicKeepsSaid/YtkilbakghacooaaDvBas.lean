import Derived.Test.YtkilbakghacooaaDkMk
import Derived.Test.YtkilbakghacooaaDkSet
import Derived.Test.YtkilbakghacooaaKeep
import Derived.Test.YtkilbakghacooaaExit
import Derived.Below
import Derived.IntWalk
import Derived.Lib.Hide
import Derived.Lib.QuietBelow
import Derived.Laws.ResultCell
import Derived.Deep.RegionHeld
import Derived.Deep.RegionHeld3
import Derived.BigRegion
namespace Go.Proofs.Ytkilbakghacooaa
set_option linter.unusedVariables false
set_option linter.unusedSimpArgs false
set_option maxRecDepth 20000
open Go.ChangeShapes Go.WideShapes Go.ChangeAt Go.RowKit Go.Proofs.Ytkilbakghacooaa.Num Go.Proofs.Ytkilbakghacooaa.Mem
/- What the devices' texts share: outputs, pages, memories that laws make. -/
/-- An output. -/
def otV (K A B : Int) (D : ByteArray) : Value := .agg #[.int .i64 K, .int .u64 A, .int .u32 B, .string D]
theorem stillI {w w' : World} {p : Addr} {v : Value} (h : w.cell? p = some v) (hb : Below w.heap.size w w') : w'.cell? p = some v := (hb.cell (World.block_lt_of_cell? w p h)).trans h
/-- The four cells of an output in a block. -/
structure InO (w : World) (b : Nat) (k : Int) (a : Int) (u : Int) (d : ByteArray) : Prop where
  c0 : w.cell? ⟨b, 0, none⟩ = some (.int .i64 k)
  c1 : w.cell? ⟨b, 1, none⟩ = some (.int .u64 a)
  c2 : w.cell? ⟨b, 2, none⟩ = some (.int .u32 u)
  c3 : w.cell? ⟨b, 3, none⟩ = some (.string d)
  z : ∀ i, w.frozen? ⟨b, i, none⟩ = false
theorem InO.lt {w : World} {b : Nat} {k : Int} {a : Int} {u : Int} {d : ByteArray} (h : InO w b k a u d) : b < w.heap.size := World.block_lt_of_cell? w _ h.c0
theorem InO.on {w w' : World} {b : Nat} {k : Int} {a : Int} {u : Int} {d : ByteArray} (h : InO w b k a u d) (hb : Below w.heap.size w w') : InO w' b k a u d := ⟨stillI h.c0 hb, stillI h.c1 hb, stillI h.c2 hb, stillI h.c3 hb, fun i => (hb.frozen (p := ⟨b, i, none⟩) h.lt).trans (h.z i)⟩
theorem InO.alloc {w : World} {b : Nat} {k : Int} {a : Int} {u : Int} {d : ByteArray} (h : InO w b k a u d) (o : Obj) : InO (w.alloc o) b k a u d := h.on ((Below.refl _ _).alloc (Nat.le_refl _) o)
theorem InO.drewN {w : World} {b : Nat} {k : Int} {a : Int} {u : Int} {d : ByteArray} (h : InO w b k a u d) (j : Nat) : InO (w.drewN j) b k a u d := h.on (below_drewN (Below.refl _ _) j)
theorem InO.drew {w : World} {b : Nat} {k : Int} {a : Int} {u : Int} {d : ByteArray} (h : InO w b k a u d) : InO w.drew b k a u d := h.on ((Below.refl _ _).drew)
theorem InO.new (w : World) (k a u d : _) (ty : TypeId) : InO (w.alloc (.cells #[.int .i64 k, .int .u64 a, .int .u32 u, .string d] ty)) w.heap.size k a u d := ⟨by simp [go_sem], by simp [go_sem], by simp [go_sem], by simp [go_sem], fun i => by simp [go_sem]⟩
theorem below_stepI {B : Nat} {w w1 w2 : World} (h : Below B w w1) (h2 : Below w1.heap.size w1 w2) (hB : B ≤ w.heap.size) : Below B w w2 := Below.trans h (h2.mono (Nat.le_trans hB h.size))
/- The disk's controller: writing a port. -/
theorem dkPage_ref (A : Option Addr) (n c : Nat) (f : Int) (w : World) (hn : n ≤ 1024) (f0 : 0 ≤ f) (f1 : f ≤ 4294967295) :
    Calls Try.prog 31 #[.slice A n c, .int .u32 f] w fun e w' => e = .returned (.bool (decide (f < pagesN n))) ∧ ∃ m, w' = w.drewN m := by
  have hp := pagesN_le n
  have HP := Lib.hid (fun W => pages_ref A n c W (by omega))
  go_enter Try.func31, Try.ntmps31
  go_wp2_with (go_at_call 26; (with_reducible refine (HP.out _).mono ?_); rintro e w1 ⟨rfl, m1, rfl⟩)
  go_ret
  exact ⟨rfl, m1, rfl⟩
/-- The outputs of a port write: none, or one. -/
def Outs (n0 : Nat) (w : World) (sl : Value) (o : Option (Int × Int × Int × ByteArray)) : Prop :=
  match o with
  | none => sl = .slice none 0 0
  | some (k, a, b, d) => ∃ g, n0 ≤ g ∧ sl = .slice (some ⟨g, 0, none⟩) 1 1 ∧ InO w g k a b d
theorem Outs.off {n0 : Nat} {w : World} {sl : Value} {o : Option (Int × Int × Int × ByteArray)} (h : Outs n0 w sl o) {p : Addr} (v : Value) (hp : p.block < n0) : Outs n0 (w.setCell p v) sl o := by
  match o, h with
  | none, h => exact h
  | some (k, a, b, d), ⟨g, hg, hs, h⟩ =>
    have e : ∀ i, (w.setCell p v).cell? ⟨g, i, none⟩ = w.cell? ⟨g, i, none⟩ := fun i => World.cell?_setCell_far w p ⟨g, i, none⟩ v (by show p.block ≠ g; omega)
    exact ⟨g, hg, hs, (e 0).trans h.c0, (e 1).trans h.c1, (e 2).trans h.c2, (e 3).trans h.c3, fun i => by rw [World.frozen?_setCell]; exact h.z i⟩
theorem Outs.mono {n0 n1 : Nat} {w : World} {sl : Value} {o : Option (Int × Int × Int × ByteArray)} (h : Outs n1 w sl o) (hn : n0 ≤ n1) : Outs n0 w sl o := by
  match o, h with
  | none, h => exact h
  | some (k, a, b, d), ⟨g, hg, hs, h⟩ => exact ⟨g, Nat.le_trans hn hg, hs, h⟩
theorem Outs.on {n0 : Nat} {w w' : World} {sl : Value} {o : Option (Int × Int × Int × ByteArray)} (h : Outs n0 w sl o) (hb : Below w.heap.size w w') : Outs n0 w' sl o := by
  match o, h with
  | none, h => exact h
  | some (k, a, b, d), ⟨g, hg, hs, h⟩ => exact ⟨g, hg, hs, h.on hb⟩
theorem results_cst {fn : Func} {p u u' : Tmp} {ty : TypeId} (h : fn.results = #[.cell p ty, .tmp u, .tmp u']) (tmps : Array Value) (P : Program) (w : World) :
    (results fn tmps).run P w =
      ((asAddr (tmps.getD p undef)).run P w).andThen fun a w₁ => ((loadVar ty a).run P w₁).andThen fun v w₂ => .ok (.tuple #[v, tmps.getD u undef, tmps.getD u' undef]) w₂ := by
  simp only [results, h]
  simp [Sem.run_bind, Result.andThen]
set_option maxRecDepth 100000 in
set_option maxHeartbeats 1000000 in
theorem fill_kp (g n c f : Nat) (l : List Int) (s : ByteArray) (w : World) (ho : Own w g l) (hl : l.length = n) (hn : n ≤ 1024) (hu : U32 l) (hf : f < pagesN n) (hs : s.size = 128) :
    Calls Try.prog 50 #[.slice (some ⟨g, 0, none⟩) n c, .int .i64 f, .string s] w fun e w' => e = .returned (.tuple #[]) ∧ (∃ l', Own w' g l' ∧ Filled s.data.toList f 128 l l') ∧ Keep (0 < n) g w w' := by
  have hp := pagesN_le n
  have HO := Lib.hid ho
  have HL := Lib.hid hl
  have HS := Lib.hid hs
  have HF : Hid (f < pagesN n) := hf
  clear ho hl hs hf
  go_enter Try.func50, Try.ntmps50
  go_wp2
  go_loopw [6] (fun i wr => ∃ (k : Nat) (l' : List Int), k ≤ 128 ∧ i = .int .i64 k ∧ Hid (Filled s.data.toList f k l l') ∧ Own wr g l' ∧ Keep (0 < n) g w wr) (fun i _ => 128 - (intOf i).toNat)
  case atStart => exact ⟨0, l, by omega, rfl, Filled.start _ _ hu, HO.out, Keep.refl _ _ _⟩
  case round =>
    obtain ⟨k, l', hk, rfl, hF, ho, hb⟩ := hrel
    by_cases hlt : k < 128
    · have hks : k < s.size := by rw [HS.out]; exact hlt
      have HO2 := Lib.hid ho
      have HB2 := Lib.hid hb
      have hFN := hF.out.one hlt (by rw [HL.out]; have := HF.out; omega)
      have hv := sget s k hks
      rw [hv] at hFN
      have v0 : 0 ≤ ((s[k].toNat : Nat) : Int) := by omega
      have v1 : ((s[k].toNat : Nat) : Int) ≤ 4294967295 := by have := s[k].toNat_lt; omega
      have HFN := Lib.hid hFN
      have ha0 : 0 ≤ (f : Int) * 128 + k := by omega
      have ha1 : (f : Int) * 128 + k ≤ 4095 := by have := HF.out; omega
      have HP := Lib.hid (fun W (h : Own W g l') => put_ref2 g n c l' ((f : Int) * 128 + k) 1 ((s[k].toNat : Nat) : Int) W h (by rw [hF.out.1]; exact HL.out) hn hF.out.2.1 (by omega) (by have := HF.out; omega) (.inl rfl) v0 v1)
      rw [stV_byte l' _ (128 * f + k) _ (by omega)] at HP
      clear ho hb hFN hv
      go_wp2_with (go_at_call 53; refine (HP.out _ HO2.out).mono ?_; rintro e w2 ⟨rfl, ho2, hb2⟩)
      go_roundw
      case rel => exact ⟨k + 1, _, by omega, by go_num, HFN, ho2, HB2.out.trans hb2⟩
      case measure => simp [intOf]; omega
    · obtain rfl : k = 128 := by omega
      have s3 : ¬ (128 : Int) < s.size := by rw [HS.out]; decide
      have s4 : ¬ 128 < s.size := by rw [HS.out]; decide
      go_wp2
      go_end0
      exact ⟨rfl, ⟨l', ho, hF.out⟩, hb⟩
set_option maxRecDepth 100000 in
set_option maxHeartbeats 1000000 in
theorem fill_up (g n c f : Nat) (l : List Int) (s : ByteArray) (w : World) (ho : Own w g l) (hl : l.length = n) (hn : n ≤ 1024) (hu : U32 l) (hf : f < pagesN n) (hs : s.size ≤ 128) :
    Calls Try.prog 50 #[.slice (some ⟨g, 0, none⟩) n c, .int .i64 f, .string s] w fun e w' => e = .returned (.tuple #[]) ∧ (∃ l', Own w' g l' ∧ Filled s.data.toList f s.size l l') ∧ Keep (0 < n) g w w' := by
  have hp := pagesN_le n
  have HO := Lib.hid ho
  have HL := Lib.hid hl
  have HS := Lib.hid hs
  have HF : Hid (f < pagesN n) := hf
  clear ho hl hs hf
  go_enter Try.func50, Try.ntmps50
  go_wp2
  go_loopw [6] (fun i wr => ∃ (k : Nat) (l' : List Int), k ≤ s.size ∧ i = .int .i64 k ∧ Hid (Filled s.data.toList f k l l') ∧ Own wr g l' ∧ Keep (0 < n) g w wr) (fun i _ => 128 - (intOf i).toNat)
  case atStart => exact ⟨0, l, by omega, rfl, Filled.start _ _ hu, HO.out, Keep.refl _ _ _⟩
  case round =>
    obtain ⟨k, l', hk, rfl, hF, ho, hb⟩ := hrel
    by_cases hks : k < s.size
    · have hlt : k < 128 := by have := HS.out; omega
      have HO2 := Lib.hid ho
      have HB2 := Lib.hid hb
      have hFN := hF.out.one hlt (by rw [HL.out]; have := HF.out; omega)
      have hv := sget s k hks
      rw [hv] at hFN
      have v0 : 0 ≤ ((s[k].toNat : Nat) : Int) := by omega
      have v1 : ((s[k].toNat : Nat) : Int) ≤ 4294967295 := by have := s[k].toNat_lt; omega
      have HFN := Lib.hid hFN
      have ha0 : 0 ≤ (f : Int) * 128 + k := by omega
      have ha1 : (f : Int) * 128 + k ≤ 4095 := by have := HF.out; omega
      have HP := Lib.hid (fun W (h : Own W g l') => put_ref2 g n c l' ((f : Int) * 128 + k) 1 ((s[k].toNat : Nat) : Int) W h (by rw [hF.out.1]; exact HL.out) hn hF.out.2.1 (by omega) (by have := HF.out; omega) (.inl rfl) v0 v1)
      rw [stV_byte l' _ (128 * f + k) _ (by omega)] at HP
      clear ho hb hFN hv
      go_wp2_with (go_at_call 53; refine (HP.out _ HO2.out).mono ?_; rintro e w2 ⟨rfl, ho2, hb2⟩)
      go_roundw
      case rel => exact ⟨k + 1, _, by omega, by go_num, HFN, ho2, HB2.out.trans hb2⟩
      case measure => simp [intOf]; omega
    · obtain rfl : k = s.size := by omega
      go_wp2
      go_end0
      exact ⟨rfl, ⟨l', ho, hF.out⟩, hb⟩
theorem Own.far {w : World} {g : Nat} {l : List Int} (h : Own w g l) {b : Nat} (i : Nat) (v : Value) (hb : ¬ b = g) : Own (w.setCell ⟨b, i, none⟩ v) g l := by
  have e := look_setCell w b i g v
  rw [if_neg hb] at e
  unfold lk at e
  unfold Own at h ⊢
  rw [e]; exact h
theorem Keep.high {p : Prop} {g : Nat} {a w : World} (h : Keep p g a w) {b : Nat} (i : Nat) (v : Value) (hb : a.heap.size ≤ b) : Keep p g a (w.setCell ⟨b, i, none⟩ v) := by
  have h2 := (Below.refl b w).setCell (p := ⟨b, i, none⟩) (Nat.le_refl _) v
  refine ⟨h2.os.trans h.os, h2.tape.trans h.tape, h2.output.trans h.output, Nat.le_trans h.size h2.size, fun k hk hn => ?_⟩
  rw [← h.block k hk hn, look_setCell, if_neg (by omega)]
theorem sameOut_any (sl sl' : Value) (o : Option (Int × Int × Int × ByteArray)) (n0 n1 : Nat) (w : World) (h1 : Outs n0 w sl o) (h2 : Outs n1 w sl' o) :
    Calls Try.prog 15 #[sl, sl'] w fun e w' => e = .returned (.bool true) ∧ ∃ m, w' = w.drewN m := by
  match o, h1, h2 with
  | none, h1, h2 =>
    obtain rfl : sl = .slice none 0 0 := h1
    obtain rfl : sl' = .slice none 0 0 := h2
    go_enter Try.func15, Try.ntmps15
    go_wp2
    go_loopw [5] (fun i wr => i = .int .i64 0 ∧ ∃ m, wr = w.drewN m) (fun _ _ => 0)
    case atStart => exact ⟨rfl, 0, rfl⟩
    case round =>
      obtain ⟨rfl, m, rfl⟩ := hrel
      go_wp2
      go_ret
      exact ⟨rfl, m, rfl⟩
  | some (k, a, u, d), h1, h2 =>
    obtain ⟨g, hg, rfl, x⟩ := h1
    obtain ⟨h, hh, rfl, y⟩ := h2
    go_enter Try.func15, Try.ntmps15
    go_wp2
    go_loopw [5] (fun i wr => ∃ j : Nat, j ≤ 1 ∧ i = .int .i64 j ∧ ∃ m, wr = w.drewN m) (fun i _ => 1 - (intOf i).toNat)
    case atStart => exact ⟨0, by omega, rfl, 0, rfl⟩
    case round =>
      obtain ⟨j, hj, rfl, m, rfl⟩ := hrel
      by_cases h0 : j = 0
      · subst h0
        obtain ⟨x0, x1, x2, x3, xz⟩ := x
        obtain ⟨y0, y1, y2, y3, yz⟩ := y
        go_wp2
        go_region
        all_goals go_wp2
        go_roundw
        case rel => exact ⟨1, by omega, by go_num, _, rfl⟩
        case measure => simp [intOf]
      · obtain rfl : j = 1 := by omega
        go_wp2
        go_ret
        exact ⟨rfl, m, rfl⟩
theorem new_one (w : World) : Calls Try.prog 29 #[.int .i64 1] w fun e w' => (∃ g l c, e = .returned (.slice (some ⟨g, 0, none⟩) 32 c) ∧ w.heap.size ≤ g ∧ 32 ≤ c ∧ Hid (l.length = 32) ∧ Hid (U32 l) ∧ Own w' g l) ∧ Below w.heap.size w w' := by
  have h := new_made 0 w (by omega)
  have e : (1 + ((0 : Nat) : Int)) = 1 := rfl
  rw [e] at h
  exact h.mono fun e w' ⟨⟨l, c, he, hc, hl, hu, ho⟩, hb⟩ => ⟨⟨_, l, c, he, Nat.le_refl _, hc, hl, hu, ho⟩, hb⟩
/-- A memory that the law has made: 1 to 6 pages, the call's own. -/
def WordsPost (r : Nat) (w : World) (e : Ending) (w' : World) : Prop :=
  (∃ g c l, e = .returned (.slice (some ⟨g, 0, none⟩) (32 * (1 + r)) c) ∧ w.heap.size ≤ g ∧ 32 * (1 + r) ≤ c ∧ l.length = 32 * (1 + r) ∧ U32 l ∧ Own w' g l) ∧ Below w.heap.size w w'
theorem words_end {r N c g : Nat} {w w' : World} {l : List Int} (hN : N = 32 * (1 + r)) (hl : l.length = N) (ho : Own w' g l) (hu : U32 l) (hb : Below w.heap.size w w') (hc : N ≤ c) (hg : w.heap.size ≤ g) : WordsPost r w (.returned (.slice (some ⟨g, 0, none⟩) N c)) w' := by
  subst hN
  exact ⟨⟨g, c, l, rfl, hg, hc, hl, hu, ho⟩, hb⟩
set_option maxRecDepth 100000 in
theorem words_any (x p : Int) (r : Nat) (w : World) (x0 : -9223372036854775808 ≤ x) (x1 : x ≤ 9223372036854775807) (p0 : -9223372036854775808 ≤ p) (p1 : p ≤ 9223372036854775807) (hr : p % 6 = (r : Int)) :
    Calls Try.prog 9 #[.int .i64 x, .int .i64 p] w (WordsPost r w) := by
  have hr5 : r ≤ 5 := by omega
  have HR := Lib.hid (fun W => round_any p 6 W (by omega) (by omega) (by omega) (by omega))
  rw [hr] at HR
  have HN := Lib.hid (fun W => new_made r W (by omega))
  have HMX := Lib.hid (fun (j : Nat) W (hj : j ≤ 1000) => mix_any x ((j : Nat) : Int) W x0 x1 (by omega) (by omega))
  clear hr
  go_enter Try.func9, Try.ntmps9
  go_wp2_with (first | (go_at_call 10; refine (HR.out _).mono ?_; rintro e w1 ⟨rfl, rfl⟩) | (go_at_call 29; refine (HN.out _).mono ?_; rintro e w1 ⟨⟨l1, c1, rfl, hc1, hl1, hu1, ho1⟩, hb1⟩))
  obtain ⟨N, HNN⟩ : ∃ N, Hid (N = 32 * (1 + r)) := ⟨_, rfl⟩
  rw [← HNN.out] at hc1 hl1 ⊢
  have hN : N ≤ 192 := by rw [HNN.out]; omega
  have HU := Lib.hid hu1
  have HO := Lib.hid ho1
  have HB := Lib.hid hb1
  clear hu1 ho1 hb1
  go_loopw [6] (fun i wr => ∃ (j : Nat) (l : List Int), j ≤ N ∧ i = .int .i64 j ∧ Hid (l.length = N) ∧ U32 l ∧ Own wr w.heap.size l ∧ Below w.heap.size w wr) (fun i _ => N - (intOf i).toNat)
  case atStart => exact ⟨0, l1, by omega, rfl, hl1, HU.out, HO.out, HB.out⟩
  case round =>
    obtain ⟨j, l, hjk, rfl, hl, hu, ho, hb⟩ := hrel
    by_cases hlt : j < N
    · have HM := Lib.hid (fun W => HMX.out j W (by omega))
      have hy := mixK_bd x ((j : Nat) : Int)
      generalize mixK x ((j : Nat) : Int) = y at hy HM
      have hcell := ho.cell (i := j) (by rw [hl.out]; omega)
      have hfree := ho.free j
      have HO2 := Lib.hid ho
      have HU2 := Lib.hid hu
      have HB2 := Lib.hid hb
      clear ho hu hb
      go_wp2_with (go_at_call 18; (with_reducible refine (HM.out _).mono ?_); rintro e w1 ⟨rfl, rfl⟩)
      go_roundw
      case rel => exact ⟨j + 1, l.set j _, by omega, by go_num, (by rw [List.length_set]; exact hl.out : (l.set j _).length = N), HU2.out.set j (Int.emod_nonneg _ (by omega)) (by omega), HO2.out.set (by rw [hl.out]; exact hlt) _, (HB2.out.setCell (Nat.le_refl _) _)⟩
      case measure => simp [intOf]; omega
    · have HO2 := Lib.hid ho
      have HU2 := Lib.hid hu
      have HB2 := Lib.hid hb
      clear ho hu hb
      go_wp2
      go_ret
      exact words_end HNN.out hl.out HO2.out HU2.out HB2.out hc1 (Nat.le_refl _)
theorem pgS_size {n : Nat} {l : List Int} {F : Int} (hl : l.length = n) (h0 : 0 ≤ F) (h1 : F < pagesN n) : (pgS n l F).size = 128 := by
  unfold pgS
  rw [if_pos ⟨h0, h1⟩]
  have hp := pagesN_le n
  exact pageS_size (by omega)
theorem cell_kp {w w' : World} {b : Nat} (h : lk w' b = lk w b) (i : Nat) : w'.cell? ⟨b, i, none⟩ = w.cell? ⟨b, i, none⟩ := by
  unfold lk at h
  simp only [World.cell?, h]
theorem frozen_kp {w w' : World} {b : Nat} (h : lk w' b = lk w b) (i : Nat) : w'.frozen? ⟨b, i, none⟩ = w.frozen? ⟨b, i, none⟩ := by
  unfold lk at h
  simp only [World.frozen?, h]
end Go.Proofs.Ytkilbakghacooaa
