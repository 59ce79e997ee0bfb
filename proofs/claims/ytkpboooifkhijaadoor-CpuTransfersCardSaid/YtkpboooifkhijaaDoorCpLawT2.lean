import Derived.Test.YtkpboooifkhijaaDoorCpGb
import Derived.Test.YtkpboooifkhijaaDoorCpLawP
namespace Go.Proofs.YtkpboooifkhijaaDoor
set_option linter.unusedVariables false
set_option linter.unusedSimpArgs false
set_option maxRecDepth 20000
open Go.ChangeShapes Go.WideShapes Go.ChangeAt Go.RowKit Go.Proofs.YtkpboooifkhijaaDoor.Num Go.Proofs.YtkpboooifkhijaaDoor.Mem Go.Proofs.YtkpboooifkhijaaDoor.Isa
/- Loads and stores where no page table stands in between. -/
theorem rs_plain {n : Nat} {l L : List Int} {va size a : Int} (hp : pgB L = false) (ha : a = 1 ∨ a = 2 ∨ a = 3) (hs : size = 1 ∨ size = 4) (hz : va % size = 0) (hk : okB n va size = true) : rsC n l L va size a = 0 ∧ rsA n l L va size a = va ∧ rsL n l L va size a = l := by
  have e : rsC n l L va size a = 0 := by
    unfold rsC
    rw [if_pos ⟨ha, hs⟩, if_pos hz, hp, if_neg (by decide), if_pos hk]
  refine ⟨e, ?_, ?_⟩
  · unfold rsA; rw [if_pos e, hp, if_neg (by decide)]
  · unfold rsL; rw [if_neg (by rw [hp]; simp)]
theorem exec_st_np (L : List Int) (S : Option Addr) (n c : Nat) (l : List Int) (o A B C m X va : Int) (a b : Nat) (w : World) (hL : C25 L) (hm : Mem w S n c l) (hp : pgB L = false) (h4 : wd L 16 % 4 = 0) (hk : okB n (wd L 16) 4 = true) (hw : wd l (wd L 16 / 4).toNat = X) (X0 : 0 ≤ X) (X1 : X ≤ 4294967295)
    (hd : dOk X) (eo : dOp X = o) (ea : dA X = A) (eb : dB X = B) (ec : dC X = C) (em : dM X = m) (ha : A = a) (a1 : a < 16) (hb : B = b) (b1 : b < 16) (m0 : -32768 ≤ m) (m1 : m ≤ 65535) (ho : 35 ≤ o ∧ o ≤ 36) (hva : opVa L B m = va) (hz : va % opSz o = 0) (hok : okB n va (opSz o) = true) :
    Calls Tryd.prog 12 #[cpV L, .slice S n c] w (ExPost n (advL L) (stV l va (opSz o) (wd L a)) (efV 0 0 0 0) w) := by
  obtain ⟨f1, f2, f3⟩ := ft_plain (n := n) (l := l) (L := L) hp h4 hk
  rw [hw] at f3
  have h := exec_st L S n c l o A B C m a b w hL hm f1 (by rw [f3]; exact hd) (by rw [f3]; exact ⟨X0, X1⟩) (by rw [f3]; exact eo) (by rw [f3]; exact ea) (by rw [f3]; exact eb) (by rw [f3]; exact ec) (by rw [f3]; exact em) ha a1 hb b1 m0 m1 ho
  have hs : opSz o = 1 ∨ opSz o = 4 := by unfold opSz; split <;> simp
  obtain ⟨g1, g2, g3⟩ := rs_plain (n := n) (l := l) (L := L) hp (.inr (.inr rfl)) hs hz hok
  rw [f2] at h
  unfold stX stM at h
  rw [hva, g1, g2, g3, if_pos rfl, if_pos rfl, show wd L A.toNat = wd L a by rw [ha, Int.toNat_natCast]] at h
  rw [show efK o = 0 by unfold efK; rw [if_neg (by omega), if_neg (by omega), if_neg (by omega), if_neg (by omega), if_neg (by omega)], show efP o m = 0 by unfold efP; rw [if_neg (by omega)], show efR o A = 0 by unfold efR; rw [if_neg (by omega)], show efU L o A = 0 by unfold efU; rw [if_neg (by omega)]] at h
  exact h
theorem exec_ld_np (L : List Int) (S : Option Addr) (n c : Nat) (l : List Int) (o A B C m X va : Int) (a b : Nat) (w : World) (hL : C25 L) (hm : Mem w S n c l) (hp : pgB L = false) (h4 : wd L 16 % 4 = 0) (hk : okB n (wd L 16) 4 = true) (hw : wd l (wd L 16 / 4).toNat = X) (X0 : 0 ≤ X) (X1 : X ≤ 4294967295)
    (hd : dOk X) (eo : dOp X = o) (ea : dA X = A) (eb : dB X = B) (ec : dC X = C) (em : dM X = m) (ha : A = a) (a1 : a < 16) (hb : B = b) (b1 : b < 16) (m0 : -32768 ≤ m) (m1 : m ≤ 65535) (ho : 32 ≤ o ∧ o ≤ 34) (hva : opVa L B m = va) (hz : va % opSz o = 0) (hok : okB n va (opSz o) = true) :
    Calls Tryd.prog 12 #[cpV L, .slice S n c] w (ExPost n (setL (advL L) A (ldE o (ldV l va (opSz o)))) l (efV 0 0 0 0) w) := by
  obtain ⟨f1, f2, f3⟩ := ft_plain (n := n) (l := l) (L := L) hp h4 hk
  rw [hw] at f3
  have h := exec_ld L S n c l o A B C m a b w hL hm f1 (by rw [f3]; exact hd) (by rw [f3]; exact ⟨X0, X1⟩) (by rw [f3]; exact eo) (by rw [f3]; exact ea) (by rw [f3]; exact eb) (by rw [f3]; exact ec) (by rw [f3]; exact em) ha a1 hb b1 m0 m1 ho
  have hs : opSz o = 1 ∨ opSz o = 4 := by unfold opSz; split <;> simp
  obtain ⟨g1, g2, g3⟩ := rs_plain (n := n) (l := l) (L := L) hp (.inr (.inl rfl)) hs hz hok
  rw [f2] at h
  unfold ldX ldM at h
  rw [hva, g1, g2, g3, if_pos rfl] at h
  rw [show efK o = 0 by unfold efK; rw [if_neg (by omega), if_neg (by omega), if_neg (by omega), if_neg (by omega), if_neg (by omega)], show efP o m = 0 by unfold efP; rw [if_neg (by omega)], show efR o A = 0 by unfold efR; rw [if_neg (by omega)], show efU L o A = 0 by unfold efU; rw [if_neg (by omega)]] at h
  exact h
theorem sext_mod (v : Int) : sext (v % 256) 8 = sext v 8 := by
  unfold sext
  rw [if_neg (by decide), if_neg (by decide), if_neg (by decide), if_neg (by decide)]
  rw [show (32 - 8 : Int).toNat = 24 from rfl, show (v % 256) * 2 ^ 24 % 4294967296 = v * 2 ^ 24 % 4294967296 by omega]
theorem setB_low (x v : Int) (x0 : 0 ≤ x) (x1 : x ≤ 4294967295) (v0 : 0 ≤ v) : setB x 0 v % 256 = v % 256 := by
  have h := low_setB x 0 0 v x0 x1 (by omega) (by omega)
  rw [if_pos rfl] at h
  unfold low at h
  have h2 := congrArg UInt8.toNat h
  simp at h2
  have h3 := setB_bd x 0 v x0 x1 (by omega)
  omega
/-- What a store writes, a load from the same address reads. -/
theorem st_ld {l : List Int} (hl : l.length = 128) (hu : U32 l) {a v : Int} (a0 : 0 ≤ a) (a1 : a < 384) (a4 : a % 4 = 0) (v0 : 0 ≤ v) : ldV (stV l a 4 v) a 4 = v ∧ ldV (stV l a 1 v) a 1 = v % 256 := by
  have hi : (a / 4).toNat < l.length := by omega
  have hx := wd_bd hu (a / 4).toNat
  unfold ldV stV stW
  rw [wd_set _ _ _ _ hi, wd_set _ _ _ _ hi]
  refine ⟨by rw [if_pos rfl, if_pos rfl, if_pos rfl], ?_⟩
  rw [if_neg (by decide), if_pos rfl, if_neg (by decide), show (a % 4).toNat = 0 by omega]
  have := setB_low (wd l (a / 4).toNat) v hx.1 hx.2 v0
  simpa using this
end Go.Proofs.YtkpboooifkhijaaDoor
