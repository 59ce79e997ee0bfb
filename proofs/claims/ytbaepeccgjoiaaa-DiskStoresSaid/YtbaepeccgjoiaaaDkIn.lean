import Derived.Test.YtbaepeccgjoiaaaDkRef
namespace Go.Proofs.Ytbaepeccgjoiaaa
set_option linter.unusedVariables false
set_option linter.unusedSimpArgs false
open Go.ChangeShapes Go.WideShapes Go.ChangeAt Go.RowKit Go.Proofs.Ytbaepeccgjoiaaa.Num Go.Proofs.Ytbaepeccgjoiaaa.Mem
theorem stillI {w w' : World} {p : Addr} {v : Value} (h : w.cell? p = some v) (hb : Below w.heap.size w w') : w'.cell? p = some v := (hb.cell (World.block_lt_of_cell? w p h)).trans h
/-- The eight cells of a controller in a block. -/
structure InD (w : World) (b : Nat) (B : Int) (K : Int) (F : Int) (S : Int) (C : Int) (OB : Int) (OF : Int) (D : ByteArray) : Prop where
  c0 : w.cell? ⟨b, 0, none⟩ = some (.int .u32 B)
  c1 : w.cell? ⟨b, 1, none⟩ = some (.int .u32 K)
  c2 : w.cell? ⟨b, 2, none⟩ = some (.int .u32 F)
  c3 : w.cell? ⟨b, 3, none⟩ = some (.int .i64 S)
  c4 : w.cell? ⟨b, 4, none⟩ = some (.int .i64 C)
  c5 : w.cell? ⟨b, 5, none⟩ = some (.int .u32 OB)
  c6 : w.cell? ⟨b, 6, none⟩ = some (.int .u32 OF)
  c7 : w.cell? ⟨b, 7, none⟩ = some (.string D)
  z : ∀ i, w.frozen? ⟨b, i, none⟩ = false
theorem InD.lt {w : World} {b : Nat} {B : Int} {K : Int} {F : Int} {S : Int} {C : Int} {OB : Int} {OF : Int} {D : ByteArray} (h : InD w b B K F S C OB OF D) : b < w.heap.size := World.block_lt_of_cell? w _ h.c0
theorem InD.on {w w' : World} {b : Nat} {B : Int} {K : Int} {F : Int} {S : Int} {C : Int} {OB : Int} {OF : Int} {D : ByteArray} (h : InD w b B K F S C OB OF D) (hb : Below w.heap.size w w') : InD w' b B K F S C OB OF D := ⟨stillI h.c0 hb, stillI h.c1 hb, stillI h.c2 hb, stillI h.c3 hb, stillI h.c4 hb, stillI h.c5 hb, stillI h.c6 hb, stillI h.c7 hb, fun i => (hb.frozen (p := ⟨b, i, none⟩) h.lt).trans (h.z i)⟩
theorem InD.alloc {w : World} {b : Nat} {B : Int} {K : Int} {F : Int} {S : Int} {C : Int} {OB : Int} {OF : Int} {D : ByteArray} (h : InD w b B K F S C OB OF D) (o : Obj) : InD (w.alloc o) b B K F S C OB OF D := h.on ((Below.refl _ _).alloc (Nat.le_refl _) o)
theorem InD.drewN {w : World} {b : Nat} {B : Int} {K : Int} {F : Int} {S : Int} {C : Int} {OB : Int} {OF : Int} {D : ByteArray} (h : InD w b B K F S C OB OF D) (j : Nat) : InD (w.drewN j) b B K F S C OB OF D := h.on (below_drewN (Below.refl _ _) j)
theorem InD.drew {w : World} {b : Nat} {B : Int} {K : Int} {F : Int} {S : Int} {C : Int} {OB : Int} {OF : Int} {D : ByteArray} (h : InD w b B K F S C OB OF D) : InD w.drew b B K F S C OB OF D := h.on ((Below.refl _ _).drew)
theorem InD.new (w : World) (B K F S C OB OF D : _) (ty : TypeId) : InD (w.alloc (.cells #[.int .u32 B, .int .u32 K, .int .u32 F, .int .i64 S, .int .i64 C, .int .u32 OB, .int .u32 OF, .string D] ty)) w.heap.size B K F S C OB OF D := ⟨by simp [go_sem], by simp [go_sem], by simp [go_sem], by simp [go_sem], by simp [go_sem], by simp [go_sem], by simp [go_sem], by simp [go_sem], fun i => by simp [go_sem]⟩
/-- The three cells of an event in a block. -/
structure InV (w : World) (b : Nat) (K : Int) (N : Int) (D : ByteArray) : Prop where
  c0 : w.cell? ⟨b, 0, none⟩ = some (.int .i64 K)
  c1 : w.cell? ⟨b, 1, none⟩ = some (.int .u32 N)
  c2 : w.cell? ⟨b, 2, none⟩ = some (.string D)
  z : ∀ i, w.frozen? ⟨b, i, none⟩ = false
theorem InV.lt {w : World} {b : Nat} {K : Int} {N : Int} {D : ByteArray} (h : InV w b K N D) : b < w.heap.size := World.block_lt_of_cell? w _ h.c0
theorem InV.on {w w' : World} {b : Nat} {K : Int} {N : Int} {D : ByteArray} (h : InV w b K N D) (hb : Below w.heap.size w w') : InV w' b K N D := ⟨stillI h.c0 hb, stillI h.c1 hb, stillI h.c2 hb, fun i => (hb.frozen (p := ⟨b, i, none⟩) h.lt).trans (h.z i)⟩
theorem InV.alloc {w : World} {b : Nat} {K : Int} {N : Int} {D : ByteArray} (h : InV w b K N D) (o : Obj) : InV (w.alloc o) b K N D := h.on ((Below.refl _ _).alloc (Nat.le_refl _) o)
theorem InV.drewN {w : World} {b : Nat} {K : Int} {N : Int} {D : ByteArray} (h : InV w b K N D) (j : Nat) : InV (w.drewN j) b K N D := h.on (below_drewN (Below.refl _ _) j)
theorem InV.drew {w : World} {b : Nat} {K : Int} {N : Int} {D : ByteArray} (h : InV w b K N D) : InV w.drew b K N D := h.on ((Below.refl _ _).drew)
theorem InV.new (w : World) (K N D : _) (ty : TypeId) : InV (w.alloc (.cells #[.int .i64 K, .int .u32 N, .string D] ty)) w.heap.size K N D := ⟨by simp [go_sem], by simp [go_sem], by simp [go_sem], fun i => by simp [go_sem]⟩
/-- The four cells of an output in a block. -/
structure InO (w : World) (b : Nat) (k : Int) (a : Int) (u : Int) (d : ByteArray) : Prop where
  c0 : w.cell? ⟨b, 0, none⟩ = some (.int .i64 k)
  c1 : w.cell? ⟨b, 1, none⟩ = some (.int .u64 a)
  c2 : w.cell? ⟨b, 2, none⟩ = some (.int .u32 u)
  c3 : w.cell? ⟨b, 3, none⟩ = some (.string d)
  z : ∀ i, w.frozen? ⟨b, i, none⟩ = false
theorem InO.lt {w : World} {b : Nat} {k : Int} {a : Int} {u : Int} {d : ByteArray} (h : InO w b k a u d) : b < w.heap.size := World.block_lt_of_cell? w _ h.c0
theorem InO.on {w w' : World} {b : Nat} {k : Int} {a : Int} {u : Int} {d : ByteArray} (h : InO w b k a u d) (hb : Below w.heap.size w w') : InO w' b k a u d := ⟨stillI h.c0 hb, stillI h.c1 hb, stillI h.c2 hb, stillI h.c3 hb, fun i => (hb.frozen (p := ⟨b, i, none⟩) h.lt).trans (h.z i)⟩
theorem InO.alloc {w : World} {b : Nat} {k : Int} {a : Int} {u : Int} {d : ByteArray} (h : InO w b k a u d) (o : Obj) : InO (w.alloc o) b k a u d := h.on ((Below.refl _ _).alloc (Nat.le_refl _) o)
theorem InO.drewN {w : World} {b : Nat} {k : Int} {a : Int} {u : Int} {d : ByteArray} (h : InO w b k a u d) (j : Nat) : InO (w.drewN j) b k a u d := h.on (below_drewN (Below.refl _ _) j)
theorem InO.drew {w : World} {b : Nat} {k : Int} {a : Int} {u : Int} {d : ByteArray} (h : InO w b k a u d) : InO w.drew b k a u d := h.on ((Below.refl _ _).drew)
theorem InO.new (w : World) (k a u d : _) (ty : TypeId) : InO (w.alloc (.cells #[.int .i64 k, .int .u64 a, .int .u32 u, .string d] ty)) w.heap.size k a u d := ⟨by simp [go_sem], by simp [go_sem], by simp [go_sem], by simp [go_sem], fun i => by simp [go_sem]⟩
theorem below_stepI {B : Nat} {w w1 w2 : World} (h : Below B w w1) (h2 : Below w1.heap.size w1 w2) (hB : B ≤ w.heap.size) : Below B w w2 := Below.trans h (h2.mono (Nat.le_trans hB h.size))
end Go.Proofs.Ytbaepeccgjoiaaa
