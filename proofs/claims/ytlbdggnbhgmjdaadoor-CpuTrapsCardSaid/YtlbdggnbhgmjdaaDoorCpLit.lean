import Derived.Test.YtlbdggnbhgmjdaaDoorCpBox
namespace Go.Proofs.YtlbdggnbhgmjdaaDoor
set_option linter.unusedVariables false
set_option linter.unusedSimpArgs false
theorem list25 {L : List Int} (h : L.length = 25) : ∃ a0 a1 a2 a3 a4 a5 a6 a7 a8 a9 a10 a11 a12 a13 a14 a15 a16 a17 a18 a19 a20 a21 a22 a23 a24, L = [a0, a1, a2, a3, a4, a5, a6, a7, a8, a9, a10, a11, a12, a13, a14, a15, a16, a17, a18, a19, a20, a21, a22, a23, a24] := by
  obtain _ | ⟨a0, L⟩ := L; · simp at h
  obtain _ | ⟨a1, L⟩ := L; · simp at h
  obtain _ | ⟨a2, L⟩ := L; · simp at h
  obtain _ | ⟨a3, L⟩ := L; · simp at h
  obtain _ | ⟨a4, L⟩ := L; · simp at h
  obtain _ | ⟨a5, L⟩ := L; · simp at h
  obtain _ | ⟨a6, L⟩ := L; · simp at h
  obtain _ | ⟨a7, L⟩ := L; · simp at h
  obtain _ | ⟨a8, L⟩ := L; · simp at h
  obtain _ | ⟨a9, L⟩ := L; · simp at h
  obtain _ | ⟨a10, L⟩ := L; · simp at h
  obtain _ | ⟨a11, L⟩ := L; · simp at h
  obtain _ | ⟨a12, L⟩ := L; · simp at h
  obtain _ | ⟨a13, L⟩ := L; · simp at h
  obtain _ | ⟨a14, L⟩ := L; · simp at h
  obtain _ | ⟨a15, L⟩ := L; · simp at h
  obtain _ | ⟨a16, L⟩ := L; · simp at h
  obtain _ | ⟨a17, L⟩ := L; · simp at h
  obtain _ | ⟨a18, L⟩ := L; · simp at h
  obtain _ | ⟨a19, L⟩ := L; · simp at h
  obtain _ | ⟨a20, L⟩ := L; · simp at h
  obtain _ | ⟨a21, L⟩ := L; · simp at h
  obtain _ | ⟨a22, L⟩ := L; · simp at h
  obtain _ | ⟨a23, L⟩ := L; · simp at h
  obtain _ | ⟨a24, L⟩ := L; · simp at h
  obtain _ | ⟨b, L⟩ := L
  · exact ⟨a0, a1, a2, a3, a4, a5, a6, a7, a8, a9, a10, a11, a12, a13, a14, a15, a16, a17, a18, a19, a20, a21, a22, a23, a24, rfl⟩
  · simp at h
theorem cpV_lit {L : List Int} (h : L.length = 25) : cpV L = .agg #[.int .u32 (wd L 0), .int .u32 (wd L 1), .int .u32 (wd L 2), .int .u32 (wd L 3), .int .u32 (wd L 4), .int .u32 (wd L 5), .int .u32 (wd L 6), .int .u32 (wd L 7), .int .u32 (wd L 8), .int .u32 (wd L 9), .int .u32 (wd L 10), .int .u32 (wd L 11), .int .u32 (wd L 12), .int .u32 (wd L 13), .int .u32 (wd L 14), .int .u32 (wd L 15), .int .u32 (wd L 16), .int .u32 (wd L 17), .int .u32 (wd L 18), .int .u32 (wd L 19), .int .u32 (wd L 20), .int .u32 (wd L 21), .int .u32 (wd L 22), .int .u32 (wd L 23), .int .u32 (wd L 24)] := by
  obtain ⟨a0, a1, a2, a3, a4, a5, a6, a7, a8, a9, a10, a11, a12, a13, a14, a15, a16, a17, a18, a19, a20, a21, a22, a23, a24, rfl⟩ := list25 h
  rfl
end Go.Proofs.YtlbdggnbhgmjdaaDoor
