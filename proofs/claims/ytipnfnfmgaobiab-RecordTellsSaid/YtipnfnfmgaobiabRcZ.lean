import Derived.Test.YtipnfnfmgaobiabRcY
namespace Go.Proofs.Ytipnfnfmgaobiab
open Go.RowKit
open Rc (L V Ch)

theorem Rw.at {w : World} {v : Value} {l : List Ch} {b off cap : Nat} (h : Rw w v l) (hv : v = .slice (some ⟨b, off, none⟩) l.length cap) {j : Nat} (hj : j < l.length) :
    ∃ pt ct, Tx w (.slice pt (l[j]!).tx.length ct) (l[j]!).tx ∧ (l[j]!).tx.length ≤ 140737488351232 ∧ (l[j]!).rb < 18446744073709551616 ∧ b < w.heap.size ∧ ∀ i u, (chC l[j]! (.slice pt (l[j]!).tx.length ct))[i]? = some u → w.cell? ⟨b, off + j * 10 + i, none⟩ = some u := by
  obtain ⟨p, cap', hv', h2⟩ := h
  obtain ⟨b', off', hp, hlt, hx⟩ := h2 (by omega)
  rw [hv] at hv'
  simp only [Value.slice.injEq] at hv'
  rw [hp] at hv'
  simp only [Option.some.injEq, Addr.mk.injEq] at hv'
  obtain ⟨⟨rfl, rfl, -⟩, -, rfl⟩ := hv'
  obtain ⟨t, ht, h1, h3, h4⟩ := hx j hj
  have hT := ht
  obtain ⟨pt, ct, rfl, -⟩ := ht
  exact ⟨pt, ct, hT, h1, h3, hlt, h4⟩
end Go.Proofs.Ytipnfnfmgaobiab
