import Derived.Test.YtmmnjkbdldaniaaWrL
namespace Go.Proofs.Ytmmnjkbdldaniaa
open Go.RowKit Go.Shelf
open Wr (Ms V L)

def mBeat : Ms := ⟨3, 1, 300, 0, 2, 0, 0, 0, 0, ⟨#[]⟩, ⟨#[]⟩⟩
def mChunk : Ms := ⟨5, 0, 0, 0, 3, 0, 0, 0, 0, ⟨#[49, 112, 48]⟩, ⟨#[]⟩⟩
theorem beat_ok : Wr.check mBeat = 0 := by decide
theorem chunk_ok : Wr.check mChunk = 0 := by decide
theorem enc300w : Pk.enc 300 = [172, 2] := by rw [Pk.enc_ge (by decide), Pk.enc_lt (by decide)]; rfl
theorem beat_enc : encB mBeat = ⟨#[3, 1, 172, 2, 2]⟩ := by
  unfold encB
  rw [if_pos beat_ok]
  have : Wr.bytes mBeat = [3, 1, 172, 2, 2] := by
    show Pk.enc 3 ++ (Pk.enc 1 ++ (Pk.enc 300 ++ (Pk.enc 2 ++ []))) = _
    rw [enc300w, Pk.enc_lt (by decide), Pk.enc_lt (by decide), Pk.enc_lt (by decide)]; rfl
  rw [this]
theorem chunk_dec : Wr.decode limP ⟨#[5, 3, 0, 3, 49, 112, 48]⟩ = (mChunk, 0) := by
  refine Wr.decode_there lim_p (by decide) chunk_ok (by decide) ?_
  show [5, 3, 0, 3, 49, 112, 48] = Pk.enc 5 ++ (Pk.enc 3 ++ (Pk.enc 0 ++ ((Pk.enc 3 ++ [49, 112, 48]) ++ [])))
  rw [Pk.enc_lt (n := 5) (by decide), Pk.enc_lt (n := 3) (by decide), Pk.enc_lt (n := 0) (by decide)]; rfl
theorem none_dec : Wr.decode limP ⟨#[]⟩ = (Wr.zM 0, 72) := by
  rcases Wr.decode_or limP ⟨#[]⟩ with ⟨h, _⟩ | ⟨_, h | ⟨m, h⟩⟩
  · exact absurd h (by decide)
  · exact h
  · obtain ⟨_, hc, hb, _⟩ := Wr.decode_form h
    obtain ⟨t, ht⟩ := Wr.bytes_head hc
    rw [ht] at hb; cases hb
set_option maxRecDepth 8000 in
set_option maxHeartbeats 2000000 in
theorem awake_any (w : World) : Calls Try.prog 9 #[] w fun e w' => e = .returned (.bool true) ∧ Below w.heap.size w w' := by
  have E1 := encode_any mBeat (by decide)
  rw [beat_enc, beat_ok] at E1
  have D1 := decode_any ⟨#[5, 3, 0, 3, 49, 112, 48]⟩
  rw [chunk_dec] at D1
  have D2 := decode_any ⟨#[]⟩
  rw [none_dec] at D2
  have C1 := check_any (Wr.zM 0) (by decide)
  rw [show Wr.check (Wr.zM 0) = 70 by decide] at C1
  have C2 := check_any ⟨1, 1, 0, 0, 0, 0, 0, 0, 0, ⟨#[]⟩, ⟨#[]⟩⟩ (by decide)
  rw [show Wr.check ⟨1, 1, 0, 0, 0, 0, 0, 0, 0, ⟨#[]⟩, ⟨#[]⟩⟩ = 71 by decide] at C2
  have C3 := check_any (Wr.zM 1) (by decide)
  rw [show Wr.check (Wr.zM 1) = 0 by decide] at C3
  have HE1 := hide E1
  have HD1 := hide D1
  have HD2 := hide D2
  have HC1 := hide C1
  have HC2 := hide C2
  have HC3 := hide C3
  clear E1 D1 D2 C1 C2 C3
  go_enter Try.func9, Try.ntmps9
  go_wp2_with fail
  refine (HE1.out _).mono ?_
  rintro e w1 ⟨rfl, hb1⟩
  have HB1 := hide hb1
  have hs1 := hb1.size
  clear hb1
  go_wp2_with fail
  refine (HD1.out _ (by decide)).mono ?_
  rintro e w2 ⟨rfl, hb2⟩
  have HB2 := hide (HB1.out.trans (hb2.mono hs1))
  have hs2 := HB2.out.size
  clear hb2
  unfold msgC mChunk
  dsimp only
  go_wp2_with fail
  refine (HD2.out _ (by decide)).mono ?_
  rintro e w3 ⟨rfl, hb3⟩
  have hM3 : Mg w3 w2.heap.size mChunk := (hb3.block _ (by simp)).trans (heap_alloc_new w2 _)
  have HB3 := hide ((HB2.out.alloc hs2 _).trans (hb3.mono (by simp; omega)))
  have hs3 := HB3.out.size
  clear hb3
  have hc0 : ∀ ob, (w3.alloc ob).cell? ⟨w2.heap.size, 0, none⟩ = some (.int .i64 5) := fun ob => Lib.cell?_alloc_some _ (hM3.all 0 _ rfl)
  have hc4 : ∀ ob, (w3.alloc ob).cell? ⟨w2.heap.size, 4, none⟩ = some (.int .i64 3) := fun ob => Lib.cell?_alloc_some _ (hM3.all 4 _ rfl)
  have hc9 : ∀ ob, (w3.alloc ob).cell? ⟨w2.heap.size, 9, none⟩ = some (.string ⟨#[49, 112, 48]⟩) := fun ob => Lib.cell?_alloc_some _ (hM3.all 9 _ rfl)
  clear hM3
  unfold msgC Wr.zM Wr.e0
  dsimp only
  go_wp2_with fail
  refine (HC1.out _).mono ?_
  rintro e w4 ⟨rfl, hb4⟩
  have HB4 := hide ((HB3.out.alloc hs3 _).trans (hb4.mono (by simp; omega)))
  have hs4 := HB4.out.size
  clear hb4
  go_wp2_with fail
  refine (HC2.out _).mono ?_
  rintro e w5 ⟨rfl, hb5⟩
  have HB5 := hide (HB4.out.trans (hb5.mono hs4))
  have hs5 := HB5.out.size
  clear hb5
  go_wp2_with fail
  refine (HC3.out _).mono ?_
  rintro e w6 ⟨rfl, hb6⟩
  have HB6 := hide (HB5.out.trans (hb6.mono hs5))
  clear hb6
  go_wp2_with fail
  go_ret
  exact ⟨rfl, HB6.out⟩
end Go.Proofs.Ytmmnjkbdldaniaa
