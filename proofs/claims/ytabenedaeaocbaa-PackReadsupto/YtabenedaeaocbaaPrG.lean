import Derived.Test.YtabenedaeaocbaaPrF
import Derived.Test.YtabenedaeaocbaaPkP
import Derived.Deep.DeepCutAuto
import Derived.Deep.CutBlock
import Derived.Deep.LoopGhost
import Derived.Deep.AppendLies
namespace Go.Proofs.Ytabenedaeaocbaa
open Go.RowKit

/-- a slice of calls that came in -/
structure OpsR (w : World) (ad : Option Addr) (len : Nat) (ab ao : Nat) (K M : Nat → Int) : Prop where
  some : 0 < len → ad = some ⟨ab, ao, none⟩
  old : 0 < len → ab < w.heap.size
  c0 : ∀ i, i < len → w.cell? ⟨ab, ao + i * 2, none⟩ = Option.some (.int .i64 (K i))
  c1 : ∀ i, i < len → w.cell? ⟨ab, ao + i * 2 + 1, none⟩ = Option.some (.int .i64 (M i))
  bd : ∀ i, i < len → -9223372036854775808 ≤ M i ∧ M i ≤ 9223372036854775807

theorem Jm.below {w W W' : World} {B G o : Nat} (h : Below w.heap.size w W) (k : Jm B G o W W') (h1 : w.heap.size ≤ B) (h2 : w.heap.size ≤ G) : Below w.heap.size w W' :=
  h.trans ⟨k.os, k.tape, k.output, k.size, fun j hj => k.other j (Nat.lt_of_lt_of_le hj h.size) (by omega) (by omega)⟩
theorem own_one {W : World} {base g : Nat} {t : TypeId} {v : Value} (h : W.heap[g]? = some (.cells #[v] t (0, 0))) (hb : base ≤ g) : W.ownsRow base t 1 (.slice (some ⟨g, 0, none⟩) 1 1) 1 [v] :=
  ⟨rfl, .inr ⟨g, 1, #[v], rfl, hb, h, Nat.le_refl _, by decide, rfl, rfl⟩⟩
theorem memP_start {base : Nat} {W : World} {B gl ga : Nat} {b : ByteArray} (h1 : Rd W B b ((0 : Nat) : Int) 0) (h3 : W.heap[gl]? = some (.cells #[.pointer (some ⟨B, 0, none⟩)] 23 (0, 0))) (h4 : W.heap[ga]? = some (.cells #[.string b, .int .i64 0, .int .i64 0, .int .i64 0] 29 (0, 0)))
    (h5 : base ≤ gl) (h6 : base ≤ ga) (h7 : base ≤ B) : MemP base W gl 1 ga 1 1 b [⟨B, 0, 0⟩] := by
  have one : ∀ (i : Nat) (x : St), [(⟨B, 0, 0⟩ : St)][i]? = some x → i = 0 ∧ x = ⟨B, 0, 0⟩ := fun i x hx => by
    have hi : i = 0 := by have := (List.getElem?_eq_some_iff.1 hx).1; simp at this; exact this
    subst hi
    injection hx with hx
    exact ⟨rfl, hx.symm⟩
  refine ⟨rfl, own_one h3 h5, ⟨[.string b, .int .i64 0, .int .i64 0, .int .i64 0], ⟨rfl, .inr ⟨ga, 1, _, rfl, h6, h4, Nat.le_refl _, by decide, rfl, rfl⟩⟩, fun j x hx => ?_⟩, fun x hx => ?_, fun i j x y hx hy hij => ?_⟩
  · obtain ⟨rfl, rfl⟩ := one j x hx
    exact ⟨rfl, rfl, rfl, rfl⟩
  · simp at hx; subst hx
    exact ⟨h1, Nat.zero_le _, h7⟩
  · exact absurd ((one i x hx).1.trans (one j y hy).1.symm) hij
theorem opc {w : World} {H : Nat} {k m : Int} (h : w.heap[H]? = some (.cells #[.int .i64 k, .int .i64 m] 32 (0, 0))) : w.cell? ⟨H, 0, none⟩ = some (.int .i64 k) ∧ w.cell? ⟨H, 1, none⟩ = some (.int .i64 m) := by constructor <;> simp [World.cell?, h]

theorem MemP.opne {base : Nat} {w : World} {gl cl ga ca n : Nat} {b : ByteArray} {S : List St} (h : MemP base w gl cl ga ca n b S) {H : Nat} {c : Array Value} (ho : w.heap[H]? = some (.cells c 32 (0, 0))) : H ≠ gl ∧ H ≠ ga ∧ ∀ x ∈ S, H ≠ x.B := by
  refine ⟨fun e => ?_, fun e => ?_, fun x hx e => ?_⟩
  · obtain ⟨c1, _, h1, _⟩ := own_at h.lrow
    rw [← e, ho] at h1
    injection h1 with h1
    injection h1 with _ h1
    exact absurd h1 (by decide)
  · obtain ⟨xs, ha, _⟩ := h.arow
    obtain ⟨c1, _, h1, _⟩ := own_at ha
    rw [← e, ho] at h1
    injection h1 with h1
    injection h1 with _ h1
    exact absurd h1 (by decide)
  · have hr := (h.each x hx).1
    unfold Rd at hr
    rw [← e, ho] at hr
    injection hr with hr
    injection hr with _ hr
    exact absurd hr (by decide)

set_option maxHeartbeats 4000000 in
set_option maxRecDepth 8000 in
theorem packReads_walk (b : ByteArray) (hb : b.size ≤ 140737488351232) (ad : Option Addr) (ab ao len cap : Nat) (K M : Nat → Int) (w : World) (hO : OpsR w ad len ab ao K M) (hlen : len ≤ 1048576) :
    Calls Try.prog 3 #[.string b, .slice ad len cap] w fun e w' => e = .returned (.bool true) ∧ Below w.heap.size w w' := by
  have HO := hide hO
  clear hO
  go_enter Try.func3, Try.ntmps3
  go_wp2_with fail
  refine (read_any b w).mono ?_
  rintro e w0 ⟨rfl, hR0, hb0⟩
  have HR0 := hide hR0
  have HB0 := hide hb0
  clear hR0 hb0
  go_wp2_with fail
  refine (awake_true _).mono ?_
  rintro e w1 ⟨rfl, hb1⟩
  have HR1 := hide ((HR0.out.alloc (.cells #[.pointer (some ⟨w.heap.size, 0, none⟩)] 23)).below hb1 (by rw [World.size_alloc]; have := HR0.out.lt; omega))
  have HB1 := hide (below_tr (HB0.out.alloc HB0.out.size (.cells #[.pointer (some ⟨w.heap.size, 0, none⟩)] 23)) hb1)
  have HG1 : Hid (w1.heap[w0.heap.size]? = some (.cells #[.pointer (some ⟨w.heap.size, 0, none⟩)] 23 (0, 0))) := (hb1.block _ (by rw [World.size_alloc]; omega)).trans (heap_alloc_new w0 _)
  have hc1 : w1.cell? ⟨w0.heap.size, 0, none⟩ = some (.pointer (some ⟨w.heap.size, 0, none⟩)) := by have := HG1.out; simp [World.cell?, this]
  have hle1 : w.heap.size ≤ w0.heap.size := HB0.out.size
  clear hb1 HR0 HB0
  go_wp2_with fail
  have HM2 : Hid (MemP w.heap.size (w1.alloc (.cells #[.string b, .int .i64 0, .int .i64 0, .int .i64 0] 29)) w0.heap.size 1 w1.heap.size 1 1 b [⟨w.heap.size, 0, 0⟩]) :=
    memP_start (HR1.out.alloc _) ((Below.heap_alloc w1 _ _ (lt_of_block HG1.out)).trans HG1.out) (heap_alloc_new w1 _) hle1 HB1.out.size (Nat.le_refl _)
  have HL2 := hide (HB1.out.alloc HB1.out.size (.cells #[.string b, .int .i64 0, .int .i64 0, .int .i64 0] 29))
  clear HR1 HB1 HG1 hc1 hle1
  go_loopg [5, 6, 7, 8] len (fun gk u5 u6 u7 u8 wr => ∃ (i gl cl ga ca n k : Nat) (S : List St), Hid (gk + i = len) ∧ u5 = .slice (some ⟨gl, 0, none⟩) n cl ∧ u6 = .slice (some ⟨ga, 0, none⟩) n ca ∧ u7 = .int .i64 (k : Int) ∧ u8 = .int .i64 (i : Int) ∧ i ≤ len ∧ n ≤ i + 1 ∧ k < n ∧ Hid (MemP w.heap.size wr gl cl ga ca n b S) ∧ Hid (Below w.heap.size w wr))
  case atStart => exact ⟨0, _, _, _, _, 1, 0, _, (by show len + 0 = len; rfl), rfl, rfl, rfl, rfl, Nat.zero_le _, Nat.le_refl _, Nat.le_refl _, HM2, HL2⟩
  case round =>
    obtain ⟨i, gl, cl, ga, ca, n, k, S, HK, rfl, rfl, rfl, rfl, hil, hni, hkn, HM, HL⟩ := hrel
    clear HM2 HL2
    by_cases hi : i < len
    · have hs' := HO.out.some (by omega)
      subst hs'
      have hi3 : (i : Int) < (len : Int) := by omega
      have hab := HO.out.old (by omega)
      have q0 := (HL.out.cell (p := ⟨ab, ao + i * 2, none⟩) hab).trans (HO.out.c0 i hi)
      have q1 := (HL.out.cell (p := ⟨ab, ao + i * 2 + 1, none⟩) hab).trans (HO.out.c1 i hi)
      have hbd := HO.out.bd i hi
      generalize K i = kd at *
      generalize M i = m at *
      go_upto_if 37 with fail
      have HM0 := hide (HM.out.alloc (.cells #[.int .i64 kd, .int .i64 m] 32))
      have HL0 := hide (HL.out.alloc HL.out.size (.cells #[.int .i64 kd, .int .i64 m] 32))
      have HOP := hide (heap_alloc_new wr (.cells #[.int .i64 kd, .int .i64 m] 32))
      clear HM HL
      generalize wr.alloc (.cells #[.int .i64 kd, .int .i64 m] 32) = W0 at *
      generalize wr.heap.size = H at *
      clear q0 q1
      obtain ⟨o0, o1⟩ := opc HOP.out
      go_cut [5, 6, 7] (fun u5 u6 u7 wc => ∃ (gl cl ga ca n k : Nat) (S : List St), u5 = .slice (some ⟨gl, 0, none⟩) n cl ∧ u6 = .slice (some ⟨ga, 0, none⟩) n ca ∧ u7 = .int .i64 (k : Int) ∧ n ≤ i + 2 ∧ k < n ∧ Hid (MemP w.heap.size wc gl cl ga ca n b S) ∧ Hid (Below w.heap.size w wc) ∧ Hid (wc.heap[H]? = some (.cells #[.int .i64 kd, .int .i64 m] 32 (0, 0))))
      case first =>
        by_cases hk5 : (kd == 5) = true
        · obtain ⟨x, hx⟩ : ∃ x, S[k]? = some x := ⟨_, List.getElem?_eq_getElem (by rw [HM0.out.len]; exact hkn)⟩
          have HX := hide hx
          have hxm := hide (List.mem_of_getElem? hx)
          have m0 := HM0.out.ptr hx
          have hkI : (k : Int) < (n : Int) := by omega
          clear hx
          go_wp2_with fail
          refine (rdclone_any (HM0.out.each x hxm.out).1).mono ?_
          rintro e w2 ⟨rfl, hR, hb2⟩
          have HL2 := hide hb2
          have HR2 := hide hR
          have HM2 := hide (HM0.out.below hb2)
          have HOP2 : Hid (w2.heap[H]? = some (.cells #[.int .i64 kd, .int .i64 m] 32 (0, 0))) := (hb2.block H (lt_of_block HOP.out)).trans HOP.out
          clear hR hb2
          obtain ⟨i0, hi0, hz0, hz1, hz2⟩ := info_parts Try.infoP
          go_upto_region 12 with (at_builtin; refine wpList_append_lies _ rfl _ _ 25 rfl w.heap.size 23 i0 (.pointer none) 1 8 Try.underlying25 hi0 hz0 hz1 hz2 rfl (by decide) (.slice (some ⟨gl, 0, none⟩) n cl) n (ptrs S) rfl (HM2.out.lrow.alloc _) ⟨w2.heap.size, 0, none⟩ 1 1 [.pointer (some ⟨W0.heap.size, 0, none⟩)] rfl rfl (World.news_of_block (cs := #[.pointer (some ⟨W0.heap.size, 0, none⟩)]) (heap_alloc_new w2 _)) (by simp [Value.oneCell']) (by decide) (by unfold maxLen; omega) (by omega) (by rw [World.size_alloc]; have := HL0.out.size; have := HL2.out.size; omega) (w2.heap.size + 1) (World.size_alloc _ _) ?_; intro g6 c6 w6 hown6 hgrow6 hat6 hlt6)
          have HL6 := hide ((below_tr HL0.out (HL2.out.mono (Nat.le_refl _)) |>.alloc (below_tr HL0.out HL2.out).size (.cells #[.pointer (some ⟨W0.heap.size, 0, none⟩)] 23)).grown hgrow6 (by rw [World.size_alloc]; exact Nat.le_succ_of_le (below_tr HL0.out HL2.out).size) (fun j hj => by simp only [Value.ownBlock] at hj; injection hj with hj; rw [← hj]; exact HM2.out.low.1))
          have K6 : Hid (∀ j, j < w2.heap.size → j ≠ gl → w6.heap[j]? = w2.heap[j]?) := fun j hj hn => by
            rw [hgrow6.block j (by rw [World.size_alloc]; omega) (fun e => by simp only [Value.ownBlock] at e; injection e with e; exact hn e), Below.heap_alloc w2 _ j hj]
          have HRR6 : Hid (RR w6 ga (k * 4) b x.p x.f (fa x.p x.f)) := (HM2.out.rr HX.out).keep (K6.out ga HM2.out.ga_lt (fun e => HM2.out.ne e.symm))
          obtain ⟨xs, hxs, hxl⟩ := HM2.out.arow
          have HR6 := hide (own_keep hxs (K6.out ga HM2.out.ga_lt (fun e => HM2.out.ne e.symm)))
          have HXL := hide hxl
          have HOP6 : Hid (w6.heap[H]? = some (.cells #[.int .i64 kd, .int .i64 m] 32 (0, 0))) := (K6.out H (lt_of_block HOP2.out) (HM2.out.opne HOP2.out).1).trans HOP2.out
          have t0 := HRR6.out.c0
          have t1 := HRR6.out.c1
          have t2 := HRR6.out.c2
          have t3 := HRR6.out.c3
          have HO6 := hide hown6
          have HG6 := hide hgrow6
          have HT6 := hide hat6
          clear hown6 hgrow6 hat6 hlt6 m0 hi0 hz0 hz1 hz2 i0 hxs hxl o0 o1
          generalize hfa : fa x.p x.f = xa at *
          obtain ⟨i0, hi0, hz0, hz1, hz2⟩ := info_parts Try.infoQ
          go_upto_region 13 with (at_builtin; refine wpList_append_lies _ rfl _ _ 30 rfl w.heap.size 29 i0 (.agg #[.string ByteArray.empty, .int .i64 0, .int .i64 0, .int .i64 0]) 4 40 Try.underlying30 hi0 hz0 hz1 hz2 rfl (by decide) (.slice (some ⟨ga, 0, none⟩) n ca) n xs rfl (HR6.out.alloc _) ⟨w6.heap.size, 0, none⟩ 1 1 [.string b, .int .i64 (x.p : Int), .int .i64 x.f, .int .i64 xa] rfl rfl (World.news_of_block (cs := #[.string b, .int .i64 (x.p : Int), .int .i64 x.f, .int .i64 xa]) (heap_alloc_new w6 _)) (by simp [Value.oneCell']) (by decide) (by unfold maxLen; omega) (by omega) (by rw [World.size_alloc]; have := HL6.out.size; omega) (w6.heap.size + 1) (World.size_alloc _ _) ?_; intro g7 c7 w8 hown7 hgrow7 hat7 hlt7)
          rw [← hfa] at hown7
          have HMF := hide (HM0.out.more HL0.out.size (HM0.out.each x hxm.out).2.1 HL2.out HR2.out HO6.out HG6.out HT6.out HXL.out HR6.out.1 hown7 hgrow7)
          have HLF := hide ((HL6.out.alloc HL6.out.size (.cells #[.string b, .int .i64 (x.p : Int), .int .i64 x.f, .int .i64 xa] 29)).grown hgrow7 (by rw [World.size_alloc]; exact Nat.le_succ_of_le HL6.out.size) (fun j hj => by simp only [Value.ownBlock] at hj; injection hj with hj; rw [← hj]; exact HM2.out.low.2))
          have HOPF : Hid (w8.heap[H]? = some (.cells #[.int .i64 kd, .int .i64 m] 32 (0, 0))) := by
            have hlt := lt_of_block HOP6.out
            show _ = _
            rw [hgrow7.block H (by rw [World.size_alloc]; omega) (fun e => by simp only [Value.ownBlock] at e; injection e with e; exact (HM2.out.opne HOP2.out).2.1 e), Below.heap_alloc w6 _ H hlt]
            exact HOP6.out
          have m8 := HMF.out.ptr (k := n) (x := ⟨W0.heap.size, x.p, x.f⟩) (by rw [List.getElem?_append_right (by rw [HM0.out.len]; exact Nat.le_refl _), HM0.out.len, Nat.sub_self]; rfl)
          obtain ⟨o0, o1⟩ := opc HOPF.out
          clear hown7 hgrow7 hat7 hlt7 hi0 hz0 hz1 hz2 i0 t0 t1 t2 t3 hfa
          go_upto_region 16 with fail
          have ht1 : m.tmod ((n : Int) + 1) < (n : Int) + 1 := Int.tmod_lt_of_pos _ (by omega)
          have ht2 : -((n : Int) + 1) < m.tmod ((n : Int) + 1) := Int.lt_tmod_of_pos _ (by omega)
          generalize m.tmod ((n : Int) + 1) = t at *
          by_cases h0 : t < 0
          · go_wp2_with fail
            go_meet
            case rel => exact ⟨g6, c6, g7, c7, n + 1, (t + ((n : Int) + 1)).toNat, _, rfl, rfl, by congr 1; omega, by omega, by omega, HMF, HLF, HOPF⟩
          · go_wp2_with fail
            go_meet
            case rel => exact ⟨g6, c6, g7, c7, n + 1, t.toNat, _, rfl, rfl, by congr 1; omega, by omega, by omega, HMF, HLF, HOPF⟩
        · have hk5 : (kd == 5) = false := by simpa using hk5
          go_wp2_with fail
          go_meet
          case rel => exact ⟨gl, cl, ga, ca, n, k, S, rfl, rfl, rfl, by omega, hkn, HM0, HL0, HOP⟩
      case rest =>
        obtain ⟨gl2, cl2, ga2, ca2, n2, k2, S2, rfl, rfl, rfl, hn2, hk2, HM2, HL2, HOP2⟩ := hcut
        clear HM0 HL0 HOP o0 o1
        obtain ⟨o0, o1⟩ := opc HOP2.out
        obtain ⟨x, hx⟩ : ∃ x, S2[k2]? = some x := ⟨_, List.getElem?_eq_getElem (by rw [HM2.out.len]; exact hk2)⟩
        have HX := hide hx
        have hxm := hide (List.mem_of_getElem? hx)
        have m0 := HM2.out.ptr hx
        have hkI : (k2 : Int) < (n2 : Int) := by omega
        clear hx
        go_wp2_with fail
        go_region_held3 (fun w' => w'.cell? ⟨gl2, k2, none⟩ = some (.pointer (some ⟨x.B, 0, none⟩)) ∧ w'.cell? ⟨H, 0, none⟩ = some (.int .i64 kd) ∧ w'.cell? ⟨H, 1, none⟩ = some (.int .i64 m)) (go_keep) (first
          | (go_at_call 7; refine (does_any (HM2.out.drew.each x hxm.out).1 (HM2.out.drew.rr HX.out) (HM2.out.nl hxm.out).2 (HM2.out.each x hxm.out).2.1 hb kd m hbd.2).mono ?_; rintro e w3 ⟨rfl, p', f', hp', hd', hr', hj'⟩; have HM3 := hide (HM2.out.drew.step HX.out hp' hd' hr' hj'); have HL3 := hide (Jm.below HL2.out.drew hj' (HM2.out.each x hxm.out).2.2 HM2.out.low.2); have HOP3 : Hid (w3.heap[H]? = some (.cells #[.int .i64 kd, .int .i64 m] 32 (0, 0))) := (hj'.other H (lt_of_block HOP2.out) ((HM2.out.opne HOP2.out).2.2 x hxm.out) (HM2.out.opne HOP2.out).2.1).trans HOP2.out; have HX3 : Hid ((S2.set k2 ⟨x.B, p', f'⟩)[k2]? = some ⟨x.B, p', f'⟩) := (by show _ = _; rw [List.getElem?_set_self (by rw [HM2.out.len]; exact hk2)]); have y0 := HM3.out.ptr HX3.out; obtain ⟨y1, y2⟩ := opc HOP3.out; clear hp' hd' hr' hj')
          | (go_at_call 8; refine (same_any (HM3.out.each _ (List.mem_of_getElem? HX3.out)).1 (HM3.out.rr HX3.out) (HM3.out.each _ (List.mem_of_getElem? HX3.out)).2.1 hb).mono ?_; rintro e w4 ⟨rfl, nn, hw4⟩; have HM4 : Hid (MemP w.heap.size w4 gl2 cl2 ga2 ca2 n2 b (S2.set k2 ⟨x.B, p', f'⟩)) := HM3.out.heap (by rw [hw4]; rfl); have HL4 : Hid (Below w.heap.size w w4) := (by rw [hw4]; exact below_dn HL3.out nn); have HOP4 : Hid (w4.heap[H]? = some (.cells #[.int .i64 kd, .int .i64 m] 32 (0, 0))) := (by rw [hw4]; exact HOP3.out); have v0 := HM4.out.ptr HX3.out; obtain ⟨v1, v2⟩ := opc HOP4.out; clear hw4))
        go_wp2_with fail
        go_roundg (gk - 1)
        case measure => have := HK.out; omega
        case rel => exact ⟨i + 1, gl2, cl2, ga2, ca2, n2, k2, _, (by show gk - 1 + (i + 1) = len; have := HK.out; omega), rfl, rfl, rfl, by go_num, by omega, by omega, hk2, HM4, HL4⟩
    · obtain rfl : i = len := by omega
      have b0 : decide ((i : Int) < (i : Int)) = false := by simp
      clear hi
      go_wp2_with fail
      go_loopg [10] n (fun gj u10 wz => ∃ (j : Nat), Hid (gj + j = n) ∧ u10 = .int .i64 (j : Int) ∧ j ≤ n ∧ Hid (MemP w.heap.size wz gl cl ga ca n b S) ∧ Hid (Below w.heap.size w wz))
      case atStart => exact ⟨0, (by show n + 0 = n; rfl), rfl, Nat.zero_le _, HM, HL⟩
      case round =>
        obtain ⟨j, HK2, rfl, hjn, HM2, HL2⟩ := hrel
        clear HM HL b0
        by_cases hj : j < n
        · obtain ⟨x, hx⟩ : ∃ x, S[j]? = some x := ⟨_, List.getElem?_eq_getElem (by rw [HM2.out.len]; exact hj)⟩
          have hxm := hide (List.mem_of_getElem? hx)
          have m0 := HM2.out.ptr hx
          have HX := hide hx
          clear hx
          have hjI : (j : Int) < (n : Int) := by omega
          go_wp2_with fail
          go_region_held3 (fun w' => w'.cell? ⟨gl, j, none⟩ = some (.pointer (some ⟨x.B, 0, none⟩))) (go_keep) (first
            | (go_at_call 8; refine (same_any (HM2.out.drew.each x hxm.out).1 (HM2.out.drew.rr HX.out) (HM2.out.each x hxm.out).2.1 hb).mono ?_; rintro e w3 ⟨rfl, nn, hw3⟩; have HM3 : Hid (MemP w.heap.size w3 gl cl ga ca n b S) := HM2.out.heap (by rw [hw3]; rfl); have HL3 : Hid (Below w.heap.size w w3) := (by rw [hw3]; exact below_dn HL2.out.drew nn); have y0 := HM3.out.ptr HX.out; clear hw3))
          go_wp2_with fail
          go_roundg (gk - 1)
          case measure => have := HK2.out; omega
          case rel => exact ⟨j + 1, (by show gk - 1 + (j + 1) = n; have := HK2.out; omega), by go_num, by omega, HM3, HL3⟩
        · obtain rfl : j = n := by omega
          have b1 : decide ((j : Int) < (j : Int)) = false := by simp
          clear hj
          go_wp2_with fail
          go_ret
          exact ⟨rfl, HL2.out⟩
end Go.Proofs.Ytabenedaeaocbaa
