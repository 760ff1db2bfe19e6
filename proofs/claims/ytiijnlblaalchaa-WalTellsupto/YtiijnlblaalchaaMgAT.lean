import Derived.Test.YtiijnlblaalchaaMgAS

section
namespace Go.Proofs.Ytiijnlblaalchaa
open Go.RowKit Go.Shelf
open Wl (Hd WS Log)

/-- a snapshot is taken, or nothing is turned -/
theorem Con.snapshot_or {d : D.DS} {ws : WS} {s : ByteArray} {l : List ByteArray} (h : Con d ws s l) (hn : ws.h.num < 1099511627776) (t : ByteArray) :
    ((Wl.snapshot d ws t).1 = 0 ∧ Con (Wl.snapshot d ws t).2.1 (Wl.snapshot d ws t).2.2 t [] ∧ (Wl.snapshot d ws t).2.2.h = Wl.hdS ws.h t ∧ (Wl.snapshot d ws t).2.1.R.length ≤ d.R.length + 600 ∧ (Wl.snapshot d ws t).2.1.S.length = d.S.length) ∨ ((Wl.snapshot d ws t).1 ≠ 0 ∧ (Wl.snapshot d ws t).2.1 = d ∧ (Wl.snapshot d ws t).2.2 = ws) := by
  by_cases h1 : min 17000 (Wl.hb d.S.length) < t.size
  · rw [snap_long h h1]; exact .inr ⟨by show (92 : Int) ≠ 0; decide, rfl, rfl⟩
  · exact .inl (h.snapshot (by omega) hn)
/-- a log in memory, its disk, what it tells, and a row of texts -/
structure TlI (w0 : World) (b W : Nat) (v : Value) (s : ByteArray) (l lr : List ByteArray) (d : D.DS) (ws : WS) (F : Nat → Prop) (N : Nat) (w : World) : Prop where
  con : Con d ws s l
  nm : ws.h.num ≤ 1 + N
  rl : d.R.length ≤ 1 + 600 * N
  dk : D.Dk w0.heap.size w b F d
  wm : Wm w W b ws
  nf : ¬ F W
  hW : w0.heap.size ≤ W
  own : w.ownsRow w0.heap.size 9 1 v lr.length (lr.map .string)
  bel : Below w0.heap.size w0 w
section
variable {w0 : World} {b W : Nat} {v : Value} {s : ByteArray} {l lr : List ByteArray} {d : D.DS} {ws : WS} {F : Nat → Prop} {N : Nat} {w w' : World}
theorem TlI.small (h : TlI w0 b W v s l lr d ws F N w) : l.length ≤ 65536 := by
  have := h.con.wok.rc; rw [h.con.rc] at this; exact this
theorem TlI.R (h : TlI w0 b W v s l lr d ws F N w) (hN : N ≤ 1048576) : (d.R.length + 600) * 24 ≤ 140737488355328 := by
  have h2 := h.rl
  exact Nat.le_trans (Nat.mul_le_mul_right 24 (show d.R.length + 600 ≤ 1000000000 by omega)) (by decide)
theorem TlI.below (h : TlI w0 b W v s l lr d ws F N w) (hb : Below w.heap.size w w') : TlI w0 b W v s l lr d ws F N w' :=
  ⟨h.con, h.nm, h.rl, h.dk.below hb, h.wm.below hb, h.nf, h.hW, D.own_keep h.own fun k hk => hb.block k (own_lo h.own hk).2, h.bel.trans (hb.mono h.bel.size)⟩
/-- a call -/
theorem TlI.called (h : TlI w0 b W v s l lr d ws F N w) {s' : ByteArray} {l' : List ByteArray} {d' : D.DS} {ws' : WS} {F' : Nat → Prop} (hC : Con d' ws' s' l') (hn : ws'.h.num ≤ 1 + (N + 1)) (hr : d'.R.length ≤ 1 + 600 * (N + 1))
    (hD : D.Dk w0.heap.size w' b F' d') (hW : Wm w' W b ws') (hM : D.Mv (FW F W) (FW F' W) w w') (hf : ¬ F' W) : TlI w0 b W v s' l' lr d' ws' F' (N + 1) w' := by
  refine ⟨hC, hn, hr, hD, hW, hf, h.hW, D.own_keep h.own fun k hk => ?_, h.bel.trans (hM.below h.bel.size fun k hk => ?_)⟩
  · obtain ⟨cs, hcs⟩ := own_blk h.own hk
    exact hM.block k (lt_of_block hcs) (fun e => by rcases e with e | e; exact dk_str h.dk hcs e; exact wm_str h.wm hcs e)
  · rcases hk with hk | hk
    · exact h.dk.ftlow k hk
    · rw [hk]; exact h.hW
/-- the row grows -/
theorem TlI.grown (h : TlI w0 b W v s l lr d ws F N w) {w1 : World} {v' : Value} {lr' : List ByteArray} (h1 : Below w.heap.size w w1) (hg : w1.grownBy w' v.ownBlock) (ho' : w'.ownsRow w0.heap.size 9 1 v' lr'.length (lr'.map .string)) : TlI w0 b W v' s l lr' d ws F N w' := by
  have hk : ∀ k, k < w.heap.size → v.ownBlock ≠ some k → w'.heap[k]? = w.heap[k]? := fun k hk hn => (hg.block k (Nat.lt_of_lt_of_le hk h1.size) (Ne.symm hn)).trans (h1.block k hk)
  refine ⟨h.con, h.nm, h.rl, h.dk.keep fun k hk' => hk k (h.dk.ftlt k hk').2 (fun e => ?_), (hk W (lt_of_block h.wm) (fun e => ?_)).trans h.wm, h.nf, h.hW, ho', (h.bel.trans (h1.mono h.bel.size)).grown hg (Nat.le_trans h.bel.size h1.size) (fun k hk' => (own_lo h.own hk').1)⟩
  · obtain ⟨cs, hcs⟩ := own_blk h.own e; exact dk_str h.dk hcs hk'
  · obtain ⟨cs, hcs⟩ := own_blk h.own e; exact wm_str h.wm hcs rfl
/-- a new row -/
theorem TlI.fresh (h : TlI w0 b W v s l lr d ws F N w) : TlI w0 b W (.slice (some ⟨w.heap.size, 0, none⟩) 0 0) s l [] d ws F N (w.alloc (.cells #[] 9)) :=
  ⟨h.con, h.nm, h.rl, h.dk.alloc _, h.wm.below (below_alloc _ _), h.nf, h.hW, World.ownsRow_made w #[] 0 h.bel.size (by decide) rfl, h.bel.alloc h.bel.size _⟩
theorem TlI.okv (h : TlI w0 b W v s l lr d ws F N w) : Wl.Ok d ⟨ws.h, l.length, false⟩ := ⟨h.con.wok.fits, h.con.wok.num, h.con.wok.half, h.con.wok.sn, h.con.wok.used, h.small⟩
end
theorem TlI.of {w0 : World} {b W : Nat} {d : D.DS} {F : Nat → Prop} {w : World} (h : TwI w0 b W [] d ⟨Wl.h1, 0, false⟩ F w) : TlI w0 b W (.slice (some ⟨w.heap.size, 0, none⟩) 0 0) ⟨#[]⟩ [] [] d ⟨Wl.h1, 0, false⟩ F 0 (w.alloc (.cells #[] 9)) :=
  ⟨h.con, by rw [h.nm]; decide, by have := h.rl; exact this, h.dk.alloc _, h.wm.below (below_alloc _ _), h.nf, h.hW, World.ownsRow_made w #[] 0 h.bel.size (by decide) rfl, h.bel.alloc h.bel.size _⟩
end Go.Proofs.Ytiijnlblaalchaa
end

section
namespace Go.Proofs.Ytiijnlblaalchaa
open Go.RowKit Go.Shelf
open Wl (Hd WS Log)

/-- a slice of whole numbers that is read -/
structure Ri (w : World) (ad : Option Addr) (ab ao : Nat) (l : List Int) : Prop where
  at_ : 0 < l.length → ad = some ⟨ab, ao, none⟩
  cell : ∀ i (h : i < l.length), w.cell? ⟨ab, ao + i, none⟩ = some (.int .i64 l[i])
theorem Ri.lt {w : World} {ad : Option Addr} {ab ao : Nat} {l : List Int} (h : Ri w ad ab ao l) (h0 : 0 < l.length) : ab < w.heap.size := World.block_lt_of_cell? _ _ (h.cell 0 h0)
theorem tmod_nat (i n : Nat) (_ : 0 < n) : (i : Int).tmod (n : Int) = ((i % n : Nat) : Int) := by rw [Int.tmod_eq_emod_of_nonneg (by omega)]; omega
set_option maxHeartbeats 8000000 in
set_option maxRecDepth 8000 in
theorem walTells_walk {w : World} {z : Int} (hz : -9223372036854775808 ≤ z ∧ z ≤ 9223372036854775807) {ad : Option Addr} {tb tf cap : Nat} {T : List ByteArray} (hT : D.Rs w ad tb tf T) (hTl : T.length ≤ 1048576) (hTs : ∀ i (h : i < T.length), T[i].size ≤ 1048576) {adM : Option Addr} {mb mo capM : Nat} {M : List Int} (hM : Ri w adM mb mo M) (hMl : M.length ≤ 1048576) :
    Calls Try.prog 4 #[.int .i64 z, .slice ad T.length cap, .slice adM M.length capM] w fun e w' => e = .returned (.bool true) ∧ Below w.heap.size w w' := by
  obtain ⟨iS, hiS, zS0, zS1, zS2⟩ := info_parts D.Try.infoS
  by_cases hz1 : z < 1
  · clear hT
    go_enter Try.func4, Try.ntmps4
    go_wp2_with fail
    refine (fixed_any _).mono ?_
    rintro e w1 ⟨rfl, hB1⟩
    go_wp2_with fail
    go_ret
    exact ⟨rfl, hB1⟩
  by_cases hz2 : 512 < z
  · clear hT
    go_enter Try.func4, Try.ntmps4
    go_wp2_with fail
    refine (fixed_any _).mono ?_
    rintro e w1 ⟨rfl, hB1⟩
    go_wp2_with fail
    go_ret
    exact ⟨rfl, hB1⟩
  obtain ⟨half, rfl⟩ : ∃ half : Nat, z = (half : Int) := ⟨z.toNat, by omega⟩
  have HL := hide (laid_any half (by omega) (by omega) w)
  have HT := hide hT
  have HM := hide hM
  have HTs := hide hTs
  have HTl := hide hTl
  clear hT hz hM hTs
  go_enter Try.func4, Try.ntmps4
  go_wp2_with fail
  refine HL.out.mono ?_
  rintro e w1 ⟨b, W, d1, F1, rfl, hT1, -⟩
  have HK0 := hide (TlI.of hT1)
  clear hT1 HL
  go_wp2_with fail
  go_loopw [9, 10, 11] (fun a u t wr => ∃ (i : Nat) (v : Value) (s : ByteArray) (l : List ByteArray) (d : D.DS) (ws : WS) (F : Nat → Prop), v = u ∧ a = .string s ∧ i ≤ T.length ∧ t = .int .i64 (i : Int) ∧ Hid (TlI w b W v s l l d ws F i wr)) (fun _ _ t _ => T.length - (intOf t).toNat)
  case atStart => exact ⟨0, _, _, [], d1, _, F1, rfl, rfl, Nat.zero_le _, rfl, HK0⟩
  case round =>
    obtain ⟨i, v, s, l, d, ws, F, rfl, rfl, hi, rfl, HK⟩ := hrel
    clear HK0
    by_cases hil : i < T.length
    · have hii : (i : Int) < (T.length : Int) := by omega
      have hi1 : i < T.length := hil
      have hi2 : i + 1 ≤ T.length := hil
      have hat := HT.out.at_ (by omega)
      subst hat
      have hTb : tb < w.heap.size := HT.out.lt (by omega)
      have hTw : tb < wr.heap.size := Nat.lt_of_lt_of_le hTb HK.out.bel.size
      have HX1 : Hid (∀ V, Below w.heap.size w V → V.cell? ⟨tb, tf + i, none⟩ = some (.string T[i])) := hide fun V hV => (hV.cell (p := ⟨tb, tf + i, none⟩) hTb).trans (HT.out.cell i hil)
      have x1 := HX1.out wr HK.out.bel
      have hrs := HTs.out i hil
      have hRb := hide (HK.out.R (by have := HTl.out; omega))
      have hnum : ws.h.num < 1099511627776 := by have := HK.out.nm; have := HTl.out; omega
      generalize T[i] = r at *
      by_cases hM0 : 0 < M.length
      · have hmat := HM.out.at_ hM0
        subst hmat
        have hMb : mb < w.heap.size := HM.out.lt hM0
        have hMw : mb < wr.heap.size := Nat.lt_of_lt_of_le hMb HK.out.bel.size
        have hmx : max (1 : Int) (M.length : Int) = (M.length : Int) := by omega
        have hq : i % M.length < M.length := Nat.mod_lt _ hM0
        have htm := tmod_nat i M.length hM0
        have y1 : wr.cell? ⟨mb, mo + i % M.length, none⟩ = some (.int .i64 M[i % M.length]) := (HK.out.bel.cell (p := ⟨mb, mo + i % M.length, none⟩) hMb).trans (HM.out.cell _ hq)
        generalize M[i % M.length] = mk at *
        generalize i % M.length = q at *
        have hqi : (q : Int) < (M.length : Int) := by omega
        have hm0 : (M.length : Int) ≠ 0 := by omega
        have hm1 : (M.length : Int) ≠ -1 := by omega
        by_cases hmk : mk = 1
        · subst hmk
          have HA := hide (snapshot_any HK.out.dk HK.out.wm HK.out.nf HK.out.con.wok hRb.out r (by omega))
          have HOr := hide (HK.out.con.snapshot_or hnum r)
          generalize Wl.snapshot d ws r = X at *
          obtain ⟨xe, xd, xw⟩ := X
          simp only at HA HOr
          go_wp2_with fail
          refine HA.out.mono ?_
          rintro e w4 ⟨rfl, hW4, F4, hD4, hM4, hn4⟩
          rcases HOr.out with ⟨h0, hC, hh, hRr, hS⟩ | ⟨h0, hd, hws⟩
          · subst h0
            have HK4 := hide (HK.out.called hC (by rw [hh]; show ws.h.num + 1 ≤ _; have := HK.out.nm; omega) (by have := HK.out.rl; omega) hD4 hW4 hM4 hn4)
            have x2 := HX1.out w4 HK4.out.bel
            have hT4 : tb < w4.heap.size := Nat.lt_of_lt_of_le hTb HK4.out.bel.size
            have HK7 := hide HK4.out.fresh
            clear hW4 hD4 hM4 hC hh hRr hS HA HOr HK HX1
            have HO := hide (open_any HK7.out.dk)
            have hw9 := HK7.out.bel.size
            have HSI := hide (And.intro hi1 hi2)
            clear hi1 hi2
            go_wp2_with fail
            refine HO.out.mono ?_
            intro e w5 hP
            obtain ⟨hB5, Wv, ada, cpa, rfl, hWv, hWm, hOa, -⟩ := HK7.out.con.opens hP
            have HK5 := hide (HK7.out.below hB5)
            obtain ⟨-, ra, hRa⟩ := D.Rs.own hOa
            obtain ⟨adv, cpv, hvv⟩ := D.own_slice HK5.out.own
            have hOv := HK5.out.own
            rw [hvv] at hOv
            obtain ⟨-, rv, hRv⟩ := D.Rs.own hOv
            have hsm := HK5.out.small
            have HSm := hide (D.same_true (cap := cpa) (cap' := cpv) hRa hRv (by omega))
            have HWm := hide hWm
            clear hP hOa hB5 hRa hRv hOv hWm HO HK7
            simp only [List.length_nil] at hvv HSm
            injection hvv with hv1 hv2 hv3
            subst hv1
            subst hv3
            go_wp2_with fail
            refine HSm.out.mono ?_
            rintro e w6 ⟨rfl, n6, rfl⟩
            have HK6 := hide (HK5.out.below (D.below_drewN w5 n6))
            have HW6 := hide (HWm.out.below (D.below_drewN w5 n6))
            generalize w5.drewN n6 = w6 at *
            have HRec := hide (records_any HK6.out.wm)
            rw [HK6.out.con.rc] at HRec
            simp only [List.length_nil] at HRec
            skip
            clear HSm HK5 HWm
            go_wp2_with fail
            refine HRec.out.mono ?_
            rintro e w7 ⟨rfl, rfl⟩
            have HR1 := hide (room_any HK6.out.dk HW6.out HK6.out.okv)
            clear HRec
            go_wp2_with fail
            refine HR1.out.mono ?_
            rintro e w8 ⟨rfl, hB8⟩
            have HK8 := hide (HK6.out.below hB8)
            have HR2 := hide (room_any HK8.out.dk HK8.out.wm HK8.out.con.wok)
            have bn : ((Wl.room xd.S.length xw.h : Int) != (Wl.room xd.S.length xw.h : Int)) = false := by simp
            clear hB8 HR1 HK6 HW6
            go_wp2_with fail
            refine HR2.out.mono ?_
            rintro e w9 ⟨rfl, hB9⟩
            have HK9 := hide (HK8.out.below hB9)
            clear hB9 HR2 HK8
            go_wp2_with fail
            go_roundw
            case rel => exact ⟨i + 1, _, r, ([] : List ByteArray), xd, xw, F4, rfl, rfl, HSI.out.2, rfl, HK9⟩
            case measure => simp only [intOf]; have := HSI.out.1; omega
          · have bx : (xe == 0) = false := by simpa using h0
            subst hd hws
            have HK4 := hide (HK.out.called HK.out.con (by have := HK.out.nm; omega) (by have := HK.out.rl; omega) hD4 hW4 hM4 hn4)
            clear hW4 hD4 hM4 HA HOr h0 HK HX1
            have HO := hide (open_any HK4.out.dk)
            have hw9 := HK4.out.bel.size
            have HSI := hide (And.intro hi1 hi2)
            clear hi1 hi2
            go_wp2_with fail
            refine HO.out.mono ?_
            intro e w5 hP
            obtain ⟨hB5, Wv, ada, cpa, rfl, hWv, hWm, hOa, -⟩ := HK4.out.con.opens hP
            have HK5 := hide (HK4.out.below hB5)
            obtain ⟨-, ra, hRa⟩ := D.Rs.own hOa
            obtain ⟨adv, cpv, hvv⟩ := D.own_slice HK5.out.own
            have hOv := HK5.out.own
            rw [hvv] at hOv
            obtain ⟨-, rv, hRv⟩ := D.Rs.own hOv
            have hsm := HK5.out.small
            have HSm := hide (D.same_true (cap := cpa) (cap' := cpv) hRa hRv (by omega))
            have HWm := hide hWm
            clear hP hOa hB5 hRa hRv hOv hWm HO HK4
            subst hvv
            go_wp2_with fail
            refine HSm.out.mono ?_
            rintro e w6 ⟨rfl, n6, rfl⟩
            have HK6 := hide (HK5.out.below (D.below_drewN w5 n6))
            have HW6 := hide (HWm.out.below (D.below_drewN w5 n6))
            generalize w5.drewN n6 = w6 at *
            have HRec := hide (records_any HK6.out.wm)
            rw [HK6.out.con.rc] at HRec
            skip
            have bl : ((l.length : Int) != (l.length : Int)) = false := by simp
            clear HSm HK5 HWm
            go_wp2_with fail
            refine HRec.out.mono ?_
            rintro e w7 ⟨rfl, rfl⟩
            have HR1 := hide (room_any HK6.out.dk HW6.out HK6.out.okv)
            clear HRec
            go_wp2_with fail
            refine HR1.out.mono ?_
            rintro e w8 ⟨rfl, hB8⟩
            have HK8 := hide (HK6.out.below hB8)
            have HR2 := hide (room_any HK8.out.dk HK8.out.wm HK8.out.con.wok)
            have bn : ((Wl.room xd.S.length xw.h : Int) != (Wl.room xd.S.length xw.h : Int)) = false := by simp
            clear hB8 HR1 HK6 HW6
            go_wp2_with fail
            refine HR2.out.mono ?_
            rintro e w9 ⟨rfl, hB9⟩
            have HK9 := hide (HK8.out.below hB9)
            clear hB9 HR2 HK8
            go_wp2_with fail
            go_roundw
            case rel => exact ⟨i + 1, _, s, l, xd, xw, F4, rfl, rfl, HSI.out.2, rfl, HK9⟩
            case measure => simp only [intOf]; have := HSI.out.1; omega
        · have dmk : (mk == 1) = false := by simpa using hmk
          have HA := hide (append_any HK.out.dk HK.out.wm HK.out.nf HK.out.con.wok hRb.out r)
          have HOr := hide (HK.out.con.append_or hnum r)
          generalize Wl.append d ws r = X at *
          obtain ⟨xe, xd, xw⟩ := X
          simp only at HA HOr
          go_wp2_with fail
          refine HA.out.mono ?_
          rintro e w4 ⟨rfl, hW4, F4, hD4, hM4, hn4⟩
          rcases HOr.out with ⟨h0, hC, hh, hRr, hS⟩ | ⟨h0, hd, hws⟩
          · subst h0
            have HK4 := hide (HK.out.called hC (by rw [hh]; show ws.h.num + 1 ≤ _; have := HK.out.nm; omega) (by have := HK.out.rl; omega) hD4 hW4 hM4 hn4)
            have x2 := HX1.out w4 HK4.out.bel
            have hT4 : tb < w4.heap.size := Nat.lt_of_lt_of_le hTb HK4.out.bel.size
            have hsm0 := HK.out.small
            clear hW4 hD4 hM4 hC hh hRr hS HA HOr HK HX1
            go_wp2_with (at_builtin; refine wpList_append_own _ rfl _ _ 30 rfl w.heap.size 9 iS (.string ByteArray.empty) 1 16 Try.underlying30 hiS zS0 zS1 zS2 rfl (by decide) v l.length _ rfl (HK4.out.own.alloc _) ⟨w4.heap.size, 0, none⟩ 1 1 [.string r] rfl rfl (one_new _ _ _) (by intro u hu; simp at hu; subst hu; rfl) (by unfold maxLen; omega) (by omega) (by rw [World.size_alloc]; have := HK4.out.bel.size; omega) ?_; intro va wa howna hgrowa hnila)
            have HK7 : Hid (TlI w b W va s (l ++ [r]) (l ++ [r]) xd xw F4 (i + 1) wa) := hide (HK4.out.grown (below_alloc _ _) hgrowa (by rw [List.length_append, List.length_singleton, List.map_append]; exact howna))
            clear howna hgrowa hnila HK4
            obtain ⟨l2, hl2⟩ : ∃ l2, l ++ [r] = l2 := ⟨_, rfl⟩
            rw [hl2] at HK7
            clear hl2
            have HO := hide (open_any HK7.out.dk)
            have hw9 := HK7.out.bel.size
            have HSI := hide (And.intro hi1 hi2)
            clear hi1 hi2
            skip
            refine HO.out.mono ?_
            intro e w5 hP
            obtain ⟨hB5, Wv, ada, cpa, rfl, hWv, hWm, hOa, -⟩ := HK7.out.con.opens hP
            have HK5 := hide (HK7.out.below hB5)
            obtain ⟨-, ra, hRa⟩ := D.Rs.own hOa
            obtain ⟨adv, cpv, hvv⟩ := D.own_slice HK5.out.own
            have hOv := HK5.out.own
            rw [hvv] at hOv
            obtain ⟨-, rv, hRv⟩ := D.Rs.own hOv
            have hsm := HK5.out.small
            have HSm := hide (D.same_true (cap := cpa) (cap' := cpv) hRa hRv (by omega))
            have HWm := hide hWm
            clear hP hOa hB5 hRa hRv hOv hWm HO HK7
            subst hvv
            go_wp2_with fail
            refine HSm.out.mono ?_
            rintro e w6 ⟨rfl, n6, rfl⟩
            have HK6 := hide (HK5.out.below (D.below_drewN w5 n6))
            have HW6 := hide (HWm.out.below (D.below_drewN w5 n6))
            generalize w5.drewN n6 = w6 at *
            have HRec := hide (records_any HK6.out.wm)
            rw [HK6.out.con.rc] at HRec
            skip
            have bl : ((l2.length : Int) != (l2.length : Int)) = false := by simp
            clear HSm HK5 HWm
            go_wp2_with fail
            refine HRec.out.mono ?_
            rintro e w7 ⟨rfl, rfl⟩
            have HR1 := hide (room_any HK6.out.dk HW6.out HK6.out.okv)
            clear HRec
            go_wp2_with fail
            refine HR1.out.mono ?_
            rintro e w8 ⟨rfl, hB8⟩
            have HK8 := hide (HK6.out.below hB8)
            have HR2 := hide (room_any HK8.out.dk HK8.out.wm HK8.out.con.wok)
            have bn : ((Wl.room xd.S.length xw.h : Int) != (Wl.room xd.S.length xw.h : Int)) = false := by simp
            clear hB8 HR1 HK6 HW6
            go_wp2_with fail
            refine HR2.out.mono ?_
            rintro e w9 ⟨rfl, hB9⟩
            have HK9 := hide (HK8.out.below hB9)
            clear hB9 HR2 HK8
            go_wp2_with fail
            go_roundw
            case rel => exact ⟨i + 1, _, s, l2, xd, xw, F4, rfl, rfl, HSI.out.2, rfl, HK9⟩
            case measure => simp only [intOf]; have := HSI.out.1; omega
          · have bx : (xe == 0) = false := by simpa using h0
            subst hd hws
            have HK4 := hide (HK.out.called HK.out.con (by have := HK.out.nm; omega) (by have := HK.out.rl; omega) hD4 hW4 hM4 hn4)
            clear hW4 hD4 hM4 HA HOr h0 HK HX1
            have HO := hide (open_any HK4.out.dk)
            have hw9 := HK4.out.bel.size
            have HSI := hide (And.intro hi1 hi2)
            clear hi1 hi2
            go_wp2_with fail
            refine HO.out.mono ?_
            intro e w5 hP
            obtain ⟨hB5, Wv, ada, cpa, rfl, hWv, hWm, hOa, -⟩ := HK4.out.con.opens hP
            have HK5 := hide (HK4.out.below hB5)
            obtain ⟨-, ra, hRa⟩ := D.Rs.own hOa
            obtain ⟨adv, cpv, hvv⟩ := D.own_slice HK5.out.own
            have hOv := HK5.out.own
            rw [hvv] at hOv
            obtain ⟨-, rv, hRv⟩ := D.Rs.own hOv
            have hsm := HK5.out.small
            have HSm := hide (D.same_true (cap := cpa) (cap' := cpv) hRa hRv (by omega))
            have HWm := hide hWm
            clear hP hOa hB5 hRa hRv hOv hWm HO HK4
            subst hvv
            go_wp2_with fail
            refine HSm.out.mono ?_
            rintro e w6 ⟨rfl, n6, rfl⟩
            have HK6 := hide (HK5.out.below (D.below_drewN w5 n6))
            have HW6 := hide (HWm.out.below (D.below_drewN w5 n6))
            generalize w5.drewN n6 = w6 at *
            have HRec := hide (records_any HK6.out.wm)
            rw [HK6.out.con.rc] at HRec
            skip
            have bl : ((l.length : Int) != (l.length : Int)) = false := by simp
            clear HSm HK5 HWm
            go_wp2_with fail
            refine HRec.out.mono ?_
            rintro e w7 ⟨rfl, rfl⟩
            have HR1 := hide (room_any HK6.out.dk HW6.out HK6.out.okv)
            clear HRec
            go_wp2_with fail
            refine HR1.out.mono ?_
            rintro e w8 ⟨rfl, hB8⟩
            have HK8 := hide (HK6.out.below hB8)
            have HR2 := hide (room_any HK8.out.dk HK8.out.wm HK8.out.con.wok)
            have bn : ((Wl.room xd.S.length xw.h : Int) != (Wl.room xd.S.length xw.h : Int)) = false := by simp
            clear hB8 HR1 HK6 HW6
            go_wp2_with fail
            refine HR2.out.mono ?_
            rintro e w9 ⟨rfl, hB9⟩
            have HK9 := hide (HK8.out.below hB9)
            clear hB9 HR2 HK8
            go_wp2_with fail
            go_roundw
            case rel => exact ⟨i + 1, _, s, l, xd, xw, F4, rfl, rfl, HSI.out.2, rfl, HK9⟩
            case measure => simp only [intOf]; have := HSI.out.1; omega
      · have hM1 : ¬ 0 < (M.length : Int) := by omega
        have HA := hide (append_any HK.out.dk HK.out.wm HK.out.nf HK.out.con.wok hRb.out r)
        have HOr := hide (HK.out.con.append_or hnum r)
        generalize Wl.append d ws r = X at *
        obtain ⟨xe, xd, xw⟩ := X
        simp only at HA HOr
        go_wp2_with fail
        refine HA.out.mono ?_
        rintro e w4 ⟨rfl, hW4, F4, hD4, hM4, hn4⟩
        rcases HOr.out with ⟨h0, hC, hh, hRr, hS⟩ | ⟨h0, hd, hws⟩
        · subst h0
          have HK4 := hide (HK.out.called hC (by rw [hh]; show ws.h.num + 1 ≤ _; have := HK.out.nm; omega) (by have := HK.out.rl; omega) hD4 hW4 hM4 hn4)
          have x2 := HX1.out w4 HK4.out.bel
          have hT4 : tb < w4.heap.size := Nat.lt_of_lt_of_le hTb HK4.out.bel.size
          have hsm0 := HK.out.small
          clear hW4 hD4 hM4 hC hh hRr hS HA HOr HK HX1
          go_wp2_with (at_builtin; refine wpList_append_own _ rfl _ _ 30 rfl w.heap.size 9 iS (.string ByteArray.empty) 1 16 Try.underlying30 hiS zS0 zS1 zS2 rfl (by decide) v l.length _ rfl (HK4.out.own.alloc _) ⟨w4.heap.size, 0, none⟩ 1 1 [.string r] rfl rfl (one_new _ _ _) (by intro u hu; simp at hu; subst hu; rfl) (by unfold maxLen; omega) (by omega) (by rw [World.size_alloc]; have := HK4.out.bel.size; omega) ?_; intro va wa howna hgrowa hnila)
          have HK7 : Hid (TlI w b W va s (l ++ [r]) (l ++ [r]) xd xw F4 (i + 1) wa) := hide (HK4.out.grown (below_alloc _ _) hgrowa (by rw [List.length_append, List.length_singleton, List.map_append]; exact howna))
          clear howna hgrowa hnila HK4
          obtain ⟨l2, hl2⟩ : ∃ l2, l ++ [r] = l2 := ⟨_, rfl⟩
          rw [hl2] at HK7
          clear hl2
          have HO := hide (open_any HK7.out.dk)
          have hw9 := HK7.out.bel.size
          have HSI := hide (And.intro hi1 hi2)
          clear hi1 hi2
          skip
          refine HO.out.mono ?_
          intro e w5 hP
          obtain ⟨hB5, Wv, ada, cpa, rfl, hWv, hWm, hOa, -⟩ := HK7.out.con.opens hP
          have HK5 := hide (HK7.out.below hB5)
          obtain ⟨-, ra, hRa⟩ := D.Rs.own hOa
          obtain ⟨adv, cpv, hvv⟩ := D.own_slice HK5.out.own
          have hOv := HK5.out.own
          rw [hvv] at hOv
          obtain ⟨-, rv, hRv⟩ := D.Rs.own hOv
          have hsm := HK5.out.small
          have HSm := hide (D.same_true (cap := cpa) (cap' := cpv) hRa hRv (by omega))
          have HWm := hide hWm
          clear hP hOa hB5 hRa hRv hOv hWm HO HK7
          subst hvv
          go_wp2_with fail
          refine HSm.out.mono ?_
          rintro e w6 ⟨rfl, n6, rfl⟩
          have HK6 := hide (HK5.out.below (D.below_drewN w5 n6))
          have HW6 := hide (HWm.out.below (D.below_drewN w5 n6))
          generalize w5.drewN n6 = w6 at *
          have HRec := hide (records_any HK6.out.wm)
          rw [HK6.out.con.rc] at HRec
          skip
          have bl : ((l2.length : Int) != (l2.length : Int)) = false := by simp
          clear HSm HK5 HWm
          go_wp2_with fail
          refine HRec.out.mono ?_
          rintro e w7 ⟨rfl, rfl⟩
          have HR1 := hide (room_any HK6.out.dk HW6.out HK6.out.okv)
          clear HRec
          go_wp2_with fail
          refine HR1.out.mono ?_
          rintro e w8 ⟨rfl, hB8⟩
          have HK8 := hide (HK6.out.below hB8)
          have HR2 := hide (room_any HK8.out.dk HK8.out.wm HK8.out.con.wok)
          have bn : ((Wl.room xd.S.length xw.h : Int) != (Wl.room xd.S.length xw.h : Int)) = false := by simp
          clear hB8 HR1 HK6 HW6
          go_wp2_with fail
          refine HR2.out.mono ?_
          rintro e w9 ⟨rfl, hB9⟩
          have HK9 := hide (HK8.out.below hB9)
          clear hB9 HR2 HK8
          go_wp2_with fail
          go_roundw
          case rel => exact ⟨i + 1, _, s, l2, xd, xw, F4, rfl, rfl, HSI.out.2, rfl, HK9⟩
          case measure => simp only [intOf]; have := HSI.out.1; omega
        · have bx : (xe == 0) = false := by simpa using h0
          subst hd hws
          have HK4 := hide (HK.out.called HK.out.con (by have := HK.out.nm; omega) (by have := HK.out.rl; omega) hD4 hW4 hM4 hn4)
          clear hW4 hD4 hM4 HA HOr h0 HK HX1
          have HO := hide (open_any HK4.out.dk)
          have hw9 := HK4.out.bel.size
          have HSI := hide (And.intro hi1 hi2)
          clear hi1 hi2
          go_wp2_with fail
          refine HO.out.mono ?_
          intro e w5 hP
          obtain ⟨hB5, Wv, ada, cpa, rfl, hWv, hWm, hOa, -⟩ := HK4.out.con.opens hP
          have HK5 := hide (HK4.out.below hB5)
          obtain ⟨-, ra, hRa⟩ := D.Rs.own hOa
          obtain ⟨adv, cpv, hvv⟩ := D.own_slice HK5.out.own
          have hOv := HK5.out.own
          rw [hvv] at hOv
          obtain ⟨-, rv, hRv⟩ := D.Rs.own hOv
          have hsm := HK5.out.small
          have HSm := hide (D.same_true (cap := cpa) (cap' := cpv) hRa hRv (by omega))
          have HWm := hide hWm
          clear hP hOa hB5 hRa hRv hOv hWm HO HK4
          subst hvv
          go_wp2_with fail
          refine HSm.out.mono ?_
          rintro e w6 ⟨rfl, n6, rfl⟩
          have HK6 := hide (HK5.out.below (D.below_drewN w5 n6))
          have HW6 := hide (HWm.out.below (D.below_drewN w5 n6))
          generalize w5.drewN n6 = w6 at *
          have HRec := hide (records_any HK6.out.wm)
          rw [HK6.out.con.rc] at HRec
          skip
          have bl : ((l.length : Int) != (l.length : Int)) = false := by simp
          clear HSm HK5 HWm
          go_wp2_with fail
          refine HRec.out.mono ?_
          rintro e w7 ⟨rfl, rfl⟩
          have HR1 := hide (room_any HK6.out.dk HW6.out HK6.out.okv)
          clear HRec
          go_wp2_with fail
          refine HR1.out.mono ?_
          rintro e w8 ⟨rfl, hB8⟩
          have HK8 := hide (HK6.out.below hB8)
          have HR2 := hide (room_any HK8.out.dk HK8.out.wm HK8.out.con.wok)
          have bn : ((Wl.room xd.S.length xw.h : Int) != (Wl.room xd.S.length xw.h : Int)) = false := by simp
          clear hB8 HR1 HK6 HW6
          go_wp2_with fail
          refine HR2.out.mono ?_
          rintro e w9 ⟨rfl, hB9⟩
          have HK9 := hide (HK8.out.below hB9)
          clear hB9 HR2 HK8
          go_wp2_with fail
          go_roundw
          case rel => exact ⟨i + 1, _, s, l, xd, xw, F4, rfl, rfl, HSI.out.2, rfl, HK9⟩
          case measure => simp only [intOf]; have := HSI.out.1; omega
    · have hii : ¬ (i : Int) < (T.length : Int) := by omega
      have HB := hide HK.out.bel
      clear HK
      go_wp2_with fail
      refine (fixed_any _).mono ?_
      rintro e w2 ⟨rfl, hB2⟩
      have HB2 := hide (HB.out.trans (hB2.mono HB.out.size))
      clear hB2
      go_wp2_with fail
      go_ret
      exact ⟨rfl, HB2.out⟩
end Go.Proofs.Ytiijnlblaalchaa
end
